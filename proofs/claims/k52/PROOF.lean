import PyProof.Rows.All
import Wide.All
import OpenK.AllK
import Wide.FinOn
import Lean
import PyProof.EqAt
import PyProof.EqKinds
import PyProof.TupleCall
import PySem.Challenge.RW_putsigns_k52_refused_to_be_written
open PySem.W renaming Frag → aaa, subIn → aan, nsIn → aas, mg_none_of → aaw, kitOne → aaE, mg_of → aaI, findIn → aaP, clsIn → aaU, kia_one → aaX, typeIn → aa4, keepIn → abc, fnOf → abp, codeIn → abB, Looks → ach
open List renaming mem_append_right → aab, length_append → aae, mem_cons → aah, length_map → aak, size_toArray → aam, mem_append → aao, replicate → aap, getElem?_eq_getElem → aar, mem_cons_of_mem → aat, mem_cons_self → aav, map_cons → aax, all_eq_true → aay, getElem?_eq_some_iff → aaB, map_append → aaC, length_cons → aaD, length_take → aaF, getElem?_map → aaJ, mem_of_getElem? → aaK, mem_singleton → aaL, length_singleton → aaN, not_mem_nil → aaO, length_drop → aaQ, take_add_one → aaR, take_of_length_le → aa0, replicate_succ → aa3, Nodup → aa6, mem_append_left → aa8, take_length → aa9, cons_append → abh, filterMap_cons → abk, map_nil → abl, mem_map → abm, length_nil → abr, flatten_cons → abv, map_map → abx, range → abz, find?_cons → abD, append_assoc → abI, getD_eq_getElem?_getD → abJ, getElem?_append_right → abK, mem_of_mem_take → abM, map_congr_left → abO, any_cons → abR, drop_eq_nil_of_le → abT, all_map → ab1, count_cons_of_ne → ab2, getElem?_eq_none → ab3, length_replicate → ab4, mem_of_mem_head? → ab5, map_drop → ace, map_take → acf, length → acj, nodup_cons → ack, mem_range → acl
open PySem.PyData renaming depthAll → aac, depth → aad, canLayAll0 → abb, showable → abf, eqvAll → abt, eqv → abw, canLay0 → abA, shownAll → abE, depthKv → abY
open PySem.Heap renaming get?_push_of_some → aaf, lt_size → aaj, get?_push_size → aaz, size_push → abX, SameBut → ab0
open Nat renaming le_refl → aag, lt_of_lt_of_le → aaq, ne_of_lt → aau, zero_le → aaM, lt_irrefl → aaT, le_trans → aaZ, ne_of_gt → abn, lt_succ_of_lt → abV, not_lt → abW, lt_succ_self → acb
open Bool renaming false_ne_true → aai, eq_iff_iff → abd, and_true → abH
open PyProof.Rows renaming boot_isinstance → aal, boot_tuple → aa7, callWith_type1 → abg, boot_all → abF, boot_int → abG, boot_str → ab6
open Int renaming le_refl → aaA, eq_ofNat_of_zero_le → aby
open PySem.Builtin.Str renaming strSliceIndices → aaG, occurrences → aa5, partsBetween → abu
open PySem.F renaming plainAttrs_list → aaH, plainAttrs_str → aaS, slot_list_append → aa1, type_list_append → aa2, typeOf_object_class → abZ, slot_dict_get → ab7, slot_str_join → ab8, type_str_join → ab9
open Option.some renaming inj → aaV
open PySem renaming mem_of_lookup → aaW, boot_len → aaY, sliceRange → abN
open Option renaming isSome_iff_exists → aba, map_eq_some_iff → abi
open PySem.PassesOwn renaming never → abe
open False renaming elim → abj
open Ne renaming symm → abo
open PySem.Str renaming ofString → abq
open PySem.Calls renaming callWith_builtin → abC, evalArgs_plain → abL, spliced_cons → abQ, spliced_nil → abU
open PySem.Builtin.List renaming listTooLong → abP
open PySem.Txt renaming split → abS, removeprefix → acd, join → aci
open PySem.StrLaws renaming glued_eq_join → aca
open PySem.Paired renaming length → acg
set_option Elab.async false
set_option linter.all false
set_option maxRecDepth 100000
namespace L2
open PySem PySem.Spec PyProof.Rows
abbrev Key:=Sum Int Str
def i9:Key→Value→Bool
  | .inl k,v=>Value.isInt k v
  | .inr x,v=>Value.isStrOf x v
def xy (w:World):Key→Int
  | .inl k=>hashInt k
  | .inr x=>hashStr w x
theorem bo:∀ {k:Key} {v:Value},i9 k v=true→(∃ i t,k=Sum.inl i∧v=Value.int i t)∨(∃ x t,k=Sum.inr x∧v=Value.str x t)
  | .inl i,v,h=>by
    obtain ⟨t,e⟩:=Value.isInt_shape (k:=i) (v:=v) h;exact .inl ⟨i,t,rfl,e⟩
  | .inr x,v,h=>by
    obtain ⟨t,e⟩:=Value.isStrOf_shape (x:=x) (v:=v) h;exact .inr ⟨x,t,rfl,e⟩
theorem pN (i:Int) (t:Tok):i9 (.inl i) (.int i t)=true:=by simp [i9,Value.isInt]
theorem pK (x:Str) (t:Tok):i9 (.inr x) (.str x t)=true:=by simp [i9,Value.isStrOf]
theorem vn (a b:Int):decide ((Sum.inl a:Key)=Sum.inl b)=(a == b):=by
  by_cases e:a=b
  · subst e;simp
  · have h:¬ (Sum.inl a:Key)=Sum.inl b:=fun q=>e (Sum.inl.inj q);rw [decide_eq_false h];exact (beq_eq_false_iff_ne.mpr e).symm
theorem vj (a b:Str):decide ((Sum.inr a:Key)=Sum.inr b)=decide (a=b):=by
  by_cases e:a=b
  · subst e;simp
  · have h:¬ (Sum.inr a:Key)=Sum.inr b:=fun q=>e (Sum.inr.inj q);rw [decide_eq_false h,decide_eq_false e]
theorem vm (a:Int) (b:Str):decide ((Sum.inl a:Key)=Sum.inr b)=false:=decide_eq_false (fun q=>nomatch q)
theorem vk (a:Str) (b:Int):decide ((Sum.inr a:Key)=Sum.inl b)=false:=decide_eq_false (fun q=>nomatch q)
def ba (prog:Program) (w:World):PySem.KeyKind prog w Key where
  is:=i9
  hash:=xy w
  inj:=fun v a b ha hb=>by
    rcases bo ha with ⟨i,t,rfl,rfl⟩|⟨x,t,rfl,rfl⟩
    · rcases bo hb with ⟨j,u,rfl,e⟩|⟨y,u,rfl,e⟩
      · injection e with e1 _;rw [e1]
      · exact nomatch e
    · rcases bo hb with ⟨j,u,rfl,e⟩|⟨y,u,rfl,e⟩
      · exact nomatch e
      · injection e with e1 _;rw [e1]
  byValue:=fun k v h=>by
    rcases bo h with ⟨i,t,rfl,rfl⟩|⟨x,t,rfl,rfl⟩ <;> rfl
  pyHash:=fun hv h=>by
    rcases bo hv with ⟨i,t,rfl,rfl⟩|⟨x,t,rfl,rfl⟩
    · exact wpAny_pyHash_int h
    · exact wpAny_pyHash_str h
  eqBool:=fun hu hv h=>by
    rcases bo hu with ⟨i,t,rfl,rfl⟩|⟨x,t,rfl,rfl⟩
    · rcases bo hv with ⟨j,u,rfl,rfl⟩|⟨y,u,rfl,rfl⟩
      · rw [vn] at h;exact wpAny_eqBool_int h
      · rw [vm] at h;exact SeqAt.EqAt.int_str i t y u _ _ _ _ h
    · rcases bo hv with ⟨j,u,rfl,rfl⟩|⟨y,u,rfl,rfl⟩
      · rw [vk] at h;exact SeqAt.EqAt.str_int x t j u _ _ _ _ h
      · rw [vj] at h;exact wpAny_eqBool_str h
  «strs»:=fun k x t v h=>by
    rcases bo h with ⟨i,u,rfl,e⟩|⟨y,u,rfl,e⟩
    · exact nomatch e
    · injection e with e1 _
      subst e1;cases v <;> rfl
theorem ng (prog:Program) (w:World) (k:Key) (v:Value):(ba prog w).is k v=i9 k v:=rfl
theorem lO (prog:Program) (w:World) (i:Int) (t:Tok):(ba prog w).is (.inl i) (.int i t)=true:=pN i t
theorem lN (prog:Program) (w:World) (x:Str) (t:Tok):(ba prog w).is (.inr x) (.str x t)=true:=pK x t
open PySem PySem.Spec PyProof.Rows
inductive V where
  | non|bl (b:Bool)|int (i:Int)|str (x:Str)|byt (b:Array UInt8)|flt (b:UInt64)|ref (a:Addr)|ty (n:String)
  deriving DecidableEq
def RelV:V→Value→Prop
  | .non,u=>u=Value.none
  | .bl b,u=>u=Value.bool b
  | .int i,u=>∃ t,u=Value.int i t
  | .str x,u=>∃ t,u=Value.str x t
  | .byt b,u=>∃ t,u=Value.bytes b t
  | .flt b,u=>∃ t,u=Value.float b t
  | .ref a,u=>u=Value.ref a
  | .ty n,u=>u=Value.type n
abbrev Vals:List V→List Value→Prop:=Paired RelV
theorem Vals.length {xs:List V} {us:List Value} (r:Vals xs us):xs.length=us.length:=acg r
theorem Vals.get:∀ {xs:List V} {us:List Value} {i:Nat} {x:V},Vals xs us→xs[i]?=some x→∃ u,us[i]?=some u∧RelV x u
  | _,_,_,_,.nil,e=>by simp at e
  | _,_,0,_,.cons r _,e=>by simp at e;subst e;exact ⟨_,rfl,r⟩
  | _,_,i+1,x,.cons _ t,e=>by
    obtain ⟨u,h1,h2⟩:=Vals.get (i:=i) (x:=x) t (by simpa using e);exact ⟨u,by simpa using h1,h2⟩
theorem Vals.set {x:V} {u:Value} (r:RelV x u):∀ {xs:List V} {us:List Value} (i:Nat),Vals xs us→Vals (xs.set i x) (us.set i u)
  | _,_,_,.nil=>.nil
  | _,_,0,.cons _ t=>.cons r t
  | _,_,i+1,.cons q t=>.cons q (Vals.set r i t)
theorem Vals.append:∀ {xs ys:List V} {us ws:List Value},Vals xs us→Vals ys ws→Vals (xs++ys) (us++ws)
  | _,_,_,_,.nil,s=>s
  | _,_,_,_,.cons r t,s=>.cons r (Vals.append t s)
theorem Vals.take:∀ {xs:List V} {us:List Value} (n:Nat),Vals xs us→Vals (xs.take n) (us.take n)
  | _,_,0,_=>.nil
  | _,_,_+1,.nil=>.nil
  | _,_,n+1,.cons r t=>.cons r (Vals.take n t)
theorem Vals.drop:∀ {xs:List V} {us:List Value} (n:Nat),Vals xs us→Vals (xs.drop n) (us.drop n)
  | _,_,0,r=>r
  | _,_,_+1,.nil=>.nil
  | _,_,n+1,.cons _ t=>Vals.drop n t
def RelO:Option V→Option Value→Prop
  | some v,some u=>RelV v u
  | none,none=>True
  | _,_=>False
def KV {κ:Type}:List (κ × V)→List (κ × Value)→Prop:=Paired fun (p:κ × V) (q:κ × Value)=>p.1=q.1∧RelV p.2 q.2
def kV:Key→V
  | .inl i=>.int i
  | .inr x=>.str x
inductive HO where
  | lst (xs:List V)
  | tup (xs:List V)
  | dK (kvs:List (Key × V))|dT (kvs:List (List Key × V))
  | set (S:Int→Bool) (n:Nat)
  | ins (C dx:Addr) (fs:List (Str × V))
  | own (x:Addr)
  | xd (fs:List (Str × V))
  | met (f x:Addr)
  | rng (lo hi:Int)
  | frz (o:Obj) (u:HO)
  | tbl (ps:Array Value)
  | ext (φ:Heap→Prop)
abbrev Hp:=Addr→Option HO
def upd (H:Hp) (a:Addr) (o:HO):Hp:=fun b=>if b=a then some o else H b
theorem upd_same {H:Hp} {a:Addr} {o:HO}:upd H a o a=some o:=by unfold upd;rw [if_pos rfl]
theorem aB {H:Hp} {a b:Addr} {o:HO} (h:b≠a):upd H a o b=H b:=by unfold upd;rw [if_neg h]
theorem sv {H:Hp} {a:Addr} {o u:HO}:upd (upd H a o) a u=upd H a u:=by
  funext b;unfold upd;split <;> rfl
theorem wH {H:Hp} {a b:Addr} {o u:HO} (h:H a=some o) (h':H b=some u) (d:o≠u):a≠b:=by
  intro e;subst e;rw [h] at h';exact d (aaV h')
theorem aG {H:Hp} {a b:Addr} {o:HO} (h:H a=some o) (h':H b=none):a≠b:=by
  intro e;subst e;rw [h] at h';cases h'
section
variable (P:Program) (w:World)
def ObjOk (H:Hp) (h:Heap) (a:Addr):HO→Prop
  | .lst xs=>xs.length≤sizeLine∧∃ (its:List Value) (n:Nat),Vals xs its∧h.get? a=some { cls:=.type "list",data:=.seq its.toArray n }
  | .tup xs=>xs.length≤sizeLine∧∃ its:List Value,Vals xs its∧IsTup h a its.toArray
  | .dK kvs=>kvs.length≤sizeLine∧(a == sysModules)=false∧∃ vs,KV kvs vs∧h.DictOf (ba P w) a vs
  | .dT kvs=>kvs.length≤sizeLine∧(a == sysModules)=false∧∃ xs:List (List Key × Addr × Value),
      Paired (fun (p:List Key × V) (q:List Key × Addr × Value)=>p.1=q.1∧H q.2.1=some (.tup (p.1.map kV))∧RelV p.2 q.2.2) kvs xs ∧
      ∃ o es ep,h.get? a=some o∧o.ExactDict∧o.data=.dict es ep∧es.toList=xs.map (entryOfKey (tupleKind (ba P w)))∧(xs.map (·.1)).Nodup
  | .set S n=>h.SetOf (intKind P w) a S n
  | .ins C dx fs=>H dx=some (.own a)∧fs.length≤1000∧dx≠a∧h.get? a=some (PySem.W.instObj C dx) ∧
      ∃ mA,h.Ns1 dx mA∧(∀ f,RelO (fs.lookup f) (mA f))∧PySem.Within mA (fs.map (·.1))
  | .own _=>∃ o,h.get? a=some o
  | .xd fs=>∃ mA,h.Ns1 a mA∧∀ f,RelO (fs.lookup f) (mA f)
  | .rng lo hi=>∃ t u v,h.get? a=some { cls:=.type "range",data:=.fields #[.int lo t,.int hi u,.int 1 v] }
  | .frz o u=>h.get? a=some o∧ObjOk H h a u
  | .tbl ps=>h.get? a=some { cls:=.none,data:=.fields ps }
  | .met f x=>h.get? a=some (PySem.W.methodObj (.ref f) (.ref x))
  | .ext φ=>φ h∧(∃ o,h.get? a=some o)∧∀ h1 h2:Heap,φ h1→(∀ o,h1.get? a=some o→h2.get? a=some o)→φ h2
def HOk (H:Hp) (h:Heap):Prop:=∀ a o,H a=some o→ObjOk P w H h a o
end
section
variable {P:Program} {w:World} {H H':Hp} {h h':Heap} {a:Addr} {o:HO}
theorem ObjOk.lt (x:ObjOk P w H h a o):a < h.objs.size:=by
  cases o with
  | lst xs=>obtain ⟨_,_,_,_,e⟩:=x;exact aaj e
  | tup xs=>obtain ⟨_,_,_,p⟩:=x;exact p.lt
  | dK kvs=>obtain ⟨_,_,_,_,o,_,_,e,_⟩:=x;exact aaj e
  | dT kvs=>obtain ⟨_,_,_,_,o,_,_,e,_⟩:=x;exact aaj e
  | set S n=>obtain ⟨o,_,_,_,e,_⟩:=x;exact aaj e
  | ins C dx fs=>obtain ⟨_,_,_,e,_⟩:=x;exact aaj e
  | own y=>obtain ⟨_,e⟩:=x;exact aaj e
  | xd fs=>obtain ⟨_,⟨_,_,_,e,_⟩,_⟩:=x;exact aaj e
  | rng lo hi=>obtain ⟨_,_,_,e⟩:=x;exact aaj e
  | frz ob u=>obtain ⟨e,_⟩:=x;exact aaj e
  | tbl ps=>exact aaj (show h.get? a=some _ from x)
  | met f y=>exact aaj (show h.get? a=some _ from x)
  | ext φ=>obtain ⟨_,⟨_,e⟩,_⟩:=x;exact aaj e
theorem Paired.mapP {α β:Type} {F G:α→β→Prop}:∀ {l₁:List α} {l₂:List β},Paired F l₁ l₂→(∀ a b,F a b→G a b)→Paired G l₁ l₂
  | _,_,.nil,_=>.nil
  | _,_,.cons r t,f=>.cons (f _ _ r) (Paired.mapP t f)
theorem ObjOk.stay (x:ObjOk P w H h a o) (k:∀ b u,(b=a∨H b=some (.own a))→h.get? b=some u→h'.get? b=some u)
    (ho:∀ b,H b=some (.own a)→H' b=some (.own a)) (ht:∀ b xs,H b=some (.tup xs)→H' b=some (.tup xs)):ObjOk P w H' h' a o:=by
  induction o with
  | lst xs=>obtain ⟨z,its,n,r,e⟩:=x;exact ⟨z,its,n,r,k _ _ (.inl rfl) e⟩
  | tup xs=>obtain ⟨z,its,r,ob,e,c⟩:=x;exact ⟨z,its,r,ob,k _ _ (.inl rfl) e,c⟩
  | dK kvs=>obtain ⟨z,y,vs,r,ob,es,ep,e,c⟩:=x;exact ⟨z,y,vs,r,ob,es,ep,k _ _ (.inl rfl) e,c⟩
  | dT kvs =>
    obtain ⟨z,y,xs,r,ob,es,ep,e,c⟩:=x;exact ⟨z,y,xs,Paired.mapP r fun p q z=>⟨z.1,ht _ _ z.2.1,z.2.2⟩,ob,es,ep,k _ _ (.inl rfl) e,c⟩
  | set S n=>obtain ⟨ob,es,ep,t,e,c⟩:=x;exact ⟨ob,es,ep,t,k _ _ (.inl rfl) e,c⟩
  | ins C dx fs =>
    obtain ⟨d,z,ne,e,mA,⟨od,es,ep,e2,c⟩,r⟩:=x;exact ⟨ho _ d,z,ne,k _ _ (.inl rfl) e,mA,⟨od,es,ep,k _ _ (.inr d) e2,c⟩,r⟩
  | own y=>obtain ⟨ob,e⟩:=x;exact ⟨ob,k _ _ (.inl rfl) e⟩
  | xd fs=>obtain ⟨mA,⟨od,es,ep,e,c⟩,r⟩:=x;exact ⟨mA,⟨od,es,ep,k _ _ (.inl rfl) e,c⟩,r⟩
  | rng lo hi=>obtain ⟨t,u,v,e⟩:=x;exact ⟨t,u,v,k _ _ (.inl rfl) e⟩
  | frz ob u ih=>obtain ⟨e,q⟩:=x;exact ⟨k _ _ (.inl rfl) e,ih q⟩
  | tbl ps =>
    have e:h.get? a=some { cls:=.none,data:=.fields ps }:=x;show h'.get? a=some { cls:=.none,data:=.fields ps };exact k a _ (.inl rfl) e
  | met f y =>
    have e:h.get? a=some (PySem.W.methodObj (.ref f) (.ref y)):=x;show h'.get? a=some (PySem.W.methodObj (.ref f) (.ref y));exact k a _ (.inl rfl) e
  | ext φ=>obtain ⟨p,⟨o,e⟩,st⟩:=x;exact ⟨st _ _ p fun o q=>k _ _ (.inl rfl) q,⟨o,k _ _ (.inl rfl) e⟩,st⟩
theorem HOk.lt (x:HOk P w H h) (e:H a=some o):a < h.objs.size:=(x a o e).lt
theorem HOk.fresh (x:HOk P w H h) (e:h.objs.size≤a):H a=none:=by
  cases q:H a with
  | none=>rfl
  | some u=>exact absurd (aaq (x.lt q) e) (aaT _)
theorem HOk.kept (x:HOk P w H h) (k:∀ b u,h.get? b=some u→h'.get? b=some u):HOk P w H h':=fun a o e =>
  (x a o e).stay (fun b u _ q=>k b u q) (fun _ q=>q) fun _ _ q=>q
theorem HOk.laid (x:HOk P w H h) (k:∀ b u,h.get? b=some u→h'.get? b=some u) (hp:h.objs.size≤a) (new:ObjOk P w (upd H a o) h' a o):HOk P w (upd H a o) h':=fun b u e=>by
  have hn:=x.fresh hp;by_cases hb:b=a
  · subst hb;rw [upd_same] at e;cases e;exact new
  · rw [aB hb] at e;exact (x b u e).stay (fun c v _ q=>k c v q) (fun c q=>by rw [aB (aG q hn)];exact q) fun c xs q=>by rw [aB (aG q hn)];exact q
end
def Rd (H:Hp) (a:Addr) (u:HO):Prop:=H a=some u∨∃ o,H a=some (.frz o u)
theorem Rd.ok {P:Program} {w:World} {H:Hp} {h:Heap} {a:Addr} {u:HO} (r:Rd H a u) (x:HOk P w H h):ObjOk P w H h a u:=by
  rcases r with r|⟨o,r⟩
  · exact x a u r
  · obtain ⟨_,q⟩:=x a _ r;exact q
def Mut:Option HO→Prop
  | some (.lst _)=>True
  | some (.dK _)=>True
  | some (.dT _)=>True
  | some (.set _ _)=>True
  | some (.ins _ _ _)=>True
  | some (.ext _)=>True
  | _=>False
section
variable {P:Program} {w:World} {H:Hp} {h h':Heap} {x e:Addr} {o':HO}
theorem HOk.write (ok:HOk P w H h) (mu:Mut (H x)) (he:e=x∨H e=some (.own x)) (k:∀ b u,b≠e→h.get? b=some u→h'.get? b=some u) (heo:∃ u,h'.get? e=some u)
    (new:ObjOk P w (upd H x o') h' x o'):HOk P w (upd H x o') h':=fun b u q=>by
  have nown:∀ c y,H c=some (.own y)→c≠x:=fun c y r z=>by subst z;rw [r] at mu;exact mu
  have ntup:∀ c xs,H c=some (.tup xs)→c≠x:=fun c xs r z=>by subst z;rw [r] at mu;exact mu
  by_cases hb:b=x
  · subst hb;rw [upd_same] at q;cases q;exact new
  · rw [aB hb] at q;by_cases hbe:b=e
    · have q':H b=some (.own x):=by
        rcases he with z|z
        · exact absurd (hbe.trans z) hb
        · rw [hbe];exact z
      rw [q] at q';cases q';obtain ⟨v,hv⟩:=heo;exact ⟨v,by rw [hbe];exact hv⟩
    · refine (ok b u q).stay (fun c v hc r=>k c v ?_ r) (fun c r=>by rw [aB (nown c b r)];exact r) fun c xs r=>by rw [aB (ntup c xs r)];exact r
      rcases hc with rfl|hc
      · exact hbe
      · rintro rfl;rcases he with z|z
        · exact nown c b hc z
        · rw [hc] at z;cases z;exact hb rfl
end
structure Un (fs ex:List Addr) (H H':Hp) (h h':Heap):Prop where
  keep:∀ b o,h.get? b=some o→H b=none→b∉fs→b∉ex→h'.get? b=some o
  slot:∀ b o,h.get? b=some o→H b=none→b∈fs→b∉ex→∃ sl,h'.get? b=some { o with slots:=sl }
  free:∀ b o,h.get? b=some o→H b=none→b∉ex→H' b=none
  there:∀ b o,h.get? b=some o→b∉ex→∃ o',h'.get? b=some o'
  tups:∀ b xs,H b=some (.tup xs)→H' b=some (.tup xs)
  frzs:∀ b o u,H b=some (.frz o u)→H' b=some (.frz o u)
  tbls:∀ b ps,H b=some (.tbl ps)→∃ more,H' b=some (.tbl (ps++more))
section
variable {fs fs' ex ex':List Addr} {H H1 H2:Hp} {h h1 h2 h':Heap} {a x e:Addr} {o:HO}
theorem Un.any (u:Un fs ex H H1 h h1) {b:Addr} {ob:Obj} (q:h.get? b=some ob) (n:H b=none) (hx:b∉ex):∃ sl,h1.get? b=some { ob with slots:=sl }:=by
  by_cases hb:b∈fs
  · exact u.slot b ob q n hb hx
  · exact ⟨ob.slots,u.keep b ob q n hb hx⟩
theorem Un.trans (a:Un fs ex H H1 h h1) (b:Un fs ex H1 H2 h1 h2):Un fs ex H H2 h h2 where
  keep:=fun c ob q n hc hx=>b.keep c ob (a.keep c ob q n hc hx) (a.free c ob q n hx) hc hx
  slot:=fun c ob q n hc hx=>by
    obtain ⟨sl,e1⟩:=a.slot c ob q n hc hx;obtain ⟨sl',e2⟩:=b.slot c _ e1 (a.free c ob q n hx) hc hx;exact ⟨sl',e2⟩
  free:=fun c ob q n hx=>by
    obtain ⟨o',e1⟩:=a.there c ob q hx;exact b.free c o' e1 (a.free c ob q n hx) hx
  there:=fun c ob q hx=>by
    obtain ⟨o',e1⟩:=a.there c ob q hx;exact b.there c o' e1 hx
  tups:=fun c xs q=>b.tups c xs (a.tups c xs q)
  frzs:=fun c ob xs q=>b.frzs c ob xs (a.frzs c ob xs q)
  tbls:=fun c ps q=>by
    obtain ⟨m1,e1⟩:=a.tbls c ps q;obtain ⟨m2,e2⟩:=b.tbls c _ e1;exact ⟨m1++m2,by rw [e2,Array.append_assoc]⟩
theorem Un.kept (k:∀ b u,h.get? b=some u→h'.get? b=some u):Un fs ex H H h h' :=
  ⟨fun b ob q _ _ _=>k b ob q,fun b ob q _ _ _=>⟨ob.slots,k b ob q⟩,fun _ _ _ n _=>n,fun b ob q _=>⟨ob,k b ob q⟩,fun _ _ q=>q,fun _ _ _ q=>q,fun _ ps q=>⟨#[],by rw [q];simp⟩⟩
theorem Un.refl:Un fs ex H H h h:=Un.kept fun _ _ q=>q
theorem Un.laid (k:∀ b u,h.get? b=some u→h'.get? b=some u) (hp:h.objs.size≤a) (hn:H a=none):Un fs ex H (upd H a o) h h' where
  keep:=fun b u q _ _ _=>k b u q
  slot:=fun b u q _ _ _=>⟨u.slots,k b u q⟩
  free:=fun b u q n _=>by rw [aB (aau (aaq (aaj q) hp))];exact n
  there:=fun b u q _=>⟨u,k b u q⟩
  tups:=fun b xs q=>by rw [aB (aG q hn)];exact q
  frzs:=fun b u xs q=>by rw [aB (aG q hn)];exact q
  tbls:=fun b ps q=>⟨#[],by rw [aB (aG q hn),q];simp⟩
theorem Un.write (mu:Mut (H x)) (he:e=x∨H e=some (.own x)) (k:∀ b u,b≠e→h.get? b=some u→h'.get? b=some u) (heo:∃ u,h'.get? e=some u):Un fs ex H (upd H x o) h h':=by
  have hx:∀ b,H b=none→b≠x:=fun b n z=>by subst z;rw [n] at mu;exact mu
  have hb:∀ b,H b=none→b≠e:=fun b n z=>by
    subst z;rcases he with r|r
    · exact hx b n r
    · rw [n] at r;cases r
  have hm:∀ b u,H b=some u→¬ Mut (some u)→b≠x:=fun b u q nm z=>by subst z;rw [q] at mu;exact nm mu
  refine ⟨fun b u q n _ _=>k b u (hb b n) q,fun b u q n _ _=>⟨u.slots,k b u (hb b n) q⟩,fun b u q n _=>by rw [aB (hx b n)];exact n,fun b u q _=>?_,
    fun b xs q=>by rw [aB (hm b _ q fun z=>z)];exact q,fun b u xs q=>by rw [aB (hm b _ q fun z=>z)];exact q,fun b ps q=>⟨#[],by rw [aB (hm b _ q fun z=>z),q];simp⟩⟩
  by_cases hbe:b=e
  · subst hbe;exact heo
  · exact ⟨u,k b u hbe q⟩
theorem Un.mono (u:Un fs ex H H1 h h1) (hs:∀ b∈fs,b∈fs') (hx:∀ b∈ex,b∈ex'):Un fs' ex' H H1 h h1 :=
  ⟨fun b ob q n hb he=>u.keep b ob q n (fun z=>hb (hs b z)) fun z=>he (hx b z),fun _ _ q n _ he=>u.any q n fun z=>he (hx _ z),fun b ob q n he=>u.free b ob q n fun z=>he (hx b z),fun b ob q he=>u.there b ob q fun z=>he (hx b z),u.tups,u.frzs,u.tbls⟩
end
def trk (h:Heap) (H:Hp):List Addr:=(abz h.objs.size).filter fun a=>(H a).isSome
def kP (h:Heap) (H:Hp):Heap:=PySem.W.hideAll h (trk h H)
theorem pS (h:Heap) (H:Hp):(kP h H).objs.size=h.objs.size:=PySem.W.hideAll_size _ _
theorem rl {h:Heap} {H:Hp} {b:Addr} {o:Obj} (e:h.get? b=some o) (n:H b=none):(kP h H).get? b=some o :=
  PySem.W.hideAll_get _ e fun hm=>by
    have q:(H b).isSome=true:=(List.mem_filter.mp hm).2;rw [n] at q;simp at q
theorem sZ {h:Heap} {H:Hp} {b:Addr} {o:Obj} (e:(kP h H).get? b=some o):h.get? b=some o∧H b=none:=by
  have e':h.get? b=some o:=PySem.W.of_hideAll (trk h H) e;refine ⟨e',?_⟩;cases q:H b with
  | none=>rfl
  | some x =>
    have hm:b∈trk h H:=List.mem_filter.mpr ⟨acl.mpr (aaj e'),by simp [q]⟩;have z:(kP h H).get? b=none:=PySem.W.hideAll_none (trk h H) hm;rw [z] at e;cases e
def tS (g h:Heap) (L:Addr):List (Addr × Obj):=(abz h.objs.size).filterMap fun a=>if a=L∨(g.get? a).isSome=true then none else (h.get? a).map fun o=>(a,o)
def fh (g h:Heap) (L d:Addr):List (Addr × Obj):=(tS g h L).filter fun p=>decide (p.1≠d)
open PySem PySem.Spec PyProof.Rows
structure Mod (K:aaa) (mg:Str→Option Value) (base:Heap):Prop where
  kin:K.In base
  glob:base.Ns mainGlobals mg
  blt:∃ mb,base.Ns builtinsNs mb∧∀ x:Str,x ≠ "__name__"→mb x=bootBuiltins x
  nolimit:base.NoLimit
  sysm:∃ mm,base.Ns sysModules mm
structure Cx where
  prog:Program
  w:World
  K:aaa
  mg:Str→Option Value
  base:Heap
  A:Around
  N:List Str
  s₀:Shared
  H₀:Hp
  env:Env
  outer:List Env
  stack:List Env
  ex:List Addr
  fn:Str→Bool
  calm:Bool
  pn:List (Addr × Obj)
  xe:Value→Shared→Prop
def frs (l:List Env):List Addr:=l.filterMap (·.frame)
abbrev Cx.fs (X:Cx):List Addr:=frs X.outer
def Vis (sc:Scope) (x:Str):Prop:=sc.names.lookup x=some .local∨sc.names.lookup x=some .cell∨sc.names.lookup x=some .free
def Loc (sc:Scope) (x:Str):Prop:=sc.names.lookup x=some .local∨sc.names.lookup x=some .cell
def wZ (env:Env) (h:Heap) (m:Str→Option Value) (x:Str) (u:Value):Prop :=
  (env.kindOf x=some .local∧m x=some u)∨((env.kindOf x=some .cell∨env.kindOf x=some .free)∧∃ c,env.cells.lookup x=some c∧h.IsCell c (some u))
structure Cx.Ok (X:Cx):Prop where
  mod:Mod X.K X.mg X.base
  kind:X.env.scope.kind=.function
  glob:X.env.globals=mainGlobals
  blt:X.env.builtins=builtinsNs
  above:X.s₀.heap.objs.size≤X.env.locals
  inj:∀ x y c,X.env.cells.lookup x=some c→X.env.cells.lookup y=some c→x=y
  has:∀ x,(X.env.kindOf x=some .cell∨X.env.kindOf x=some .free)→∃ c,X.env.cells.lookup x=some c
  cab:∀ x c,X.fn x=true→X.env.cells.lookup x=some c→X.s₀.heap.objs.size≤c
  hd:X.calm=true→X.A.handled=none
  frames:X.A.frames=some X.stack
  stk:X.stack=X.outer∨(X.stack=X.env :: X.outer∧X.env.frame=some X.env.locals)
  exf:∀ b∈X.ex,b≠X.env.locals∧∀ x c,X.env.cells.lookup x=some c→c≠b
  bs:∀ b o,X.base.get? b=some o→X.s₀.heap.get? b=some o∧X.H₀ b=none
  bsz:X.base.objs.size≤X.s₀.heap.objs.size
  noex:∀ b o,X.base.get? b=some o→b∉X.ex
  exfs:∀ b∈X.ex,b∉X.fs
  funs:X.s₀.heap.FunFrames X.base X.outer
  frf:∀ b∈X.fs,X.H₀ b=none
structure Inv (X:Cx) (pins:List (Addr × Obj)) (σ:List (Option V)) (H:Hp) (s:Shared):Prop where
  ok:X.Ok
  os:s.os=X.s₀.os
  bare:AllBare s.gens
  base:Un X.fs X.ex X.H₀ H X.s₀.heap s.heap
  loc:∃ m,s.heap.Ns X.env.locals m∧∀ (i:Nat) (x:Str) (v:V),X.N[i]?=some x→σ[i]?=some (some v)→Vis X.env.scope x→∃ u,RelV v u∧wZ X.env s.heap m x u
  cell:∀ x c,X.env.cells.lookup x=some c→∃ v,s.heap.IsCell c v
  free:H X.env.locals=none
  freeC:∀ x c,X.env.cells.lookup x=some c→H c=none
  pin:∀ p∈X.pn++pins,s.heap.get? p.1=some p.2∧H p.1=none∧p.1≠X.env.locals∧p.1∉X.fs∧∀ v,p.2.data≠.cell v
  hok:HOk X.prog X.w H s.heap
  len:σ.length=X.N.length
section
variable {X:Cx} {pins:List (Addr × Obj)} {σ:List (Option V)} {H H':Hp} {s:Shared} {h':Heap}
theorem Cx.Ok.nofr (ok:X.Ok) {b:Addr} {o:Obj} (e:X.base.get? b=some o):b∉X.fs:=fun hb=>by
  have:=(ok.funs.mem hb).1;rw [e] at this;cases this
theorem Inv.bs (I:Inv X pins σ H s):∀ b o,X.base.get? b=some o→s.heap.get? b=some o∧H b=none:=fun b o e =>
  ⟨I.base.keep b o (I.ok.bs b o e).1 (I.ok.bs b o e).2 (I.ok.nofr e) (I.ok.noex b o e),I.base.free b o (I.ok.bs b o e).1 (I.ok.bs b o e).2 (I.ok.noex b o e)⟩
theorem Inv.bk (I:Inv X pins σ H s):∀ b o,X.base.get? b=some o→s.heap.get? b=some o:=fun b o e=>(I.bs b o e).1
theorem Inv.mod (I:Inv X pins σ H s):Mod X.K X.mg X.base:=I.ok.mod
theorem Inv.kIn (I:Inv X pins σ H s):X.K.In s.heap:=I.ok.mod.kin.keeps I.bk
theorem Inv.lt (I:Inv X pins σ H s):X.env.locals < s.heap.objs.size:=let ⟨_,hn,_⟩:=I.loc;hn.lt
theorem Inv.sz (I:Inv X pins σ H s):X.s₀.heap.objs.size≤s.heap.objs.size:=aaZ I.ok.above (Nat.le_of_lt I.lt)
theorem Inv.nofs (I:Inv X pins σ H s) {a:Addr} (h:s.heap.objs.size≤a):a∉X.fs:=fun hb=>by
  obtain ⟨_,o,ho,_⟩:=I.ok.funs.mem hb;exact absurd (aaq (aaj ho) (aaZ I.sz h)) (aaT _)
theorem Inv.cne (I:Inv X pins σ H s):∀ x c,X.env.cells.lookup x=some c→c≠X.env.locals:=fun x c e z=>by
  obtain ⟨v,o,ho,hd⟩:=I.cell x c e;obtain ⟨m,⟨o',es,ep,ho',hd',_⟩,_⟩:=I.loc;rw [z,ho'] at ho;cases ho;rw [hd'] at hd;cases hd
theorem Inv.funs (I:Inv X pins σ H s):s.heap.FunFrames X.base X.outer:=by
  have all:∀ (l:List Env),(∀ b∈frs l,b∈X.fs)→X.s₀.heap.FunFrames X.base l→s.heap.FunFrames X.base l:=by
    intro l
    induction l with
    | nil=>intro _ _;trivial
    | cons env r ih =>
      intro hs hl;obtain ⟨hk,⟨L,o,hf,hn,ho,hd⟩,hr⟩:=hl;have hL:L∈X.fs:=hs L (by unfold frs;rw [abk,hf];exact aav);obtain ⟨sl,e⟩:=I.base.slot L o ho (I.ok.frf L hL) hL fun z=>I.ok.exfs L z hL;exact ⟨hk,⟨L,_,hf,hn,e,hd⟩,ih (fun b hb=>hs b (by unfold frs;rw [abk,hf];exact aat _ hb)) hr⟩
  exact all X.outer (fun _ hb=>hb) I.ok.funs
theorem Inv.stack (I:Inv X pins σ H s):s.heap.FunFrames X.base X.stack:=by
  rcases I.ok.stk with e|⟨e,hf⟩
  · rw [e];exact I.funs
  · rw [e];obtain ⟨m,hn,_⟩:=I.loc;refine .cons (by rw [I.ok.kind];decide) hf hn ?_ I.funs;exact Heap.get?_none_of_le (aaZ I.ok.bsz I.ok.above)
theorem Inv.stkSub (I:Inv X pins σ H s):∀ b∈frs X.stack,b∈X.env.locals :: X.fs:=fun b hb=>by
  rcases I.ok.stk with e|⟨e,hf⟩
  · rw [e] at hb;exact aat _ hb
  · rw [e] at hb;unfold frs at hb;rw [abk,hf] at hb;exact hb
theorem Inv.stkFree (I:Inv X pins σ H s):∀ b∈frs X.stack,H b=none:=fun b hb=>by
  rcases aah.mp (I.stkSub b hb) with e|hb
  · rw [e];exact I.free
  · obtain ⟨_,o,ho,_⟩:=I.ok.funs.mem hb;exact I.base.free b o ho (I.ok.frf b hb) fun z=>I.ok.exfs b z hb
theorem Inv.step {g':Array GenState} {t':Nat} {d':Drawn} {ch:List Addr} (I:Inv X pins σ H s)
    (hch:∀ b∈ch,(b∈X.ex∨X.s₀.heap.objs.size≤b)∧b≠X.env.locals∧(∀ x c,X.env.cells.lookup x=some c→c≠b)∧∀ p∈X.pn++pins,p.1≠b)
    (keep:∀ b o,b≠X.env.locals→b∉X.fs→b∉ch→s.heap.get? b=some o→H b=none→h'.get? b=some o)
    (slot:∀ b o,b≠X.env.locals→b∈X.fs→b∉ch→s.heap.get? b=some o→H b=none→∃ sl,h'.get? b=some { o with slots:=sl }) (free:∀ b o,b∉ch→s.heap.get? b=some o→H b=none→H' b=none)
    (there:∀ b o,b∉ch→s.heap.get? b=some o→∃ o',h'.get? b=some o')
    (tups:∀ b xs,H b=some (.tup xs)→H' b=some (.tup xs)) (frzs:∀ b o u,H b=some (.frz o u)→H' b=some (.frz o u)) (tbls:∀ b ps,H b=some (.tbl ps)→∃ more,H' b=some (.tbl (ps++more)))
    (ns:∀ m,s.heap.Ns X.env.locals m→h'.Ns X.env.locals m) (hok:HOk X.prog X.w H' h') (hg:AllBare g') :
    Inv X pins σ H' { s with heap:=h',gens:=g',drawn:=d',toks:=t' }:=by
  have neL:∀ b o,X.s₀.heap.get? b=some o→b≠X.env.locals:=fun b o e=>aau (aaq (aaj e) I.ok.above);have neC:∀ b o,X.s₀.heap.get? b=some o→b∉X.ex→b∉ch:=fun b o e hx hb=>by
    rcases (hch b hb).1 with z|z
    · exact hx z
    · exact absurd (aaq (aaj e) z) (aaT _)
  have cellK:∀ x c,X.env.cells.lookup x=some c→∀ v,s.heap.IsCell c v→h'.IsCell c v:=fun x c e v ⟨o,ho,hd⟩=>by
    have nch:c∉ch:=fun z=>(hch c z).2.2.1 x c e rfl;by_cases hc:c∈X.fs
    · obtain ⟨sl,q⟩:=slot c o (I.cne x c e) hc nch ho (I.freeC x c e);exact ⟨_,q,hd⟩
    · exact ⟨o,keep c o (I.cne x c e) hc nch ho (I.freeC x c e),hd⟩
  refine ⟨I.ok,I.os,hg,⟨fun b o e n hb hx=>?_,fun b o e n hb hx=>?_,fun b o e n hx=>?_,fun b o e hx=>?_,fun b xs e=>tups b xs (I.base.tups b xs e),fun b o xs e=>frzs b o xs (I.base.frzs b o xs e),fun b ps e=>?_⟩,?_,fun x c e=>?_,?_,fun x c e=>?_,fun p hp=>?_,hok,I.len⟩
  · exact keep b o (neL b o e) hb (neC b o e hx) (I.base.keep b o e n hb hx) (I.base.free b o e n hx)
  · obtain ⟨sl,e1⟩:=I.base.slot b o e n hb hx;obtain ⟨sl',e2⟩:=slot b _ (neL b o e) hb (neC b o e hx) e1 (I.base.free b o e n hx);exact ⟨sl',e2⟩
  · obtain ⟨o',e1⟩:=I.base.there b o e hx;exact free b o' (neC b o e hx) e1 (I.base.free b o e n hx)
  · obtain ⟨o',e1⟩:=I.base.there b o e hx;exact there b o' (neC b o e hx) e1
  · obtain ⟨m1,e1⟩:=I.base.tbls b ps e;obtain ⟨m2,e2⟩:=tbls b _ e1;exact ⟨m1++m2,by rw [e2,Array.append_assoc]⟩
  · obtain ⟨m,hn,hl⟩:=I.loc;refine ⟨m,ns m hn,fun i x v e1 e2 e3=>?_⟩;obtain ⟨u,r,l⟩:=hl i x v e1 e2 e3;refine ⟨u,r,?_⟩;rcases l with l|⟨k,c,e,z⟩
    · exact .inl l
    · exact .inr ⟨k,c,e,cellK x c e _ z⟩
  · obtain ⟨v,z⟩:=I.cell x c e;exact ⟨v,cellK x c e v z⟩
  · obtain ⟨m,⟨o,_,_,ho,_⟩,_⟩:=I.loc;exact free _ o (fun z=>(hch _ z).2.1 rfl) ho I.free
  · obtain ⟨v,o,ho,hd⟩:=I.cell x c e;exact free c o (fun z=>(hch c z).2.2.1 x c e rfl) ho (I.freeC x c e)
  · obtain ⟨e,n,ne,nf,d⟩:=I.pin p hp;have nch:p.1∉ch:=fun z=>(hch p.1 z).2.2.2 p hp rfl;exact ⟨keep p.1 p.2 ne nf nch e n,free p.1 p.2 nch e n,ne,nf,d⟩
theorem Inv.un {t':Nat} (I:Inv X pins σ H s) (u:Un X.fs [] H H' s.heap h') (hok:HOk X.prog X.w H' h'):Inv X pins σ H' { s with heap:=h',toks:=t' }:=by
  obtain ⟨m,⟨o,es,ep,ho,r⟩,_⟩:=id I.loc;obtain ⟨sl,hL⟩:=u.any ho I.free (by simp);exact I.step (g':=s.gens) (d':=s.drawn) (ch:=[]) (fun _ z=>nomatch z) (fun b o _ hb _ e n=>u.keep b o e n hb (by simp)) (fun b o _ hb _ e n=>u.slot b o e n hb (by simp)) (fun b o _ e n=>u.free b o e n (by simp)) (fun b o _ e=>u.there b o e (by simp)) u.tups u.frzs u.tbls (fun m' hm=>by
    obtain ⟨o',es',ep',ho',r'⟩:=hm;rw [ho] at ho';cases ho';exact ⟨_,es',ep',hL,r'⟩) hok I.bare
theorem Inv.call {g':Array GenState} {t':Nat} {d':Drawn} {ch:List Addr} (I:Inv X pins σ H s) (u:Un (frs X.stack) ch H H' s.heap h') (hok:HOk X.prog X.w H' h') (hg:AllBare g')
    (hch:∀ b∈ch,(b∈X.ex∨X.s₀.heap.objs.size≤b)∧b≠X.env.locals∧(∀ x c,X.env.cells.lookup x=some c→c≠b)∧∀ p∈X.pn++pins,p.1≠b) :
    Inv X pins σ H' { s with heap:=h',gens:=g',drawn:=d',toks:=t' }:=by
  obtain ⟨m,⟨o,es,ep,ho,r⟩,_⟩:=id I.loc;obtain ⟨sl,hL⟩:=u.any ho I.free fun z=>(hch _ z).2.1 rfl;exact I.step (ch:=ch) hch (fun b o hL hb hc e n=>u.keep b o e n (fun z=>(aah.mp (I.stkSub b z)).elim hL hb) hc) (fun b o _ _ hc e n=>u.any e n hc) (fun b o hc e n=>u.free b o e n hc) (fun b o hc e=>u.there b o e hc) u.tups u.frzs u.tbls (fun m' hm=>by
    obtain ⟨o',es',ep',ho',r'⟩:=hm;rw [ho] at ho';cases ho';exact ⟨_,es',ep',hL,r'⟩) hok hg
theorem Inv.turned {t':Nat} {it:Addr} (I:Inv X pins σ H s) (k:∀ b o,b≠it→s.heap.get? b=some o→h'.get? b=some o) (hn:H it=none) (hL:it≠X.env.locals)
    (h1:it∈X.ex∨X.s₀.heap.objs.size≤it) (h2:∀ x c,X.env.cells.lookup x=some c→c≠it) (h3:∀ p∈X.pn++pins,p.1≠it):Inv X pins σ H { s with heap:=h',toks:=t' }:=by
  have nit:∀ b u,H b=some u→b≠it:=fun b u e z=>by rw [z,hn] at e;cases e
  refine I.step (g':=s.gens) (d':=s.drawn) (ch:=[it]) (fun b hb=>?_) (fun b o _ _ hc e _=>k b o (fun z=>hc (by simp [z])) e) (fun b o _ _ hc e _=>⟨o.slots,k b o (fun z=>hc (by simp [z])) e⟩) (fun _ _ _ _ n=>n)
    (fun b o hc e=>⟨o,k b o (fun z=>hc (by simp [z])) e⟩) (fun _ _ e=>e) (fun _ _ _ e=>e) (fun b ps e=>⟨#[],by rw [e];simp⟩) (fun m hm=>?_) (fun b u e=>?_) I.bare
  · have e:b=it:=by simpa using hb
    subst e;exact ⟨h1,hL,h2,h3⟩
  · obtain ⟨o,es,ep,ho,r⟩:=hm;exact ⟨o,es,ep,k _ o (abo hL) ho,r⟩
  · refine (I.hok b u e).stay (fun c v hc q=>k c v ?_ q) (fun _ q=>q) fun _ _ q=>q;rcases hc with z|z
    · rw [z];exact nit b u e
    · exact nit c _ z
theorem Inv.tok (I:Inv X pins σ H s) (t:Nat):Inv X pins σ H { s with toks:=t }:=I.un (h':=s.heap) (t':=t) Un.refl I.hok
theorem Inv.kept {t':Nat} (I:Inv X pins σ H s) (k:∀ b u,s.heap.get? b=some u→h'.get? b=some u):Inv X pins σ H { s with heap:=h',toks:=t' }:=I.un (Un.kept k) (I.hok.kept k)
theorem Inv.laid {a:Addr} {o:HO} {t':Nat} (I:Inv X pins σ H s) (k:∀ b u,s.heap.get? b=some u→h'.get? b=some u) (hp:s.heap.objs.size≤a) (new:ObjOk X.prog X.w (upd H a o) h' a o) :
    Inv X pins σ (upd H a o) { s with heap:=h',toks:=t' }:=I.un (Un.laid k hp (I.hok.fresh hp)) (I.hok.laid k hp new)
theorem Inv.write {x e:Addr} {o:HO} {t':Nat} (I:Inv X pins σ H s) (mu:Mut (H x)) (he:e=x∨H e=some (.own x)) (k:∀ b u,b≠e→s.heap.get? b=some u→h'.get? b=some u) (heo:∃ u,h'.get? e=some u)
    (new:ObjOk X.prog X.w (upd H x o) h' x o):Inv X pins σ (upd H x o) { s with heap:=h',toks:=t' }:=I.un (Un.write mu he k heo) (I.hok.write mu he k heo new)
theorem Inv.pins_of {pins':List (Addr × Obj)} (I:Inv X pins σ H s) (h:∀ p∈pins',s.heap.get? p.1=some p.2∧H p.1=none∧p.1≠X.env.locals∧p.1∉X.fs∧∀ v,p.2.data≠.cell v):Inv X pins' σ H s :=
  ⟨I.ok,I.os,I.bare,I.base,I.loc,I.cell,I.free,I.freeC,fun p hp=>(aao.mp hp).elim (fun z=>I.pin p (aa8 _ z)) (h p),I.hok,I.len⟩
theorem iY {N:List Str} (hN:N.Nodup) {i j:Nat} {x:Str} (a:N[i]?=some x) (b:N[j]?=some x):i=j:=by
  obtain ⟨h1,e1⟩:=aaB.mp a;obtain ⟨h2,e2⟩:=aaB.mp b;exact (List.getElem_inj hN).mp (e1.trans e2.symm)
theorem o2 {M:Model} {A:Around} {E:Value→Shared→Prop} {i:Nat} {x:Str} {v:V} {u:Value} {Q:Unit→Shared→Prop} (I:Inv X pins σ H s) (hN:X.N.Nodup) (hi:X.N[i]?=some x) (hx:Loc X.env.scope x) (r:RelV v u)
    (h:∀ s',Inv X pins (σ.set i (some v)) H s'→(∃ a,ab0 a s.heap s'.heap∧(a=X.env.locals∨X.env.cells.lookup x=some a))→Q () s') (hf:X.fn x=true∨X.env.scope.names.lookup x=some .local:=by first|exact .inl rfl|exact .inr rfl|assumption):wpAny M A (storeName X.env x u) Q E s:=by
  obtain ⟨m,hn,hl⟩:=id I.loc;have hcls:(X.env.scope.kind == .class || (X.env.scope.kind == .module && X.env.locals != X.env.globals))=false:=by rw [I.ok.kind];rfl
  have hiσ:i < σ.length:=by rw [I.len];exact (aaB.mp hi).1
  have cne:=I.cne;have tracked:∀ {a:Addr} {h':Heap},(∃ o,s.heap.get? a=some o∧H a=none)→ab0 a s.heap h'→HOk X.prog X.w H h':=fun {a h'} ha hs b ob e=>by
    obtain ⟨_,_,hfree⟩:=ha;refine (I.hok b ob e).stay (fun c w' hc q=>(hs.2 c ?_).trans q) (fun _ q=>q) fun _ _ q=>q;rintro rfl;rcases hc with rfl|hc
    · rw [hfree] at e;cases e
    · rw [hfree] at hc;cases hc
  rcases hx with hk|hk
  · refine wpAny_storeName_local hk hn (fun h' hn' hs=>?_) hcls;obtain ⟨oL,_,_,hoL,_⟩:=id hn;refine h _ ⟨I.ok,I.os,I.bare,⟨fun b o e n hb hx=>?_,fun b o e n hb hx=>?_,I.base.free,fun b o e hx=>?_,I.base.tups,I.base.frzs,I.base.tbls⟩,⟨_,hn',fun j y v' e1 e2 e3=>?_⟩,fun y c e=>?_,I.free,I.freeC,fun p hp=>?_,tracked ⟨oL,hoL,I.free⟩ hs,by simpa using I.len⟩ ⟨_,hs,.inl rfl⟩
    · exact (hs.2 b (aau (aaq (aaj e) I.ok.above))).trans (I.base.keep b o e n hb hx)
    · obtain ⟨sl,e1⟩:=I.base.slot b o e n hb hx;exact ⟨sl,(hs.2 b (aau (aaq (aaj e) I.ok.above))).trans e1⟩
    · obtain ⟨o',e1⟩:=I.base.there b o e hx;exact ⟨o',(hs.2 b (aau (aaq (aaj e) I.ok.above))).trans e1⟩
    · by_cases hj:j=i
      · subst hj;rw [hi] at e1;cases e1;rw [List.getElem?_set_self hiσ] at e2;cases e2;exact ⟨u,r,.inl ⟨hk,by simp⟩⟩
      · rw [List.getElem?_set_ne (abo hj)] at e2;obtain ⟨u',r',q⟩:=hl j y v' e1 e2 e3;refine ⟨u',r',?_⟩;rcases q with ⟨k,e⟩|⟨k,c,e,z⟩
        · refine .inl ⟨k,?_⟩;have : y≠x:=fun e=>hj (iY hN e1 (e ▸ hi));simp [this,e]
        · exact .inr ⟨k,c,e,z.sameBut hs (cne y c e)⟩
    · obtain ⟨w',z⟩:=I.cell y c e;exact ⟨w',z.sameBut hs (cne y c e)⟩
    · obtain ⟨e,n,ne,nf,d⟩:=I.pin p hp;exact ⟨(hs.2 p.1 ne).trans e,n,ne,nf,d⟩
  · have hfn:X.fn x=true:=by
      rcases hf with z|z
      · exact z
      · rw [z] at hk;cases hk
    obtain ⟨c,hc⟩:=I.ok.has x (.inl hk);obtain ⟨w',z⟩:=I.cell x c hc;refine wpAny_storeName_cell I.ok.kind hk hc z (fun h' hc' hs=>?_);obtain ⟨oc,hoc,hocd⟩:=id z;refine h { s with heap:=h' } ⟨I.ok,I.os,I.bare,⟨fun b o e n hb hx=>?_,fun b o e n hb hx=>?_,I.base.free,fun b o e hx=>?_,I.base.tups,I.base.frzs,I.base.tbls⟩,⟨m,hn.sameBut hs (abo (cne x c hc)),fun j y v' e1 e2 e3=>?_⟩,fun y c' e=>?_,I.free,I.freeC,fun p hp=>?_,tracked ⟨oc,hoc,I.freeC x c hc⟩ hs,by simpa using I.len⟩ ⟨c,hs,.inr hc⟩
    · exact (hs.2 b (aau (aaq (aaj e) (I.ok.cab x c hfn hc)))).trans (I.base.keep b o e n hb hx)
    · obtain ⟨sl,e1⟩:=I.base.slot b o e n hb hx;exact ⟨sl,(hs.2 b (aau (aaq (aaj e) (I.ok.cab x c hfn hc)))).trans e1⟩
    · obtain ⟨o',e1⟩:=I.base.there b o e hx;exact ⟨o',(hs.2 b (aau (aaq (aaj e) (I.ok.cab x c hfn hc)))).trans e1⟩
    · by_cases hj:j=i
      · subst hj;rw [hi] at e1;cases e1;rw [List.getElem?_set_self hiσ] at e2;cases e2;exact ⟨u,r,.inr ⟨.inl hk,c,hc,hc'⟩⟩
      · rw [List.getElem?_set_ne (abo hj)] at e2;obtain ⟨u',r',q⟩:=hl j y v' e1 e2 e3;refine ⟨u',r',?_⟩;rcases q with q|⟨k,c',e,z'⟩
        · exact .inl q
        · refine .inr ⟨k,c',e,z'.sameBut hs ?_⟩;rintro rfl;exact hj (iY hN e1 (I.ok.inj _ _ _ e hc ▸ hi))
    · by_cases hcc:c'=c
      · subst hcc;exact ⟨_,hc'⟩
      · obtain ⟨w2,z2⟩:=I.cell y c' e;exact ⟨w2,z2.sameBut hs hcc⟩
    · obtain ⟨e,n,ne,nf,d⟩:=I.pin p hp;refine ⟨(hs.2 p.1 ?_).trans e,n,ne,nf,d⟩;intro q;rw [q,hoc] at e;have q':oc=p.2:=aaV e;exact d w' (by rw [← q'];exact hocd)
theorem dk {M:Model} {A:Around} {E:Value→Shared→Prop} {i:Nat} {x:Str} {v:V} {u:Value} {Q:Unit→Shared→Prop} (I:Inv X pins σ H s) (hN:X.N.Nodup) (hi:X.N[i]?=some x) (hx:Loc X.env.scope x) (r:RelV v u)
    (h:∀ s',Inv X pins (σ.set i (some v)) H s'→Q () s') (hf:X.fn x=true∨X.env.scope.names.lookup x=some .local:=by first|exact .inl rfl|exact .inr rfl|assumption):wpAny M A (storeName X.env x u) Q E s :=
  o2 I hN hi hx r (fun s' I' _=>h s' I') hf
theorem Inv.call' {s':Shared} {ch:List Addr} (I:Inv X pins σ H s) (ho:s'.os=s.os) (u:Un (frs X.stack) ch H H' s.heap s'.heap) (hok:HOk X.prog X.w H' s'.heap) (hg:AllBare s'.gens)
    (hch:∀ b∈ch,(b∈X.ex∨X.s₀.heap.objs.size≤b)∧b≠X.env.locals∧(∀ x c,X.env.cells.lookup x=some c→c≠b)∧∀ p∈X.pn++pins,p.1≠b):Inv X pins σ H' s':=by
  obtain ⟨h',g',d',t',o'⟩:=s';have e:o'=s.os:=ho;subst e;exact I.call (g':=g') (t':=t') (d':=d') u hok hg hch
end
abbrev XK:=Value→Option Addr→Hp→Prop
abbrev St:=List (Option V)
abbrev VK:=V→Hp→Prop
abbrev TE:=St→Hp→VK→Prop
abbrev TT:=St→Hp→(Bool→Hp→Prop)→Prop
abbrev TA:=St→Hp→(List V→Hp→Prop)→Prop
structure Ends where
  nx:St→Hp→Prop
  rt:VK
  bk:St→Hp→Prop:=fun _ _=>False
  ct:St→Hp→Prop:=fun _ _=>False
abbrev TS:=Ends→St→Hp→Prop
def EP (X:Cx) (pins:List (Addr × Obj)) (σ:St) (Q:VK) (u:Value) (s':Shared):Prop:=∃ v H',Inv X pins σ H' s'∧RelV v u∧Q v H'
def TP (X:Cx) (pins:List (Addr × Obj)) (σ:St) (Q:Bool→Hp→Prop) (b:Bool) (s':Shared):Prop:=∃ H',Inv X pins σ H' s'∧Q b H'
def AP (X:Cx) (pins:List (Addr × Obj)) (σ:St) (Q:List V→Hp→Prop) (us:List Value) (s':Shared):Prop:=∃ vs H',Inv X pins σ H' s'∧Vals vs us∧Q vs H'
def SP (X:Cx) (pins:List (Addr × Obj)) (D:Ends) (f:Flow) (s':Shared):Prop :=
  match f with
  | .next=>∃ σ' H',Inv X pins σ' H' s'∧D.nx σ' H'
  | .brk=>∃ σ' H',Inv X pins σ' H' s'∧D.bk σ' H'
  | .cont=>∃ σ' H',Inv X pins σ' H' s'∧D.ct σ' H'
  | .ret u=>∃ v σ' H',Inv X pins σ' H' s'∧RelV v u∧D.rt v H'
def PE (X:Cx) (e:Expr) (t:TE):Prop :=
  ∀ (pins:List (Addr × Obj)) (s:Shared) (σ:St) (H:Hp) (Q:VK),Inv X pins σ H s→t σ H Q→wpAny (model X.prog X.w) X.A (eval e X.env) (EP X pins σ Q) X.xe s
def PT (X:Cx) (e:Expr) (t:TT):Prop :=
  ∀ (pins:List (Addr × Obj)) (s:Shared) (σ:St) (H:Hp) (Q:Bool→Hp→Prop),Inv X pins σ H s→t σ H Q→wpAny (model X.prog X.w) X.A (isTrue e X.env (eval e X.env)) (TP X pins σ Q) X.xe s
def PW (X:Cx) (e:Expr) (t:TT):Prop :=
  ∀ (whole:Sem Value) (pins:List (Addr × Obj)) (s:Shared) (σ:St) (H:Hp) (Q:Bool→Hp→Prop),Inv X pins σ H s→t σ H Q→wpAny (model X.prog X.w) X.A (isTrue e X.env whole) (TP X pins σ Q) X.xe s
theorem PW.pt {X:Cx} {e:Expr} {t:TT} (h:PW X e t):PT X e t:=h _
def PA (X:Cx) (es:List Expr) (t:TA):Prop :=
  ∀ (pos:Pos) (pins:List (Addr × Obj)) (s:Shared) (σ:St) (H:Hp) (Q:List V→Hp→Prop),Inv X pins σ H s→t σ H Q→wpAny (model X.prog X.w) X.A (spliced (backTo pos (starEach es X.env))) (AP X pins σ Q) X.xe s
def PS (X:Cx) (st:Stmt) (t:TS):Prop :=
  ∀ (pins:List (Addr × Obj)) (s:Shared) (σ:St) (H:Hp) (D:Ends),Inv X pins σ H s→t D σ H→wpAny (model X.prog X.w) X.A (exec st X.env) (SP X pins D) X.xe s
def PSs (X:Cx) (st:List Stmt) (t:TS):Prop :=
  ∀ (pins:List (Addr × Obj)) (s:Shared) (σ:St) (H:Hp) (D:Ends),Inv X pins σ H s→t D σ H→wpAny (model X.prog X.w) X.A (execs st X.env) (SP X pins D) X.xe s
theorem thn {α:Type} {t:Sem α} {Q Q':α→Shared→Prop} {M:Model} {A:Around} {E:Value→Shared→Prop} {s:Shared} (h:wpAny M A t Q E s) (hQ:∀ a s,Q a s→Q' a s):wpAny M A t Q' E s:=wpAny_mono h hQ fun _ _ x=>x
open PySem PySem.Spec PyProof.Rows
section
variable {X:Cx}
def vV (i:Nat):TE:=fun σ H Q=>∃ v,σ[i]?=some (some v)∧Q v H
def tC (v:V):TE:=fun _ H Q=>Q v H
theorem uN {i:Nat} {x:Str} {pos:Pos} (hN:X.N[i]?=some x) (hv:Vis X.env.scope x) (hd:(x == ("__debug__":Str))=false:=by decide) (hcd:(x == ("__classdict__":Str))=false:=by decide):PE X (.Name x pos) (vV i):=by
  intro pins s σ H Q I h;obtain ⟨v,e,h⟩:=h;obtain ⟨m,hn,hl⟩:=I.loc;obtain ⟨u,r,l⟩:=hl i x v hN e hv;have fin:EP X pins σ Q u s:=⟨v,H,I,r,h⟩
  rcases l with ⟨hk,hm⟩|⟨hk,c,hc,hcell⟩
  · exact wpAny_Name (wpAny_loadName_local I.ok.kind hk hn hm fin) hd
  · rcases hk with hk|hk
    · exact wpAny_Name (wpAny_loadName_cell I.ok.kind hk hc hcell fin) hd
    · exact wpAny_Name (wpAny_loadName_free I.ok.kind hk hc hcell fin hcd) hd
theorem ad {i j pos}:PE X (.Constant (.int i) j pos) (tC (.int i)):=fun _ _ _ H _ I h=>wpAny_Constant_int ⟨.int i,H,I.tok _,⟨_,rfl⟩,h⟩
theorem cb {b j pos}:PE X (.Constant (.bool b) j pos) (tC (.bl b)):=fun _ _ _ H _ I h=>Constant_bool ⟨.bl b,H,I,rfl,h⟩
theorem bg {j pos}:PE X (.Constant .none j pos) (tC .non):=fun _ _ _ H _ I h=>Constant_none ⟨.non,H,I,rfl,h⟩
theorem aj {x j pos}:PE X (.Constant (.str x) j pos) (tC (.str x)):=fun _ _ _ H _ I h=>Calls.Constant_str ⟨.str x,H,I.tok _,⟨_,rfl⟩,h⟩
def Gl (X:Cx) (x:Str):Prop:=X.env.kindOf x=some .globalImplicit
theorem gw {E:Value→Shared→Prop} {pins:List (Addr × Obj)} {s:Shared} {σ:St} {H:Hp} {x:Str} {u:Value} {pos:Pos} {Q:Value→Shared→Prop} (I:Inv X pins σ H s) (hg:Gl X x) (hm:X.mg x=some u) (h:Q u s)
    (hd:(x == ("__debug__":Str))=false:=by decide):wpAny (model X.prog X.w) X.A (eval (.Name x pos) X.env) Q E s :=
  Calls.Name_function_global I.ok.kind hg (Calls.loadGlobal_global (by rw [I.ok.glob];exact I.mod.glob.keeps I.bk) hm h) hd
theorem f_ {E:Value→Shared→Prop} {pins:List (Addr × Obj)} {s:Shared} {σ:St} {H:Hp} {x:Str} {u:Value} {pos:Pos} {Q:Value→Shared→Prop} (I:Inv X pins σ H s) (hg:Gl X x) (hm:X.mg x=none) (hv:bootBuiltins x=some u) (h:Q u s)
    (hn:x ≠ "__name__":=by decide) (hd:(x == ("__debug__":Str))=false:=by decide):wpAny (model X.prog X.w) X.A (eval (.Name x pos) X.env) Q E s:=by
  obtain ⟨mb,h1,h2⟩:=I.mod.blt;exact Calls.Name_function_global I.ok.kind hg (Calls.loadGlobal_builtin (by rw [I.ok.glob];exact I.mod.glob.keeps I.bk) hm (by rw [I.ok.blt];exact h1.keeps I.bk) ((h2 x hn).trans hv) h) hd
theorem aZ {x:Str} {v:V} {u:Value} {pos:Pos} (hg:Gl X x) (hm:X.mg x=some u) (r:RelV v u) (hd:(x == ("__debug__":Str))=false:=by decide):PE X (.Name x pos) (tC v) :=
  fun _ _ _ H _ I h=>gw I hg hm ⟨v,H,I,r,h⟩ hd
theorem cB {x:Str} {v:V} {u:Value} {pos:Pos} (hg:Gl X x) (hm:X.mg x=none) (hv:bootBuiltins x=some u) (r:RelV v u) (hn:x ≠ "__name__":=by decide) (hd:(x == ("__debug__":Str))=false:=by decide):PE X (.Name x pos) (tC v) :=
  fun _ _ _ H _ I h=>f_ I hg hm hv ⟨v,H,I,r,h⟩ hn hd
variable {a b:Expr} {ta tb:TE} {pos:Pos}
def tB (t:TE):TT:=fun σ H Q=>t σ H fun x H1=>∃ c,x=.bl c∧Q c H1
theorem bE {e:Expr} {t:TE} (h:PE X e t) (he:∀ whole,isTrue e X.env whole=(do let v ← whole;standAt e.pos;holding [v] (truthy v)):=by intro _;rfl):PT X e (tB t):=by
  intro pins s σ H Q I hw;refine isTrue_plain (thn (h pins s σ H _ I hw) fun v s1 ⟨x,H1,I1,r1,q1⟩=>?_) (he _);obtain ⟨d,rfl,q⟩:=q1;cases r1;exact wpAny_truthy_bool ⟨H1,I1,q⟩
variable {tA tB':TT} {fh:List Expr}
def xq (t u:TT):TT:=fun σ H Q=>t σ H fun c H1=>if c=true then u σ H1 Q else Q false H1
def tOr (t u:TT):TT:=fun σ H Q=>t σ H fun c H1=>if c=true then Q true H1 else u σ H1 Q
def xh (t:TT):TT:=fun σ H Q=>t σ H fun c H1=>Q (!c) H1
theorem gi (ha:PT X a tA):PW X (.BoolOp .And [a] pos) tA:=by
  intro wh pins s σ H Q I h;refine isTrue_and (thn (ha pins s σ H Q I h) fun c s1 e=>?_);cases c with
  | true=>exact isTrue_and_nil e
  | false=>exact e
theorem cy (ha:PT X a tA):PW X (.BoolOp .Or [a] pos) tA:=by
  intro wh pins s σ H Q I h;refine isTrue_or (thn (ha pins s σ H Q I h) fun c s1 e=>?_);cases c with
  | false=>exact isTrue_or_nil e
  | true=>exact e
theorem fX (ha:PT X a tA) (hb:PW X (.BoolOp .And (b :: fh) pos) tB'):PW X (.BoolOp .And (a :: b :: fh) pos) (xq tA tB'):=by
  intro wh pins s σ H Q I h;refine isTrue_and (thn (ha pins s σ H _ I h) fun c s1 ⟨H1,I1,q1⟩=>?_);cases c with
  | true=>exact hb wh pins s1 σ H1 Q I1 q1
  | false=>exact ⟨H1,I1,q1⟩
theorem cO (ha:PT X a tA) (hb:PW X (.BoolOp .Or (b :: fh) pos) tB'):PW X (.BoolOp .Or (a :: b :: fh) pos) (tOr tA tB'):=by
  intro wh pins s σ H Q I h;refine isTrue_or (thn (ha pins s σ H _ I h) fun c s1 ⟨H1,I1,q1⟩=>?_);cases c with
  | true=>exact ⟨H1,I1,q1⟩
  | false=>exact hb wh pins s1 σ H1 Q I1 q1
theorem cz (ha:PT X a tA):PT X (.UnaryOp .Not a pos) (xh tA):=by
  intro pins s σ H Q I h;exact isTrue_not (ha pins s σ H (fun c H1=>Q (!c) H1) I h)
def v6 (ta tb:TE):TE:=fun σ H Q=>ta σ H fun x H1=>∃ c,x=.bl c∧if c=true then tb σ H1 Q else Q (.bl false) H1
def xg (ta tb:TE):TE:=fun σ H Q=>ta σ H fun x H1=>∃ c,x=.bl c∧if c=true then Q (.bl true) H1 else tb σ H1 Q
def vX (ta:TE):TE:=fun σ H Q=>ta σ H fun x H1=>∃ c,x=.bl c∧Q (.bl (!c)) H1
theorem eL {op} {t:TE} (h:PE X a t):PE X (.BoolOp op [a] pos) t:=fun pins s σ H Q I hw=>BoolOp_one (h pins s σ H Q I hw)
theorem eN (ha:PE X a ta) (hb:PE X (.BoolOp .And (b :: fh) pos) tb):PE X (.BoolOp .And (a :: b :: fh) pos) (v6 ta tb):=by
  intro pins s σ H Q I h;refine BoolOp_and (thn (ha pins s σ H _ I h) fun v s1 ⟨x,H1,I1,r1,q1⟩=>?_);obtain ⟨c,rfl,q1⟩:=q1;cases r1;refine wpAny_truthy_bool ?_;cases c with
  | true=>exact hb pins s1 σ H1 Q I1 q1
  | false=>exact ⟨.bl false,H1,I1,rfl,q1⟩
theorem tY (ha:PE X a ta) (hb:PE X (.BoolOp .Or (b :: fh) pos) tb):PE X (.BoolOp .Or (a :: b :: fh) pos) (xg ta tb):=by
  intro pins s σ H Q I h;refine BoolOp_or (thn (ha pins s σ H _ I h) fun v s1 ⟨x,H1,I1,r1,q1⟩=>?_);obtain ⟨c,rfl,q1⟩:=q1;cases r1;refine wpAny_truthy_bool ?_;cases c with
  | false=>exact hb pins s1 σ H1 Q I1 q1
  | true=>exact ⟨.bl true,H1,I1,rfl,q1⟩
theorem uO (ha:PE X a ta):PE X (.UnaryOp .Not a pos) (vX ta):=by
  intro pins s σ H Q I h;refine UnaryOp_ (thn (ha pins s σ H _ I h) fun v s1 ⟨x,H1,I1,r1,q1⟩=>?_);obtain ⟨c,rfl,q1⟩:=q1;cases r1;exact not_of (wpAny_truthy_bool ⟨.bl (!c),H1,I1,rfl,q1⟩)
def tIf (t:TT) (ta tb:TE):TE:=fun σ H Q=>t σ H fun c H1=>if c=true then ta σ H1 Q else tb σ H1 Q
theorem cP {c:Expr} (hc:PT X c tA) (ha:PE X a ta) (hb:PE X b tb):PE X (.IfExp c a b pos) (tIf tA ta tb):=by
  intro pins s σ H Q I h;refine wpAny_IfExp (thn (hc pins s σ H _ I h) fun d s1 ⟨H1,I1,q1⟩=>?_);cases d with
  | true=>exact ha pins s1 σ H1 Q I1 q1
  | false=>exact hb pins s1 σ H1 Q I1 q1
end
open PySem PySem.Spec PyProof.Rows
def SqL (K:aaa) (H:Hp) (a:Addr) (xs:List V):Prop :=
  Rd H a (.lst xs) ∨
    ∃ (o:Obj) (its:Array Value) (n:Nat),K.lookup a=some o∧o.cls=.type "list"∧o.dict=none∧o.data=.seq its n∧its.size≤sizeLine∧Vals xs its.toList
def SqT (K:aaa) (H:Hp) (a:Addr) (xs:List V):Prop :=
  Rd H a (.tup xs) ∨
    ∃ (o:Obj) (its:Array Value) (n:Nat),K.lookup a=some o∧o.cls=.type "tuple"∧o.data=.seq its n∧its.size≤sizeLine∧Vals xs its.toList
def xF:Value→Option V
  | .none=>some .non
  | .bool b=>some (.bl b)
  | .int i _=>some (.int i)
  | .str x _=>some (.str x)
  | .bytes b _=>some (.byt b)
  | .float b _=>some (.flt b)
  | .ref a=>some (.ref a)
  | .type n=>some (.ty n)
  | _=>none
theorem RelV.abs {x:V} {u:Value} (r:RelV x u):xF u=some x:=by
  cases x with
  | non=>cases r;rfl
  | bl _=>cases r;rfl
  | int _=>obtain ⟨t,rfl⟩:=r;rfl
  | str _=>obtain ⟨t,rfl⟩:=r;rfl
  | byt _=>obtain ⟨t,rfl⟩:=r;rfl
  | flt _=>obtain ⟨t,rfl⟩:=r;rfl
  | ref _=>cases r;rfl
  | ty _=>cases r;rfl
theorem RelV.inj {x y:V} {u:Value} (r:RelV x u) (q:RelV y u):x=y:=aaV (r.abs.symm.trans q.abs)
theorem Vals.inj:∀ {xs ys:List V} {us:List Value},Vals xs us→Vals ys us→xs=ys
  | _,_,_,.nil,.nil=>rfl
  | _,_,_,.cons r t,.cons r' t'=>by rw [r.inj r',Vals.inj t t']
section
variable {X:Cx} {pins:List (Addr × Obj)} {σ:St} {H:Hp} {s:Shared} {a:Addr} {xs ys:List V}
theorem SqL.of {K:aaa} (h:H a=some (.lst xs)):SqL K H a xs:=.inl (.inl h)
theorem SqT.of {K:aaa} (h:H a=some (.tup xs)):SqT K H a xs:=.inl (.inl h)
theorem Inv.list (I:Inv X pins σ H s) (h:SqL X.K H a xs):∃ its:List Value,Vals xs its∧PlainL s.heap a its.toArray∧xs.length≤sizeLine:=by
  rcases h with h|⟨o,its,n,hk,hc,hd,hs,hz,r⟩
  · obtain ⟨z,its,n,r,e⟩:=h.ok I.hok;exact ⟨its,r,⟨_,n,e,rfl,rfl,rfl⟩,z⟩
  · refine ⟨its.toList,r,⟨o,n,I.kIn a o hk,hc,hd,by simpa using hs⟩,?_⟩;have e:=r.length;simp only [Array.length_toList] at e;lia
theorem Inv.tuple (I:Inv X pins σ H s) (h:SqT X.K H a xs):∃ its:List Value,Vals xs its∧IsTup s.heap a its.toArray∧xs.length≤sizeLine:=by
  rcases h with h|⟨o,its,n,hk,hc,hs,hz,r⟩
  · obtain ⟨z,its,r,p⟩:=h.ok I.hok;exact ⟨its,r,p,z⟩
  · refine ⟨its.toList,r,⟨o,I.kIn a o hk,hc,n,by simpa using hs⟩,?_⟩;have e:=r.length;simp only [Array.length_toList] at e;lia
theorem Inv.list_inj (I:Inv X pins σ H s) (h:SqL X.K H a xs) (h':SqL X.K H a ys):xs=ys:=by
  obtain ⟨its,r,⟨o,n,e,_,_,d⟩,_⟩:=I.list h;obtain ⟨its',r',⟨o',n',e',_,_,d'⟩,_⟩:=I.list h';rw [e] at e';cases e';rw [d] at d';injection d' with d1 _
  have : its=its':=by simpa using congrArg Array.toList d1
  subst this;exact r.inj r'
theorem Inv.tuple_inj (I:Inv X pins σ H s) (h:SqT X.K H a xs) (h':SqT X.K H a ys):xs=ys:=by
  obtain ⟨its,r,⟨o,e,_,n,d⟩,_⟩:=I.tuple h;obtain ⟨its',r',⟨o',e',_,n',d'⟩,_⟩:=I.tuple h';rw [e] at e';cases e';rw [d] at d';injection d' with d1 _
  have : its=its':=by simpa using congrArg Array.toList d1
  subst this;exact r.inj r'
end
abbrev Cx.wish (X:Cx) (E:Value→Shared→Prop):Cx:={ X with xe:=E }
abbrev Cx.nox (X:Cx):Cx:=X.wish fun _ _=>False
theorem Cx.Ok.wish {X:Cx} (ok:X.Ok) (E:Value→Shared→Prop):(X.wish E).Ok :=
  ⟨ok.mod,ok.kind,ok.glob,ok.blt,ok.above,ok.inj,ok.has,ok.cab,ok.hd,ok.frames,ok.stk,ok.exf,ok.bs,ok.bsz,ok.noex,ok.exfs,ok.funs,ok.frf⟩
theorem Cx.Ok.unwish {X:Cx} {E:Value→Shared→Prop} (ok:(X.wish E).Ok):X.Ok :=
  ⟨ok.mod,ok.kind,ok.glob,ok.blt,ok.above,ok.inj,ok.has,ok.cab,ok.hd,ok.frames,ok.stk,ok.exf,ok.bs,ok.bsz,ok.noex,ok.exfs,ok.funs,ok.frf⟩
section
variable {X:Cx} {pins:List (Addr × Obj)} {σ:St} {H:Hp} {s:Shared} {E:Value→Shared→Prop}
theorem Inv.wish (I:Inv X pins σ H s) (E:Value→Shared→Prop):Inv (X.wish E) pins σ H s:=⟨I.ok.wish E,I.os,I.bare,I.base,I.loc,I.cell,I.free,I.freeC,I.pin,I.hok,I.len⟩
theorem Inv.unwish (I:Inv (X.wish E) pins σ H s):Inv X pins σ H s:=⟨I.ok.unwish,I.os,I.bare,I.base,I.loc,I.cell,I.free,I.freeC,I.pin,I.hok,I.len⟩
theorem SP.unwish {D:Ends} {f:Flow} {s':Shared} (h:SP (X.wish E) pins D f s'):SP X pins D f s':=by
  cases f with
  | next=>obtain ⟨σ',H',I,q⟩:=h;exact ⟨σ',H',I.unwish,q⟩
  | brk=>obtain ⟨σ',H',I,q⟩:=h;exact ⟨σ',H',I.unwish,q⟩
  | cont=>obtain ⟨σ',H',I,q⟩:=h;exact ⟨σ',H',I.unwish,q⟩
  | ret u=>obtain ⟨v,σ',H',I,r,q⟩:=h;exact ⟨v,σ',H',I.unwish,r,q⟩
theorem PSs.nox {st:List Stmt} {t:TS} (h:PSs X.nox st t):PSs X st t:=fun pins s σ H D I hw =>
  wpAny_mono (h pins s σ H D (I.wish _) hw) (fun _ _ q=>q.unwish) fun _ _ z=>abj z
end
section
variable {X:Cx} {st:Stmt} {fh:List Stmt} {t u:TS} {e:Expr} {te:TE} {pos:Pos}
def vY:TS:=fun D σ H=>D.nx σ H
def xc (t u:TS):TS:=fun D σ H=>t { D with nx:=u D } σ H
theorem aE:PSs X [] vY:=fun _ _ σ H _ I h=>wpAny_execs_nil ⟨σ,H,I,h⟩
theorem ae (h1:PS X st t) (h2:PSs X fh u):PSs X (st :: fh) (xc t u):=by
  intro pins s σ H D I h;refine wpAny_execs_cons (thn (h1 pins s σ H { D with nx:=u D } I h) fun f s1 q=>?_);cases f with
  | next =>
    obtain ⟨σ',H',I',q⟩:=q;exact h2 pins s1 σ' H' D I' q
  | ret v=>exact q
  | brk=>exact q
  | cont=>exact q
theorem af (h1:PS X st t):PSs X [st] t:=by
  intro pins s σ H D I h;refine wpAny_execs_cons (thn (h1 pins s σ H D I h) fun f s1 q=>?_);cases f with
  | next=>exact wpAny_execs_nil q
  | ret v=>exact q
  | brk=>exact q
  | cont=>exact q
theorem Inv.quiet {pins:List (Addr × Obj)} {σ:St} {H:Hp} {s:Shared} (I:Inv X pins σ H s):interactive X.env=false:=by simp [interactive,I.ok.kind]
def vZ (te:TE):TS:=fun D σ H=>te σ H fun _ H1=>D.nx σ H1
theorem bC (he:PE X e te) (hs:swapsWith e none pos.line X.env=pure false:=by rfl):PS X (.Expr e pos) (vZ te):=by
  intro pins s σ H D I h;exact wpAny_Expr_any (thn (he pins s σ H _ I h) fun v s1 ⟨x,H1,I1,r1,q1⟩=>⟨σ,H1,I1,q1⟩) I.quiet hs
def xf (te:TE):TS:=fun D σ H=>te σ H D.rt
theorem ak (he:PE X e te):PS X (.Return (some e) pos) (xf te):=by
  intro pins s σ H D I h;exact wpAny_Return_some (thn (he pins s σ H _ I h) fun v s1 ⟨x,H1,I1,r1,q1⟩=>⟨x,σ,H1,I1,r1,q1⟩)
def xm (c:TT) (t u:TS):TS:=fun D σ H=>c σ H fun b H1=>if b=true then t D σ H1 else u D σ H1
theorem a9 {c:Expr} {a b:List Stmt} {tc:TT} (hc:PT X c tc) (ha:PSs X a t) (hb:PSs X b u):PS X (.If c a b pos) (xm tc t u):=by
  intro pins s σ H D I h;refine wpAny_If (thn (hc pins s σ H _ I h) fun d s1 ⟨H1,I1,q1⟩=>?_);cases d with
  | true=>exact ha pins s1 σ H1 D I1 q1
  | false=>exact hb pins s1 σ H1 D I1 q1
def uu:TS:=fun _ _ _=>False
theorem fi:PS X st uu:=fun _ _ _ _ _ _ h=>h.elim
end
abbrev TG:=V→St→Hp→(St→Hp→Prop)→Prop
abbrev TGs:=List V→St→Hp→(St→Hp→Prop)→Prop
def PG (X:Cx) (target:Expr) (t:TG):Prop :=
  ∀ (pins:List (Addr × Obj)) (s:Shared) (σ:St) (H:Hp) (v:V) (u:Value) (Q:St→Hp→Prop),Inv X pins σ H s→RelV v u→t v σ H Q →
    wpAny (model X.prog X.w) X.A (assign target X.env u) (fun _ s'=>∃ σ' H',Inv X pins σ' H' s'∧Q σ' H') X.xe s
def PGs (X:Cx) (ts:List Expr) (t:TGs):Prop :=
  ∀ (pins:List (Addr × Obj)) (s:Shared) (σ:St) (H:Hp) (vs:List V) (us:List Value) (Q:St→Hp→Prop),Inv X pins σ H s→Vals vs us→t vs σ H Q →
    wpAny (model X.prog X.w) X.A (assignInOrder ((assignEach ts X.env).map (·.2)) us) (fun _ s'=>∃ σ' H',Inv X pins σ' H' s'∧Q σ' H') X.xe s
abbrev vN:=V→V→V→Hp→(Hp→Prop)→Prop
def wX (X:Cx) (t:vN):Prop :=
  ∀ (pins:List (Addr × Obj)) (s:Shared) (σ:St) (H:Hp) (o i v:V) (ov iv u:Value) (Q:Hp→Prop),Inv X pins σ H s→RelV o ov→RelV i iv→RelV v u→t o i v H Q →
    wpAny (model X.prog X.w) X.A (setItem ov iv u) (fun _ s'=>∃ H',Inv X pins σ H' s'∧Q H') X.xe s
abbrev TIp:=V→V→Hp→VK→Prop
def PIp (X:Cx) (op:Operator) (t:TIp):Prop :=
  ∀ (pins:List (Addr × Obj)) (s:Shared) (σ:St) (H:Hp) (x y:V) (v u:Value) (Q:VK),Inv X pins σ H s→RelV x v→RelV y u→t x y H Q →
    wpAny (model X.prog X.w) X.A (inplaceOp op v u) (EP X pins σ Q) X.xe s
section
variable {X:Cx} {pos:Pos}
def rz (i:Nat):TG:=fun v σ H Q=>Q (σ.set i (some v)) H
theorem au {i:Nat} {x:Str} (hN:X.N.Nodup) (hi:X.N[i]?=some x) (hx:Loc X.env.scope x) (hf:X.fn x=true∨X.env.scope.names.lookup x=some .local:=by first|exact .inl rfl|exact .inr rfl|assumption):PG X (.Name x pos) (rz i):=by
  intro pins s σ H v u Q I r h;exact wpAny_assign_Name (dk I hN hi hx r (fun s' I'=>⟨_,H,I',h⟩) hf)
def xC:TGs:=fun vs σ H Q=>vs=[]∧Q σ H
def wQ (t:TG) (u:TGs):TGs:=fun vs σ H Q=>∃ v r,vs=v :: r∧t v σ H fun σ' H'=>u r σ' H' Q
theorem cJ:PGs X [] xC:=by
  intro pins s σ H vs us Q I r h;obtain ⟨e,h⟩:=h;subst e;cases r;exact assignInOrder_nil ⟨σ,H,I,h⟩
theorem aV {e:Expr} {es:List Expr} {t:TG} {u:TGs} (h1:PG X e t) (h2:PGs X es u)
    (hs:(assignEach (e :: es) X.env).map (·.2)=assign e X.env :: (assignEach es X.env).map (·.2):=by rfl):PGs X (e :: es) (wQ t u):=by
  intro pins s σ H vs us Q I r h;obtain ⟨v,vr,e1,h⟩:=h;subst e1;cases r with
  | cons r rr =>
    rw [hs];refine assignInOrder_cons (thn (h1 pins s σ H _ _ _ I r h) fun _ s1 ⟨σ1,H1,I1,q1⟩=>?_);exact h2 pins s1 σ1 H1 _ _ Q I1 rr q1
def wP (K:aaa) (n:Nat) (t:TGs):TG:=fun v σ H Q=>∃ a xs,v=.ref a∧SqT K H a xs∧xs.length=n∧t xs σ H Q
theorem eK {es:List Expr} {k:Nat} {t:TGs} {n:Nat} (hc:X.calm=true) (h:PGs X es t)
    (hn:(assignEach es X.env).length=n:=by rfl) (hst:(assignEach es X.env).findIdx? (·.1)=none:=by rfl):PG X (.Tuple es k pos) (wP X.K n t):=by
  intro pins s σ H v u Q I r hw;obtain ⟨a,xs,e1,hq,hl,hw⟩:=hw;subst e1;cases r;obtain ⟨its,rv,ht,hz⟩:=I.tuple hq;refine assign_Tuple_tuple (I.ok.hd hc) ht (by simp [hn,← hl,rv.length]) hst fun h' hx=>?_;have I1:Inv X pins σ H { s with heap:=h' }:=I.kept (t':=s.toks) fun b o e=>hx b o (aau (aaj e)) e;exact h pins _ σ H xs _ Q I1 (by simpa using rv) hw
def xB (to ti:TE) (t:vN):TG:=fun v σ H Q=>to σ H fun o H1=>ti σ H1 fun i H2=>t o i v H2 fun H3=>Q σ H3
theorem qJ {o i:Expr} {to ti:TE} {t:vN} (ho:PE X o to) (hi:PE X i ti) (hs:wX X t)
    (ha:∀ v,assign (.Subscript o i pos) X.env v=(do
      let ov ← holding [v] (eval o X.env)
      let iv ← holding [v,ov] (eval i X.env)
      standAt pos
      holding [v,ov,iv] (setItem ov iv v)
      release [v,ov,iv] []):=by intro _;rfl):PG X (.Subscript o i pos) (xB to ti t):=by
  intro pins s σ H v u Q I r h;rw [ha];refine wpAny_bind (wpAny_holding (thn (ho pins s σ H _ I h) fun ov s1 ⟨x,H1,I1,r1,q1⟩=>?_));refine wpAny_bind (wpAny_holding (thn (hi pins s1 σ H1 _ I1 q1) fun iv s2 ⟨y,H2,I2,r2,q2⟩=>?_));refine wpAny_bind (wpAny_standAt (wpAny_bind (wpAny_holding (thn (hs pins s2 σ H2 x y v ov iv u _ I2 r1 r2 r q2) fun _ s3 ⟨H3,I3,q3⟩=>?_))));exact wpAny_release ⟨σ,H3,I3,q3⟩
def uA (te:TE) (g:TG):TS:=fun D σ H=>te σ H fun x H1=>g x σ H1 D.nx
theorem fk {tg e:Expr} {te:TE} {g:TG} (he:PE X e te) (hg:PG X tg g) (hs:swapsWithSole [tg] e pos.line X.env=pure false:=by rfl) (hw:swappedStores [tg] e X.env=pure none:=by rfl)
    (h1:(assignEach [tg] X.env).map (·.2)=[assign tg X.env]:=by rfl):PS X (.Assign [tg] e pos) (uA te g):=by
  intro pins s σ H D I h;refine wpAny_Assign_stores (thn (he pins s σ H _ I h) fun v s1 ⟨x,H1,I1,r1,q1⟩=>?_) hs hw;rw [h1];exact thn (hg pins s1 σ H1 x v _ I1 r1 q1) fun _ s2 q=>q
theorem ao {i:Nat} {x:Str} {e:Expr} {te:TE} {pos':Pos} (hN:X.N.Nodup) (hi:X.N[i]?=some x) (hx:Loc X.env.scope x) (he:PE X e te) (hs:swapsWith e (some (.Name x pos')) pos.line X.env=pure false:=by rfl) (hf:X.fn x=true∨X.env.scope.names.lookup x=some .local:=by first|exact .inl rfl|exact .inr rfl|assumption) :
    PS X (.Assign [.Name x pos'] e pos) (uA te (rz i)):=by
  intro pins s σ H D I h;refine wpAny_Assign_Name (thn (he pins s σ H _ I h) fun v s1 ⟨y,H1,I1,r1,q1⟩=>?_) hs;exact dk I1 hN hi hx r1 (fun s2 I2=>⟨_,H1,I2,q1⟩) hf
def xp (i:Nat) (te:TE) (ti:TIp):TS:=fun D σ H=>∃ x,σ[i]?=some (some x)∧te σ H fun y H1=>ti x y H1 fun z H2=>D.nx (σ.set i (some z)) H2
theorem mP {i:Nat} {x:Str} {e:Expr} {te:TE} {op:Operator} {ti:TIp} {pos':Pos} (hN:X.N.Nodup) (hi:X.N[i]?=some x) (hx:Loc X.env.scope x) (he:PE X e te) (ho:PIp X op ti) (hf:X.fn x=true∨X.env.scope.names.lookup x=some .local:=by first|exact .inl rfl|exact .inr rfl|assumption) :
    PS X (.AugAssign (.Name x pos') op e pos) (xp i te ti):=by
  intro pins s σ H D I h;obtain ⟨v,e1,h⟩:=h;obtain ⟨m,hn,hl⟩:=I.loc;have vis:Vis X.env.scope x:=by rcases hx with k|k;exact .inl k;exact .inr (.inl k)
  obtain ⟨u,r,l⟩:=hl i x v hi e1 vis;refine wpAny_AugAssign_Name ?_;have go:wpAny (model X.prog X.w) X.A (eval e X.env) (fun w s₂=>wpAny (model X.prog X.w) X.A (inplaceOp op u w) (fun r s₃=>wpAny (model X.prog X.w) X.A (storeName X.env x r) (fun _=>SP X pins D .next) X.xe s₃) X.xe s₂) X.xe s:=by
    refine thn (he pins s σ H _ I h) fun w s1 ⟨y,H1,I1,r1,q1⟩=>?_;refine thn (ho pins s1 σ H1 v y u w _ I1 r r1 q1) fun z s2 ⟨zv,H2,I2,r2,q2⟩=>?_;exact dk I2 hN hi hx r2 (fun s3 I3=>⟨_,H2,I3,q2⟩) hf
  rcases l with ⟨hk,hm⟩|⟨hk,c,hc,hcell⟩
  · exact wpAny_loadName_local I.ok.kind hk hn hm go
  · rcases hk with hk|hk
    · exact wpAny_loadName_cell I.ok.kind hk hc hcell go
    · rcases hx with k|k
      · have : X.env.scope.names.lookup x=some .free:=hk;rw [k] at this;cases this
      · have : X.env.scope.names.lookup x=some .free:=hk;rw [k] at this;cases this
def ipI (f:Int→Int→Int):TIp:=fun x y H Q=>∃ i j,x=.int i∧y=.int j∧Q (.int (f i j)) H
theorem rh:PIp X .Add (ipI fun i j=>i+j):=by
  intro pins s σ H x y v u Q I r1 r2 h;obtain ⟨i,j,e1,e2,q⟩:=h;subst e1;subst e2;obtain ⟨t,rfl⟩:=r1;obtain ⟨t',rfl⟩:=r2;exact iadd_int ⟨.int _,H,I.tok _,⟨_,rfl⟩,q⟩
theorem vt:PIp X .Sub (ipI fun i j=>i - j):=by
  intro pins s σ H x y v u Q I r1 r2 h;obtain ⟨i,j,e1,e2,q⟩:=h;subst e1;subst e2;obtain ⟨t,rfl⟩:=r1;obtain ⟨t',rfl⟩:=r2;exact isub_int ⟨.int _,H,I.tok _,⟨_,rfl⟩,q⟩
end
section
variable {X:Cx} {pos:Pos}
def ut (c:TT) (tb:TS):TS:=fun D σ H=>∃ W:Nat→St→Hp→Prop,(∃ m,W m σ H)∧∀ m σ H,W m σ H →
  c σ H fun b H1=>if b=true then ∃ N:St→Hp→Prop,(∀ σ' H',N σ' H'→∃ m',m' < m∧W m' σ' H')∧tb { D with nx:=N,ct:=N,bk:=D.nx } σ H1 else D.nx σ H1
theorem lv {c:Expr} {body:List Stmt} {tc:TT} {tb:TS} (hp:PassesOwn (model X.prog X.w) X.A X.env X.xe) (hc:PT X c tc) (hb:PSs X body tb):PS X (.While c body [] pos) (ut tc tb):=by
  intro pins s σ H D I h;obtain ⟨W,⟨m0,w0⟩,turn⟩:=h;refine wpAny_While (codeAny_whileLoop (fun n s'=>∃ σ' H',Inv X pins σ' H' s'∧W n σ' H') ?_ m0 ⟨σ,H,I,w0⟩);rintro n s1 ⟨σ1,H1,I1,w1⟩;refine wpAny_passesOwn hp (thn (hc pins s1 σ1 H1 _ I1 (turn n σ1 H1 w1)) fun b s2 ⟨H2,I2,q2⟩=>?_);cases b with
  | true =>
    obtain ⟨N,hN,q2⟩:=q2;rw [if_pos rfl];refine wpAny_passesOwn hp (thn (hb pins s2 σ1 H2 _ I2 q2) fun f s3 q3=>?_);cases f with
    | next =>
      obtain ⟨σ3,H3,I3,n3⟩:=q3;obtain ⟨m',hm,w3⟩:=hN σ3 H3 n3;exact ⟨m',hm,σ3,H3,I3,w3⟩
    | cont =>
      obtain ⟨σ3,H3,I3,n3⟩:=q3;obtain ⟨m',hm,w3⟩:=hN σ3 H3 n3;exact ⟨m',hm,σ3,H3,I3,w3⟩
    | brk=>exact q3
    | ret v=>exact q3
  | false =>
    rw [if_neg aai];exact wpAny_execs_nil ⟨σ1,H2,I2,q2⟩
end
structure It where
  go:Nat→Hp→Prop
  yld:Nat→Hp→V→Hp→Prop
  stop:Nat→Hp→Prop
def gC (X:Cx) (pins:List (Addr × Obj)) (H:Hp) (b:Addr):Prop :=
  H b=none∧b≠X.env.locals∧b∉X.fs∧(b∈X.ex∨X.s₀.heap.objs.size≤b)∧(∀ x c,X.env.cells.lookup x=some c→c≠b)∧∀ p∈X.pn++pins,p.1≠b
theorem Inv.fpOk {X:Cx} {pins:List (Addr × Obj)} {σ:St} {H H':Hp} {s:Shared} {b:Addr} (I:Inv X pins σ H s) (hb:s.heap.objs.size≤b) (hn:H' b=none):gC X pins H' b:=by
  refine ⟨hn,abn (aaq I.lt hb),I.nofs hb,.inr (aaZ I.sz hb),fun x c e z=>?_,fun p hp z=>?_⟩
  · obtain ⟨v,q⟩:=I.cell x c e;exact absurd (aaq q.lt (by rw [z];exact hb)) (aaT _)
  · exact absurd (aaq (aaj (I.pin p hp).1) (by rw [z];exact hb)) (aaT _)
structure Turn (P:Program) (w:World) (K:aaa) (tg:Expr) (J:It) (fp:List Addr) (it:Addr) (tn:Nat→Heap→Prop):Prop where
  mem:it∈fp
  obj:∀ i h,tn i h→∀ b∈fp,∃ o,h.get? b=some o∧∀ v,o.data≠.cell v
  keep:∀ i h h',tn i h→(∀ b∈fp,∀ o,h.get? b=some o→h'.get? b=some o)→tn i h'
  item:∀ (X:Cx),X.prog=P→X.w=w→X.K=K→X.calm=true→∀ (i:Nat) (pins:List (Addr × Obj)) (s:Shared) (σ:St) (H:Hp) (E:Value→Shared→Prop),Inv X pins σ H s→(∀ b∈fp,gC X pins H b)→tn i s.heap→J.go i H →
    wpAny (model P w) X.A (pyNext (.ref it)) (fun r s1=>∃ u,r=some u ∧
      wpAny (model P w) X.A (letOwnedTupleGo tg (.ref it) u) (fun _ s2=>∃ x H',Inv X pins σ H' s2∧RelV x u∧J.yld i H x H'∧tn (i+1) s2.heap∧∀ b∈fp,H' b=none) E s1) E s
  done:∀ (X:Cx),X.prog=P→X.w=w→X.K=K→X.calm=true→∀ (i:Nat) (pins:List (Addr × Obj)) (s:Shared) (σ:St) (H:Hp) (E:Value→Shared→Prop),Inv X pins σ H s→(∀ b∈fp,gC X pins H b)→tn i s.heap→J.stop i H →
    wpAny (model P w) X.A (pyNext (.ref it)) (fun r s1=>r=none∧Inv X pins σ H s1) E s
  self:∀ (A:Around) (i:Nat) (s:Shared) (Q:Value→Shared→Prop) (E:Value→Shared→Prop),tn i s.heap→Q (.ref it) s→wpAny (model P w) A (pyIter (.ref it)) Q E s
abbrev TI:=St→Hp→(It→Hp→Prop)→Prop
def PIE (X:Cx) (pins:List (Addr × Obj)) (σ:St) (tg:Expr) (R:It→Hp→Prop) (itv:Value) (s2:Shared):Prop :=
  ∃ (it:Addr) (fp:List Addr) (tn:Nat→Heap→Prop) (J:It) (H':Hp),itv=.ref it∧Inv X pins σ H' s2∧Turn X.prog X.w X.K tg J fp it tn∧tn 0 s2.heap∧(∀ b∈fp,gC X pins H' b)∧R J H'
def PI (X:Cx) (tg iter:Expr) (wi:TI):Prop :=
  ∀ (pins:List (Addr × Obj)) (s:Shared) (σ:St) (H:Hp) (R:It→Hp→Prop),Inv X pins σ H s→wi σ H R →
    wpAny (model X.prog X.w) X.A (eval iter X.env) (fun v s1=>wpAny (model X.prog X.w) X.A (pyIter v) (PIE X pins σ tg R) X.xe s1) X.xe s
theorem oI {M:Model} {A:Around} {E:Value→Shared→Prop} {s:Shared} {tg:Expr} {it:Addr} {u:Value} {o:Obj} {n:String} {vs:Array Value} {Q:Unit→Shared→Prop} (ho:s.heap.get? it=some o) (hc:o.cls=.type n) (hd:o.data=.fields vs)
    (hn:["enumerate","zip","dict_itemiterator","dict_reverseitemiterator","odict_iterator","itertools.zip_longest","itertools.pairwise"].contains n=false) (hQ:Q () s):wpAny M A (letOwnedTupleGo tg (.ref it) u) Q E s:=by
  unfold letOwnedTupleGo;cases tg <;> first
    | exact wpAny_pure hQ
    | (cases u <;> first
        | exact wpAny_pure hQ
        | (refine wpAny_bind (wpAny_load ho ?_)
           rw [hc,hd];show wpAny M A (if (["enumerate","zip","dict_itemiterator","dict_reverseitemiterator","odict_iterator","itertools.zip_longest","itertools.pairwise"].contains n && vs[0]? == some (rawInt _))=true then _ else _) Q E s;rw [if_neg (by intro h;rw [hn,Bool.false_and] at h;cases h)];exact wpAny_pure hQ))
def Itl (K:aaa) (a:Addr):It :=
  ⟨fun i H=>∃ xs x,SqL K H a xs∧xs[i]?=some x,fun i H x H'=>H'=H∧∀ xs,SqL K H a xs→xs[i]?=some x,fun i H=>∃ xs,SqL K H a xs∧xs.length≤i⟩
def Itt (K:aaa) (a:Addr):It :=
  ⟨fun i H=>∃ xs x,SqT K H a xs∧xs[i]?=some x,fun i H x H'=>H'=H∧∀ xs,SqT K H a xs→xs[i]?=some x,fun i H=>∃ xs,SqT K H a xs∧xs.length≤i⟩
def Itr (lo:Int) (n:Nat):It:=⟨fun i _=>i < n,fun i H x H'=>H'=H∧x=.int (lo+i),fun i _=>n≤i⟩
theorem o0 {P:Program} {w:World} {K:aaa} {tg:Expr} (a it:Addr):Turn P w K tg (Itl K a) [it] it (fun i h=>h.IsListIter it a i) where
  mem:=by simp
  obj:=fun i h st b hb=>by
    have e:b=it:=by simpa using hb
    subst e;obtain ⟨o,e,c,d⟩:=st;exact ⟨o,e,fun v z=>by rw [d] at z;cases z⟩
  keep:=fun i h h' st k=>st.at fun o e=>k it (by simp) o e
  item:=by
    intro X hP hw hK hc i pins s σ H E I hf st hg;subst hP hw hK;obtain ⟨xs,x,hq,hx⟩:=hg;obtain ⟨its,rv,p,hz⟩:=I.list hq;obtain ⟨u,hu,ru⟩:=rv.get hx;obtain ⟨f0,f1,f2,f3,f4,f5⟩:=hf it (by simp);refine wpAny_pyNext_list_item st p.isList (x:=u) (by simpa using hu) fun h' st' sb=>?_;have I1:Inv X pins σ H { s with heap:=h' }:=I.turned (t':=s.toks) (fun b o hb e=>(sb.2 b hb).trans e) f0 f1 f3 f4 f5;obtain ⟨o,e,c,d⟩:=id st';exact ⟨u,rfl,oI (s:={ s with heap:=h' }) e c d (by decide) ⟨x,H,I1,ru,⟨rfl,fun ys hy=>by rw [I.list_inj hy hq];exact hx⟩,st',fun b hb=>(hf b hb).1⟩⟩
  done:=by
    intro X hP hw hK hc i pins s σ H E I hf st hg;subst hP hw hK;obtain ⟨xs,hq,hx⟩:=hg;obtain ⟨its,rv,p,hz⟩:=I.list hq;obtain ⟨f0,f1,f2,f3,f4,f5⟩:=hf it (by simp);have hl:=rv.length;exact wpAny_pyNext_list_end (I.ok.hd hc) st p.isList (by simp;lia) fun h' eb=>⟨rfl,I.turned (t':=s.toks) (fun b o hb e=>eb b o hb e) f0 f1 f3 f4 f5⟩
  self:=fun _ _ _ _ _ st h=>wpAny_pyIter_listiter st h
theorem mr {P:Program} {w:World} {K:aaa} {tg:Expr} (a it:Addr):Turn P w K tg (Itt K a) [it] it (fun i h=>h.IsTupleIter it a i) where
  mem:=by simp
  obj:=fun i h st b hb=>by
    have e:b=it:=by simpa using hb
    subst e;obtain ⟨o,e,c,d⟩:=st;exact ⟨o,e,fun v z=>by rw [d] at z;cases z⟩
  keep:=fun i h h' st k=>st.at fun o e=>k it (by simp) o e
  item:=by
    intro X hP hw hK hc i pins s σ H E I hf st hg;subst hP hw hK;obtain ⟨xs,x,hq,hx⟩:=hg;obtain ⟨its,rv,p,hz⟩:=I.tuple hq;obtain ⟨u,hu,ru⟩:=rv.get hx;obtain ⟨f0,f1,f2,f3,f4,f5⟩:=hf it (by simp);refine wpAny_pyNext_tuple_item st (show s.heap.IsTuple a its.toArray from p) (x:=u) (by simpa using hu) fun h' st' sb=>?_;have I1:Inv X pins σ H { s with heap:=h' }:=I.turned (t':=s.toks) (fun b o hb e=>(sb.2 b hb).trans e) f0 f1 f3 f4 f5;obtain ⟨o,e,c,d⟩:=id st';exact ⟨u,rfl,oI (s:={ s with heap:=h' }) e c d (by decide) ⟨x,H,I1,ru,⟨rfl,fun ys hy=>by rw [I.tuple_inj hy hq];exact hx⟩,st',fun b hb=>(hf b hb).1⟩⟩
  done:=by
    intro X hP hw hK hc i pins s σ H E I hf st hg;subst hP hw hK;obtain ⟨xs,hq,hx⟩:=hg;obtain ⟨its,rv,p,hz⟩:=I.tuple hq;obtain ⟨f0,f1,f2,f3,f4,f5⟩:=hf it (by simp);have hl:=rv.length;exact wpAny_pyNext_tuple_end (I.ok.hd hc) st (show s.heap.IsTuple a its.toArray from p) (by simp;lia) fun h' eb=>⟨rfl,I.turned (t':=s.toks) (fun b o hb e=>eb b o hb e) f0 f1 f3 f4 f5⟩
  self:=fun _ _ _ _ _ st h=>wpAny_pyIter_tupleiter st h
theorem mt {P:Program} {w:World} {K:aaa} {tg:Expr} (it:Addr) (lo:Int) (n:Nat):Turn P w K tg (Itr lo n) [it] it (fun i h=>IsRangeIter h it (lo+(i:Nat) * 1) ((n:Int) - (i:Nat)) 1) where
  mem:=by simp
  obj:=fun i h st b hb=>by
    have e:b=it:=by simpa using hb
    subst e;exact ⟨_,st,fun v z=>by
      have z':Data.fields _=Data.cell v:=z;cases z'⟩
  keep:=fun i h h' st k=>k it (by simp) _ st
  item:=by
    intro X hP hw hK hc i pins s σ H E I hf st hg;subst hP hw hK;obtain ⟨f0,f1,f2,f3,f4,f5⟩:=hf it (by simp);have W:=Walks.range (prog:=X.prog) (w:=X.w) (I.ok.hd hc) it lo 1 n;refine W.item i s _ _ hg st fun v h' tk hv st' kk=>?_;obtain ⟨t,rfl⟩:=hv;have I1:Inv X pins σ H { s with heap:=h',toks:=tk }:=I.turned (fun b o hb e=>kk b o (by simpa using hb) e) f0 f1 f3 f4 f5;refine ⟨_,rfl,oI (s:={ s with heap:=h',toks:=tk }) (n:="range_iterator") st' rfl rfl (by decide) ⟨.int (lo+i),H,I1,⟨t,?_⟩,⟨rfl,rfl⟩,st',fun b hb=>(hf b hb).1⟩⟩;rw [Int.mul_one]
  done:=by
    intro X hP hw hK hc i pins s σ H E I hf st hg;subst hP hw hK;obtain ⟨f0,f1,f2,f3,f4,f5⟩:=hf it (by simp);exact wpAny_pyNext_range_end (I.ok.hd hc) st (by have : n≤i:=hg;lia) fun h' eb=>⟨rfl,I.turned (t':=s.toks) (fun b o hb e=>eb b o hb e) f0 f1 f3 f4 f5⟩
  self:=fun _ _ _ _ _ st h=>wpAny_pyIter_rangeiter st h
open PySem PySem.Spec PyProof.Rows
section
variable {X:Cx} {tg:Expr}
def wN (K:aaa) (tl:TE):TI:=fun σ H R=>tl σ H fun x H1=>∃ a,x=.ref a∧(∃ xs,SqL K H1 a xs)∧R (Itl K a) H1
def xz (K:aaa) (tl:TE):TI:=fun σ H R=>tl σ H fun x H1=>∃ a,x=.ref a∧(∃ xs,SqT K H1 a xs)∧R (Itt K a) H1
theorem bT {l:Expr} {tl:TE} (hl:PE X l tl):PI X tg l (wN X.K tl):=by
  intro pins s σ H R I h;refine thn (hl pins s σ H _ I h) fun v s1 ⟨x,H1,I1,r1,q1⟩=>?_;obtain ⟨a,e,⟨xs,hq⟩,q⟩:=q1;subst e;cases r1;obtain ⟨its,rv,p,hz⟩:=I1.list hq;refine wpAny_pyIter_list p.isList ?_;refine ⟨s1.heap.objs.size,[s1.heap.objs.size],_,_,H1,rfl,I1.kept (t':=s1.toks) fun b o e=>aaf _ e,o0 a _,⟨_,aaz _ rfl,rfl,rfl⟩,fun b hb=>?_,q⟩;have e:b=s1.heap.objs.size:=by simpa using hb
  subst e;exact I1.fpOk (aag _) (I1.hok.fresh (aag _))
theorem qG {l:Expr} {tl:TE} (hl:PE X l tl):PI X tg l (xz X.K tl):=by
  intro pins s σ H R I h;refine thn (hl pins s σ H _ I h) fun v s1 ⟨x,H1,I1,r1,q1⟩=>?_;obtain ⟨a,e,⟨xs,hq⟩,q⟩:=q1;subst e;cases r1;obtain ⟨its,rv,p,hz⟩:=I1.tuple hq;refine wpAny_pyIter_tuple (show s1.heap.IsTuple a its.toArray from p) ?_;refine ⟨s1.heap.objs.size,[s1.heap.objs.size],_,_,H1,rfl,I1.kept (t':=s1.toks) fun b o e=>aaf _ e,mr a _,⟨_,aaz _ rfl,rfl,rfl⟩,fun b hb=>?_,q⟩;have e:b=s1.heap.objs.size:=by simpa using hb
  subst e;exact I1.fpOk (aag _) (I1.hok.fresh (aag _))
theorem qD {pins:List (Addr × Obj)} {σ:St} {H:Hp} {s:Shared} {R:It→Hp→Prop} {E:Value→Shared→Prop} {lo hi:Int} {t u v:Tok} {tk:Nat} (I:Inv X pins σ H s) (h1:-(2 ^ 62)≤lo) (h2:lo < 2 ^ 62) (h3:-(2 ^ 62)≤hi) (h4:hi < 2 ^ 62)
    (q:R (Itr lo (hi - lo).toNat) H):wpAny (model X.prog X.w) X.A (pyIter (.ref s.heap.objs.size)) (PIE X pins σ tg R) E { s with heap:=s.heap.push { cls:=.type "range",data:=.fields #[.int lo t,.int hi u,.int 1 v] },toks:=tk }:=by
  refine wpAny_pyIter_range (IsRange.new ..) (small_one h1 h2 h3 h4) ?_;have I1:Inv X pins σ H { s with heap:=s.heap.push { cls:=.type "range",data:=.fields #[.int lo t,.int hi u,.int 1 v] },toks:=tk }:=I.kept fun b o e=>aaf _ e;refine ⟨(s.heap.push { cls:=.type "range",data:=.fields #[.int lo t,.int hi u,.int 1 v] }).objs.size,[(s.heap.push { cls:=.type "range",data:=.fields #[.int lo t,.int hi u,.int 1 v] }).objs.size],_,_,H,rfl,
    I1.kept (t':=tk) fun b o e=>aaf _ e,mt _ lo (hi - lo).toNat,?_,fun b hb=>?_,q⟩
  · have e1:lo+((0:Nat):Int) * 1=lo:=by simp
    have e2:(((hi - lo).toNat:Nat):Int) - ((0:Nat):Int)=Builtin.Range.rangeSize lo hi 1:=by rw [rangeSize_one];split <;> lia
    show IsRangeIter _ _ (lo+((0:Nat):Int) * 1) ((((hi - lo).toNat:Nat):Int) - ((0:Nat):Int)) 1;rw [e1,e2];exact aaz _ rfl
  · have e:b=(s.heap.push { cls:=.type "range",data:=.fields #[.int lo t,.int hi u,.int 1 v] }).objs.size:=by simpa using hb
    subst e;exact I1.fpOk (aag _) (I1.hok.fresh (aag _))
def wM (ta:TA):TI:=fun σ H R=>ta σ H fun vs H1=>∃ j:Int,vs=[.int j]∧-(2 ^ 62)≤j∧j < 2 ^ 62∧R (Itr 0 j.toNat) H1
theorem df {a:Expr} {ta:TA} {p pos:Pos} (hg:Gl X "range") (hm:X.mg "range" = none) (ha:PA X [a] ta) (hs:starEach [a] X.env=[(false,eval a X.env)]:=by rfl):PI X tg (.Call (.Name "range" p) [a] [] pos) (wM ta):=by
  intro pins s σ H R I h;refine Call_ (f_ I hg hm boot_range (abg (thn (ha pos pins s σ H _ I h) fun us s1 ⟨vs,H1,I1,r1,q1⟩=>?_) hs rfl));obtain ⟨j,e,q1,q2,q⟩:=q1;subst e;cases r1 with
  | cons r rr =>
    cases rr;obtain ⟨t,rfl⟩:=r;exact call_range_1 (qD I1 (by lia) (by lia) q1 q2 (by simpa using q))
def xn (wi:TI) (g:TG) (tb:TS):TS:=fun D σ H=>wi σ H fun J H1=>∃ W:Nat→Nat→St→Hp→Prop,(∃ m,W 0 m σ H1)∧∀ i m σ H,W i m σ H →
  (J.stop i H∧D.nx σ H)∨(J.go i H∧∃ N:St→Hp→Prop,(∀ σ' H',N σ' H'→∃ m',m' < m∧W (i+1) m' σ' H')∧∀ x H',J.yld i H x H'→g x σ H' fun σ2 H2=>tb { D with nx:=N,ct:=N,bk:=D.nx } σ2 H2)
def bf (fp:List Addr) (h:Heap):List (Addr × Obj):=fp.filterMap fun b=>(h.get? b).map fun o=>(b,o)
theorem bh {fp:List Addr} {h:Heap} {b:Addr} {o:Obj} (hb:b∈fp) (e:h.get? b=some o):(b,o)∈bf fp h:=List.mem_filterMap.mpr ⟨b,hb,by rw [e];rfl⟩
theorem dh {fp:List Addr} {h:Heap} {p:Addr × Obj} (hp:p∈bf fp h):p.1∈fp∧h.get? p.1=some p.2:=by
  obtain ⟨b,hb,e⟩:=List.mem_filterMap.mp hp;cases q:h.get? b with
  | none=>rw [q] at e;cases e
  | some o =>
    rw [q] at e;have e':(b,o)=p:=aaV e;subst e';exact ⟨hb,q⟩
theorem Inv.pinned {pins:List (Addr × Obj)} {σ:St} {H:Hp} {s:Shared} {fp:List Addr} (I:Inv X pins σ H s) (hf:∀ b∈fp,gC X pins H b) (ho:∀ b∈fp,∃ o,s.heap.get? b=some o∧∀ v,o.data≠.cell v):Inv X (pins++bf fp s.heap) σ H s :=
  I.pins_of fun p hp=>(aao.mp hp).elim (fun z=>I.pin p (aab _ z)) fun z=>by
    obtain ⟨hb,e⟩:=dh z;obtain ⟨f0,f1,f2,_⟩:=hf p.1 hb;obtain ⟨o,e',d⟩:=ho p.1 hb;rw [e] at e';cases e';exact ⟨e,f0,f1,f2,d⟩
theorem Inv.unpinned {pins pl:List (Addr × Obj)} {σ:St} {H:Hp} {s:Shared} (I:Inv X (pins++pl) σ H s):Inv X pins σ H s:=I.pins_of fun p hp=>I.pin p (aab _ (aa8 _ hp))
theorem fj {iter:Expr} {body:List Stmt} {wi:TI} {g:TG} {tb:TS} {pos:Pos} (hp:PassesOwn (model X.prog X.w) X.A X.env X.xe) (hc:X.calm=true) (hi:PI X tg iter wi) (hg:PG X tg g) (hb:PSs X body tb)
    (hs:∀ x,foldedSetIterable iter X.env x=pure x:=by intro _;rfl):PS X (.For tg iter body [] pos) (xn wi g tb):=by
  intro pins s σ H D I h;refine wpAny_For (thn (hi pins s σ H _ I h) fun v s1 h1=>thn h1 fun itv s2 h2=>?_) hs;obtain ⟨it,fp,tn,J,H2,e,I2,T,st2,f2,W,⟨m0,w0⟩,turn⟩:=h2;subst e;have stat:∀ {H':Hp},(∀ b∈fp,H' b=none)→∀ b∈fp,gC X pins H' b:=fun hn b hb=>⟨hn b hb,(f2 b hb).2⟩
  refine codeAny_forLoop_any (fun n s'=>∃ i σ' H',Inv X pins σ' H' s'∧tn i s'.heap∧(∀ b∈fp,H' b=none)∧W i n σ' H') ?_ m0 ⟨0,σ,H2,I2,st2,fun b hb=>(f2 b hb).1,w0⟩;rintro n s3 ⟨i,σ3,H3,I3,st3,fr3,w3⟩;rcases turn i n σ3 H3 w3 with ⟨stop,qn⟩|⟨go,N,hN,step⟩
  · refine wpAny_passesOwn hp (thn (T.done X rfl rfl rfl hc i pins s3 σ3 H3 X.xe I3 (stat fr3) st3 stop) fun r s4 ⟨hr,I4⟩=>?_);subst hr;exact wpAny_execs_nil ⟨σ3,H3,I4,qn⟩
  · refine wpAny_passesOwn hp (thn (T.item X rfl rfl rfl hc i pins s3 σ3 H3 X.xe I3 (stat fr3) st3 go) fun r s4 ⟨u,hr,h4⟩=>?_);subst hr;refine wpAny_passesOwn hp (thn h4 fun _ s5 ⟨x,H5,I5,r5,y5,st5,fr5⟩=>?_);have I5':=I5.pinned (stat fr5) (T.obj _ _ st5);refine wpAny_passesOwn hp (thn (hg _ s5 σ3 H5 x u _ I5' r5 (step x H5 y5)) fun _ s6 ⟨σ6,H6,I6,q6⟩=>?_);refine wpAny_passesOwn hp (thn (hb _ s6 σ6 H6 _ I6 q6) fun f s7 q7=>?_);have again:∀ {σ7:St} {H7:Hp},Inv X (pins++bf fp s5.heap) σ7 H7 s7→N σ7 H7→∃ m,m < n∧∃ i σ' H',Inv X pins σ' H' s7∧tn i s7.heap∧(∀ b∈fp,H' b=none)∧W i m σ' H':=fun {σ7 H7} I7 n7=>by
      obtain ⟨m',hm,w7⟩:=hN σ7 H7 n7;refine ⟨m',hm,i+1,σ7,H7,I7.unpinned,T.keep _ _ _ st5 fun b hb o e=>(I7.pin (b,o) (aab _ (aab _ (bh hb e)))).1,fun b hb=>?_,w7⟩;obtain ⟨o,e,d⟩:=T.obj _ _ st5 b hb;exact (I7.pin (b,o) (aab _ (aab _ (bh hb e)))).2.1
    cases f with
    | next=>obtain ⟨σ7,H7,I7,n7⟩:=q7;exact again I7 n7
    | cont=>obtain ⟨σ7,H7,I7,n7⟩:=q7;exact again I7 n7
    | brk=>obtain ⟨σ7,H7,I7,q7⟩:=q7;exact ⟨σ7,H7,I7.unpinned,q7⟩
    | ret v=>obtain ⟨x7,σ7,H7,I7,r7,q7⟩:=q7;exact ⟨x7,σ7,H7,I7.unpinned,r7,q7⟩
end
theorem hJ {lo:Int} {n:Nat} {g:TG} {tb:TS} {D:Ends} {σ:St} {H:Hp} (Pv:Nat→St→Hp→Prop) (h0:Pv 0 σ H)
    (hs:∀ i σ H,i < n→Pv i σ H→g (.int (lo+i)) σ H fun σ2 H2=>tb { D with nx:=Pv (i+1),ct:=Pv (i+1),bk:=D.nx } σ2 H2) (hd:∀ σ H,Pv n σ H→D.nx σ H) :
    ∃ W:Nat→Nat→St→Hp→Prop,(∃ m,W 0 m σ H)∧∀ i m σ H,W i m σ H →
      ((Itr lo n).stop i H∧D.nx σ H)∨((Itr lo n).go i H∧∃ N:St→Hp→Prop,(∀ σ' H',N σ' H'→∃ m',m' < m∧W (i+1) m' σ' H')∧∀ x H',(Itr lo n).yld i H x H'→g x σ H' fun σ2 H2=>tb { D with nx:=N,ct:=N,bk:=D.nx } σ2 H2):=by
  refine ⟨fun i m σ H=>m=n - i∧i≤n∧Pv i σ H,⟨n,by simp,aaM _,h0⟩,?_⟩;rintro i m σ H ⟨rfl,hi,p⟩;by_cases hlt:i < n
  · refine .inr ⟨hlt,Pv (i+1),fun σ' H' p'=>⟨n - (i+1),by lia,rfl,hlt,p'⟩,fun x H' y=>?_⟩;obtain ⟨e,y⟩:=y;subst e y;exact hs i σ _ hlt p
  · have e:i=n:=by lia
    subst e;exact .inl ⟨aag _,hd σ H p⟩
open PySem PySem.Spec PyProof.Rows
abbrev R2:=V→V→Hp→VK→Prop
def OpR (X:Cx) (f:Value→Value→Sem Value) (r:R2):Prop :=
  ∀ (pins:List (Addr × Obj)) (s:Shared) (σ:St) (H:Hp) (x y:V) (v u:Value) (Q:VK),Inv X pins σ H s→RelV x v→RelV y u→r x y H Q →
    wpAny (model X.prog X.w) X.A (f v u) (EP X pins σ Q) X.xe s
def UnR (X:Cx) (f:Value→Sem Value) (r:V→Hp→VK→Prop):Prop :=
  ∀ (pins:List (Addr × Obj)) (s:Shared) (σ:St) (H:Hp) (x:V) (v:Value) (Q:VK),Inv X pins σ H s→RelV x v→r x H Q →
    wpAny (model X.prog X.w) X.A (f v) (EP X pins σ Q) X.xe s
def dE (X:Cx) (f:Value) (r:List V→Hp→VK→Prop):Prop :=
  ∀ (pins:List (Addr × Obj)) (s:Shared) (σ:St) (H:Hp) (xs:List V) (us:List Value) (Q:VK),Inv X pins σ H s→Vals xs us→r xs H Q →
    wpAny (model X.prog X.w) X.A (call f us) (EP X pins σ Q) X.xe s
def xG (X:Cx) (r:V→Hp→(Bool→Hp→Prop)→Prop):Prop :=
  ∀ (pins:List (Addr × Obj)) (s:Shared) (σ:St) (H:Hp) (x:V) (v:Value) (Q:Bool→Hp→Prop),Inv X pins σ H s→RelV x v→r x H Q →
    wpAny (model X.prog X.w) X.A (truthy v) (TP X pins σ Q) X.xe s
def tOp (r:R2) (ta tb:TE):TE:=fun σ H Q=>ta σ H fun x H1=>tb σ H1 fun y H2=>r x y H2 Q
def tUn (r:V→Hp→VK→Prop) (ta:TE):TE:=fun σ H Q=>ta σ H fun x H1=>r x H1 Q
def rI (C:Int→Int→Prop) (g:Int→Int→V):R2:=fun x y H Q=>∃ i j,x=.int i∧y=.int j∧C i j∧Q (g i j) H
def rI0 (g:Int→Int→V):R2:=fun x y H Q=>∃ i j,x=.int i∧y=.int j∧Q (g i j) H
def rU (g:Int→V):V→Hp→VK→Prop:=fun x H Q=>∃ i,x=.int i∧Q (g i) H
section
variable {X:Cx} {a b c:Expr} {ta tb tc:TE} {pos:Pos}
theorem vL (ha:PE X a ta) (hb:PE X b tb) {pins:List (Addr × Obj)} {s:Shared} {σ:St} {H:Hp} {R:V→V→Hp→Prop} (I:Inv X pins σ H s)
    (h:ta σ H fun x H1=>tb σ H1 fun y H2=>R x y H2) {Q:Value→Shared→Prop} {f:Value→Value→Sem Value}
    (hf:∀ v u s2 x y H2,Inv X pins σ H2 s2→RelV x v→RelV y u→R x y H2→wpAny (model X.prog X.w) X.A (f v u) Q X.xe s2) :
    wpAny (model X.prog X.w) X.A (eval a X.env) (fun v s₁=>wpAny (model X.prog X.w) X.A (eval b X.env) (fun u s₂=>wpAny (model X.prog X.w) X.A (f v u) Q X.xe s₂) X.xe s₁) X.xe s:=by
  refine thn (ha pins s σ H _ I h) fun v s1 ⟨x,H1,I1,r1,q1⟩=>?_;refine thn (hb pins s1 σ H1 _ I1 q1) fun u s2 ⟨y,H2,I2,r2,q2⟩=>?_;exact hf v u s2 x y H2 I2 r1 r2 q2
theorem al {op:Operator} {r:R2} (ho:OpR X (binaryOp op) r) (ha:PE X a ta) (hb:PE X b tb):PE X (.BinOp a op b pos) (tOp r ta tb):=by
  intro pins s σ H Q I h;exact wpAny_BinOp (vL ha hb I h fun v u s2 x y H2 I2 rx ry q=>ho pins s2 σ H2 x y v u Q I2 rx ry q)
theorem lC {op:UnaryOp} {r:V→Hp→VK→Prop} (ho:UnR X (unaryOp op) r) (ha:PE X a ta):PE X (.UnaryOp op a pos) (tUn r ta):=by
  intro pins s σ H Q I h;exact UnaryOp_ (thn (ha pins s σ H _ I h) fun v s1 ⟨x,H1,I1,r1,q1⟩=>ho pins s1 σ H1 x v Q I1 r1 q1)
theorem opI {f:Value→Value→Sem Value} {C:Int→Int→Prop} {g:Int→Int→Int}
    (rule:∀ (i j:Int) (t u:Tok) (s:Shared) (Q:Value→Shared→Prop) (E:Value→Shared→Prop),C i j→Q (.int (g i j) s.toks) { s with toks:=s.toks+1 }→wpAny (model X.prog X.w) X.A (f (.int i t) (.int j u)) Q E s) :
    OpR X f (rI C fun i j=>.int (g i j)):=by
  intro pins s σ H x y v u Q I rx ry h;obtain ⟨i,j,rfl,rfl,hc,q⟩:=h;obtain ⟨t,rfl⟩:=rx;obtain ⟨t',rfl⟩:=ry;exact rule i j t t' s _ _ hc ⟨.int (g i j),H,I.tok _,⟨_,rfl⟩,q⟩
theorem wF {f:Value→Value→Sem Value} {g:Int→Int→Int}
    (rule:∀ (i j:Int) (t u:Tok) (s:Shared) (Q:Value→Shared→Prop) (E:Value→Shared→Prop),Q (.int (g i j) s.toks) { s with toks:=s.toks+1 }→wpAny (model X.prog X.w) X.A (f (.int i t) (.int j u)) Q E s) :
    OpR X f (rI0 fun i j=>.int (g i j)):=by
  intro pins s σ H x y v u Q I rx ry h;obtain ⟨i,j,rfl,rfl,q⟩:=h;obtain ⟨t,rfl⟩:=rx;obtain ⟨t',rfl⟩:=ry;exact rule i j t t' s _ _ ⟨.int (g i j),H,I.tok _,⟨_,rfl⟩,q⟩
theorem sS {f:Value→Value→Sem Value} {g:Int→Int→Bool}
    (rule:∀ (i j:Int) (t u:Tok) (s:Shared) (Q:Value→Shared→Prop) (E:Value→Shared→Prop),Q (.bool (g i j)) s→wpAny (model X.prog X.w) X.A (f (.int i t) (.int j u)) Q E s) :
    OpR X f (rI0 fun i j=>.bl (g i j)):=by
  intro pins s σ H x y v u Q I rx ry h;obtain ⟨i,j,rfl,rfl,q⟩:=h;obtain ⟨t,rfl⟩:=rx;obtain ⟨t',rfl⟩:=ry;exact rule i j t t' s _ _ ⟨.bl (g i j),H,I,rfl,q⟩
def xH (i j:Int):Prop:=0 < j∧j < 1073741824
def xa (i j:Int):Prop:=0≤j∧j≤1000000∧i.natAbs < 2 ^ 64
def CMul (i j:Int):Prop:=(-(2 ^ 64) < i∧i < 2 ^ 64)∨(-(2 ^ 64) < j∧j < 2 ^ 64)
theorem CMul.ok {i j:Int} (h:CMul i j):IntMulOk i j:=by
  rcases h with ⟨h1,h2⟩|⟨h1,h2⟩
  · exact .of_left (intBits_le_64 h1 h2)
  · exact .of_right (intBits_le_64 h1 h2)
theorem bX:OpR X (binaryOp .Add) (rI0 fun i j=>.int (i+j)):=wF fun _ _ _ _ _ _ _ q=>add_int q
theorem dD:OpR X (binaryOp .Sub) (rI0 fun i j=>.int (i - j)):=wF fun _ _ _ _ _ _ _ q=>sub_int q
theorem fY:OpR X (binaryOp .Mult) (rI CMul fun i j=>.int (i * j)):=opI fun _ _ _ _ _ _ _ hc q=>mul_int q hc.ok
theorem fo:OpR X (binaryOp .Mod) (rI (fun _ j=>0 < j) fun i j=>.int (i % j)):=opI fun i j _ _ _ _ _ hc q=>by
  have h1:(0:Int) < j:=hc;exact mod_int' (by lia) (by rw [Int.fmod_eq_emod_of_nonneg i (by lia)];exact q)
theorem dN:OpR X (binaryOp .Pow) (rI xa fun i j=>.int (i ^ j.toNat)):=opI fun _ _ _ _ _ _ _ hc q=>pow_int_small hc.1 hc.2.1 hc.2.2 q
theorem unI {f:Value→Sem Value} {g:Int→Int}
    (rule:∀ (i:Int) (t:Tok) (s:Shared) (Q:Value→Shared→Prop) (E:Value→Shared→Prop),Q (.int (g i) s.toks) { s with toks:=s.toks+1 }→wpAny (model X.prog X.w) X.A (f (.int i t)) Q E s) :
    UnR X f (rU fun i=>.int (g i)):=by
  intro pins s σ H x v Q I rx h;obtain ⟨i,rfl,q⟩:=h;obtain ⟨t,rfl⟩:=rx;exact rule i t s _ _ ⟨.int (g i),H,I.tok _,⟨_,rfl⟩,q⟩
theorem iF:UnR X (unaryOp .USub) (rU fun i=>.int (-i)):=unI fun _ _ _ _ _ q=>neg_int q
end
def v7:V→V→Bool
  | .non,.non=>true|.non,.int _=>true|.int _,.non=>true|.non,.bl _=>true|.bl _,.non=>true|.non,.str _=>true|.str _,.non=>true
  | .int _,.int _=>true|.bl _,.bl _=>true|.str _,.str _=>true|.byt _,.byt _=>true
  | .int _,.str _=>true|.str _,.int _=>true|.bl _,.str _=>true|.str _,.bl _=>true
  | _,_=>false
def rEq:R2:=fun x y H Q=>v7 x y=true∧Q (.bl (decide (x=y))) H
def rNe:R2:=fun x y H Q=>v7 x y=true∧Q (.bl (!decide (x=y))) H
theorem oQ {i j:Int}:decide (V.int i=V.int j)=(i == j):=by
  rw [abd];simp
theorem rP {i j:Bool}:decide (V.bl i=V.bl j)=(i == j):=by
  rw [abd];simp
theorem oP {i j:Str}:decide (V.str i=V.str j)=(i == j):=by
  rw [abd];simp
theorem oR {i j:Array UInt8}:decide (V.byt i=V.byt j)=(i.toList == j.toList):=by
  rw [abd];cases i;cases j;simp
section
variable {X:Cx} {a b c:Expr} {ta tb tc:TE} {pos:Pos}
theorem aY {pins:List (Addr × Obj)} {σ:St} {H:Hp} {s:Shared} {Q:VK} {k k':Bool} (I:Inv X pins σ H s) (q:Q (.bl k) H) (e:k=k'):EP X pins σ Q (.bool k') s:=by
  subst e;exact ⟨.bl k,H,I,rfl,q⟩
theorem bV:OpR X (compareOp .Eq) rEq:=by
  intro pins s σ H x y v u Q I rx ry h;obtain ⟨hs,q⟩:=h;cases x with
  | non =>
    cases rx;cases y with
    | non=>cases ry;exact PySem.EqNone.eq_none_none (aY I q (by simp))
    | bl j=>cases ry;exact PySem.EqNone.eq_none_bool (aY I q (by simp))
    | int j=>obtain ⟨t',rfl⟩:=ry;exact PySem.EqNone.eq_none_int (aY I q (by simp))
    | str j=>obtain ⟨t',rfl⟩:=ry;exact PySem.EqNone.eq_none_str (aY I q (by simp))
    | _=>exact absurd (show false=true from hs) aai
  | bl i =>
    cases rx;cases y with
    | non=>cases ry;exact PySem.EqNone.eq_bool_none (aY I q (by simp))
    | bl j=>cases ry;exact eq_bool (aY I q rP)
    | str j=>obtain ⟨t',rfl⟩:=ry;exact PySem.EqMixed.eq_bool_str (aY I q (by simp))
    | _=>exact absurd (show false=true from hs) aai
  | int i =>
    obtain ⟨t,rfl⟩:=rx;cases y with
    | non=>cases ry;exact PySem.EqNone.eq_int_none (aY I q (by simp))
    | int j=>obtain ⟨t',rfl⟩:=ry;exact eq_int (aY I q oQ)
    | str j=>obtain ⟨t',rfl⟩:=ry;exact PySem.EqMixed.eq_int_str (aY I q (by simp))
    | _=>exact absurd (show false=true from hs) aai
  | str i =>
    obtain ⟨t,rfl⟩:=rx;cases y with
    | non=>cases ry;exact PySem.EqNone.eq_str_none (aY I q (by simp))
    | bl j=>cases ry;exact PySem.EqMixed.eq_str_bool (aY I q (by simp))
    | int j=>obtain ⟨t',rfl⟩:=ry;exact PySem.EqMixed.eq_str_int (aY I q (by simp))
    | str j=>obtain ⟨t',rfl⟩:=ry;exact eq_str (aY I q oP)
    | _=>exact absurd (show false=true from hs) aai
  | byt i =>
    obtain ⟨t,rfl⟩:=rx;cases y with
    | byt j=>obtain ⟨t',rfl⟩:=ry;exact PySem.W.eq_bytes (aY I q oR)
    | _=>exact absurd (show false=true from hs) aai
  | _=>cases y <;> exact absurd (show false=true from hs) aai
theorem ia:OpR X (compareOp .NotEq) rNe:=by
  intro pins s σ H x y v u Q I rx ry h;obtain ⟨hs,q⟩:=h;cases x with
  | non =>
    cases rx;cases y with
    | non=>cases ry;exact PySem.EqNone.ne_none_none (aY I q (by simp))
    | bl j=>cases ry;exact PySem.EqNone.ne_none_bool (aY I q (by simp))
    | int j=>obtain ⟨t',rfl⟩:=ry;exact PySem.EqNone.ne_none_int (aY I q (by simp))
    | str j=>obtain ⟨t',rfl⟩:=ry;exact PySem.EqNone.ne_none_str (aY I q (by simp))
    | _=>exact absurd (show false=true from hs) aai
  | bl i =>
    cases rx;cases y with
    | non=>cases ry;exact PySem.EqNone.ne_bool_none (aY I q (by simp))
    | bl j=>cases ry;exact ne_bool (aY I q (congrArg not rP))
    | str j=>obtain ⟨t',rfl⟩:=ry;exact PySem.EqMixed.ne_bool_str (aY I q (by simp))
    | _=>exact absurd (show false=true from hs) aai
  | int i =>
    obtain ⟨t,rfl⟩:=rx;cases y with
    | non=>cases ry;exact PySem.EqNone.ne_int_none (aY I q (by simp))
    | int j=>obtain ⟨t',rfl⟩:=ry;exact ne_int (aY I q (congrArg not oQ))
    | str j=>obtain ⟨t',rfl⟩:=ry;exact PySem.EqMixed.ne_int_str (aY I q (by simp))
    | _=>exact absurd (show false=true from hs) aai
  | str i =>
    obtain ⟨t,rfl⟩:=rx;cases y with
    | non=>cases ry;exact PySem.EqNone.ne_str_none (aY I q (by simp))
    | bl j=>cases ry;exact PySem.EqMixed.ne_str_bool (aY I q (by simp))
    | int j=>obtain ⟨t',rfl⟩:=ry;exact PySem.EqMixed.ne_str_int (aY I q (by simp))
    | str j=>obtain ⟨t',rfl⟩:=ry;exact ne_str (aY I q (congrArg not oP))
    | _=>exact absurd (show false=true from hs) aai
  | byt i =>
    obtain ⟨t,rfl⟩:=rx;cases y with
    | byt j=>obtain ⟨t',rfl⟩:=ry;exact PySem.W.ne_bytes (aY I q (congrArg not oR))
    | _=>exact absurd (show false=true from hs) aai
  | _=>cases y <;> exact absurd (show false=true from hs) aai
theorem lD:OpR X (compareOp .Lt) (rI0 fun i j=>.bl (decide (i < j))):=sS fun _ _ _ _ _ _ _ q=>lt_int q
theorem jG:OpR X (compareOp .LtE) (rI0 fun i j=>.bl (decide (i≤j))):=sS fun _ _ _ _ _ _ _ q=>le_int q
theorem jH:OpR X (compareOp .Gt) (rI0 fun i j=>.bl (decide (j < i))):=sS fun _ _ _ _ _ _ _ q=>gt_int q
theorem wE:OpR X (compareOp .GtE) (rI0 fun i j=>.bl (decide (j≤i))):=sS fun _ _ _ _ _ _ _ q=>ge_int q
theorem o_:OpR X (compareOp .In) (fun x y H Q=>∃ i j,x=.str i∧y=.str j∧Q (.bl (!(aa5 j i 0 j.length 1).isEmpty)) H):=by
  intro pins s σ H x y v u Q I rx ry h;obtain ⟨i,j,rfl,rfl,q⟩:=h;obtain ⟨t,rfl⟩:=rx;obtain ⟨t',rfl⟩:=ry;exact in_str (aY I q rfl)
theorem fZ:OpR X (compareOp .Is) (fun x y H Q=>y=.non∧Q (.bl (decide (x=.non))) H):=by
  intro pins s σ H x y v u Q I rx ry h;obtain ⟨rfl,q⟩:=h;cases ry;refine is_none_gen (aY I q ?_);cases x <;> first
    | (cases rx;rfl)
    | (obtain ⟨t,rfl⟩:=rx;rfl)
theorem sR:OpR X (compareOp .IsNot) (fun x y H Q=>y=.non∧Q (.bl (!decide (x=.non))) H):=by
  intro pins s σ H x y v u Q I rx ry h;obtain ⟨rfl,q⟩:=h;cases ry;refine isnot_none_gen (aY I q ?_);cases x <;> first
    | (cases rx;rfl)
    | (obtain ⟨t,rfl⟩:=rx;rfl)
theorem aw (b:Expr) {op:CmpOp} (h:op≠.In:=by decide) (h2:op≠.NotIn:=by decide):behindInMarks op b=false:=by
  have e1:(op == CmpOp.In)=false:=by cases op <;> first|rfl|exact absurd rfl h
  have e2:(op == CmpOp.NotIn)=false:=by cases op <;> first|rfl|exact absurd rfl h2
  cases b <;> simp [behindInMarks,e1,e2]
theorem bM {op:CmpOp} {r:R2} (ho:OpR X (compareOp op) r) (ha:PE X a ta) (hb:PE X b tb) (hm:behindInMarks op b=false):PE X (.Compare a [op] [b] pos) (tOp r ta tb):=by
  intro pins s σ H Q I h;exact wpAny_Compare1 (vL ha hb I h fun v u s2 x y H2 I2 rx ry q=>ho pins s2 σ H2 x y v u Q I2 rx ry q) hm
def tU (t:TE):TT:=fun σ H Q=>t σ H fun x H'=>∃ k,x=.bl k∧Q k H'
theorem ap {op:CmpOp} {r:R2} (ho:OpR X (compareOp op) r) (ha:PE X a ta) (hb:PE X b tb) (hm:behindInMarks op b=false):PT X (.Compare a [op] [b] pos) (tU (tOp r ta tb)):=by
  intro pins s σ H Q I h;refine wpAny_isTrue_Compare1 (thn (ha pins s σ H _ I h) fun v s1 ⟨x,H1,I1,r1,q1⟩=>thn (hb pins s1 σ H1 _ I1 q1) fun u s2 ⟨y,H2,I2,r2,q2⟩ =>
    thn (ho pins s2 σ H2 x y v u _ I2 r1 r2 q2) fun c s3 ⟨z,H3,I3,r3,k,e,q3⟩=>?_) hm
  subst e;cases r3;exact wpAny_truthy_bool ⟨H3,I3,q3⟩
def ql (r r':R2) (ta tb tc:TE):TE:=fun σ H Q=>ta σ H fun x H1=>tb σ H1 fun y H2=>r x y H2 fun z H3=>∃ k,z=.bl k ∧
  (if k=true then tc σ H3 fun w' H4=>r' y w' H4 Q else Q (.bl false) H3)
theorem qL {op op':CmpOp} {r r':R2} (ho:OpR X (compareOp op) r) (ho':OpR X (compareOp op') r') (ha:PE X a ta) (hb:PE X b tb) (hc:PE X c tc)
    (hm:lastMarks [op,op'] [b,c]=false:=by with_unfolding_all rfl):PE X (.Compare a [op,op'] [b,c] pos) (ql r r' ta tb tc):=by
  intro pins s σ H Q I h;refine Compare_chain (thn (ha pins s σ H _ I h) fun v s1 ⟨x,H1,I1,r1,q1⟩=>chain_link (thn (hb pins s1 σ H1 _ I1 q1) fun u s2 ⟨y,H2,I2,r2,q2⟩ =>
    thn (ho pins s2 σ H2 x y v u _ I2 r1 r2 q2) fun d s3 ⟨z,H3,I3,r3,k,e,q3⟩=>?_)) hm
  subst e;cases r3;refine wpAny_truthy_bool ?_;cases k with
  | false=>exact ite_ff ⟨.bl false,H3,I3,rfl,q3⟩
  | true=>exact ite_tt (chain_last (thn (hc pins s3 σ H3 _ I3 q3) fun w' s4 ⟨z',H4,I4,r4,q4⟩=>ho' pins s4 σ H4 y z' u w' Q I4 r2 r4 q4))
theorem qE {op op':CmpOp} {r r':R2} (ho:OpR X (compareOp op) r) (ho':OpR X (compareOp op') r') (ha:PE X a ta) (hb:PE X b tb) (hc:PE X c tc)
    (hm:lastMarks [op,op'] [b,c]=false:=by with_unfolding_all rfl):PT X (.Compare a [op,op'] [b,c] pos) (tU (ql r r' ta tb tc)):=by
  intro pins s σ H Q I h;refine isTrue_chain (thn (ha pins s σ H _ I h) fun v s1 ⟨x,H1,I1,r1,q1⟩=>test_link (thn (hb pins s1 σ H1 _ I1 q1) fun u s2 ⟨y,H2,I2,r2,q2⟩ =>
    thn (ho pins s2 σ H2 x y v u _ I2 r1 r2 q2) fun d s3 ⟨z,H3,I3,r3,k,e,q3⟩=>?_)) hm
  subst e;cases r3;refine wpAny_truthy_bool ?_;cases k with
  | false =>
    obtain ⟨k',e',q'⟩:=q3;cases e';exact ite_ff ⟨H3,I3,q'⟩
  | true =>
    refine ite_tt (test_last (thn (hc pins s3 σ H3 _ I3 q3) fun w' s4 ⟨z',H4,I4,r4,q4⟩=>thn (ho' pins s4 σ H4 y z' u w' _ I4 r2 r4 q4) fun d' s5 ⟨z2,H5,I5,r5,k2,e2,q5⟩=>?_));subst e2;cases r5;exact wpAny_truthy_bool ⟨H5,I5,q5⟩
def vM (K:aaa) (x:V) (H:Hp) (k:Bool):Prop :=
  match x with
  | .non=>k=false
  | .bl b=>k=b
  | .int i=>k=(i != 0)
  | .str y=>y.length≤sizeLine∧k=((y.length:Int) != 0)
  | .byt y=>y.size≤sizeLine∧k=((y.size:Int) != 0)
  | .ref p=>(∃ xs,SqL K H p xs∧k=!xs.isEmpty)∨(∃ xs,SqT K H p xs∧k=!xs.isEmpty)∨∃ kvs,H p=some (.dK kvs)∧k=!kvs.isEmpty
  | _=>False
theorem nC {κ:Type} {kvs:List (κ × V)} {vs:List (κ × Value)} (r:KV kvs vs):(!vs.isEmpty)=!kvs.isEmpty:=by
  cases r <;> rfl
theorem jf {xs:List V} {its:List Value} (r:Vals xs its):(!its.toArray.isEmpty)=!xs.isEmpty:=by
  cases r <;> simp
theorem g8:(sizeLine:Nat) < 2 ^ 63:=by rw [sizeLine_eq];decide
theorem qk:xG X (fun x H Q=>∃ k,vM X.K x H k∧Q k H):=by
  intro pins s σ H x v Q I rx h;obtain ⟨k,e,q⟩:=h;have hl:=g8;have hs:sizeLine=16777216:=sizeLine_eq;cases x with
  | non =>
    cases rx;have e':k=false:=e;subst e';exact truthy_none ⟨H,I,q⟩
  | bl b =>
    cases rx;have e':k=b:=e;subst e';exact wpAny_truthy_bool ⟨H,I,q⟩
  | int i =>
    obtain ⟨t,rfl⟩:=rx;have e':k=(i != 0):=e;subst e';exact PySem.P.truthy_int ⟨H,I,q⟩
  | str y =>
    obtain ⟨t,rfl⟩:=rx;obtain ⟨hy,e'⟩:y.length≤sizeLine∧k=((y.length:Int) != 0):=e;subst e';exact PySem.P.truthy_str (by lia) ⟨H,I.tok _,q⟩
  | byt y =>
    obtain ⟨t,rfl⟩:=rx;obtain ⟨hy,e'⟩:y.size≤sizeLine∧k=((y.size:Int) != 0):=e;subst e';exact PySem.W.truthy_bytes (by lia) ⟨H,I.tok _,q⟩
  | ref p =>
    cases rx;have e':(∃ xs,SqL X.K H p xs∧k=!xs.isEmpty)∨(∃ xs,SqT X.K H p xs∧k=!xs.isEmpty)∨∃ kvs,H p=some (.dK kvs)∧k=!kvs.isEmpty:=e;rcases e' with ⟨xs,hx,e'⟩|⟨xs,hx,e'⟩|⟨kvs,hx,e'⟩
    · subst e';obtain ⟨its,r,pl,hz⟩:=I.list hx;have hlen:=r.length;exact wpAny_truthy_list pl.isList (by simp only [aam];lia) ⟨H,I.tok _,by rw [jf r];exact q⟩
    · subst e';obtain ⟨its,r,pl,hz⟩:=I.tuple hx;have hlen:=r.length;exact truthy_tuple pl (by simp only [aam];lia) ⟨H,I.tok _,by rw [jf r];exact q⟩
    · subst e';obtain ⟨hz,hS,vs,r,m⟩:kvs.length≤sizeLine∧(p == sysModules)=false∧∃ vs,KV kvs vs∧s.heap.DictOf (ba X.prog X.w) p vs:=I.hok p _ hx;have hlen:kvs.length=vs.length:=acg r;exact wpAny_truthy_dict hS m (by lia) ⟨H,I.tok _,by rw [nC r];exact q⟩
  | _=>exact (show False from e).elim
theorem gj (ha:PE X a ta) (he:∀ whole,isTrue a X.env whole=(do let v ← whole;standAt a.pos;holding [v] (truthy v))) :
    PT X a (fun σ H Q=>ta σ H fun x H'=>∃ k,vM X.K x H' k∧Q k H'):=by
  intro pins s σ H Q I h;exact isTrue_plain (thn (ha pins s σ H _ I h) fun v s1 ⟨x,H1,I1,r1,q1⟩=>qk pins s1 σ H1 x v Q I1 r1 q1) (he _)
theorem iS:OpR X (binaryOp .Add) (fun x y H Q=>∃ i j,x=.str i∧y=.str j∧i.length+j.length≤sizeLine∧Q (.str (i++j)) H):=by
  intro pins s σ H x y v u Q I rx ry h;obtain ⟨i,j,rfl,rfl,hz,q⟩:=h;obtain ⟨t,rfl⟩:=rx;obtain ⟨t',rfl⟩:=ry;exact add_str (fun t' tk=>⟨.str (i++j),H,I.tok _,⟨_,rfl⟩,q⟩) hz
theorem bU {x:V} {us:List Value} (r:Vals [x] us):∃ u,us=[u]∧RelV x u:=by
  cases r with
  | cons r1 r2=>cases r2;exact ⟨_,rfl,r1⟩
theorem n0 {x y:V} {us:List Value} (r:Vals [x,y] us):∃ u w',us=[u,w']∧RelV x u∧RelV y w':=by
  cases r with
  | cons r1 r2 =>
    cases r2 with
    | cons r3 r4=>cases r4;exact ⟨_,_,rfl,r1,r3⟩
theorem sh:dE X (.builtin "abs") (fun xs H Q=>∃ i,xs=[.int i]∧Q (.int (if i < 0 then -i else i)) H):=by
  intro pins s σ H xs us Q I r h;obtain ⟨i,rfl,q⟩:=h;obtain ⟨u,rfl,t,rfl⟩:=bU r;exact call_abs_int fun u tk=>⟨.int (if i < 0 then -i else i),H,I.tok _,⟨_,rfl⟩,q⟩
theorem jQ:dE X (.type "int") (fun xs H Q=>(∃ i,xs=[.int i]∧Q (.int i) H)∨∃ k,xs=[.bl k]∧Q (.int (if k then 1 else 0)) H):=by
  intro pins s σ H xs us Q I r h;rcases h with ⟨i,rfl,q⟩|⟨k,rfl,q⟩
  · obtain ⟨u,rfl,t,rfl⟩:=bU r;exact call_int_int ⟨.int i,H,I,⟨_,rfl⟩,q⟩
  · obtain ⟨u,rfl,r1⟩:=bU r;cases r1;exact call_int_bool ⟨.int (if k then 1 else 0),H,I.tok _,⟨_,rfl⟩,q⟩
theorem me:dE X (.builtin "divmod") (fun xs H Q=>∃ i j,xs=[.int i,.int j]∧xH i j∧∀ p,H p=none→Q (.ref p) (upd H p (.tup [.int (i / j),.int (i % j)]))):=by
  intro pins s σ H xs us Q I r h;obtain ⟨i,j,rfl,⟨h1,h2⟩,q⟩:=h;obtain ⟨u,w',rfl,⟨t,rfl⟩,⟨t',rfl⟩⟩:=n0 r;refine divmod_int (by lia) ?_ (.inl (PyProof.noPylong_small (by lia)));rw [Int.fdiv_eq_ediv_of_nonneg i (by lia),Int.fmod_eq_emod_of_nonneg i (by lia)];have hn:H s.heap.objs.size=none:=I.hok.fresh (aag _);refine ⟨.ref s.heap.objs.size,_,?_,rfl,q _ hn⟩;refine I.laid (fun b o e=>aaf _ e) (aag _) ⟨by simp only [aaD,abr];rw [sizeLine_eq];decide,[.int (i / j) s.toks,.int (i % j) (s.toks+1)],.cons ⟨_,rfl⟩ (.cons ⟨_,rfl⟩ .nil),?_⟩;exact ⟨_,aaz s.heap rfl,rfl,0,rfl⟩
end
open PySem PySem.Spec PyProof.Rows
structure ObjM (h:Heap) (x dx C:Addr) (mA:Str→Option Value):Prop where
  obj:h.get? x=some (PySem.W.instObj C dx)
  ns:h.Ns1 dx mA
  ne:dx≠x
theorem pH {h:Heap} {dx:Addr} {mA:Str→Option Value} (n:h.Ns1 dx mA):∃ od,h.get? dx=some od∧∀ name,PySem.W.lookIn name od=some (mA name):=by
  obtain ⟨o,es,ep,ho,hd,hk,_,hm⟩:=n;refine ⟨o,ho,fun name=>?_⟩;have e:=hm name;unfold nsFind findBy at e;rw [← Array.find?_toList] at e;unfold PySem.W.lookIn;rw [hd];dsimp only;split
  · rename_i y q;rw [q] at e;exact congrArg some e
  · rename_i q;rw [q] at e;have a:es.toList.any (·.refKey)=false:=by
      rw [List.any_eq_false];intro y hy;obtain ⟨z,t,hkey⟩:=hk y (Array.mem_toList_iff.mp hy);simp [DictEntry.refKey,hkey]
    have a':¬ es.toList.any (·.refKey)=true:=by rw [a];exact aai
    rw [if_neg a'];exact congrArg some e
theorem ObjM.look {h:Heap} {x dx C:Addr} {mA:Str→Option Value} (I:ObjM h x dx C mA):∃ od,PySem.W.InstAt h x (PySem.W.instObj C dx) C (some od)∧∀ name,PySem.W.lookIn name od=some (mA name) :=
  let ⟨od,ho,hl⟩:=pH I.ns
  ⟨od,⟨I.obj,rfl,rfl,ho⟩,hl⟩
section
variable {prog:Program} {w:World} {A:Around} {E:Value→Shared→Prop} {s:Shared} {K:aaa} {x dx C f:Addr} {mA:Str→Option Value} {name:Str} {v:Value}
end
section
variable {P:Program} {w:World} {H H':Hp} {h h':Heap} {a C dx:Addr} {fs fs':List (Str × V)}
theorem tI (hok:HOk P w H h) (e:H a=some (.ins C dx fs)):∃ mA,ObjM h a dx C mA∧(∀ f,RelO (fs.lookup f) (mA f))∧PySem.Within mA (fs.map (·.1))∧fs.length≤1000∧H dx=some (.own a):=by
  obtain ⟨d,z,ne,ob,mA,n,r,q⟩:=(show ObjOk P w H h a (.ins C dx fs) from hok a _ e)
  exact ⟨mA,⟨ob,n,ne⟩,r,q,z,d⟩
end
structure Cls (K:aaa) (C:Addr):Prop where
  pg:PySem.W.plainGet K C Str.empty=true
  hd:PySem.W.hasDictIn K C=true
  po:PySem.W.plainOver K C=true
  sa:aaP K (.ref C) "__setattr__" = some (some (.builtin "object.__setattr__"))
theorem Cls.get {K:aaa} {C:Addr} (c:Cls K C) (f:Str):PySem.W.plainGet K C f=true:=c.pg
structure Con (K:aaa) (C:Addr) (f:Str) (v:V) (u:Value):Prop where
  at_:aaP K (.ref C) f=some (some u)
  rel:RelV v u
  get:PySem.W.specialIn K u "__get__" = some none
  cp:PySem.W.copiedNames.contains f=false
structure Meth (K:aaa) (C:Addr) (m:Str) (f:Addr):Prop where
  at_:aaP K (.ref C) m=some (some (.ref f))
  fn:PySem.W.isFn K (.ref f)=true
  kp:abc K (.ref f)=true
section
variable {X:Cx} {pins:List (Addr × Obj)} {σ:St} {H:Hp} {s:Shared} {a C dx:Addr} {fs:List (Str × V)} {f:Str} {v:V} {A:Around} {E:Value→Shared→Prop}
end
section
variable {X:Cx} {o e value:Expr} {f:Str} {pos pos' tpos:Pos} {ta tv:TE}
end
section
variable {X:Cx} {pins:List (Addr × Obj)} {σ:St} {H:Hp} {s:Shared} {A:Around} {E:Value→Shared→Prop} {Q:Value→Shared→Prop} {c:Value} {b:Bool}
inductive TyOf (K:aaa) (H:Hp):V→Value→Prop where
  | non:TyOf K H .non (.type "NoneType")
  | bl (x:Bool):TyOf K H (.bl x) (.type "bool")
  | int (i:Int):TyOf K H (.int i) (.type "int")
  | str (x:Str):TyOf K H (.str x) (.type "str")
  | flt (x:UInt64):TyOf K H (.flt x) (.type "float")
  | lst {a:Addr} {xs:List V} (e:H a=some (.lst xs)):TyOf K H (.ref a) (.type "list")
  | frz {a:Addr} {o:Obj} {xs:List V} (e:H a=some (.frz o (.lst xs))):TyOf K H (.ref a) (.type "list")
  | tup {a:Addr} {xs:List V} (e:H a=some (.tup xs)):TyOf K H (.ref a) (.type "tuple")
  | dK {a:Addr} {kvs:List (Key × V)} (e:H a=some (.dK kvs)):TyOf K H (.ref a) (.type "dict")
  | dT {a:Addr} {kvs:List (List Key × V)} (e:H a=some (.dT kvs)):TyOf K H (.ref a) (.type "dict")
  | ins {a C dx:Addr} {fs:List (Str × V)} (e:H a=some (.ins C dx fs)) (cl:Cls K C) (ha:aaP K (.ref C) "__class__" = some (some (.builtin "object.__class__")))
      (hn:PySem.W.specialIn K (.builtin "object.__class__") "__get__" = some (some (.builtin "getset_descriptor.__get__"))) (htk:PySem.W.takesIn K (.builtin "object.__class__")=some true)
      (hm:PySem.W.mroIn K C (.type "object")=some true):TyOf K H (.ref a) (.ref C)
theorem pO {x:V} {u t:Value} (I:Inv X pins σ H s) (rx:RelV x u) (ty:TyOf X.K H x t) (e:aaE X.K t c=some b) (h:∀ tk,Q (.bool b) { s with toks:=tk }) :
    wpAny (model X.prog X.w) A (call (.builtin "isinstance") [u,c]) Q E s:=by
  cases ty with
  | non=>cases (show u=Value.none from rx);exact aaX PySem.W.kitx_none I.kIn True.intro e (fun z=>nomatch z) h
  | bl y=>cases (show u=Value.bool y from rx);exact aaX PySem.W.kitx_bool I.kIn True.intro e (fun z=>nomatch z) h
  | int i=>obtain ⟨t,q⟩:=(show ∃ t,u=Value.int i t from rx);cases q;exact aaX PySem.W.kitx_int I.kIn True.intro e (fun z=>nomatch z) h
  | str y=>obtain ⟨t,q⟩:=(show ∃ t,u=Value.str y t from rx);cases q;exact aaX PySem.W.kitx_str I.kIn True.intro e (fun z=>nomatch z) h
  | flt y=>obtain ⟨t,q⟩:=(show ∃ t,u=Value.float y t from rx);cases q;exact aaX PySem.W.kitx_float I.kIn True.intro e (fun z=>nomatch z) h
  | @lst a xs ea =>
    cases (show u=Value.ref a from rx);obtain ⟨_,_,n,_,h1⟩:=(show ObjOk X.prog X.w H s.heap a (.lst xs) from I.hok a _ ea)
    exact aaX PySem.W.kitx_list I.kIn ⟨_,h1,rfl⟩ e (fun z=>nomatch z) h
  | @frz a ob xs ea =>
    cases (show u=Value.ref a from rx);obtain ⟨_,_,_,n,_,h1⟩:=(show ObjOk X.prog X.w H s.heap a (.frz ob (.lst xs)) from I.hok a _ ea)
    exact aaX PySem.W.kitx_list I.kIn ⟨_,h1,rfl⟩ e (fun z=>nomatch z) h
  | @tup a xs ea =>
    cases (show u=Value.ref a from rx);obtain ⟨_,_,_,p⟩:=(show ObjOk X.prog X.w H s.heap a (.tup xs) from I.hok a _ ea)
    obtain ⟨o,h1,h2,_⟩:=p;exact aaX PySem.W.kitx_tuple I.kIn ⟨o,h1,h2⟩ e (fun z=>nomatch z) h
  | @dK a kvs ea =>
    cases (show u=Value.ref a from rx);obtain ⟨_,_,vs,_,p⟩:=(show ObjOk X.prog X.w H s.heap a (.dK kvs) from I.hok a _ ea)
    obtain ⟨o,es,ep,h1,h2,_⟩:=p;exact aaX PySem.W.kitx_dict I.kIn ⟨o,h1,h2.1⟩ e (fun z=>nomatch z) h
  | @dT a kvs ea =>
    cases (show u=Value.ref a from rx);obtain ⟨_,_,xs,_,o,es,ep,h1,h2,_⟩:=(show ObjOk X.prog X.w H s.heap a (.dT kvs) from I.hok a _ ea)
    exact aaX PySem.W.kitx_dict I.kIn ⟨o,h1,h2.1⟩ e (fun z=>nomatch z) h
  | @ins a C dx fs ea cl ha hn htk hm =>
    cases (show u=Value.ref a from rx);obtain ⟨mA,O,_⟩:=tI I.hok ea;obtain ⟨od,J,_⟩:=O.look;exact aaX (PySem.W.kitx_own (cl.get _) cl.hd ha hn htk hm) I.kIn J e (fun z=>nomatch z) h
end
open PySem PySem.Spec PyProof.Rows
structure Room (k:Nat) (A:Around):Prop where
  hd:A.handled=none
  dp:A.depth+3 * k+5 < recursionLimit
  un:A.units+16 * k+200 < cLine
  gd:A.guards=some []
theorem Room.mono {j k:Nat} {A:Around} (r:Room k A) (h:j≤k):Room j A:=⟨r.hd,by have:=r.dp;lia,by have:=r.un;lia,r.gd⟩
theorem Room.deeper {k:Nat} {A:Around} (r:Room (k+1) A) (env:Env):Room k (A.deeper env) :=
  ⟨r.hd,by have:=r.dp;show A.depth+1+3 * k+5 < _;lia,by have:=r.un;show A.units+3+16 * k+200 < _;lia,r.gd⟩
theorem Room.depth {k:Nat} {A:Around} (r:Room k A):A.depth < recursionLimit:=by have:=r.dp;lia
theorem Room.units {k:Nat} {A:Around} (r:Room k A):A.units+64 < cLine:=by have:=r.un;lia
def xi:TA:=fun _ H Q=>Q [] H
def v5 (ta:TE) (tr:TA):TA:=fun σ H Q=>ta σ H fun x H1=>tr σ H1 fun xs H2=>Q (x :: xs) H2
section
variable {X:Cx} {e:Expr} {es:List Expr} {te:TE} {t:TA} {pos:Pos}
theorem ac:PA X [] xi:=fun _ _ _ _ H Q I h=>abU ⟨[],H,I,.nil,h⟩
theorem aa (ha:PE X e te) (hr:PA X es t) (hs:starEach (e :: es) X.env=(false,eval e X.env) :: starEach es X.env:=by rfl):PA X (e :: es) (v5 te t):=by
  intro pos pins s σ H Q I h;rw [hs];show wpAny _ _ (spliced ((false,eval e X.env) :: backTo pos (starEach es X.env))) _ _ s;refine abQ (thn (ha pins s σ H _ I h) fun u s1 ⟨x,H1,I1,r1,q1⟩=>?_);exact thn (hr pos pins s1 σ H1 _ I1 q1) fun us s2 ⟨xs,H2,I2,r2,q2⟩=>⟨x :: xs,H2,I2,.cons r1 r2,q2⟩
def xb (t:TA):TE:=fun σ H Q=>t σ H fun xs H1=>xs.length≤sizeLine∧∀ p,H1 p=none→Q (.ref p) (upd H1 p (.tup xs))
def xj (t:TA):TE:=fun σ H Q=>t σ H fun xs H1=>xs.length≤sizeLine∧∀ p,H1 p=none→Q (.ref p) (upd H1 p (.lst xs))
theorem aq {x1} (h:PA X es t):PE X (.Tuple es x1 pos) (xb t):=by
  intro pins s σ H Q I hq;refine wpAny_Tuple_spliced (thn (h pos pins s σ H _ I hq) fun us s1 ⟨xs,H1,I1,r,z,q⟩=>⟨by rw [← r.length];exact z,?_⟩);have hf:H1 s1.heap.objs.size=none:=I1.hok.fresh (aag _);refine ⟨.ref s1.heap.objs.size,upd H1 s1.heap.objs.size (.tup xs),I1.laid (t':=s1.toks) (fun b u e=>aaf _ e) (aag _) ?_,rfl,q _ hf⟩;exact ⟨z,us,r,⟨_,aaz _ rfl,rfl,_,rfl⟩⟩
theorem ar (h:PA X es t):PE X (.List es pos) (xj t):=by
  intro pins s σ H Q I hq;refine wpAny_List_spliced (thn (h pos pins s σ H _ I hq) fun us s1 ⟨xs,H1,I1,r,z,q⟩=>⟨by rw [← r.length];exact z,?_⟩);have hf:H1 s1.heap.objs.size=none:=I1.hok.fresh (aag _);refine ⟨.ref s1.heap.objs.size,upd H1 s1.heap.objs.size (.lst xs),I1.laid (t':=s1.toks) (fun b u e=>aaf _ e) (aag _) ?_,rfl,q _ hf⟩;exact ⟨z,us,0,r,aaz _ rfl⟩
end
abbrev Sp:=List V→Hp→VK→XK→Prop
abbrev CXT:=List Env→Hp→Shared→XK→Value→Shared→Prop
structure Env0 (P:Program) (w:World) (K:aaa) (mg:Str→Option Value) (base:Heap) (A:Around) (outer:List Env) (s:Shared) (H:Hp):Prop where
  frames:A.frames=some outer
  mod:Mod K mg base
  bs:∀ b o,base.get? b=some o→s.heap.get? b=some o∧H b=none
  bsz:base.objs.size≤s.heap.objs.size
  funs:s.heap.FunFrames base outer
  frf:∀ b∈frs outer,H b=none
  hok:HOk P w H s.heap
  bare:AllBare s.gens
def CE (outer:List Env) (P:Program) (w:World) (H:Hp) (s:Shared) (Q:VK) (u:Value) (s':Shared):Prop :=
  ∃ v H',s'.os=s.os∧AllBare s'.gens∧Un (frs outer) [] H H' s.heap s'.heap∧HOk P w H' s'.heap∧RelV v u∧Q v H'
def CR (CX:CXT) (outer:List Env) (P:Program) (w:World) (H:Hp) (s:Shared) (Q:VK) (E:XK) (r:Result) (s':Shared):Prop :=
  match r with
  | .ok (.ret u)=>CE outer P w H s Q u s'
  | .ok _=>False
  | .error e=>CX outer H s E e s'
structure FnOk (P:Program) (w:World) (K:aaa) (mg:Str→Option Value) (base:Heap) (CX:CXT) (k:Nat) (f:Addr) (fd:FuncData) (ps:List Str) (sp:Sp):Prop where
  len:∀ vs H Q E,sp vs H Q E→vs.length=ps.length
  run:∀ (A:Around) (outer:List Env) (s:Shared) (H:Hp) (args:Args) (us:List Value) (vs:List V) (Q:VK) (E:XK),Room k A→Env0 P w K mg base A outer s H→BindsTo s fd args (ps.zip us)→Vals vs us→sp vs H Q E →
    codeAny (model P w) A (.call (.ref f) args) (CR CX outer P w H s Q E) s
theorem FnOk.imp {P:Program} {w:World} {K:aaa} {mg:Str→Option Value} {base:Heap} {CX:CXT} {k:Nat} {f:Addr} {fd:FuncData} {ps:List Str} {sp sp':Sp} (F:FnOk P w K mg base CX k f fd ps sp)
    (h:∀ vs H Q E,sp' vs H Q E→sp vs H Q E):FnOk P w K mg base CX k f fd ps sp' :=
  ⟨fun vs H Q E q=>F.len vs H Q E (h _ _ _ _ q),fun A outer s H args us vs Q E hr he hb hv hs=>F.run A outer s H args us vs Q E hr he hb hv (h _ _ _ _ hs)⟩
section
variable {X:Cx} {pins:List (Addr × Obj)} {σ:St} {H:Hp} {s s':Shared}
theorem Inv.env0 (I:Inv X pins σ H s):Env0 X.prog X.w X.K X.mg X.base X.A X.stack s H :=
  ⟨I.ok.frames,I.ok.mod,I.bs,aaZ I.ok.bsz I.sz,I.stack,I.stkFree,I.hok,I.bare⟩
theorem Inv.after {Q:VK} {u:Value} (I:Inv X pins σ H s) (h:CE X.stack X.prog X.w H s Q u s'):EP X pins σ Q u s':=by
  obtain ⟨v,H',os,bare,un,hok,r,q⟩:=h;obtain ⟨hh,g,d,t,os'⟩:=s';obtain rfl:os'=s.os:=os;exact ⟨v,H',I.call (h':=hh) (g':=g) (d':=d) (t':=t) (ch:=[]) un hok bare (fun b z=>absurd z (by simp)),r,q⟩
end
def qm (sp:Sp) (dvs:List V) (E:XK) (t:TA):TE:=fun σ H Q=>t σ H fun vs H1=>sp (vs++dvs) H1 Q E
def Binds (K:aaa) (fd:FuncData) (ps:List Str) (ds:List Value):Prop :=
  ∀ (s:Shared) (us:List Value),K.In s.heap→(us++ds).length=ps.length→BindsTo s fd ⟨us,[]⟩ (ps.zip (us++ds))
theorem Binds.all {K:aaa} {fd:FuncData} {ps:List Str} (h:∀ us:List Value,us.length=ps.length→bindArgs fd ⟨us,[]⟩=pure (ps.zip us)):Binds K fd ps []:=fun s us _ hl=>by
  rw [List.append_nil] at hl ⊢;exact .of_eq (h us hl)
def jr (CX:CXT) (X:Cx) (E:XK):Prop:=∀ (pins:List (Addr × Obj)) (σ:St) (H:Hp) (s:Shared) (e:Value) (s':Shared),Inv X pins σ H s→CX X.stack H s E e s'→X.xe e s'
section
variable {X:Cx} {CX:CXT} {k:Nat} {f C:Addr} {fd:FuncData} {ps:List Str} {sp:Sp} {dvs:List V} {ds:List Value} {E:XK} {x m:Str} {p pos apos:Pos} {e o:Expr} {es:List Expr} {ta:TE} {t:TA}
theorem uI {pins:List (Addr × Obj)} {σ:St} {H:Hp} {s:Shared} {Q:VK} {us:List Value} {vs:List V} (F:FnOk X.prog X.w X.K X.mg X.base CX k f fd ps sp) (hr:Room k X.A) (hb:Binds X.K fd ps ds) (hd:Vals dvs ds) (hx:jr CX X E)
    (I:Inv X pins σ H s) (r:Vals vs us) (h:sp (vs++dvs) H Q E):wpAny (model X.prog X.w) X.A (call (.ref f) us) (EP X pins σ Q) X.xe s:=by
  have r2:Vals (vs++dvs) (us++ds):=r.append hd;have hl:(us++ds).length=ps.length:=by rw [← r2.length];exact F.len _ _ _ _ h
  refine wpAny_call (codeAny_mono (F.run X.A X.stack s H ⟨us,[]⟩ (us++ds) (vs++dvs) Q E hr I.env0 (hb s us I.kIn hl) r2 h) fun r s' hq=>?_);cases r with
  | error e=>exact hx pins σ H s e s' I hq
  | ok fl =>
    cases fl with
    | ret u=>exact I.after hq
    | next=>exact abj hq
    | brk=>exact abj hq
    | cont=>exact abj hq
theorem ox (F:FnOk X.prog X.w X.K X.mg X.base CX k f fd ps sp) (hr:Room k X.A) (hg:Gl X x) (hm:X.mg x=some (.ref f)) (hk:abc X.K (.ref f)=true) (hb:Binds X.K fd ps ds) (hd:Vals dvs ds) (hx:jr CX X E)
    (ha:PA X (e :: es) t) (hdb:(x == ("__debug__":Str))=false:=by decide) (he:starEach (e :: es) X.env=(false,eval e X.env) :: starEach es X.env:=by rfl) (hpl:(backTo pos (starEach es X.env)).any (·.1)=false:=by rfl) :
    PE X (.Call (.Name x p) (e :: es) [] pos) (qm sp dvs E t):=by
  intro pins s σ H Q I h;refine wpAny_Call_Name_kw (gw I hg hm ?_ hdb);refine PySem.W.callWith_K (h₀:=X.base) I.ok.mod.kin hk (thn (ha pos pins s σ H _ I h) fun us s1 ⟨vs,H1,I1,r,q⟩=>⟨I1.kIn,?_⟩) he hpl;exact uI F hr hb hd hx I1 r q
structure Mk (K:aaa) (C f:Addr):Prop where
  makes:PySem.W.makesIn K C=true
  init:aaP K (.ref C) "__init__" = some (some (.ref f))
  fn:PySem.W.isFn K (.ref f)=true
  kp:abc K (.ref C)=true
end
section
variable {X:Cx} {CX:CXT} {k:Nat} {f C:Addr} {fd:FuncData} {ps ks:List Str} {sp:Sp} {E:XK} {x m:Str} {p pos apos kpos:Pos} {e o:Expr} {es:List Expr} {kws:List Keyword} {te ta:TE} {t tk:TA} {nm:Option Str}
structure KBinds (K:aaa) (fd:FuncData) (ps ks:List Str) (g:List Value→List Value→List Value) (gV:List V→List V→List V):Prop where
  to:∀ (s:Shared) (us ws:List Value),K.In s.heap→(g us ws).length=ps.length→BindsTo s fd ⟨us,ks.zip ws⟩ (ps.zip (g us ws))
  rel:∀ {vs:List V} {us:List Value} {zs:List V} {ws:List Value},Vals vs us→Vals zs ws→Vals (gV vs zs) (g us ws)
variable {g:List Value→List Value→List Value} {gV:List V→List V→List V}
end
structure FnScope (N P:List Str) (sc:Scope):Prop where
  kind:sc.kind=.function
  co:sc.isCoroutine=false
  gen:sc.isGenerator=false
  nd:N.Nodup
  pre:N.take P.length=P
  par:∀ x∈P,sc.names.lookup x=some .local∨sc.names.lookup x=some .cell
  nofree:∀ y∈sc.names,y.2≠.free
theorem jR {kindOf:Str→Option NameKind} {x:Str}:∀ {binds:List (Str × Value)} {m:Str→Option Value},(∀ v,(x,v)∉binds)→bindL kindOf binds m x=m x
  | [],_,_=>rfl
  | (n,v) :: r,m,h=>by
    unfold bindL;rw [jR fun w hw=>h w (aat _ hw)];split
    · have : x≠n:=by rintro rfl;exact h v aav
      simp [this]
    · rfl
theorem jT {kindOf:Str→Option NameKind} {x:Str}:∀ {binds:List (Str × Value)} {m:Str→Option Value},(∀ v,(x,v)∉binds)→bindC kindOf binds m x=m x
  | [],_,_=>rfl
  | (n,v) :: r,m,h=>by
    unfold bindC;rw [jT fun w hw=>h w (aat _ hw)];split
    · rfl
    · have : x≠n:=by rintro rfl;exact h v aav
      simp [this]
theorem jS {kindOf:Str→Option NameKind} {x:Str} {v:Value}:∀ {P:List Str} {vs:List Value} {i:Nat} {m:Str→Option Value},P.Nodup→P[i]?=some x→vs[i]?=some v→kindOf x=some .local →
    bindL kindOf (P.zip vs) m x=some v
  | [],_,_,_,_,h,_,_=>by simp at h
  | _ :: _,[],_,_,_,_,h,_=>by simp at h
  | p :: P,w :: vs,0,m,nd,h1,h2,hk=>by
    simp at h1 h2;subst h1;subst h2;show bindL kindOf ((p,w) :: P.zip vs) m p=_;unfold bindL;rw [jR fun v hv=>(ack.mp nd).1 (List.of_mem_zip hv).1,if_pos hk];simp
  | p :: P,w :: vs,i+1,m,nd,h1,h2,hk=>by
    show bindL kindOf ((p,w) :: P.zip vs) m x=_;unfold bindL;exact jS (i:=i) (ack.mp nd).2 (by simpa using h1) (by simpa using h2) hk
theorem jU {kindOf:Str→Option NameKind} {x:Str} {v:Value}:∀ {P:List Str} {vs:List Value} {i:Nat} {m:Str→Option Value},P.Nodup→P[i]?=some x→vs[i]?=some v→kindOf x≠some .local →
    bindC kindOf (P.zip vs) m x=some v
  | [],_,_,_,_,h,_,_=>by simp at h
  | _ :: _,[],_,_,_,_,h,_=>by simp at h
  | p :: P,w :: vs,0,m,nd,h1,h2,hk=>by
    simp at h1 h2;subst h1;subst h2;show bindC kindOf ((p,w) :: P.zip vs) m p=_;unfold bindC;rw [jT fun v hv=>(ack.mp nd).1 (List.of_mem_zip hv).1,if_neg hk];simp
  | p :: P,w :: vs,i+1,m,nd,h1,h2,hk=>by
    show bindC kindOf ((p,w) :: P.zip vs) m x=_;unfold bindC;exact jU (i:=i) (ack.mp nd).2 (by simpa using h1) (by simpa using h2) hk
def ge (N:List Str) (vs:List V):St:=vs.map some++aap (N.length - vs.length) none
def jk (CX:CXT) (P:Program) (w:World) (K:aaa) (mg:Str→Option Value) (base:Heap) (N:List Str) (qual:Str) (scope:Scope) (f:Addr) (cd:Value) (A:Around) (outer:List Env) (s:Shared) (H:Hp) (E:XK):Cx where
  prog:=P
  w:=w
  K:=K
  mg:=mg
  base:=base
  A:=A.deeper (envOfC qual scope s.heap.objs.size f cd)
  N:=N
  s₀:=s
  H₀:=H
  env:=envOfC qual scope s.heap.objs.size f cd
  outer:=outer
  stack:=envOfC qual scope s.heap.objs.size f cd :: outer
  ex:=[]
  calm:=true
  fn:=fun _=>true
  pn:=[]
  xe:=fun e s'=>wpAny (model P w) (A.deeper (envOfC qual scope s.heap.objs.size f cd)) (leaving (envOfC qual scope s.heap.objs.size f cd) e) (fun _ s''=>CX outer H s E e s'') (fun e' s''=>CX outer H s E e' s'') s'
theorem l8 {sc:Scope} {n:Nat} {x:Str} (h:sc.names.lookup x=some .cell):∃ c,(cellsFrom n sc.names []).lookup x=some c:=by
  have q:=PySem.W.cellsFrom_some sc.names n [] (.inl h);exact aba.mp q
theorem pQ {CX:CXT} {P:Program} {w:World} {K:aaa} {mg:Str→Option Value} {base:Heap} {N ps:List Str} {qual:Str} {scope:Scope} {f:Addr} {cd:Value} {A:Around} {outer:List Env} {s s1:Shared} {H:Hp} {E:XK} {us:List Value} {vs:List V}
    (S:FnScope N ps scope) (hd:A.handled=none) (e0:Env0 P w K mg base A outer s H) (hl:vs.length=ps.length) (r:Vals vs us)
    (x:InCallC s s.heap.objs.size (bindL (envOfC qual scope s.heap.objs.size f cd).kindOf (ps.zip us) fun _=>none) (cellsFrom (s.heap.objs.size+1) scope.names []) (bindC (envOfC qual scope s.heap.objs.size f cd).kindOf (ps.zip us) fun _=>none) s1) :
    Inv (jk CX P w K mg base N qual scope f cd A outer s H E) [] (ge N vs) H s1:=by
  have hpl:ps.length≤N.length:=by have:=congrArg acj S.pre;rw [aaF] at this;lia
  obtain ⟨h1,tk,rfl,hk⟩:=x.done;have noA:∀ b:Addr,b∉(jk CX P w K mg base N qual scope f cd A outer s H E).ex:=fun b z=>absurd (show b∈([]:List Addr) from z) (by simp);refine ⟨⟨e0.mod,S.kind,rfl,rfl,aag _,fun y z c h1 h2=>?_,fun y hy=>?_,fun y c _ h=>?_,fun _=>hd,Around.frames_deeper e0.frames,.inr ⟨rfl,rfl⟩,fun b z=>absurd z (noA b),e0.bs,e0.bsz,fun b _ _=>noA b,fun b z=>absurd z (noA b),e0.funs,e0.frf⟩,
    rfl,e0.bare,Un.kept hk,⟨_,x.toInCall.ns,fun i y v h1 h2 h3=>?_⟩,fun y c h=>⟨_,x.cell y c h⟩,e0.hok.fresh (aag _),fun y c h=>?_,fun p hp=>absurd (show p∈([]:List (Addr × Obj)) from hp) (by simp),e0.hok.kept hk,?_⟩
  · exact name_of_addr x.apart (aaW h1) (aaW h2)
  · have hy:scope.names.lookup y=some .cell∨scope.names.lookup y=some .free:=hy;rcases hy with hy|hy
    · exact l8 hy
    · exact absurd rfl (S.nofree _ (aaW hy))
  · exact Nat.le_of_lt (x.above y c (aaW h))
  · have hi:i < vs.length:=by
      unfold ge at h2;by_cases hi:i < vs.length
      · exact hi
      · rw [abK (by simpa using hi)] at h2;rw [List.getElem?_replicate] at h2;split at h2 <;> cases h2
    have ha:vs[i]?=some v:=by
      unfold ge at h2;rw [List.getElem?_append_left (by simpa using hi),aaJ] at h2;cases e:vs[i]? with
      | none=>rw [e] at h2;cases h2
      | some a=>rw [e] at h2;cases h2;rfl
    obtain ⟨u,hu,rv⟩:=r.get ha;have hp:ps[i]?=some y:=by
      rw [← S.pre,List.getElem?_take_of_lt (by lia)];exact h1
    have ndP:ps.Nodup:=by rw [← S.pre];exact S.nd.sublist (List.take_sublist _ _)
    refine ⟨u,rv,?_⟩;rcases S.par y (aaK hp) with k|k
    · exact .inl ⟨k,jS ndP hp hu k⟩
    · obtain ⟨c,e⟩:=l8 (n:=s.heap.objs.size+1) k;refine .inr ⟨.inl k,c,e,?_⟩;have q:=x.cell y c e;rw [jU ndP hp hu (by show scope.names.lookup y≠_;rw [k];decide)] at q;exact q
  · exact e0.hok.fresh (Nat.le_of_lt (x.above y c (aaW h)))
  · unfold ge;show _=N.length;rw [aae,aak,ab4];lia
theorem ud {CX:CXT} {P:Program} {w:World} {K:aaa} {mg:Str→Option Value} {base:Heap} {k:Nat} {f:Addr} {name qual:Str} {params:Arguments} {body:List Stmt} {scope:Scope} {dV kV doc pm cdv ct oc:Value} {an od:Option Addr}
    {osl:Array (Option Value)} {N ps:List Str} {sp:Sp} (lk:K.lookup f=some ⟨oc,od,.func (abp name qual params body scope dV kV doc pm an cdv ct),osl⟩) (hcd:abB K cdv qual=true) (S:FnScope N ps scope)
    (len:∀ vs H Q E,sp vs H Q E→vs.length=ps.length)
    (hbody:∀ (A:Around) (outer:List Env) (s:Shared) (H:Hp) (vs:List V) (Q:VK) (E:XK),Room k (A.deeper (envOfC qual scope s.heap.objs.size f cdv))→sp vs H Q E →
      ∃ t,PSs (jk CX P w K mg base N qual scope f cdv A outer s H E) body t∧t { nx:=fun _ H'=>Q .non H',rt:=Q } (ge N vs) H) :
    FnOk P w K mg base CX (k+1) f (abp name qual params body scope dV kV doc pm an cdv ct) ps sp:=by
  refine ⟨len,fun A outer s H args us vs Q E hr e0 hb r hsp=>?_⟩;have hl:=len _ _ _ _ hsp;have KX:K.In s.heap:=e0.mod.kin.keeps fun b o e=>(e0.bs b o e).1;have lim:s.heap.NoLimit:=e0.mod.nolimit.keeps fun b o e=>(e0.bs b o e).1;have hkind:∀ y∈ps.zip us,scope.names.lookup y.1=some .local∨(scope.names.lookup y.1=some .cell∧((cellsFrom (s.heap.objs.size+1) scope.names []).lookup y.1).isSome=true):=fun ⟨n,v⟩ hy=>by
    rcases S.par n (List.of_mem_zip hy).1 with q|q
    · exact .inl q
    · exact .inr ⟨q,PySem.W.cellsFrom_some _ _ _ (.inl q)⟩
  refine codeAny_call_function hr.depth (KX _ _ lk) rfl S.co S.gen rfl (PySem.W.codeRec_of KX hcd) (hb _ _ _ _ ?_);refine wpAny_newFunctionEnv_cells S.kind hkind fun env he s1 x=>?_;subst he;refine ⟨lim.keeps x.toInCall.keep,codeAny_func ?_⟩;obtain ⟨t,ht,hq⟩:=hbody A outer s H vs Q E (hr.deeper _) hsp;have I:Inv (jk CX P w K mg base N qual scope f cdv A outer s H E) [] (ge N vs) H s1:=pQ S hr.hd e0 hl r x;refine wpAny_mono (ht [] s1 (ge N vs) H _ I hq) (fun fl s' hs=>?_) fun e s' hs=>hs;have fin:∀ {σ':St} {H':Hp} {v:V} {u:Value},Inv (jk CX P w K mg base N qual scope f cdv A outer s H E) [] σ' H' s'→RelV v u→Q v H'→CE outer P w H s Q u s' :=
    fun {σ' H' v u} J rv q=>⟨v,H',J.os,J.bare,J.base,J.hok,rv,q⟩
  cases fl with
  | ret u =>
    obtain ⟨v,σ',H',J,rv,q⟩:=hs;exact fin J rv q
  | next =>
    obtain ⟨σ',H',J,q⟩:=hs;exact fin (v:=V.non) (u:=Value.none) J rfl q
  | brk =>
    obtain ⟨_,_,_,q⟩:=hs;exact abj q
  | cont =>
    obtain ⟨_,_,_,q⟩:=hs;exact abj q
open PySem PySem.Spec PyProof.Rows
section
variable {X:Cx} {x:Str} {p pos:Pos} {e:Expr} {es:List Expr} {t:TA} {id T:String} {r:List V→Hp→VK→Prop}
def tCB (r:List V→Hp→VK→Prop) (t:TA):TE:=fun σ H Q=>t σ H fun vs H1=>r vs H1 Q
theorem am (hc:dE X (.builtin id) r) (hg:Gl X x) (hm:X.mg x=none) (hv:bootBuiltins x=some (.builtin id)) (ha:PA X (e :: es) t) (hn:x ≠ "__name__":=by decide) (hdb:(x == ("__debug__":Str))=false:=by decide)
    (he:starEach (e :: es) X.env=(false,eval e X.env) :: starEach es X.env:=by rfl) (hpl:(backTo pos (starEach es X.env)).any (·.1)=false:=by rfl):PE X (.Call (.Name x p) (e :: es) [] pos) (tCB r t):=by
  intro pins s σ H Q I h;refine wpAny_Call_Name_kw (f_ I hg hm hv ?_ hn hdb);exact PyProof.Rows.callWith_builtin1 (thn (ha pos pins s σ H _ I h) fun us s1 ⟨vs,H1,I1,r1,q1⟩=>hc pins s1 σ H1 vs us Q I1 r1 q1) he hpl
theorem cE (hc:dE X (.type T) r) (hg:Gl X x) (hm:X.mg x=none) (hv:bootBuiltins x=some (.type T)) (ha:PA X (e :: es) t) (hn:x ≠ "__name__":=by decide) (hdb:(x == ("__debug__":Str))=false:=by decide)
    (he:starEach (e :: es) X.env=(false,eval e X.env) :: starEach es X.env:=by rfl) (hpl:(backTo pos (starEach es X.env)).any (·.1)=false:=by rfl):PE X (.Call (.Name x p) (e :: es) [] pos) (tCB r t):=by
  intro pins s σ H Q I h;refine wpAny_Call_Name_kw (f_ I hg hm hv ?_ hn hdb);exact abg (thn (ha pos pins s σ H _ I h) fun us s1 ⟨vs,H1,I1,r1,q1⟩=>hc pins s1 σ H1 vs us Q I1 r1 q1) he hpl
end
end L2
namespace HT
open PySem PyProof.Rows
section
open PySem.SeqAt
open PySem.AutoSeq1 (wpAny_loadPart')
open PySem.MeetsSeq PySem.MeetsSeq2 PySem.MeetsSeq3
end
section
variable {prog:Program} {w:World} {A:Around} {E:Value→Shared→Prop} {s:Shared}
def sIx (n d:Nat):Option Int→Nat
  | none=>d
  | some v=>if v < 0 then (v+(n:Int)).toNat else min v.toNat n
end
end HT
namespace L2
open PySem PySem.Spec PyProof.Rows
abbrev TO:=St→Hp→(Option Int→Hp→Prop)→Prop
def PO (X:Cx) (e:Option Expr) (t:TO):Prop :=
  ∀ (pins:List (Addr × Obj)) (s:Shared) (σ:St) (H:Hp) (Q:Option Int→Hp→Prop),Inv X pins σ H s→t σ H Q →
    wpAny (model X.prog X.w) X.A (evalPart e X.env) (fun u s'=>∃ o H',Inv X pins σ H' s'∧IsPart u o∧Q o H') X.xe s
def sx:TO:=fun _ H Q=>Q none H
def vW (t:TE):TO:=fun σ H Q=>t σ H fun x H1=>∃ i,x=.int i∧Q (some i) H1
section
variable {X:Cx} {e:Expr} {te:TE} {lo hi:Option Expr} {tl th:TO} {pos p2:Pos}
theorem bL:PO X none sx:=by
  intro pins s σ H Q I h;rw [evalPart_none];exact wpAny_pure ⟨none,H,I,.none,h⟩
theorem bD (h:PE X e te):PO X (some e) (vW te):=by
  intro pins s σ H Q I hw;rw [evalPart_some];refine thn (h pins s σ H _ I hw) fun u s1 ⟨x,H1,I1,r1,q1⟩=>?_;obtain ⟨i,rfl,q⟩:=q1;obtain ⟨t,rfl⟩:=r1;exact ⟨some i,H1,I1,.int i t,q⟩
def SlR (X:Cx) (r:V→Option Int→Option Int→Hp→VK→Prop):Prop :=
  ∀ (pins:List (Addr × Obj)) (s:Shared) (σ:St) (H:Hp) (x:V) (v vl vu:Value) (lo hi:Option Int) (sl:Addr) (Q:VK),Inv X pins σ H s→RelV x v→s.heap.IsSliceOf sl vl vu .none→IsPart vl lo→IsPart vu hi→r x lo hi H Q →
    ∃ T id,typeLookup (.type T) "__getitem__" = pure (some (.builtin id))∧s.TypeIs v T∧wpAny (model X.prog X.w) X.A (getItem v (.ref sl)) (EP X pins σ Q) X.xe s
def tSl (r:V→Option Int→Option Int→Hp→VK→Prop) (te:TE) (tl th:TO):TE:=fun σ H Q=>te σ H fun x H1=>tl σ H1 fun l H2=>th σ H2 fun u H3=>r x l u H3 Q
theorem bq {r:V→Option Int→Option Int→Hp→VK→Prop} (hr:SlR X r) (he:PE X e te) (hl:PO X lo tl) (hu:PO X hi th):PE X (.Subscript e (.Slice lo hi none p2) pos) (tSl r te tl th):=by
  intro pins s σ H Q I h;refine Subscript_ (thn (he pins s σ H _ I h) fun v s1 ⟨x,H1,I1,r1,q1⟩=>?_);refine wpAny_Slice (thn (hl pins s1 σ H1 _ I1 q1) fun vl s2 ⟨l,H2,I2,pl,q2⟩=>thn (hu pins s2 σ H2 _ I2 q2) fun vu s3 ⟨u,H3,I3,pu,q3⟩=>?_);rw [evalPart_none];refine wpAny_pure ?_;have I4:Inv X pins σ H3 { s3 with heap:=s3.heap.push { cls:=.type "slice",data:=.fields #[vl,vu,.none] } }:=I3.kept (t':=s3.toks) fun b ob q=>aaf _ q;obtain ⟨T,id,hT,ht,hg⟩:=hr pins { s3 with heap:=s3.heap.push { cls:=.type "slice",data:=.fields #[vl,vu,.none] } } σ H3 x v vl vu l u s3.heap.objs.size Q I4 r1 (Heap.IsSliceOf.new ..) pl pu q3;show wpAny (model X.prog X.w) X.A (subscriptTail e (.Slice lo hi none p2) v (.ref s3.heap.objs.size)) (EP X pins σ Q) X.xe { s3 with heap:=s3.heap.push { cls:=.type "slice",data:=.fields #[vl,vu,.none] } };exact tail_any (ops:=[.ref s3.heap.objs.size,v]) ht hT hg (by with_unfolding_all rfl)
def cZ (xs:List V) (lo hi:Option Int):List V:=(xs.drop (HT.sIx xs.length 0 lo)).take (HT.sIx xs.length xs.length hi - HT.sIx xs.length 0 lo)
theorem l4 (xs:List V) (lo hi:Option Int):(cZ xs lo hi).length≤xs.length:=by
  unfold cZ;rw [aaF,aaQ];lia
end
open PySem PySem.Spec PyProof.Rows
def ixN (n:Nat) (i:Int):Option Nat:=if 0≤i then (if i < n then some i.toNat else none) else if -(n:Int)≤i then some (i+n).toNat else none
def atI {α:Type} (xs:List α) (i:Int):Option α:=(ixN xs.length i).bind fun j=>xs[j]?
theorem oG {n:Nat} {i:Int} {j:Nat} (h:ixN n i=some j):seqIndex? i n=some j∧j < n∧-(n:Int)≤i∧i < n:=by
  unfold ixN at h;by_cases h0:0≤i
  · rw [if_pos h0] at h;by_cases h1:i < n
    · rw [if_pos h1] at h;have e:i.toNat=j:=aaV h;exact ⟨by rw [seqIndex_of h0 h1,e],by lia,by lia,h1⟩
    · rw [if_neg h1] at h;cases h
  · rw [if_neg h0] at h;by_cases h1:-(n:Int)≤i
    · rw [if_pos h1] at h;have e:(i+n).toNat=j:=aaV h;exact ⟨by rw [seqIndex_neg (by lia) h1,e],by lia,h1,by lia⟩
    · rw [if_neg h1] at h;cases h
theorem kX {α:Type} {xs:List α} {i:Int} {v:α} (h:atI xs i=some v):∃ j,seqIndex? i xs.length=some j∧xs[j]?=some v∧j < xs.length∧-(xs.length:Int)≤i∧i < xs.length:=by
  unfold atI at h;cases e:ixN xs.length i with
  | none=>rw [e] at h;cases h
  | some j =>
    rw [e] at h;obtain ⟨h1,h2,h3,h4⟩:=oG e;exact ⟨j,h1,h,h2,h3,h4⟩
theorem gB {α:Type} {xs:List α} {j:Nat} {v:α} (h:xs[j]?=some v):atI xs (j:Int)=some v:=by
  have hj:j < xs.length:=(aaB.mp h).1;have e:ixN xs.length (j:Int)=some j:=by
    unfold ixN;rw [if_pos (by lia),if_pos (by lia)];simp
  unfold atI;rw [e];exact h
def tT (b:Expr):Prop:=∀ o i,subscripted b false o i=operate [o,i] (getItem o i)
def IxR (X:Cx) (r:R2):Prop :=
  ∀ (value slice:Expr) (pins:List (Addr × Obj)) (s:Shared) (σ:St) (H:Hp) (x y:V) (v u:Value) (Q:VK),Inv X pins σ H s→RelV x v→RelV y u→r x y H Q →
    subscripted slice false v u=operate [v,u] (getItem v u)→wpAny (model X.prog X.w) X.A (subscriptTail value slice v u) (EP X pins σ Q) X.xe s
def MtR (X:Cx) (id:String) (r:V→List V→Hp→VK→Prop):Prop :=
  ∀ (pins:List (Addr × Obj)) (s:Shared) (σ:St) (H:Hp) (x:V) (xs:List V) (v:Value) (us:List Value) (Q:VK),Inv X pins σ H s→RelV x v→Vals xs us→r x xs H Q →
    wpAny (model X.prog X.w) X.A (call (.builtin id) (v :: us)) (EP X pins σ Q) X.xe s
section
variable {X:Cx} {a b:Expr} {ta tb:TE} {pos:Pos}
theorem IxR.or {r r':R2} (h:IxR X r) (h':IxR X r'):IxR X (fun x y H Q=>r x y H Q∨r' x y H Q):=by
  intro value slice pins s σ H x y v u Q I rx ry q hs;rcases q with q|q
  · exact h value slice pins s σ H x y v u Q I rx ry q hs
  · exact h' value slice pins s σ H x y v u Q I rx ry q hs
theorem bn {r:R2} (hr:IxR X r) (ha:PE X a ta) (hb:PE X b tb) (hs:tT b):PE X (.Subscript a b pos) (tOp r ta tb):=by
  intro pins s σ H Q I h;exact Subscript_ (vL ha hb I h fun v u s2 x y H2 I2 rx ry q=>hr a b pins s2 σ H2 x y v u Q I2 rx ry q (hs _ _))
def wj (K:aaa):R2:=fun x y H Q=>∃ p xs i v,x=.ref p∧y=.int i∧SqL K H p xs∧atI xs i=some v∧Q v H
def uK (K:aaa):R2:=fun x y H Q=>∃ p xs i v,x=.ref p∧y=.int i∧SqT K H p xs∧atI xs i=some v∧Q v H
def wc:R2:=fun x y H Q=>∃ z i c,x=.str z∧y=.int i∧z.length≤sizeLine∧atI z.cps.toList i=some c∧Q (.str ⟨#[c]⟩) H
theorem ix_list:IxR X (wj X.K):=by
  intro value slice pins s σ H x y v u Q I rx ry h hs;obtain ⟨p,xs,i,z,rfl,rfl,hq,he,q⟩:=h;cases rx;obtain ⟨t,rfl⟩:=ry;obtain ⟨its,r,pl,hz⟩:=I.list hq;obtain ⟨j,h1,h2,h3,h4,h5⟩:=kX he;obtain ⟨w,ew,rw'⟩:=r.get h2;have hl:=r.length;have hn:=g8;have fin:EP X pins σ Q w s:=⟨z,H,I,rw',q⟩
  by_cases h0:0≤i
  · have hj:i.toNat=j:=by
      rw [seqIndex_of h0 h5] at h1;exact aaV h1
    exact item_listR pl.isList h0 (by lia) (by rw [hj];simpa using ew) fin hs
  · have hj:(i+(its.toArray.size:Int)).toNat=j:=by
      rw [seqIndex_neg (by lia) h4] at h1;rw [aam,← hl];exact aaV h1
    exact subscriptTail_builtinR (x:=w) pl.isList.typeIs slot_list_getitem.lookup
      (wpAny_getItem_list_neg (Q:=fun r s'=>r=w∧EP X pins σ Q r s') pl.isList (by lia) (by rw [aam] <;> lia) (by lia) (by rw [hj];simpa using ew) ⟨rfl,fin⟩) hs
theorem ix_tup:IxR X (uK X.K):=by
  intro value slice pins s σ H x y v u Q I rx ry h hs;obtain ⟨p,xs,i,z,rfl,rfl,hq,he,q⟩:=h;cases rx;obtain ⟨t,rfl⟩:=ry;obtain ⟨its,r,pl,hz⟩:=I.tuple hq;obtain ⟨j,h1,h2,h3,h4,h5⟩:=kX he;obtain ⟨w,ew,rw'⟩:=r.get h2;have hl:=r.length;have hn:=g8;have fin:EP X pins σ Q w s:=⟨z,H,I,rw',q⟩
  exact subscriptTail_builtinR (x:=w) pl.typeIs slot_tuple_getitem.lookup
    (getItem_tuple (j:=j) (Q:=fun r s'=>r=w∧EP X pins σ Q r s') pl (by lia) (by lia) (by rw [aam,← hl];exact h1) (by simpa using ew) ⟨rfl,fin⟩) hs
theorem jd:IxR X wc:=by
  intro value slice pins s σ H x y v u Q I rx ry h hs;obtain ⟨z,i,c,rfl,rfl,hz,he,q⟩:=h;obtain ⟨t,rfl⟩:=rx;obtain ⟨t',rfl⟩:=ry;obtain ⟨j,h1,h2,h3,h4,h5⟩:=kX he;have hl:z.cps.toList.length=z.length:=by simp [Str.length]
  rw [hl] at h1 h4 h5;have hn:=g8;exact tail_any (typeIs_str s z t) slot_str_getitem.lookup (getItem_str (c:=c) (by
    have e1:decide (i < -(2 ^ 63:Int))=false:=decide_eq_false (by lia);have e2:decide (i ≥ 2 ^ 63)=false:=decide_eq_false (by lia);rw [e1,e2,Bool.or_false]) (by rw [h1];simpa using h2) ⟨.str ⟨#[c]⟩,H,I.tok _,⟨_,rfl⟩,q⟩) hs
def rIx (K:aaa):R2:=fun x y H Q=>wj K x y H Q∨uK K x y H Q∨wc x y H Q
theorem vp:IxR X (rIx X.K):=ix_list.or (ix_tup.or jd)
theorem ni (its:List Value) (n j:Nat) (u:Value):Obj.mapSeq (·.setIfInBounds j u) { cls:=.type "list",data:=.seq its.toArray n }={ cls:=.type "list",data:=.seq (its.set j u).toArray n }:=by
  simp [Obj.mapSeq]
theorem Inv.lst {pins:List (Addr × Obj)} {σ:St} {H:Hp} {s:Shared} {p:Addr} {xs:List V} (I:Inv X pins σ H s) (h:H p=some (.lst xs)) :
    ∃ (its:List Value) (n:Nat),Vals xs its∧s.heap.get? p=some { cls:=.type "list",data:=.seq its.toArray n }∧xs.length≤sizeLine:=by
  obtain ⟨z,its,n,r,e⟩:=I.hok p _ h;exact ⟨its,n,r,e,z⟩
theorem Inv.lstUpd {pins:List (Addr × Obj)} {σ:St} {H:Hp} {s:Shared} {p:Addr} {xs ys:List V} {its its':List Value} {n n':Nat} {f:Obj→Obj} (I:Inv X pins σ H s) (h:H p=some (.lst xs))
    (ho:s.heap.get? p=some { cls:=.type "list",data:=.seq its.toArray n }) (hf:f { cls:=.type "list",data:=.seq its.toArray n }={ cls:=.type "list",data:=.seq its'.toArray n' }) (r:Vals ys its') (hz:ys.length≤sizeLine) (t:Nat) :
    Inv X pins σ (upd H p (.lst ys)) { s with heap:=s.heap.update p f,toks:=t }:=by
  have e:(s.heap.update p f).get? p=some { cls:=.type "list",data:=.seq its'.toArray n' }:=by
    rw [Heap.get?_update_self f ho (by rw [hf] <;> rfl),hf]
  refine I.write (x:=p) (e:=p) (by rw [h];trivial) (.inl rfl) (fun b u hb q=>(Heap.get?_update_other _ _ (abo hb)).trans q) ⟨_,e⟩ ?_;exact ⟨hz,its',n',r,e⟩
def v_:V→V→V→Hp→(Hp→Prop)→Prop:=fun o i v H Q=>∃ p xs k j,o=.ref p∧i=.int k∧H p=some (.lst xs)∧ixN xs.length k=some j∧Q (upd H p (.lst (xs.set j v)))
theorem lg:wX X v_:=by
  intro pins s σ H o i v ov iv u Q I ro ri rv h;obtain ⟨p,xs,k,j,rfl,rfl,hp,hj,q⟩:=h;cases ro;obtain ⟨t,rfl⟩:=ri;obtain ⟨its,n,r,ho,hz⟩:=I.lst hp;obtain ⟨h1,h2,h3,h4⟩:=oG hj;have hl:=r.length;have hn:=g8;have I':Inv X pins σ (upd H p (.lst (xs.set j v))) { s with heap:=s.heap.update p (Obj.mapSeq (·.setIfInBounds j u)) } :=
    I.lstUpd hp ho (ni its n j u) (r.set rv j) (by rw [List.length_set];exact hz) s.toks
  by_cases h0:0≤k
  · have hk:k.toNat=j:=by
      rw [seqIndex_of h0 h4] at h1;exact aaV h1
    exact PySem.W.ki_setAt ho h0 (by lia) (by rw [aam,← hl];exact h4) (by rw [hk];exact ⟨_,I',q⟩)
  · have hk:(k+(its.toArray.size:Int)).toNat=j:=by
      rw [seqIndex_neg (by lia) h3] at h1;rw [aam,← hl];exact aaV h1
    exact PySem.W.ki_setBack ho (by lia) (by rw [aam,← hl];exact h3) (by lia) (by rw [hk];exact ⟨_,I',q⟩)
theorem kg (lo hi:Option Int) (n:Nat):(sliceBounds lo hi none n).1=((HT.sIx n 0 lo:Nat):Int)∧(sliceBounds lo hi none n).2.1=((HT.sIx n n hi:Nat):Int)∧(sliceBounds lo hi none n).2.2=1:=by
  refine ⟨?_,?_,rfl⟩
  · cases lo with
    | none=>simp [sliceBounds,HT.sIx]
    | some i =>
      simp only [sliceBounds,HT.sIx,Option.getD_none,show (1:Int) > 0 by decide,if_true];by_cases h:i < 0
      · simp only [h,if_true] <;> lia
      · simp only [h,if_false] <;> lia
  · cases hi with
    | none=>simp [sliceBounds,HT.sIx]
    | some i =>
      simp only [sliceBounds,HT.sIx,Option.getD_none,show (1:Int) > 0 by decide,if_true];by_cases h:i < 0
      · simp only [h,if_true] <;> lia
      · simp only [h,if_false] <;> lia
theorem jt (its:List Value) (lo hi:Option Int):slicePick its.toArray lo hi none=((its.drop (HT.sIx its.length 0 lo)).take (HT.sIx its.length its.length hi - HT.sIx its.length 0 lo)).toArray:=by
  obtain ⟨h1,h2,h3⟩:=kg lo hi its.toArray.size;unfold slicePick;rw [h1,h2,h3];simp only [sliceRange_one,pick_run,aam] <;> rfl
def v9 (K:aaa):V→Option Int→Option Int→Hp→VK→Prop:=fun x lo hi H Q=>∃ a xs,x=.ref a∧SqL K H a xs∧∀ p,H p=none→Q (.ref p) (upd H p (.lst (cZ xs lo hi)))
theorem cu:SlR X (v9 X.K):=by
  intro pins s σ H x v vl vu lo hi sl Q I rx hs pl pu h;obtain ⟨a,xs,rfl,hx,q⟩:=h;cases rx;obtain ⟨its,r,ht,hz⟩:=I.list hx;have hlen:=r.length;refine ⟨"list",_,slot_list_getitem.lookup,ht.isList.typeIs,?_⟩;refine wpAny_getItem_list_slice ht.isList hs pl pu .none (by simp) ?_ (by rw [aam] <;> lia);rw [jt,← hlen];refine ⟨.ref s.heap.objs.size,_,I.laid (t':=s.toks) (o:=.lst (cZ xs lo hi)) (fun b ob q=>aaf _ q) (aag _) ?_,rfl,q _ (I.hok.fresh (aag _))⟩;exact ⟨aaZ (l4 xs lo hi) hz,_,0,(r.drop (HT.sIx xs.length 0 lo)).take (HT.sIx xs.length xs.length hi - HT.sIx xs.length 0 lo),aaz _ rfl⟩
def dZ:V→Bool
  | .non=>true
  | .bl _=>true
  | .int _=>true
  | .str _=>true
  | _=>false
def eqV:V→V→Bool
  | .non,.non=>true
  | .bl a,.bl b=>a == b
  | .bl a,.int b=>(if a then 1 else 0) == b
  | .int a,.bl b=>a == (if b then 1 else 0)
  | .int a,.int b=>a == b
  | .str a,.str b=>a == b
  | _,_=>false
theorem rG {A:Around} {s:Shared} {y x:V} {u v:Value} (ry:RelV y u) (rx:RelV x v) (fy:dZ y=true) (fx:dZ x=true):SeqAt.EqAt A s u v (eqV y x):=by
  cases y with
  | non =>
    cases ry;cases x with
    | non=>cases rx;exact SeqAt.EqAt.same _
    | bl b=>cases rx;exact SeqAt.EqAt.none_bool b
    | int b=>obtain ⟨t,rfl⟩:=rx;exact SeqAt.EqAt.none_int b t
    | str b=>obtain ⟨t,rfl⟩:=rx;exact SeqAt.EqAt.none_str b t
    | _=>exact absurd (show false=true from fx) aai
  | bl a =>
    cases ry;cases x with
    | non=>cases rx;exact SeqAt.EqAt.bool_none a
    | bl b=>cases rx;exact SeqAt.EqAt.bool_bool a b
    | int b=>obtain ⟨t,rfl⟩:=rx;exact SeqAt.EqAt.bool_int a b t
    | str b=>obtain ⟨t,rfl⟩:=rx;exact SeqAt.EqAt.bool_str a b t
    | _=>exact absurd (show false=true from fx) aai
  | int a =>
    obtain ⟨t',rfl⟩:=ry;cases x with
    | non=>cases rx;exact SeqAt.EqAt.int_none a t'
    | bl b=>cases rx;exact SeqAt.EqAt.int_bool a t' b
    | int b=>obtain ⟨t,rfl⟩:=rx;exact SeqAt.EqAt.int_int a t' b t
    | str b=>obtain ⟨t,rfl⟩:=rx;exact SeqAt.EqAt.int_str a t' b t
    | _=>exact absurd (show false=true from fx) aai
  | str a =>
    obtain ⟨t',rfl⟩:=ry;cases x with
    | non=>cases rx;exact SeqAt.EqAt.str_none a t'
    | bl b=>cases rx;exact SeqAt.EqAt.str_bool a t' b
    | int b=>obtain ⟨t,rfl⟩:=rx;exact SeqAt.EqAt.str_int a t' b t
    | str b=>obtain ⟨t,rfl⟩:=rx;exact SeqAt.EqAt.str_str a t' b t
    | _=>exact absurd (show false=true from fx) aai
  | _=>exact absurd (show false=true from fy) aai
def eqU (x:V) (u:Value):Bool:=match u with
  | .none=>eqV .non x
  | .bool b=>eqV (.bl b) x
  | .int i _=>eqV (.int i) x
  | .str z _=>eqV (.str z) x
  | _=>false
theorem rF {x y:V} {u:Value} (r:RelV y u) (f:dZ y=true):eqU x u=eqV y x:=by
  cases y with
  | non=>cases r;rfl
  | bl b=>cases r;rfl
  | int i=>obtain ⟨t,rfl⟩:=r;rfl
  | str z=>obtain ⟨t,rfl⟩:=r;rfl
  | _=>exact absurd (show false=true from f) aai
theorem kY {x:V}:∀ {xs:List V} {us:List Value},Vals xs us→xs.all dZ=true→us.any (eqU x)=xs.any fun y=>eqV y x
  | _,_,.nil,_=>rfl
  | y :: xs,u :: us,.cons r t,f=>by
    rw [List.all_cons,Bool.and_eq_true] at f;rw [abR,abR,rF r f.1,kY t f.2]
theorem fu {A:Around} {s:Shared} {x:V} {v:Value} (rx:RelV x v) (fx:dZ x=true):∀ {xs:List V} {us:List Value},Vals xs us→xs.all dZ=true→∀ u∈us,SeqAt.EqAt A s u v (eqU x u)
  | _,_,.nil,_=>fun u hu=>by cases hu
  | y :: xs,u :: us,.cons r t,f=>fun u' hu=>by
    rw [List.all_cons,Bool.and_eq_true] at f;rcases aah.mp hu with rfl|hu
    · rw [rF r f.1];exact rG r rx f.1 fx
    · exact fu rx fx t f.2 u' hu
def inV (x:V) (xs:List V):Bool:=xs.any fun y=>eqV y x
def rIn (K:aaa) (neg:Bool):R2:=fun x y H Q=>∃ p xs,y=.ref p∧(SqL K H p xs∨SqT K H p xs)∧dZ x=true∧xs.all dZ=true∧Q (.bl (if neg then !inV x xs else inV x xs)) H
theorem dX:OpR X (compareOp .In) (rIn X.K false):=by
  intro pins s σ H x y v u Q I rx ry h;obtain ⟨p,xs,rfl,hq,fx,fs,q⟩:=h;cases ry;rcases hq with hq|hq
  · obtain ⟨its,r,pl,hz⟩:=I.list hq;refine SeqAt.in_listAt (eqU x) pl.isList (fun w hw=>fu rx fx r fs w (by simpa using hw)) ⟨.bl _,H,I,rfl,?_⟩;rw [show its.toArray.any (eqU x)=its.any (eqU x) by simp,kY r fs];exact q
  · obtain ⟨its,r,pl,hz⟩:=I.tuple hq;refine SeqAt.in_tupleAt (eqU x) pl (fun w hw=>fu rx fx r fs w (by simpa using hw)) ⟨.bl _,H,I,rfl,?_⟩;rw [show its.toArray.any (eqU x)=its.any (eqU x) by simp,kY r fs];exact q
theorem aQ:dE X (.builtin "len") (fun xs H Q=>∃ p ys,xs=[.ref p]∧(SqL X.K H p ys∨SqT X.K H p ys)∧Q (.int ys.length) H):=by
  intro pins s σ H xs us Q I r h;obtain ⟨p,ys,rfl,hq,q⟩:=h;obtain ⟨u,rfl,rx⟩:=bU r;cases rx;have hn:=g8;rcases hq with hq|hq
  · obtain ⟨its,r',pl,hz⟩:=I.list hq;have hlen:=r'.length;exact Calls.call_len_list pl.isList (by simp only [aam] <;> lia) ⟨.int ys.length,H,I.tok _,⟨s.toks+1,by rw [aam,hlen]⟩,q⟩
  · obtain ⟨its,r',pl,hz⟩:=I.tuple hq;have hlen:=r'.length;exact len_tuple pl (by simp only [aam] <;> lia) ⟨.int ys.length,H,I.tok _,⟨s.toks+1,by rw [aam,hlen]⟩,q⟩
theorem dO:dE X (.type "tuple") (fun xs H Q=>∃ p ys,xs=[.ref p]∧((SqL X.K H p ys∧∀ l,H l=none→Q (.ref l) (upd H l (.tup ys)))∨(SqT X.K H p ys∧Q (.ref p) H))):=by
  intro pins s σ H xs us Q I r h;obtain ⟨p,ys,rfl,h⟩:=h;obtain ⟨u,rfl,rx⟩:=bU r;cases rx;rcases h with ⟨hq,q⟩|⟨hq,q⟩
  · obtain ⟨its,r',pl,hz⟩:=I.list hq;have hlen:=r'.length;refine call_tuple_list pl.isList (fun h' kp=>?_) (by simp only [aam] <;> lia);have I1:Inv X pins σ H { s with heap:=h' }:=I.kept (t':=s.toks) kp;have I2:Inv X pins σ (upd H h'.objs.size (.tup ys)) { s with heap:=h'.push { cls:=.type "tuple",data:=.seq its.toArray } } :=
      I1.laid (t':=s.toks) (fun b o e=>aaf _ e) (aag _) (show ObjOk X.prog X.w _ _ _ (.tup ys) from ⟨hz,its,r',IsTup.new _ _⟩)
    exact ⟨.ref h'.objs.size,_,I2,rfl,q _ (I1.hok.fresh (aag _))⟩
  · obtain ⟨its,r',pl,hz⟩:=I.tuple hq;exact call_tuple_same pl ⟨.ref p,H,I,rfl,q⟩
def tyV (K:aaa) (T:String) (x:V) (H:Hp):Prop:=match x with
  | .str _=>T = "str"
  | .int _=>T = "int"
  | .ref p=>(T = "list"∧∃ xs,SqL K H p xs)∨(T = "tuple"∧∃ o,K.lookup p=some o∧o.cls=.type "tuple"∧o.dict=none) ∨
      (T = "dict"∧((∃ kvs,H p=some (.dK kvs))∨∃ kvs,H p=some (.dT kvs)))∨(T = "set"∧∃ S n,H p=some (.set S n))
  | _=>False
theorem qh {pins:List (Addr × Obj)} {σ:St} {H:Hp} {s:Shared} {T:String} {x:V} {v:Value} (I:Inv X pins σ H s) (r:RelV x v) (ty:tyV X.K T x H) :
    s.TypeIs v T∧∀ a,v=.ref a→∃ ob,s.heap.get? a=some ob∧ob.dict=none:=by
  cases x with
  | str z =>
    obtain ⟨t,rfl⟩:=r;cases (show T = "str" from ty);exact ⟨typeIs_str s z t,fun _ e=>nomatch e⟩
  | int i =>
    obtain ⟨t,rfl⟩:=r;cases (show T = "int" from ty);exact ⟨typeIs_int s i t,fun _ e=>nomatch e⟩
  | ref p =>
    cases r;rcases ty with ⟨rfl,xs,hq⟩|⟨rfl,o,hk,hc,hd⟩|⟨rfl,hk⟩|⟨rfl,S,n,hk⟩
    · obtain ⟨its,_,pl,_⟩:=I.list hq;refine ⟨pl.isList.typeIs,fun a e=>?_⟩;cases e;obtain ⟨o,n,e,c,hd,_⟩:=pl;exact ⟨o,e,hd⟩
    · refine ⟨⟨o,I.kIn p o hk,hc⟩,fun a e=>?_⟩;cases e;exact ⟨o,I.kIn _ o hk,hd⟩
    · have z:∃ o,s.heap.get? p=some o∧o.ExactDict:=by
        rcases hk with ⟨kvs,hk⟩|⟨kvs,hk⟩
        · obtain ⟨_,_,_,_,o,_,_,e,ex,_⟩:=I.hok p _ hk;exact ⟨o,e,ex⟩
        · obtain ⟨_,_,_,_,o,_,_,e,ex,_⟩:=I.hok p _ hk;exact ⟨o,e,ex⟩
      obtain ⟨o,e,ex⟩:=z;refine ⟨⟨o,e,ex.1⟩,fun a e2=>?_⟩;cases e2;exact ⟨o,e,ex.2.1⟩
    · obtain ⟨o,_,_,_,e,ex,_⟩:=I.hok p _ hk;refine ⟨⟨o,e,ex.1⟩,fun a e2=>?_⟩;cases e2;exact ⟨o,e,ex.2.1⟩
  | _=>exact abj ty
def xo (K:aaa) (T:String) (r:V→List V→Hp→VK→Prop) (to:TE):TE:=fun σ H Q=>to σ H fun x H1=>tyV K T x H1∧r x [] H1 Q
def tBM (K:aaa) (T:String) (r:V→List V→Hp→VK→Prop) (to:TE) (t:TA):TE:=fun σ H Q=>to σ H fun x H1=>tyV K T x H1∧t σ H1 fun xs H2=>r x xs H2 Q
variable {o e:Expr} {es:List Expr} {to:TE} {t:TA} {name:Str} {apos cpos:Pos} {T id:String} {r:V→List V→Hp→VK→Prop}
theorem uT (pa:PlainAttrs T) (slot:Slot T name id) (hty:typeOf (.builtin id)=pure (.type "method_descriptor")) (hm:MtR X id r) (ho:PE X o to)
    (hbase:attributeBase o name X.env (eval o X.env)=eval o X.env:=by rfl) (hline:(apos.endLine == cpos.line)=true:=by rfl):PE X (.Call (.Attribute o name apos) [] [] cpos) (xo X.K T r to):=by
  intro pins s σ H Q I h;refine wpAny_Call_method0_late hbase hline (thn (ho pins s σ H _ I h) fun v s1 ⟨x,H1,I1,r1,ty,q1⟩=>?_);obtain ⟨h1,h2⟩:=qh I1 r1 ty;exact ⟨T,id,pa,slot,hty,h1,h2,abC rfl (PySem.evalArgs_none (hm pins s1 σ H1 x [] v [] Q I1 r1 .nil q1))⟩
theorem cA (pa:PlainAttrs T) (slot:Slot T name id) (hty:typeOf (.builtin id)=pure (.type "method_descriptor")) (hm:MtR X id r) (ho:PE X o to) (ha:PA X (e :: es) t)
    (hbase:attributeBase o name X.env (eval o X.env)=eval o X.env:=by rfl)
    (hfew:((backTo cpos (starEach (e :: es) X.env)).all (fun x=>!x.1) && (backToKw cpos (keywordEach [] X.env)).all (fun x=>x.1.isSome)
      && decide ((e :: es).length+([]:List Keyword).length+(if ([]:List Keyword).isEmpty then 0 else 1) < 30))=true:=by rfl)
    (hline:(apos.endLine == cpos.line)=true:=by rfl) (hs:starEach (e :: es) X.env=(false,eval e X.env) :: starEach es X.env:=by rfl) (hplain:(backTo cpos (starEach es X.env)).any (·.1)=false:=by rfl) :
    PE X (.Call (.Attribute o name apos) (e :: es) [] cpos) (tBM X.K T r to t):=by
  intro pins s σ H Q I h;refine wpAny_Call_method_late hbase hfew hline rfl (thn (ho pins s σ H _ I h) fun v s1 ⟨x,H1,I1,r1,ty,q1⟩=>?_);obtain ⟨h1,h2⟩:=qh I1 r1 ty;refine ⟨T,id,pa,slot,hty,h1,h2,?_⟩;have hA:=ha cpos pins s1 σ H1 _ I1 q1;rw [hs] at hA ⊢;refine abC (by show (false || (backTo cpos (starEach es X.env)).any (·.1))=false;rw [hplain] <;> rfl) (abL ?_);exact thn hA fun us s2 ⟨vs,H2,I2,r2,q2⟩=>hm pins s2 σ H2 x vs v us Q I2 r1 r2 q2
end
open PySem PySem.Spec PyProof.Rows
def MtM (X:Cx) (id:String) (r:V→List V→Hp→VK→Prop):Prop :=
  ∀ (pins:List (Addr × Obj)) (s:Shared) (σ:St) (H:Hp) (x:V) (xs:List V) (v:Value) (us:List Value) (Q:VK),Inv X pins σ H s→RelV x v→Vals xs us→r x xs H Q →
    wpAny (model X.prog X.w) X.A (call (.builtin id) (v :: us)) (EP X pins σ Q) X.xe s
theorem Vals.one:∀ {x:V} {us:List Value},Vals [x] us→∃ u,us=[u]∧RelV x u
  | _,_,.cons r .nil=>⟨_,rfl,r⟩
theorem Vals.zero:∀ {us:List Value},Vals [] us→us=[]
  | _,.nil=>rfl
theorem Vals.dropLast {xs:List V} {us:List Value} (h:Vals xs us):Vals xs.dropLast us.dropLast:=by
  induction h with
  | nil=>exact .nil
  | cons r t ih =>
    cases t with
    | nil=>exact .nil
    | cons q t'=>exact .cons r ih
theorem Vals.rep {xs:List V} {us:List Value} (h:Vals xs us):∀ k:Nat,Vals (aap k xs).flatten (aap k us).flatten
  | 0=>.nil
  | k+1=>by
    rw [aa3,aa3,abv,abv];exact Vals.append h (Vals.rep h k)
theorem nH {α:Type} (l:List α):l.eraseIdx (l.length - 1)=l.dropLast:=by
  induction l with
  | nil=>rfl
  | cons a r ih =>
    cases r with
    | nil=>rfl
    | cons b r =>
      have e:(a :: b :: r).length - 1=((b :: r).length - 1)+1:=by
        have h1:(a :: b :: r).length=r.length+2:=rfl;have h2:(b :: r).length=r.length+1:=rfl;lia
      rw [e,List.eraseIdx_cons_succ,ih]
      all_goals rfl
theorem jK (its:List Value):∀ (k:Nat) (acc:List Value),
    List.foldl (fun x1 x2=>x1++x2) acc.toArray (aap k its.toArray)=(acc++(aap k its).flatten).toArray
  | 0,acc=>by simp
  | k+1,acc=>by
    have e:acc.toArray++its.toArray=(acc++its).toArray:=by simp
    have e2:(acc++its)++(aap k its).flatten=acc++(aap (k+1) its).flatten:=by
      rw [aa3,abv,abI]
    rw [← e2,← jK its k (acc++its),← e,aa3,List.foldl_cons]
section
variable {X:Cx} {pins:List (Addr × Obj)} {σ:St} {H:Hp} {s:Shared} {l b:Addr} {xs ys zs:List V}
theorem Inv.lset {its its':List Value} {n:Nat} {f:Array Value→Array Value} {t':Nat} (I:Inv X pins σ H s) (hH:H l=some (.lst xs))
    (e:s.heap.get? l=some { cls:=.type "list",data:=.seq its.toArray n }) (hf:f its.toArray=its'.toArray) (hv:Vals ys its') (hz:ys.length≤sizeLine) :
    Inv X pins σ (upd H l (.lst ys)) { s with heap:=s.heap.update l (Obj.mapSeq f),toks:=t' }:=by
  have q:=PySem.IsL.update e f;rw [hf] at q;refine I.write (x:=l) (e:=l) (by rw [hH];exact trivial) (.inl rfl) (fun b' u hb hu=>(Heap.get?_update_other s.heap (Obj.mapSeq f) (abo hb)).trans hu) ⟨_,q⟩ ?_;exact ⟨hz,its',_,hv,q⟩
theorem Inv.lnew {its:List Value} {t':Nat} (I:Inv X pins σ H s) (hv:Vals ys its) (hz:ys.length≤sizeLine) :
    Inv X pins σ (upd H s.heap.objs.size (.lst ys)) { s with heap:=s.heap.push { cls:=.type "list",data:=.seq its.toArray },toks:=t' } :=
  I.laid (fun _ _ q=>aaf _ q) (aag _) ⟨hz,its,0,hv,aaz _ rfl⟩
theorem Inv.fresh (I:Inv X pins σ H s):H s.heap.objs.size=none:=I.hok.fresh (aag _)
theorem Inv.lstM (I:Inv X pins σ H s) (hH:H l=some (.lst xs)):xs.length≤sizeLine∧∃ (its:List Value) (n:Nat),Vals xs its∧xs.length=its.length∧s.heap.get? l=some { cls:=.type "list",data:=.seq its.toArray n }:=by
  obtain ⟨z,its,n,r,e⟩:=I.hok l _ hH;exact ⟨z,its,n,r,r.length,e⟩
theorem qS {n:Nat} (h:n≤sizeLine):abP n=false:=by
  unfold abP;exact decide_eq_false (by lia)
end
section
variable {X:Cx}
def sL:V→List V→Hp→VK→Prop:=fun x vs H Q=>∃ l xs y,x=.ref l∧vs=[y]∧H l=some (.lst xs)∧xs.length < sizeLine∧Q .non (upd H l (.lst (xs++[y])))
theorem cF:MtM X "list.append" sL:=by
  intro pins s σ H x vs v us Q I rx rv h;obtain ⟨l,xs,y,rfl,rfl,hH,hz,q⟩:=h;cases rx;obtain ⟨u,rfl,ru⟩:=rv.one;obtain ⟨z,its,n,r,hl,e⟩:=I.lstM hH;refine call_meets F.slot_list_append ⟨_,e,rfl⟩ F.entry_list_append (F.args_list_append_2 _ _) (PySem.list_append l its.toArray n u (by rw [aam];lia)) ⟨e,?_⟩;refine ⟨.non,_,I.lset (its':=its++[u]) hH e (by simp) (r.append (.cons ru .nil)) ?_,rfl,q⟩;rw [aae,aaN];lia
def xu:V→List V→Hp→VK→Prop:=fun x vs H Q=>∃ l xs y,x=.ref l∧vs=[]∧H l=some (.lst xs)∧xs[xs.length - 1]?=some y∧Q y (upd H l (.lst xs.dropLast))
theorem vb:MtM X "list.pop" xu:=by
  intro pins s σ H x vs v us Q I rx rv h;obtain ⟨l,xs,y,rfl,rfl,hH,hy,q⟩:=h;cases rx;have hus:=rv.zero;subst hus;obtain ⟨z,its,n,r,hl,e⟩:=I.lstM hH;obtain ⟨u,hu,ru⟩:=r.get hy;have hy':its.toArray[its.toArray.size - 1]?=some u:=by
    show its.toArray[its.length - 1]?=some u;rw [← Array.getElem?_toList,← hl];exact hu
  refine call_meets F.slot_list_pop ⟨_,e,rfl⟩ F.entry_list_pop (F.args_list_pop_1 _) (MeetsSeq.list_pop_last l its.toArray n u hy' (by rw [aam];lia)) ⟨e,?_⟩;refine ⟨y,_,I.lset (its':=its.dropLast) hH e ?_ r.dropLast ?_,ru,q⟩
  · show its.toArray.eraseIdxIfInBounds (its.toArray.size - 1)=its.dropLast.toArray;rw [aam,List.eraseIdxIfInBounds_toArray,nH]
  · rw [List.length_dropLast];lia
def xw:R2:=fun x y H Q=>∃ l b xs zs,x=.ref l∧y=.ref b∧H l=some (.lst xs)∧H b=some (.lst zs)∧xs.length+zs.length≤sizeLine∧∀ p,H p=none→Q (.ref p) (upd H p (.lst (xs++zs)))
theorem bj:OpR X (binaryOp .Add) xw:=by
  intro pins s σ H x y v u Q I rx ry h;obtain ⟨l,b,xs,zs,rfl,rfl,hH,hB,hz,q⟩:=h;cases rx;cases ry;obtain ⟨z,its,n,r,hl,e⟩:=I.lstM hH;obtain ⟨z2,its2,n2,r2,hl2,e2⟩:=I.lstM hB;refine PySem.P.add_list e e2 ?_ (by rw [aam,aam];lia);have ea:its.toArray++its2.toArray=(its++its2).toArray:=by simp
  rw [ea];exact ⟨.ref _,_,I.lnew (t':=s.toks) (r.append r2) (by rw [aae];lia),rfl,q _ I.fresh⟩
def xt:R2:=fun x y H Q=>∃ l k xs,x=.ref l∧y=.int k∧H l=some (.lst xs)∧-(2 ^ 63)≤k∧k < 2 ^ 63∧xs.length * k.toNat≤sizeLine ∧
  ∀ p,H p=none→Q (.ref p) (upd H p (.lst (aap k.toNat xs).flatten))
theorem oA {α:Type} (xs:List α) (k:Nat):(aap k xs).flatten.length=k * xs.length:=by
  induction k with
  | zero=>simp
  | succ k ih=>rw [aa3,abv,aae,ih,Nat.succ_mul,Nat.add_comm]
theorem iR:OpR X (binaryOp .Mult) xt:=by
  intro pins s σ H x y v u Q I rx ry h;obtain ⟨l,k,xs,rfl,rfl,hH,h1,h2,hz,q⟩:=h;cases rx;obtain ⟨t,rfl⟩:=ry;obtain ⟨z,its,n,r,hl,e⟩:=I.lstM hH;have hlen:its.toArray.size * k.toNat≤sizeLine:=by rw [aam,← hl];exact hz
  have hcap:¬ its.toArray.size * k.toNat > (2 ^ 63 - 1) / 8:=by
    have : (sizeLine:Nat)≤(2 ^ 63 - 1) / 8:=by decide
    lia
  have hfit:¬ (!Builtin.List.listFitsIndex k)=true:=by
    rw [fitsIndex_both h1 h2];exact aai
  have hlong:¬ abP (its.toArray.size * k.toNat)=true:=by
    rw [qS hlen];exact aai
  have hnew:List.foldl (fun x1 x2=>x1++x2) #[] (aap (if its.toArray.isEmpty=true then 0 else k.toNat) its.toArray)=(aap k.toNat its).flatten.toArray:=by
    have f0:∀ m:Nat,List.foldl (fun x1 x2=>x1++x2) #[] (aap m its.toArray)=(aap m its).flatten.toArray:=fun m=>by
      have:=jK its m [];rw [List.nil_append] at this;exact this
    rw [f0];cases its with
    | nil=>simp
    | cons a r'=>rw [if_neg (by simp)]
  refine wpAny_binaryOp_repeat_ref (T:="list") (U:="int") (by decide) ⟨_,e,rfl⟩ (fun s'=>typeIs_int s' k t) noFill_list_mul F.fills_int_mul F.slot_int_rmul repeat_list F.slot_int_index.lookup
    (call_meets F.slot_int_rmul (typeIs_int s k t) F.entry_int_rmul (F.args_int_rmul_2 _ _) (int___rmul___int_list k t l its.toArray n)
      ⟨e,rfl,⟨_,e,rfl⟩,call_meets F.slot_list_mul ⟨_,e,rfl⟩ F.entry_list_mul (F.args_list_mul_2 _ _) (AutoListH.list___mul___list_int_3 l its.toArray n k t hfit hcap hlong) ⟨e,?_⟩⟩)
  rw [hnew];exact ⟨.ref _,_,I.lnew (t':=s.toks) (r.rep k.toNat) (by rw [oA,Nat.mul_comm];exact hz),rfl,q _ I.fresh⟩
end
section
variable {prog:Program} {w:World} {A:Around} {E:Value→Shared→Prop} {s:Shared}
end
section
variable {X:Cx}
end
end L2
namespace Att
open PySem PySem.W PySem.Calls PyProof.Rows
theorem ip {P:Params} {h:Heap}:∀ (ns:List Int) (vs:List Value),WellAll P h vs (ns.map WData.int)→IntsAre vs ns:=by
  intro ns
  induction ns with
  | nil =>
    intro vs w;rw [abl] at w;cases w;exact .nil
  | cons n ns ih =>
    intro vs w;rw [aax] at w;cases w with
    | cons a b =>
      cases a;exact .cons _ _ (ih _ b)
theorem o4 {l:OpenLaw} {n:Nat} (hn:l.most=some n) {P:Params} {h:Heap} {args:List WData} {vals:List Value}
    (hpre:l.row.toRowW.claim.pre args=true) (hwl:WellAll P h vals args) :
    ∃ a vs ns,vals=[Value.ref a]∧args=[WData.list (ns.map WData.int)]∧h.get? a=some { cls:=.type "list",data:=.seq vs.toArray }∧IntsAre vs ns∧ns.length≤n:=by
  have hsh:WShape.hasAll [] args [.list .int]=true:=(pre_splitW hpre).1;have hc:l.pre.holds [] { args:=args }=true:=(pre_splitW hpre).2;obtain ⟨d,r,rfl,h1,h2⟩:=hasAllW_cons hsh;obtain rfl:=hasAllW_nil h2;obtain ⟨xs,rfl,h3⟩:=hasW_list h1;obtain ⟨ns,rfl⟩:=items_int h3;have hlen:ns.length≤n:=by
    unfold OpenLaw.pre at hc;have h4:(WTm.not (.lt (.lit (.int (n:Int))) (.len (.arg 0)))).holds [] { args:=[.list (ns.map .int)] }=true:=by
      have h4:=(holds_andW hc).1;rw [hn] at h4;exact h4
    have h5:=condW_of h4 (w_not (w_lt w_lit (w_len_list (w_arg rfl))));rw [aak] at h5;refine Nat.le_of_not_lt fun q=>?_;have q':(n:Int) < ((ns.length:Nat):Int):=by lia
    first
      | (rw [decide_eq_true q'] at h5;exact absurd h5 (by decide))
      | (simp at h5;lia)
  cases hwl with
  | cons w1 w2 =>
    cases w2;cases w1 with
    | list ho hall=>exact ⟨_,_,ns,rfl,rfl,ho,ip ns _ hall,hlen⟩
theorem o6 (l:OpenLaw) (args:List WData):l.row.toRowW.claim.post args (.bool true) args=true :=
  postW_of (r:=l.row.toRowW) (X:=(true == true))
    (show WShape.has [] (.bool true) .bool=true by first|rfl|decide|simp [WShape.has,WShape.arms,WShape.armsAll])
    (show (WTm.eq .res (.lit (.bool true))).value [] { args:=args,res:=some (.bool true),after:=args }=some (.bool (true == true)) from w_eq_bool (w_res rfl) w_lit) rfl
theorem attach_call {l:OpenLaw} {n:Nat} {q:Program} {loose:List Str} {XP:(Str→Option Value)→Heap→Prop} {YP:World→Heap→Prop} {d:DefRec}
    (hn:l.most=some n) (hdf:d.params.defaults=[])
    (call:∀ (w:World) (s₀ s₁:Shared) (mg mb:Str→Option Value) (fa:Addr) (o:Obj) (pm cd doc:Value) (a:Addr) (vs:List Value) (ns:List Int),
      Ground q loose [] XP w s₀ mg mb s₁.heap→YP w s₁.heap →
      s₁.heap.get? fa=some o→o.data=.func (docDef d.name d.params d.body d.scope pm cd doc)→s₁.heap.CodeRec cd d.name→mg d.name=some (.ref fa) →
      s₁.heap.get? a=some { cls:=.type "list",data:=.seq vs.toArray }→IntsAre vs ns→ns.length≤n→s₁.gens=#[] →
      codeAny (model l.prog w) callerA (.call (.ref fa) ⟨[.ref a],[]⟩) (fun r s'=>r=.ok (.ret (.bool true))∧OldK s₁.heap s'.heap∧s'.os=s₁.os∧AllBare s'.gens) s₁) :
    WalkO q loose XP YP l.row.toRowW d [] (fun f vs=>PySem.call f vs):=by
  intro w s₀ s₁ mg mb G Y fa o pm cd doc dV kV ho hd hcd hD hmg hg args vals as hpre hlay hrd hwl hlo;obtain rfl:dV=.none:=Dflts.none hD hdf;obtain rfl:kV=.none:=Dflts.noKw hD;obtain ⟨a,vs,ns,rfl,rfl,hobj,hints,hlen⟩:=o4 hn hpre hwl;refine enter_call (codeAny_mono (call w s₀ s₁ mg mb fa o pm cd doc a vs ns G Y ho (fd_plain hd) hcd hmg hobj hints hlen hg) fun r s' hq=>?_);obtain ⟨rfl,h2,h3,h4⟩:=hq;exact ⟨.inl ⟨.bool true,.bool true,[],rfl,fun _=>rfl,.bool true,o6 l _,fun _=>⟨List.Pairwise.nil,fun _ hm=>(nomatch hm)⟩⟩,h2,h3,h4⟩
section
variable {prog:Program} {w:World} {A:Around} {E:Value→Shared→Prop} {s:Shared} {K:Frag}
end
end Att
namespace L2
open PySem PySem.Spec PyProof.Rows
theorem jC:∀ {vs:List Value} {ns:List Int},IntsAre vs ns→Vals (ns.map V.int) vs
  | _,_,.nil=>.nil
  | _,_,.cons n t h=>.cons ⟨t,rfl⟩ (jC h)
def vO (H:Hp):Prop:=∀ b,H b=none∨∃ o xs,H b=some (.frz o (.lst xs))
theorem q_ {P:Program} {w:World} {K:aaa} {mg mb:Str→Option Value} {CX:CXT} {k:Nat} {fa a:Addr} {fd:FuncData} {x:Str} {sp:Sp} {s₁:Shared} {vs:List Value} {ns:List Int}
    (KX:K.In s₁.heap) (hns:s₁.heap.Ns mainGlobals mg) (hb:s₁.heap.Ns builtinsNs mb) (hbb:∀ x:Str,x ≠ "__name__"→mb x=bootBuiltins x) (hlim:s₁.heap.NoLimit) (hsm:∃ mm,s₁.heap.Ns sysModules mm) (hg:s₁.gens=#[])
    (ha:s₁.heap.get? a=some { cls:=.type "list",data:=.seq vs.toArray }) (hi:IntsAre vs ns) (hl:ns.length≤sizeLine) (hr:Room k callerA)
    (F:∀ base:Heap,K.In base→base.Ns mainGlobals mg→FnOk P w K mg base CX k fa fd [x] sp) (hbind:∀ (s:Shared) (u:Value),BindsTo s fd ⟨[u],[]⟩ [(x,u)])
    (hsp:∀ H:Hp,vO H→SqL K H a (ns.map V.int)→sp [.ref a] H (fun v _=>v=.bl true) fun _ _ _=>False)
    (hCX:∀ H e s',CX [] H s₁ (fun _ _ _=>False) e s'→False) :
    codeAny (model P w) callerA (.call (.ref fa) ⟨[.ref a],[]⟩) (fun r s'=>r=.ok (.ret (.bool true))∧OldK s₁.heap s'.heap∧s'.os=s₁.os∧AllBare s'.gens) s₁:=by
  have rv:=jC hi;have lenV:=hi.length;have core:∀ H:Hp,vO H→SqL K H a (ns.map V.int)→HOk P w H s₁.heap→(∀ b,H b≠none→b=a)→(H a≠none→K.lookup a=none) →
      codeAny (model P w) callerA (.call (.ref fa) ⟨[.ref a],[]⟩) (fun r s'=>r=.ok (.ret (.bool true))∧OldK s₁.heap s'.heap∧s'.os=s₁.os∧AllBare s'.gens) s₁:=by
    intro H hO hS hok hA hK;have base_of:∀ {b:Addr} {o:Obj},s₁.heap.get? b=some o→H b=none→(kP s₁.heap H).get? b=some o:=fun e n=>rl e n;have noA:∀ {b:Addr} {o:Obj} {es:Array DictEntry} {ep:Nat},s₁.heap.get? b=some o→o.data=.dict es ep→H b=none:=fun {b o es ep} e d=>by
      cases q:H b with
      | none=>rfl
      | some u =>
        have e':b=a:=hA b (by rw [q];simp);subst e';rw [ha] at e;cases e;have d':Data.seq vs.toArray _=Data.dict es ep:=d;cases d'
    have nsK:∀ {b:Addr} {m:Str→Option Value},s₁.heap.Ns b m→(kP s₁.heap H).Ns b m:=fun {b m} ⟨o,es,ep,e,d,r⟩=>⟨o,es,ep,base_of e (noA e d),d,r⟩
    have hKb:K.In (kP s₁.heap H):=fun b o e=>base_of (KX b o e) (by
      cases q:H b with
      | none=>rfl
      | some u =>
        have e':b=a:=hA b (by rw [q];simp);subst e';rw [hK (by rw [q];simp)] at e;cases e)
    have hM:Mod K mg (kP s₁.heap H):=⟨hKb,nsK hns,⟨mb,nsK hb,hbb⟩,let ⟨mc,h1,h2⟩:=hlim;⟨mc,nsK h1,h2⟩,let ⟨mm,h1⟩:=hsm;⟨mm,nsK h1⟩⟩
    have e0:Env0 P w K mg (kP s₁.heap H) callerA [] s₁ H:=⟨rfl,hM,fun b o e=>sZ e,Nat.le_of_eq (pS _ _),trivial,fun b hb=>absurd (show b∈([]:List Addr) from hb) (by simp),hok,.of_eq hg⟩
    refine codeAny_mono ((F _ hKb (nsK hns)).run callerA [] s₁ H ⟨[.ref a],[]⟩ [.ref a] [.ref a] _ _ hr e0 (hbind s₁ (.ref a)) (.cons rfl .nil) (hsp H hO hS)) fun r s' h=>?_;cases r with
    | error e=>exact (hCX H e s' h).elim
    | ok fl =>
      cases fl with
      | next=>exact abj h
      | brk=>exact abj h
      | cont=>exact abj h
      | ret u =>
        obtain ⟨v,H',os,bare,un,hok',r',q⟩:=h;have q':v=.bl true:=q;subst q';obtain rfl:u=Value.bool true:=r';refine ⟨rfl,OldK.of_keep fun b o e=>?_,os,bare⟩;cases q:H b with
        | none=>exact un.keep b o e q (by intro z;exact absurd (show b∈([]:List Addr) from z) (by simp)) (by simp)
        | some u =>
          rcases hO b with z|⟨ob,xs,z⟩
          · rw [q] at z;cases z
          · have z2:=un.frzs b ob _ z;obtain ⟨e1,_⟩:=hok b _ z;obtain ⟨e2,_⟩:=hok' b _ z2;rw [e] at e1;cases e1;exact e2
  cases hk:K.lookup a with
  | some o =>
    have e:=KX a o hk;rw [ha] at e;cases e;refine core (fun _=>none) (fun _=>.inl rfl) (.inr ⟨_,vs.toArray,_,hk,rfl,rfl,rfl,by rw [aam,lenV];exact hl,by simpa using rv⟩) (fun b u z=>by have z':(none:Option HO)=some u:=z;cases z') (fun b z=>absurd rfl z) fun z=>absurd rfl z
  | none =>
    refine core (fun b=>if b=a then some (.frz { cls:=.type "list",data:=.seq vs.toArray } (.lst (ns.map V.int))) else none) (fun b=>?_) (.inl (.inr ⟨{ cls:=.type "list",data:=.seq vs.toArray },if_pos rfl⟩)) (fun b u z=>?_) (fun b z=>?_) fun _=>hk
    · by_cases hb:b=a
      · exact .inr ⟨_,_,if_pos hb⟩
      · exact .inl (if_neg hb)
    · by_cases hb:b=a
      · have z':=(if_pos hb).symm.trans z;cases z';subst hb;exact ⟨ha,by rw [aak];exact hl,vs,_,rv,ha⟩
      · have z':=(if_neg hb).symm.trans z;cases z'
    · by_cases hb:b=a
      · exact hb
      · exact absurd (if_neg hb) z
open PySem PySem.Spec PyProof.Rows
theorem walk_of {l:PySem.W.OpenLaw} {n k:Nat} {q:Program} {loose:List Str} {XP:(Str→Option Value)→Heap→Prop} {YP:World→Heap→Prop} {d:DefRec} {K:Params→aaa} {CX:World→CXT} {sp:World→Sp} {x:Str}
    (hn:l.most=some n) (hn2:n≤sizeLine) (hdf:d.params.defaults=[]) (hr:Room k callerA) (hi:PyProof.Rows.importsNone q=true)
    (hY:∀ (w:World) (h:Heap),YP w h→(K w.params).In h)
    (F:∀ (w:World) (mg:Str→Option Value) (fa:Addr) (h:Heap),(K w.params).In h→h.Ns mainGlobals mg→mg d.name=some (.ref fa) →
      ∃ fd:FuncData,(∀ (s:Shared) (u:Value),BindsTo s fd ⟨[u],[]⟩ [(x,u)]) ∧
        ∀ base:Heap,(K w.params).In base→base.Ns mainGlobals mg→FnOk l.prog w (K w.params) mg base (CX w) k fa fd [x] (sp w))
    (hsp:∀ (w:World) (H:Hp) (a:Addr) (ns:List Int),ns.length≤n→vO H→SqL (K w.params) H a (ns.map V.int)→sp w [.ref a] H (fun v _=>v=.bl true) fun _ _ _=>False)
    (hCX:∀ (w:World) (H:Hp) (s:Shared) (e:Value) (s':Shared),CX w [] H s (fun _ _ _=>False) e s'→False) :
    PySem.W.WalkO q loose XP YP l.row.toRowW d [] (fun f vs=>PySem.call f vs):=by
  refine Att.attach_call hn hdf fun w s₀ s₁ mg mb fa o pm cd doc a vs ns G Y ho hd hcd hmg hobj hints hlen hg=>?_;have KX:=hY w _ Y;obtain ⟨fd,hb,hF⟩:=F w mg fa _ KX G.T.g hmg;exact q_ KX G.T.g G.T.b G.T.builtins G.T.nolimit (let ⟨mm,h1,_⟩:=(G.T.seer hi).mods;⟨mm,h1⟩) hg hobj hints (aaZ hlen hn2) hr hF hb (fun H hO hS=>hsp w H a ns hlen hO hS) fun H e s'=>hCX w H s₁ e s'
open PySem PySem.Spec PyProof.Rows
def cL (s:Stmt):Arguments:=match s with
  | .FunctionDef _ a _ _ _ _ _ _ _ _=>a
  | _=>{ posonlyargs:=[],args:=[],vararg:=none,kwonlyargs:=[],kw_defaults:=[],kwarg:=none,defaults:=[] }
def cm (s:Stmt):List Stmt:=match s with
  | .FunctionDef _ _ b _ _ _ _ _ _ _=>b
  | _=>[]
def ah (s:Stmt):Scope:=match s with
  | .FunctionDef _ _ _ _ _ _ sc _ _ _=>sc
  | _=>{ kind:=.function,names:=[],isGenerator:=false,isCoroutine:=false }
abbrev CX0:CXT:=fun _ _ _ _ _ _=>False
abbrev E0:XK:=fun _ _ _=>False
theorem wz {X:Cx}:jr CX0 X E0:=fun _ _ _ _ _ _ _ h=>h.elim
structure Fun (K:aaa) (x qual:Str) (st:Stmt) (f:Addr) (fd:FuncData):Prop where
  ex:∃ (oc:Value) (od:Option Addr) (kV doc pm:Value) (an:Option Addr) (cdv ct:Value) (osl:Array (Option Value)),
    fd=abp x qual (cL st) (cm st) (ah st) .none kV doc pm an cdv ct∧K.lookup f=some ⟨oc,od,.func fd,osl⟩∧abB K cdv qual=true
  kp:abc K (.ref f)=true
section
variable {P:Program} {w:World} {K:aaa} {mg:Str→Option Value} {base:Heap}
theorem Fun.ok {x qual:Str} {st:Stmt} {f:Addr} {fd:FuncData} {N ps:List Str} {k:Nat} {sp:Sp} (F:Fun K x qual st f fd) (S:FnScope N ps (ah st)) (len:∀ vs H Q E,sp vs H Q E→vs.length=ps.length)
    (hbody:∀ (cdv:Value) (A:Around) (outer:List Env) (s:Shared) (H:Hp) (vs:List V) (Q:VK) (E:XK),Room k (A.deeper (envOfC qual (ah st) s.heap.objs.size f cdv))→sp vs H Q E →
      ∃ t,PSs (jk CX0 P w K mg base N qual (ah st) f cdv A outer s H E).nox (cm st) t∧t { nx:=fun _ H'=>Q .non H',rt:=Q } (ge N vs) H):FnOk P w K mg base CX0 (k+1) f fd ps sp:=by
  obtain ⟨oc,od,kV,doc,pm,an,cdv,ct,osl,rfl,lk,hcd⟩:=F.ex;refine ud lk hcd S len fun A outer s H vs Q E hr hsp=>?_;obtain ⟨t,h,q⟩:=hbody cdv A outer s H vs Q E hr hsp;exact ⟨t,h.nox,q⟩
theorem Fun.binds {x qual:Str} {st:Stmt} {f:Addr} {fd:FuncData} {ps:List Str} (F:Fun K x qual st f fd)
    (h:∀ (kV doc pm:Value) (an:Option Addr) (cdv ct:Value) (us:List Value),us.length=ps.length→bindArgs (abp x qual (cL st) (cm st) (ah st) .none kV doc pm an cdv ct) ⟨us,[]⟩=pure (ps.zip us)):Binds K fd ps []:=by
  obtain ⟨oc,od,kV,doc,pm,an,cdv,ct,osl,rfl,lk,hcd⟩:=F.ex;exact .all (h kV doc pm an cdv ct)
theorem rA {x qual:Str} {st:Stmt} {f:Addr} {oc:Value} {od an:Option Addr} {osl:Array (Option Value)} {kV doc pm cdv ct:Value} (l:K.lookup f=some ⟨oc,od,.func (abp x qual (cL st) (cm st) (ah st) .none kV doc pm an cdv ct),osl⟩)
    (c:abB K cdv qual=true) (k:abc K (.ref f)=true):Fun K x qual st f (abp x qual (cL st) (cm st) (ah st) .none kV doc pm an cdv ct):=⟨⟨oc,od,kV,doc,pm,an,cdv,ct,osl,rfl,l,c⟩,k⟩
end
theorem aC {n:Nat} (h:n≤1000):n < sizeLine:=Nat.lt_of_le_of_lt h (by decide)
section
variable {X:Cx}
theorem pv (i:Nat) {x:Str} {pos:Pos} (hN:X.N[i]?=some x:=by rfl) (hv:Vis X.env.scope x:=by first|exact Or.inl rfl|exact Or.inr (Or.inl rfl)|exact Or.inr (Or.inr rfl)) (hd:(x == ("__debug__":Str))=false:=by decide)
    (hcd:(x == ("__classdict__":Str))=false:=by decide):PE X (.Name x pos) (vV i):=uN hN hv hd hcd
end
theorem az {A B:Prop} (h:B):if false=true then A else B:=by
  rw [if_neg aai];exact h
theorem a8 {A B:Prop} (h:A):if true=true then A else B:=by
  rw [if_pos rfl];exact h
theorem fG {c A B:Prop} [Decidable c] (h1:c→A) (h2:¬ c→B):if c then A else B:=by
  by_cases h:c
  · rw [if_pos h];exact h1 h
  · rw [if_neg h];exact h2 h
theorem wK {c A B:Prop} [Decidable c] (hc:c) (h:B):if (!decide c)=true then A else B:=by
  rw [decide_eq_true hc];exact az h
def Same (H H':Hp):Prop:=∀ b o,H b=some o→H' b=some o
theorem Same.refl (H:Hp):Same H H:=fun _ _ h=>h
theorem Same.trans {H H1 H2:Hp} (a:Same H H1) (b:Same H1 H2):Same H H2:=fun c o h=>b c o (a c o h)
theorem Same.free {H H':Hp} (e:Same H H') {l:Addr} (h:H' l=Option.none):H l=Option.none:=by
  cases q:H l with
  | none=>rfl
  | some o =>
    rw [e l o q] at h;cases h
theorem Same.seq {K:aaa} {H H':Hp} {a:Addr} {xs:List V} (e:Same H H') (h:SqL K H a xs):SqL K H' a xs:=by
  rcases h with (h|⟨o,h⟩)|h
  · exact .inl (.inl (e _ _ h))
  · exact .inl (.inr ⟨o,e _ _ h⟩)
  · exact .inr h
open PySem PySem.Spec PyProof.Rows
section
variable {κ:Type} [DecidableEq κ]
def dj (kvs:List (κ × V)) (k:κ):Option V:=(kvs.find? fun kv=>decide (kv.1=k)).map (·.2)
def eJ (kvs:List (κ × V)) (k:κ) (v:V):List (κ × V) :=
  if (kvs.any fun kv=>decide (kv.1=k))=true then kvs.map (fun kv=>if kv.1=k then (kv.1,v) else kv) else kvs++[(k,v)]
theorem bO {p:κ × V} {r:List (κ × V)} {k:κ} (e:p.1=k):dj (p :: r) k=some p.2:=by simp [dj,abD,e]
theorem bP {p:κ × V} {r:List (κ × V)} {k:κ} (e:¬ p.1=k):dj (p :: r) k=dj r k:=by simp [dj,abD,e]
theorem gc (k:κ):∀ kvs:List (κ × V),(kvs.any fun kv=>decide (kv.1=k))=(dj kvs k).isSome
  | []=>rfl
  | p :: r=>by
    rw [abR];by_cases e:p.1=k
    · simp only [bO e,decide_eq_true e,Bool.true_or,Option.isSome_some]
    · rw [bP e,decide_eq_false e,Bool.false_or];exact gc k r
theorem k_ (k j:κ) (y:V):∀ kvs:List (κ × V),dj (kvs.map fun kv=>if kv.1=k then (kv.1,y) else kv) j=(dj kvs j).map fun x=>if j=k then y else x
  | []=>rfl
  | p :: r=>by
    have ih:=k_ k j y r;rw [aax];by_cases h:p.1=k
    · rw [if_pos h];by_cases e:p.1=j
      · rw [bO (p:=(p.1,y)) e,bO e,Option.map_some,if_pos (e.symm.trans h)]
      · rw [bP (p:=(p.1,y)) e,bP e,ih]
    · rw [if_neg h];by_cases e:p.1=j
      · rw [bO (p:=p) e,bO e,Option.map_some,if_neg (fun z=>h (e.trans z))]
      · rw [bP (p:=p) e,bP e,ih]
theorem jD (k j:κ) (y:V):∀ kvs:List (κ × V),dj kvs k=none→dj (kvs++[(k,y)]) j=if j=k then some y else dj kvs j
  | [],_=>by
    by_cases e:k=j
    · rw [if_pos e.symm];exact bO (p:=(k,y)) e
    · rw [if_neg (fun z=>e z.symm)];exact bP (p:=(k,y)) e
  | p :: r,hn=>by
    rw [abh];have hk:¬ p.1=k:=fun z=>by rw [bO z] at hn;cases hn
    rw [bP hk] at hn;have ih:=jD k j y r hn;by_cases e:p.1=j
    · rw [bO e,bO e,if_neg (fun z=>hk (e.trans z))]
    · rw [bP e,bP e,ih]
theorem qg (kvs:List (κ × V)) (k j:κ) (y:V):dj (eJ kvs k y) j=if j=k then some y else dj kvs j:=by
  unfold eJ;by_cases a:(kvs.any fun kv=>decide (kv.1=k))=true
  · rw [if_pos a,k_];rw [gc] at a;by_cases e:j=k
    · obtain ⟨x,hx⟩:=aba.mp a;rw [if_pos e,e,hx,Option.map_some,if_pos rfl]
    · rw [if_neg e];cases dj kvs j with
      | none=>rfl
      | some x=>rw [Option.map_some,if_neg e]
  · rw [if_neg a];refine jD k j y kvs ?_;rw [gc] at a;cases q:dj kvs k with
    | none=>rfl
    | some x=>rw [q] at a;exact (a rfl).elim
theorem dF (kvs:List (κ × V)) (k:κ) (v:V):(eJ kvs k v).length≤kvs.length+1:=by
  unfold eJ;split
  · rw [aak];lia
  · rw [aae,aaD,abr];lia
theorem RelO.isSome_eq {o:Option V} {u:Option Value} (r:RelO o u):o.isSome=u.isSome:=by
  cases o with
  | none=>cases u with
    | none=>rfl
    | some _=>exact (show False from r).elim
  | some _=>cases u with
    | none=>exact (show False from r).elim
    | some _=>rfl
theorem RelO.getD {o:Option V} {u:Option Value} {d:V} {d':Value} (r:RelO o u) (rd:RelV d d'):RelV (o.getD d) (u.getD d'):=by
  cases o with
  | none=>cases u with
    | none=>exact rd
    | some _=>exact (show False from r).elim
  | some _=>cases u with
    | none=>exact (show False from r).elim
    | some _=>exact r
theorem KV.val {kvs:List (κ × V)} {vs:List (κ × Value)} (r:KV kvs vs) (k:κ):RelO (dj kvs k) (valueAt vs k):=by
  unfold KV at r
  induction r with
  | nil=>exact True.intro
  | @cons p q ps qs h t ih =>
    obtain ⟨h1,h2⟩:=h;by_cases e:p.1=k
    · have e':q.1=k:=h1.symm.trans e;have b:valueAt (q :: qs) k=some q.2:=by simp [valueAt,abD,e']
      rw [bO e,b];exact h2
    · have e':¬ q.1=k:=fun z=>e (h1.trans z);have b:valueAt (q :: qs) k=valueAt qs k:=by simp [valueAt,abD,e']
      rw [bP e,b];exact ih
theorem KV.any {kvs:List (κ × V)} {vs:List (κ × Value)} (r:KV kvs vs) (k:κ):(kvs.any fun kv=>decide (kv.1=k))=vs.any fun kv=>decide (kv.1=k):=by
  unfold KV at r
  induction r with
  | nil=>rfl
  | cons h t ih=>rw [abR,abR,ih,h.1]
theorem KV.repl {kvs:List (κ × V)} {vs:List (κ × Value)} (r:KV kvs vs) (k:κ) {y:V} {u:Value} (ry:RelV y u) :
    KV (kvs.map fun kv=>if kv.1=k then (kv.1,y) else kv) (vs.map fun kv=>if kv.1=k then (kv.1,u) else kv):=by
  unfold KV at r ⊢
  induction r with
  | nil=>exact .nil
  | @cons p q ps qs h t ih =>
    rw [aax,aax];refine .cons ?_ ih;obtain ⟨h1,h2⟩:=h;by_cases e:p.1=k
    · rw [if_pos e,if_pos (h1.symm.trans e)];exact ⟨h1,ry⟩
    · rw [if_neg e,if_neg (fun z=>e (h1.trans z))];exact ⟨h1,h2⟩
theorem KV.put {kvs:List (κ × V)} {vs:List (κ × Value)} (r:KV kvs vs) (k:κ) {y:V} {u:Value} (ry:RelV y u):KV (eJ kvs k y) (stored vs k u):=by
  unfold eJ stored;rw [r.any k];by_cases e:(vs.any fun kv=>decide (kv.1=k))=true
  · rw [if_pos e,if_pos e];exact r.repl k ry
  · rw [if_neg e,if_neg e];exact Paired.snoc r ⟨rfl,ry⟩
theorem KV.length {kvs:List (κ × V)} {vs:List (κ × Value)} (r:KV kvs vs):kvs.length=vs.length:=acg r
end
theorem oE {P:Program} {w:World} {k:Key} {u:Value} (r:RelV (kV k) u):(ba P w).is k u=true:=by
  cases k with
  | inl i=>obtain ⟨t,e⟩:=(show ∃ t,u=Value.int i t from r);subst e;exact lO P w i t
  | inr x=>obtain ⟨t,e⟩:=(show ∃ t,u=Value.str x t from r);subst e;exact lN P w x t
theorem jJ {P:Program} {w:World}:∀ {ks:List Key} {us:List Value},Vals (ks.map kV) us→ItemsAre (ba P w) ks us
  | [],_,r=>by rw [abl] at r;cases r;exact .nil
  | k :: ks,_,r=>by
    rw [aax] at r;cases r with
    | cons h t=>exact .cons (oE h) (jJ t)
abbrev KT (H:Hp):List (List Key × V)→List (List Key × Addr × Value)→Prop:=Paired fun p q=>p.1=q.1∧H q.2.1=some (.tup (p.1.map kV))∧RelV p.2 q.2.2
theorem KT.val {H:Hp} {kvs:List (List Key × V)} {xs:List (List Key × Addr × Value)} (r:KT H kvs xs) (k:List Key):RelO (dj kvs k) ((atKey xs k).map (·.2)):=by
  induction r with
  | nil=>exact True.intro
  | @cons p q ps qs h t ih =>
    obtain ⟨h1,_,h2⟩:=h;by_cases e:p.1=k
    · have e':q.1=k:=h1.symm.trans e;have b:atKey (q :: qs) k=some q.2:=by simp [atKey,abD,e']
      rw [bO e,b];exact h2
    · have e':¬ q.1=k:=fun z=>e (h1.trans z);have b:atKey (q :: qs) k=atKey qs k:=by simp [atKey,abD,e']
      rw [bP e,b];exact ih
theorem KT.repl {H:Hp} {kvs:List (List Key × V)} {xs:List (List Key × Addr × Value)} (r:KT H kvs xs) (k:List Key) {y:V} {u:Value} (ry:RelV y u) :
    KT H (kvs.map fun kv=>if kv.1=k then (kv.1,y) else kv) (xs.map (putAt k u)):=by
  induction r with
  | nil=>exact .nil
  | @cons p q ps qs h t ih =>
    rw [aax,aax];refine .cons ?_ ih;obtain ⟨h1,h2,h3⟩:=h;unfold putAt;by_cases e:p.1=k
    · rw [if_pos e,if_pos (h1.symm.trans e)];exact ⟨h1,h2,ry⟩
    · rw [if_neg e,if_neg (fun z=>e (h1.trans z))];exact ⟨h1,h2,h3⟩
theorem KT.put {H:Hp} {kvs:List (List Key × V)} {xs:List (List Key × Addr × Value)} (r:KT H kvs xs) (k:List Key) {b:Addr} {y:V} {u:Value} (hb:H b=some (.tup (k.map kV))) (ry:RelV y u) :
    KT H (eJ kvs k y) (storedH xs k b u):=by
  have e:(kvs.any fun kv=>decide (kv.1=k))=(atKey xs k).isSome:=by
    rw [gc,(r.val k).isSome_eq,Option.isSome_map]
  unfold eJ storedH;rw [e];by_cases q:(atKey xs k).isSome=true
  · rw [if_pos q,if_pos q];exact r.repl k ry
  · rw [if_neg q,if_neg q];exact Paired.snoc r ⟨rfl,hb,ry⟩
theorem KT.keeps {H H':Hp} {kvs:List (List Key × V)} {xs:List (List Key × Addr × Value)} (r:KT H kvs xs) (ht:∀ b ys,H b=some (.tup ys)→H' b=some (.tup ys)):KT H' kvs xs :=
  Paired.mapP r fun _ _ z=>⟨z.1,ht _ _ z.2.1,z.2.2⟩
section
variable {P:Program} {w:World} {H:Hp} {h:Heap} {a:Addr}
theorem tX {u:HO} (ok:HOk P w H h) (e:Rd H a u):ObjOk P w H h a u:=e.ok ok
theorem rL {kvs:List (Key × V)} (ok:HOk P w H h) (e:Rd H a (.dK kvs)):kvs.length≤sizeLine∧(a == sysModules)=false∧∃ vs,KV kvs vs∧h.DictOf (ba P w) a vs :=
  show ObjOk P w H h a (.dK kvs) from tX ok e
theorem rM {kvs:List (Key × V)} (ok:HOk P w H h) (e:H a=some (.dK kvs)):kvs.length≤sizeLine∧(a == sysModules)=false∧∃ vs,KV kvs vs∧h.DictOf (ba P w) a vs:=rL ok (.inl e)
theorem nz {ks:List Key} (ok:HOk P w H h) (e:H a=some (.tup (ks.map kV))):(tupleKind (ba P w)).is h ks a:=by
  obtain ⟨_,its,r,o,h1,h2,n,h3⟩:=(show ObjOk P w H h a (.tup (ks.map kV)) from ok a _ e)
  exact ⟨o,its.toArray,n,h1,h2,h3,by simpa using jJ r⟩
theorem rH {kvs:List (List Key × V)} (ok:HOk P w H h) (e:Rd H a (.dT kvs)):kvs.length≤sizeLine∧(a == sysModules)=false ∧
    ∃ xs,KT H kvs xs∧h.DictOfH (tupleKind (ba P w)) a xs:=by
  obtain ⟨z,y,xs,r,o,es,ep,h1,h2,h3,h4,h5⟩:=(show ObjOk P w H h a (.dT kvs) from tX ok e)
  refine ⟨z,y,xs,r,o,es,ep,h1,h2,h3,h4,fun x hx=>?_,h5⟩;have all:∀ {l:List (List Key × V)} {m:List (List Key × Addr × Value)},KT H l m→∀ x∈m,(tupleKind (ba P w)).is h x.1 x.2.1:=by
    intro l m q
    induction q with
    | nil=>intro x hx;exact nomatch hx
    | @cons p q ps qs hq t ih =>
      intro x hx;rcases aah.mp hx with e|hx
      · subst e;exact nz ok (by rw [← hq.1];exact hq.2.1)
      · exact ih x hx
  exact all r x hx
theorem wR {kvs:List (List Key × V)} (ok:HOk P w H h) (e:H a=some (.dT kvs)):kvs.length≤sizeLine∧(a == sysModules)=false ∧
    ∃ xs,KT H kvs xs∧h.DictOfH (tupleKind (ba P w)) a xs:=rH ok (.inl e)
end
def DGet (H:Hp) (a:Addr) (y:V) (r:Option V):Prop :=
  (∃ kvs k,Rd H a (.dK kvs)∧y=kV k∧r=dj kvs k)∨∃ kvs k b,Rd H a (.dT kvs)∧y=.ref b∧H b=some (.tup (k.map kV))∧r=dj kvs k
def DPut (H:Hp) (a:Addr) (y v:V) (H':Hp):Prop :=
  (∃ kvs k,H a=some (.dK kvs)∧y=kV k∧kvs.length < sizeLine∧H'=upd H a (.dK (eJ kvs k v))) ∨
  ∃ kvs k b,H a=some (.dT kvs)∧y=.ref b∧H b=some (.tup (k.map kV))∧kvs.length < sizeLine∧H'=upd H a (.dT (eJ kvs k v))
theorem DGet.k {H:Hp} {a:Addr} {kvs:List (Key × V)} {k:Key} (e:H a=some (.dK kvs)):DGet H a (kV k) (dj kvs k):=.inl ⟨kvs,k,.inl e,rfl,rfl⟩
theorem DPut.k {H:Hp} {a:Addr} {kvs:List (Key × V)} {k:Key} {v:V} (e:H a=some (.dK kvs)) (hl:kvs.length < sizeLine):DPut H a (kV k) v (upd H a (.dK (eJ kvs k v))):=.inl ⟨kvs,k,e,rfl,hl,rfl⟩
section
variable {X:Cx} {pins:List (Addr × Obj)} {σ:St} {H:Hp} {s:Shared} {a:Addr} {y v:V} {u r:Value} {o:Option V} {A:Around} {E:Value→Shared→Prop}
theorem Inv.big (I:Inv X pins σ H s):sysModules < s.heap.objs.size:=by
  have h:mainGlobals < s.heap.objs.size:=(I.mod.glob.keeps I.bk).lt;exact Nat.lt_trans (by decide) h
theorem kT {h':Heap} {t':Nat} {ob:HO} (I:Inv X pins σ H s) (mu:Mut (H a)) (hs:ab0 a s.heap h') (he:∃ q,h'.get? a=some q) (new:ObjOk X.prog X.w (upd H a ob) h' a ob) :
    Inv X pins σ (upd H a ob) { s with heap:=h',toks:=t' } :=
  I.write (x:=a) (e:=a) mu (.inl rfl) (fun b q hb z=>(hs.2 b hb).trans z) he new
theorem rN {P:Program} {w:World} {H':Hp} {h':Heap} {kvs:List (Key × V)} {vs:List (Key × Value)} (z:kvs.length≤sizeLine) (hd:(a == sysModules)=false) (rel:KV kvs vs) (dd:h'.DictOf (ba P w) a vs) :
    ObjOk P w H' h' a (.dK kvs):=⟨z,hd,vs,rel,dd⟩
end
section
variable {X:Cx} {pins:List (Addr × Obj)} {σ:St} {H:Hp} {s:Shared} {a:Addr} {kvs:List (Key × V)} {k:Key} {u:Value} {A:Around} {E:Value→Shared→Prop}
end
section
variable {X:Cx} {o i e value:Expr} {pos pos' tpos:Pos} {td ty tv:TE}
end
theorem ji {P:Program} {w:World} {H:Hp} (h:Heap) (hb:sysModules < h.objs.size):ObjOk P w H (h.push { cls:=.type "dict",data:=.dict #[] }) h.objs.size (.dK []) :=
  ⟨aaM _,beq_eq_false_iff_ne.mpr (abo (aau hb)),[],.nil,Heap.DictOf.new h⟩
theorem rJ {P:Program} {w:World} {H:Hp} (h:Heap) (hb:sysModules < h.objs.size):ObjOk P w H (h.push { cls:=.type "dict",data:=.dict #[] }) h.objs.size (.dT []) :=
  ⟨aaM _,beq_eq_false_iff_ne.mpr (abo (aau hb)),[],.nil,_,#[],0,aaz _ rfl,⟨rfl,rfl,rfl⟩,rfl,rfl,List.nodup_nil⟩
def uv:TE:=fun _ H Q=>∀ p,H p=none→Q (.ref p) (upd H p (.dK []))
section
variable {X:Cx} {pos:Pos}
theorem dC:PE X (.Dict [] [] pos) uv:=fun pins s σ H Q I h =>
  wpAny_Dict_empty ⟨.ref s.heap.objs.size,_,I.laid (a:=s.heap.objs.size) (o:=.dK []) (t':=s.toks) (fun _ _ q=>aaf _ q) (aag _) (ji s.heap I.big),rfl,h _ (I.hok.fresh (aag _))⟩
end
def mx:List (TE × TE)→St→Hp→(List (V × V)→Hp→Prop)→Prop
  | [],_,H,Q=>Q [] H
  | (tk,tv) :: r,σ,H,Q=>tk σ H fun x H1=>tv σ H1 fun y H2=>mx r σ H2 fun ps H3=>Q ((x,y) :: ps) H3
abbrev VV:List (V × V)→List (Value × Value)→Prop:=Paired fun p q=>RelV p.1 q.1∧RelV p.2 q.2
def PPs (X:Cx) (pos:Pos) (keys:List (Option Expr)) (values:List Expr) (trs:List (TE × TE)):Prop :=
  ∀ (pins:List (Addr × Obj)) (s:Shared) (σ:St) (H:Hp) (Q:List (V × V)→Hp→Prop),Inv X pins σ H s→mx trs σ H Q →
    wpAny (model X.prog X.w) X.A (evalPairs (pairTrees keys values X.env pos)) (fun vs s'=>∃ ps H',Inv X pins σ H' s'∧VV ps vs∧Q ps H') X.xe s
theorem sN {X:Cx} {pos:Pos}:PPs X pos [] [] []:=fun pins s σ H Q I h=>pairTrees_nil_walk ⟨[],H,I,.nil,h⟩
theorem qF {X:Cx} {pos:Pos} {k v:Expr} {ks:List (Option Expr)} {vs:List Expr} {tk tv:TE} {trs:List (TE × TE)} (hk:PE X k tk) (hv:PE X v tv) (hr:PPs X pos ks vs trs) :
    PPs X pos (some k :: ks) (v :: vs) ((tk,tv) :: trs):=fun pins s σ H Q I h =>
  pairTrees_cons_walk (thn (hk pins s σ H _ I h) fun u s1 ⟨x,H1,I1,rx,q1⟩=>thn (hv pins s1 σ H1 _ I1 q1) fun w2 s2 ⟨y,H2,I2,ry,q2⟩ =>
    thn (hr pins s2 σ H2 _ I2 q2) fun ws s3 ⟨ps,H3,I3,rel,q3⟩=>⟨(x,y) :: ps,H3,I3,.cons ⟨rx,ry⟩ rel,q3⟩)
def g6 (kvs more:List (Key × V)):List (Key × V):=more.foldl (fun acc kv=>eJ acc kv.1 kv.2) kvs
theorem KV.merge:∀ {more:List (Key × V)} {rs:List (Key × Value)} {kvs:List (Key × V)} {vs:List (Key × Value)},KV more rs→KV kvs vs→KV (g6 kvs more) (merged vs rs):=by
  intro more rs kvs vs r;unfold KV at r
  induction r generalizing kvs vs with
  | nil=>intro q;exact q
  | @cons p q ps qs h t ih =>
    intro r0;have e:KV (eJ kvs p.1 p.2) (stored vs q.1 q.2):=by
      have:=r0.put p.1 h.2;rw [← h.1];exact this
    exact ih e
theorem fH:∀ (more kvs:List (Key × V)),(g6 kvs more).length≤kvs.length+more.length
  | [],kvs=>by show kvs.length≤kvs.length+0;lia
  | p :: r,kvs=>by
    have h1:=fH r (eJ kvs p.1 p.2);have h2:=dF kvs p.1 p.2;show (g6 (eJ kvs p.1 p.2) r).length≤_;rw [aaD];lia
theorem jq {P:Program} {w:World}:∀ {kvs:List (Key × V)} {ws:List (Value × Value)},VV (kvs.map fun kv=>(kV kv.1,kv.2)) ws→∃ rs,Carries (ba P w) ws rs∧KV kvs rs
  | [],_,r=>by rw [abl] at r;cases r;exact ⟨[],True.intro,.nil⟩
  | p :: kvs,_,r=>by
    rw [aax] at r;cases r with
    | @cons a b as bs h t =>
      obtain ⟨rs,c,q⟩:=jq (P:=P) (w:=w) t;obtain ⟨b1,b2⟩:=b;exact ⟨(p.1,b2) :: rs,⟨oE h.1,rfl,c⟩,.cons ⟨rfl,h.2⟩ q⟩
def v0 (trs:List (TE × TE)):TE:=fun σ H Q=>∀ p,H p=none→mx trs σ (upd H p (.dK [])) fun ps H2=>H2 p=some (.dK [])∧∃ kvs:List (Key × V),ps=kvs.map (fun kv=>(kV kv.1,kv.2))∧kvs.length≤15∧Q (.ref p) (upd H2 p (.dK (g6 [] kvs)))
theorem sP {X:Cx} {pos:Pos} {keys:List (Option Expr)} {values:List Expr} {trs:List (TE × TE)} (h:PPs X pos keys values trs) (hall:keys.all (·.isSome)=true) (hl:keys.length=values.length) (h0:keys≠[])
    (h15:keys.length≤15):PE X (.Dict keys values pos) (v0 trs):=by
  intro pins s σ H Q I q;have hn:=I.hok.fresh (aag s.heap.objs.size);have I1:=I.laid (a:=s.heap.objs.size) (o:=.dK []) (h':=s.heap.push { cls:=.type "dict",data:=.dict #[] }) (t':=s.toks) (fun _ _ q=>aaf _ q) (aag _) (ji s.heap I.big);refine wpAny_Dict_walk (knd:=ba X.prog X.w) hall hl h0 h15 (thn (h pins _ σ _ _ I1 (q _ hn)) fun ws s2 ⟨ps,H2,I2,rel,e,kvs,ep,lk,q2⟩=>?_);subst ep;obtain ⟨rs,c,rk⟩:=jq (P:=X.prog) (w:=X.w) rel;obtain ⟨z,hd,vs0,r0,dd⟩:=rM I2.hok e;cases r0;refine ⟨rs,c,dd,fun h' dd' hs=>⟨.ref s.heap.objs.size,_,?_,rfl,q2⟩⟩;have hz:(g6 [] kvs).length≤sizeLine:=by
    have h1:=fH kvs [];rw [abr] at h1;rw [sizeLine_eq];lia
  have he:∃ q,h'.get? s.heap.objs.size=some q:=let ⟨q,_,_,hq,_⟩:=dd';⟨q,hq⟩;exact kT I2 (by rw [e];exact True.intro) hs he (rN hz hd (rk.merge .nil) dd')
structure M1 (X:Cx) (o:Expr) (m:Str) (apos:Pos) (e:Expr) (cpos:Pos):Prop where
  base:attributeBase o m X.env (eval o X.env)=eval o X.env
  few:((backTo cpos (starEach [e] X.env)).all (fun x=>!x.1) && (backToKw cpos (keywordEach [] X.env)).all (fun x=>x.1.isSome)
    && decide (([e]:List Expr).length+([]:List Keyword).length+(if ([]:List Keyword).isEmpty then 0 else 1) < 30))=true
  line:(apos.endLine == cpos.line)=true
  trees:backTo cpos (starEach [e] X.env)=[(false,eval e X.env)]
structure M2 (X:Cx) (o:Expr) (m:Str) (apos:Pos) (e f:Expr) (cpos:Pos):Prop where
  base:attributeBase o m X.env (eval o X.env)=eval o X.env
  few:((backTo cpos (starEach [e,f] X.env)).all (fun x=>!x.1) && (backToKw cpos (keywordEach [] X.env)).all (fun x=>x.1.isSome)
    && decide (([e,f]:List Expr).length+([]:List Keyword).length+(if ([]:List Keyword).isEmpty then 0 else 1) < 30))=true
  line:(apos.endLine == cpos.line)=true
  trees:backTo cpos (starEach [e,f] X.env)=[(false,eval e X.env),(false,eval f X.env)]
def IsD (H:Hp) (a:Addr):Prop:=(∃ kvs,Rd H a (.dK kvs))∨∃ kvs,Rd H a (.dT kvs)
theorem vq {X:Cx} {pins:List (Addr × Obj)} {σ:St} {H:Hp} {s:Shared} {a:Addr} (I:Inv X pins σ H s) (d:IsD H a) :
    s.TypeIs (.ref a) "dict"∧(∀ b,Value.ref a=.ref b→∃ ob,s.heap.get? b=some ob∧ob.dict=none)∧(a == sysModules)=false:=by
  rcases d with ⟨kvs,e⟩|⟨kvs,e⟩
  · obtain ⟨_,hd,vs,_,dd⟩:=rL I.hok e;refine ⟨dd.typeIs,fun b q=>?_,hd⟩;cases q;obtain ⟨ob,_,_,h1,h2,_⟩:=dd;exact ⟨ob,h1,h2.2.1⟩
  · obtain ⟨_,hd,xs,_,dd⟩:=rH I.hok e;refine ⟨dd.typeIs,fun b q=>?_,hd⟩;cases q;obtain ⟨ob,_,_,h1,h2,_⟩:=dd;exact ⟨ob,h1,h2.2.1⟩
section
variable {X:Cx} {pins:List (Addr × Obj)} {σ:St} {H:Hp} {s:Shared} {a:Addr} {y d:V} {u r:Value} {o:Option V} {A:Around} {E:Value→Shared→Prop}
theorem vF {Q:Value→Shared→Prop} (hu:A.units+1 < cLine) (I:Inv X pins σ H s) (g:DGet H a y o) (ry:RelV y u) (h:∀ w' s',Inv X pins σ H s'→RelV (o.getD .non) w'→Q w' s') :
    wpAny (model X.prog X.w) A (call (.builtin "dict.get") [.ref a,u]) Q E s:=by
  rcases g with ⟨kvs,k,e,ey,l⟩|⟨kvs,k,b,e,ey,eb,l⟩
  · subst ey;obtain ⟨z,hd,vs,rel,dd⟩:=rL I.hok e;refine call_meetsIn ab7 dd.typeIs PySem.F.entry_dict_get (PySem.F.args_dict_get_2 _ _) (meets_dict_get (ba X.prog X.w) a (oE ry) hd) ⟨_,dd.mapOf,h _ _ (I.tok _) ?_⟩;rw [l];exact (rel.val k).getD rfl
  · subst ey;cases (show u=Value.ref b from ry);obtain ⟨z,hd,xs,rel,dd⟩:=rH I.hok e;refine call_meetsIn ab7 dd.typeIs PySem.F.entry_dict_get (PySem.F.args_dict_get_2 _ _) (meetsH_dict_get (tupleKind (ba X.prog X.w)) a b hd) ⟨tupleKind_room_in1 hu,k,xs,nz I.hok eb,dd,h _ _ (I.tok _) ?_⟩;rw [l];exact (rel.val k).getD rfl
end
def uw (td ty:TE):TE:=fun σ H Q=>td σ H fun x H1=>∃ a,x=.ref a∧IsD H1 a∧ty σ H1 fun y H2=>∃ o,DGet H2 a y o∧Q (o.getD .non) H2
section
variable {X:Cx} {o e f:Expr} {apos cpos:Pos} {td ty tx:TE}
theorem qK (hu:X.A.units+1 < cLine) (ho:PE X o td) (he:PE X e ty) (m:M1 X o "get" apos e cpos):PE X (.Call (.Attribute o "get" apos) [e] [] cpos) (uw td ty):=by
  intro pins s σ H Q I h;refine wpAny_Call_method m.base m.few m.line PySem.F.plainAttrs_dict ab7 PySem.F.type_dict_get (thn (ho pins s σ H _ I h) fun u s1 ⟨x,H1,I1,rx,a,ex,d,q1⟩=>?_);subst ex;obtain rfl:u=Value.ref a:=rx;obtain ⟨t1,t2,_⟩:=vq I1 d;refine ⟨t1,t2,?_⟩;rw [m.trees];refine abC rfl (abL (abQ (thn (he pins s1 σ H1 _ I1 q1) fun iv s2 ⟨y,H2,I2,ry,ov,g,q2⟩=>abU ?_)));exact vF hu I2 g ry fun w' s3 I3 rw'=>⟨_,H2,I3,rw',q2⟩
end
section
variable {X:Cx} {pins:List (Addr × Obj)} {σ:St} {H:Hp} {s:Shared} {a:Addr} {kvs:List (Key × V)} {A:Around} {E:Value→Shared→Prop}
end
section
variable {X:Cx} {pins:List (Addr × Obj)} {σ:St} {H:Hp} {s:Shared} {a:Addr} {y:V} {u:Value} {A:Around} {E:Value→Shared→Prop}
end
open PySem PySem.Spec PyProof.Rows
section
variable {X:Cx}
end
section
variable {κ:Type} [DecidableEq κ]
end
end L2
set_option maxHeartbeats 4000000
namespace L2
open PySem PySem.Spec PyProof.Rows
theorem Inv.adopt {X:Cx} {pins:List (Addr × Obj)} {σ:St} {H:Hp} {s:Shared} {a:Addr} {o:HO} (I:Inv X pins σ H s) (hn:H a=none) (hs:X.s₀.heap.objs.size≤a) (hL:a≠X.env.locals) (hC:∀ x c,X.env.cells.lookup x=some c→c≠a) (hp:∀ p∈X.pn++pins,p.1≠a)
    (new:ObjOk X.prog X.w (upd H a o) s.heap a o):Inv X pins σ (upd H a o) s:=by
  have ne:∀ b u,X.s₀.heap.get? b=some u→b≠a:=fun b u e=>aau (aaq (aaj e) hs);refine ⟨I.ok,I.os,I.bare,⟨I.base.keep,I.base.slot,fun b u e n hx=>?_,I.base.there,fun b xs e=>?_,fun b u xs e=>?_,fun b ps e=>?_⟩,I.loc,I.cell,?_,fun x c e=>?_,fun p hq=>?_,fun b u e=>?_,I.len⟩
  · rw [aB (ne b u e)];exact I.base.free b u e n hx
  · have q:=I.base.tups b xs e;rw [aB (aG q hn)];exact q
  · have q:=I.base.frzs b u xs e;rw [aB (aG q hn)];exact q
  · obtain ⟨m,q⟩:=I.base.tbls b ps e;exact ⟨m,by rw [aB (aG q hn)];exact q⟩
  · rw [aB (abo hL)];exact I.free
  · rw [aB (hC x c e)];exact I.freeC x c e
  · obtain ⟨h1,h2,h3⟩:=I.pin p hq;exact ⟨h1,by rw [aB (hp p hq)];exact h2,h3⟩
  · by_cases hb:b=a
    · subst hb;rw [upd_same] at e;cases e;exact new
    · rw [aB hb] at e;exact (I.hok b u e).stay (fun c v _ q=>q) (fun c q=>by rw [aB (aG q hn)];exact q) fun c xs q=>by rw [aB (aG q hn)];exact q
def CellsIn (E:Env):List (Str × Addr)→Prop
  | []=>True
  | p :: r=>E.cells.lookup p.1=some p.2∧CellsIn E r
theorem CellsIn.get {E:Env}:∀ {cl:List (Str × Addr)} {x:Str} {c:Addr},CellsIn E cl→cl.lookup x=some c→E.cells.lookup x=some c:=by
  intro cl x c h e;have hm:=aaW e;clear e
  induction cl with
  | nil=>exact nomatch hm
  | cons p r ih =>
    rcases aah.mp hm with q|q
    · have:=h.1;rw [← q] at this;exact this
    · exact ih h.2 q
def CapOk (XE:Env) (sc:Scope) (XN:List Str):List Str→List (Option Nat)→Prop
  | [],[]=>True
  | _ :: n,none :: c=>CapOk XE sc XN n c
  | x :: n,some i :: c=>(XN[i]?=some x∧(XE.kindOf x=some .cell∨XE.kindOf x=some .free)∧(sc.names.lookup x=some .cell∨sc.names.lookup x=some .free))∧CapOk XE sc XN n c
  | _,_=>False
def vJ (σ:St) (o:Option Nat):Option V:=match o with
  | none=>none
  | some i=>(σ[i]?).join
def a6 (cap:List (Option Nat)) (σ:St):St:=cap.map (vJ σ)
theorem CapOk.len {XE:Env} {sc:Scope} {XN:List Str}:∀ {n:List Str} {c:List (Option Nat)},CapOk XE sc XN n c→c.length=n.length
  | [],[],_=>rfl
  | _ :: _,none :: _,h=>congrArg (·+1) (CapOk.len (n:=_) (c:=_) h)
  | _ :: _,some _ :: _,h=>congrArg (·+1) (CapOk.len h.2)
  | [],_ :: _,h=>(show False from h).elim
  | _ :: _,[],h=>(show False from h).elim
theorem CapOk.get {XE:Env} {sc:Scope} {XN:List Str} {σ:St}:∀ {n:List Str} {c:List (Option Nat)} {j:Nat} {x:Str} {v:V},CapOk XE sc XN n c→n[j]?=some x→(a6 c σ)[j]?=some (some v) →
    ∃ i:Nat,XN[i]?=some x∧σ[i]?=some (some v)∧(XE.kindOf x=some .cell∨XE.kindOf x=some .free)∧(sc.names.lookup x=some .cell∨sc.names.lookup x=some .free)
  | [],[],_,_,_,_,h,_=>by simp at h
  | y :: n,none :: c,0,x,v,_,_,e=>by simp [a6,vJ] at e
  | y :: n,none :: c,j+1,x,v,h,h1,e=>CapOk.get (n:=n) (c:=c) (j:=j) h (by simpa using h1) (by simpa [a6] using e)
  | y :: n,some i :: c,0,x,v,h,h1,e=>by
    simp at h1;subst h1;refine ⟨i,h.1.1,?_,h.1.2⟩;simp only [a6,vJ,aax,List.getElem?_cons_zero] at e;cases q:σ[i]? with
    | none=>rw [q] at e;simp at e
    | some w=>rw [q] at e;simp at e;rw [e]
  | y :: n,some i :: c,j+1,x,v,h,h1,e=>CapOk.get (n:=n) (c:=c) (j:=j) h.2 (by simpa using h1) (by simpa [a6] using e)
  | [],_ :: _,_,_,_,h,_,_=>(show False from h).elim
  | _ :: _,[],_,_,_,h,_,_=>(show False from h).elim
def ai (X:Cx) (scope:Scope) (cl:List (Str × Addr)) (NY:List Str) (fp:List Addr) (s:Shared) (H:Hp) (C:Addr):Cx where
  prog:=X.prog
  w:=X.w
  K:=X.K
  mg:=X.mg
  base:=X.base
  A:=X.A
  N:=NY
  s₀:=s
  H₀:=H
  env:=compEnvC scope cl C X.env
  outer:=X.stack
  stack:=X.stack
  ex:=fp
  fn:=fun _=>false
  calm:=X.calm
  pn:=[]
  xe:=fun _ _=>False
def kZ (X:Cx) (ifs:List Expr) (t:TT):Prop :=
  ∀ (pins:List (Addr × Obj)) (s:Shared) (σ:St) (H:Hp) (Q:Bool→Hp→Prop),Inv X pins σ H s→t σ H Q →
    wpAny (model X.prog X.w) X.A (forIn ifs true fun c r=>if r=true then do let ok ← isTrue c X.env (eval c X.env);pure (ForInStep.yield ok) else pure (ForInStep.yield r)) (TP X pins σ Q) X.xe s
theorem bi {X:Cx}:kZ X [] (fun _ H Q=>Q true H):=fun _ _ _ H _ I h=>wpAny_tests_nil ⟨H,I,h⟩
theorem lA {X:Cx} {c:Expr} {t:TT} (h:PT X c t):kZ X [c] t:=fun pins s σ H Q I q=>wpAny_tests_one (h pins s σ H Q I q)
theorem jO {prog:Program} {w:World} {A:Around} {R:Result→Shared→Prop} {s:Shared} {elt target iter:Expr} {ifs:List Expr} {scope:Scope} {pos:Pos} {it acc:Value} {env:Env} (J:Nat→Shared→Prop)
    (turn:∀ n s,J n s→wpAny (model prog w) A (pyNext it) (fun r s₁=>match r with
      | none=>R (.ok .next) s₁
      | some v=>wpAny (model prog w) A (letOwnedTupleGo target it v) (fun _ s₁'=>wpAny (model prog w) A (assign target env v) (fun _ s₂ =>
          wpAny (model prog w) A (forIn ifs true fun c r=>if r=true then do let ok ← isTrue c env (eval c env);pure (ForInStep.yield ok) else pure (ForInStep.yield r)) (fun ok s₃ =>
            if ok=true then wpAny (model prog w) A (eval elt env) (fun x s₄ =>
              wpAny (model prog w) A (call (.builtin "list.append") [acc,x]) (fun _ s₅=>∃ m,m < n∧J m s₅) (fun _ _=>False) s₄) (fun _ _=>False) s₃
            else ∃ m,m < n∧J m s₃) (fun _ _=>False) s₂) (fun _ _=>False) s₁') (fun _ _=>False) s₁) (fun _ _=>False) s)
    (n:Nat) (h:J n s) :
    codeAny (model prog w) A (.compLoop (.ListComp elt [⟨target,iter,ifs,0⟩] scope pos) 0 it acc env) R s:=by
  refine codeAny_loop rfl J (fun n s hI=>?_) n h;show wpAny _ A ((compTurn (.ListComp elt [⟨target,iter,ifs,0⟩] scope pos) 0 it acc env).onRaise (fun x=>do noteFrame x env;theTreesLotGoes x)) _ _ s;refine wpAny_noted ?_;rw [compTurn_list];refine wpAny_bind (wpAny_standAt (wpAny_bind (wpAny_mono (turn n s hI) (fun r s₁ h₁=>?_) fun _ _ h'=>h'.elim)));cases r with
  | none=>exact wpAny_pure h₁
  | some v =>
    refine wpAny_bind (wpAny_mono h₁ (fun _ s₁' h₁'=>?_) fun _ _ h'=>h'.elim);refine wpAny_bind (wpAny_mono h₁' (fun _ s₂ h₂=>wpAny_bind (wpAny_mono h₂ (fun ok s₃ h₃=>?_) fun _ _ h'=>h'.elim)) fun _ _ h'=>h'.elim);cases ok with
    | false=>exact wpAny_pure ⟨rfl,h₃⟩
    | true =>
      exact wpAny_bind (wpAny_bind (wpAny_mono h₃ (fun x s₄ h₄=>wpAny_bind (wpAny_mono h₄ (fun _ s₅ h₅=>wpAny_pure (wpAny_pure ⟨rfl,h₅⟩)) fun _ _ h'=>h'.elim)) fun _ _ h'=>h'.elim))
abbrev sq (cap:List (Option Nat)) (g:TG) (tt:TT) (te:TE) (σ:St) (Q:VK) (J:It) (H1:Hp):Prop:=∃ W:Nat→Nat→List V→Hp→Prop,(∃ m,W 0 m [] H1)∧∀ i m ys H,W i m ys H →
  (J.stop i H∧∀ p,H p=none→Q (.ref p) (upd H p (.lst ys))) ∨
  (J.go i H∧ys.length < sizeLine∧∀ x H',J.yld i H x H'→g x (a6 cap σ) H' fun σ2 H2=>tt σ2 H2 fun b H3=>if b=true then te σ2 H3 fun v H4=>∃ m',m' < m∧W (i+1) m' (ys++[v]) H4 else ∃ m',m' < m∧W (i+1) m' ys H3)
def tLc (cap:List (Option Nat)) (wi:TI) (g:TG) (tt:TT) (te:TE):TE:=fun σ H Q=>wi σ H (sq cap g tt te σ Q)
section
variable {X:Cx}
theorem eQ {elt tg iter:Expr} {ifs:List Expr} {scope:Scope} {pos:Pos} {cl:List (Str × Addr)} {NY:List Str} {cap:List (Option Nat)} {wi:TI} {g:TG} {tt:TT} {te:TE} (hc:X.calm=true) (hi:PI X tg iter wi)
    (hclos:closureFor scope X.env=pure cl) (hci:CellsIn X.env cl) (hcap:CapOk X.env (relabel scope X.env) X.N NY cap)
    (hb:∀ fp s H C,PG (ai X scope cl NY fp s H C) tg g∧kZ (ai X scope cl NY fp s H C) ifs tt∧PE (ai X scope cl NY fp s H C) elt te)
    (hkind:scope.kind=.function:=by rfl) (hnc:(scope.names.all fun y=>y.2 != .cell)=true:=by rfl)
    (hnames:(scope.names.all fun y=>y.2 != .local || scope.names.lookup y.1 == some .local)=true:=by rfl)
    (hhas:((relabel scope X.env).names.all fun p=>(p.2 != .cell && p.2 != .free) || (cl.lookup p.1).isSome)=true:=by rfl)
    (hs:∀ x,foldedSetIterable iter X.env x=pure x:=by intro _;rfl) :
    PE X (.ListComp elt [⟨tg,iter,ifs,0⟩] scope pos) (tLc cap wi g tt te):=by
  have hnc':∀ y∈scope.names,y.2≠.cell:=fun y hy=>by
    have q:=aay.mp hnc y hy;simpa using q
  have hnames':∀ y∈scope.names,y.2=.local→scope.names.lookup y.1=some .local:=fun y hy e=>by
    have q:=aay.mp hnames y hy;rw [e] at q;simpa using q
  intro pins s σ H Q I h;rw [eval_ListComp];refine wpAny_comprehension_free (use:=none) rfl hs hclos hkind hnames' (wpAny_mono (hi pins s σ H _ I h) (fun v s1 h1=>wpAny_mono h1 (fun itv s2 h2=>?_) fun _ _ e=>e) fun _ _ e=>e);obtain ⟨it,fp,tn,J,H2,e,I2,T,st2,f2,W,⟨m0,w0⟩,turn⟩:=h2;subst e;refine wpAny_newObj_type (wpAny_newFunctionEnv hnc' (by intro y hy;simp at hy) (fun h₁ hns₁ hsb₁=>?_) hkind);dsimp only at hns₁ hsb₁ ⊢;generalize hH2:s2.heap.push { cls:=.type "list",dict:=none,data:=.seq ([]:List Value).toArray }=G2 at hns₁ hsb₁ ⊢;have hC:G2.objs.size=s2.heap.objs.size+1:=by rw [← hH2,abX]
  have hDC:s2.heap.objs.size≠G2.objs.size:=by rw [hC];exact aau (acb _)
  have hDlt:s2.heap.objs.size≤G2.objs.size:=by rw [hC];exact Nat.le_succ _
  have below:∀ b,b < s2.heap.objs.size→b≠G2.objs.size∧b≠s2.heap.objs.size:=fun b hb=>⟨by rw [hC];exact aau (abV hb),aau hb⟩
  have old:∀ b o,s2.heap.get? b=some o→h₁.get? b=some o:=fun b o e=>hsb₁.extBut b o (below b (aaj e)).1 (aaf _ (hH2 ▸ aaf _ e));have hacc:h₁.get? s2.heap.objs.size=some { cls:=.type "list",data:=.seq ([]:List Value).toArray 0 }:=hsb₁.extBut _ _ hDC (aaf _ (hH2 ▸ aaz _ rfl));have fpl:∀ b∈fp,b < s2.heap.objs.size:=fun b hb=>by
    obtain ⟨o,e,_⟩:=T.obj _ _ st2 b hb;exact aaj e
  have freshD:H2 s2.heap.objs.size=none:=I2.hok.fresh (aag _);have freshC:H2 G2.objs.size=none:=I2.hok.fresh hDlt;have cellLt:∀ x c,X.env.cells.lookup x=some c→c < s2.heap.objs.size:=fun x c e=>by
    obtain ⟨v,q⟩:=I2.cell x c e;exact q.lt
  have hclX:∀ x c,cl.lookup x=some c→X.env.cells.lookup x=some c:=fun x c e=>hci.get e;obtain ⟨hbg,hbt,hbe⟩:=hb fp s2 H2 G2.objs.size;have okY:(ai X scope cl NY fp s2 H2 G2.objs.size).Ok:=by
    refine ⟨I2.ok.mod,hkind,I2.ok.glob,I2.ok.blt,hDlt,fun x y c e1 e2=>I2.ok.inj x y c (hclX x c e1) (hclX y c e2),fun x hx=>?_,fun x c hf _=>?_,I2.ok.hd,I2.ok.frames,.inl rfl,fun b hb=>⟨(below b (fpl b hb)).1,fun x c e z=>?_⟩,I2.bs,
      aaZ I2.ok.bsz I2.sz,fun b o e hb=>?_,fun b hb hz=>?_,I2.stack,I2.stkFree⟩
    · have hx':(relabel scope X.env).names.lookup x=some .cell∨(relabel scope X.env).names.lookup x=some .free:=hx;have key:∀ k,(relabel scope X.env).names.lookup x=some k→(k=.cell∨k=.free)→∃ c,cl.lookup x=some c:=fun k e hk=>by
        have q:=aay.mp hhas (x,k) (aaW e);have q':(cl.lookup x).isSome=true:=by
          rcases hk with rfl|rfl <;> simpa using q
        exact aba.mp q'
      rcases hx' with e|e
      · exact key _ e (.inl rfl)
      · exact key _ e (.inr rfl)
    · exact absurd (show false=true from hf) aai
    · exact (f2 b hb).2.2.2.2.1 x c (hclX x c e) z
    · rcases (f2 b hb).2.2.2.1 with z|z
      · exact I2.ok.noex b o e z
      · exact absurd (aaq (aaj (I2.ok.bs b o e).1) z) (aaT _)
    · rcases aah.mp (I2.stkSub b hz) with z|z
      · exact (f2 b hb).2.1 z
      · exact (f2 b hb).2.2.1 z
  have fpYs:∀ {H':Hp} {n:Nat} {its:List Value},(∀ b∈fp,H' b=none)→∀ b∈fp,gC (ai X scope cl NY fp s2 H2 G2.objs.size) [(s2.heap.objs.size,{ cls:=.type "list",data:=.seq its.toArray n })] H' b:=fun {H' n its} hn b hb=>by
    refine ⟨hn b hb,(below b (fpl b hb)).1,fun hz=>?_,.inl hb,fun x c e=>(f2 b hb).2.2.2.2.1 x c (hclX x c e),fun p hp=>?_⟩
    · rcases aah.mp (I2.stkSub b hz) with z|z
      · exact (f2 b hb).2.1 z
      · exact (f2 b hb).2.2.1 z
    · have e:p=(s2.heap.objs.size,{ cls:=.type "list",data:=.seq its.toArray n }):=by simpa [ai] using hp
      rw [e];exact abo (below b (fpl b hb)).2
  have nostk:∀ b,s2.heap.objs.size≤b→b∉frs X.stack:=fun b hb hz=>by
    rcases aah.mp (I2.stkSub b hz) with z|z
    · have:=I2.lt;rw [← z] at this;exact absurd (aaq this hb) (aaT _)
    · exact I2.nofs hb z
  have IY0:Inv (ai X scope cl NY fp s2 H2 G2.objs.size) [(s2.heap.objs.size,{ cls:=.type "list",data:=.seq ([]:List Value).toArray 0 })] (a6 cap σ) H2 { s2 with heap:=h₁,toks:=s2.toks+([]:List (Str × Value)).length }:=by
    refine ⟨okY,rfl,I2.bare,Un.kept old,⟨_,hns₁,fun j x v e1 e2 e3=>?_⟩,fun x c e=>?_,freshC,fun x c e=>I2.freeC x c (hclX x c e),fun p hp=>?_,I2.hok.kept old,?_⟩
    · obtain ⟨i,h1,h2,h3,h4⟩:=CapOk.get (σ:=σ) hcap e1 e2;obtain ⟨m,hn,hl⟩:=I2.loc;have vis:Vis X.env.scope x:=by rcases h3 with z|z;exact .inr (.inl z);exact .inr (.inr z)
      obtain ⟨u,r,l⟩:=hl i x v h1 h2 vis;refine ⟨u,r,.inr ⟨h4,?_⟩⟩;rcases l with ⟨k,_⟩|⟨_,c,e,z⟩
      · rcases h3 with z|z <;> (rw [k] at z;cases z)
      · obtain ⟨c',e'⟩:=okY.has x h4;have e':cl.lookup x=some c':=e';have e'':=hclX x c' e';rw [e] at e'';cases e'';obtain ⟨o,ho,hd⟩:=z;exact ⟨c,e',o,old _ _ ho,hd⟩
    · obtain ⟨v,o,ho,hd⟩:=I2.cell x c (hclX x c e);exact ⟨v,o,old _ _ ho,hd⟩
    · have e:p=(s2.heap.objs.size,{ cls:=.type "list",data:=.seq ([]:List Value).toArray 0 }):=by simpa [ai] using hp
      rw [e];exact ⟨hacc,freshD,hDC,nostk _ (aag _),fun v z=>by cases z⟩
    · show (a6 cap σ).length=NY.length;unfold a6;rw [aak];exact hcap.len
  have hcY:(ai X scope cl NY fp s2 H2 G2.objs.size).calm=true:=hc;have stW:tn 0 h₁:=T.keep _ _ _ st2 fun b _ o e=>old b o e;have loop:∀ s₃:Shared,s₃={ s2 with heap:=h₁,toks:=s2.toks+([]:List (Str × Value)).length } →
      codeAny (model X.prog X.w) X.A (.compLoop (.ListComp elt [⟨tg,iter,ifs,0⟩] scope pos) 0 (.ref it) (.ref s2.heap.objs.size) (compEnvC scope cl G2.objs.size X.env))
        (compPost (model X.prog X.w) X.A X.xe none (EP X pins σ Q) (.ref s2.heap.objs.size) G2.objs.size) s₃:=by
    rintro s₃ rfl;refine jO (fun n s'=>∃ i ys its k H',Inv (ai X scope cl NY fp s2 H2 G2.objs.size) [(s2.heap.objs.size,{ cls:=.type "list",data:=.seq its.toArray k })] (a6 cap σ) H' s'∧Vals ys its∧ys.length≤sizeLine∧tn i s'.heap∧(∀ b∈fp,H' b=none)∧W i n ys H') ?_ m0
      ⟨0,[],[],0,H2,IY0,.nil,aaM _,stW,fun b hb=>(f2 b hb).1,w0⟩
    rintro n s3 ⟨i,ys,its,k,H3,I3,rv,hz,st3,fr3,w3⟩;rcases turn i n ys H3 w3 with ⟨stop,qn⟩|⟨go,hlt,step⟩
    · refine wpAny_mono (T.done (ai X scope cl NY fp s2 H2 G2.objs.size) rfl rfl rfl hcY i _ s3 _ H3 (fun _ _=>False) I3 (fpYs fr3) st3 stop) (fun r s4 ⟨hr,I4⟩=>?_) fun _ _ z=>z;subst hr;obtain ⟨m,hnC,_⟩:=id I4.loc;have hnC:s4.heap.Ns G2.objs.size m:=hnC;refine ⟨m,hnC,fun h' hsb=>?_⟩;have pD:=(I4.pin (s2.heap.objs.size,{ cls:=.type "list",data:=.seq its.toArray k }) (by simp [ai]))
      have un:Un (frs X.stack) fp H2 H3 s2.heap s4.heap:=I4.base;have I5:Inv X pins σ H3 s4:=I2.call' (ch:=fp) I4.os un I4.hok I4.bare fun b hb=>⟨(f2 b hb).2.2.2.1,(f2 b hb).2.1,(f2 b hb).2.2.2.2.1,(f2 b hb).2.2.2.2.2⟩
      have cC:H3 G2.objs.size=none:=I4.free;have szX:X.s₀.heap.objs.size≤s2.heap.objs.size:=I2.sz;have I6:Inv X pins σ H3 { s4 with heap:=h' }:=I5.turned (t':=s4.toks) (it:=G2.objs.size) (fun b o hb e=>hsb.extBut b o hb e) cC (abn (aaq I2.lt hDlt)) (.inr (aaZ szX hDlt))
        (fun x c e z=>absurd (cellLt x c e) (by rw [z];exact abW.mpr hDlt)) (fun p hp z=>absurd (aaj (I2.pin p hp).1) (by rw [z];exact abW.mpr hDlt))
      have I7:Inv X pins σ (upd H3 s2.heap.objs.size (.lst ys)) { s4 with heap:=h' }:=I6.adopt pD.2.1 szX (abn I2.lt) (fun x c e=>aau (cellLt x c e)) (fun p hp=>aau (aaj (I2.pin p hp).1))
        ⟨hz,its,k,rv,hsb.extBut _ _ hDC pD.1⟩
      exact ⟨.ref s2.heap.objs.size,_,I7,rfl,qn _ pD.2.1⟩
    · refine wpAny_mono (T.item (ai X scope cl NY fp s2 H2 G2.objs.size) rfl rfl rfl hcY i _ s3 _ H3 (fun _ _=>False) I3 (fpYs fr3) st3 go) (fun r s4 ⟨u,hr,h4⟩=>?_) fun _ _ z=>z;subst hr;refine wpAny_mono h4 (fun _ s5 ⟨x,H5,I5,r5,y5,st5,fr5⟩=>?_) fun _ _ z=>z;have I5':=I5.pinned (fpYs fr5) (T.obj _ _ st5);refine wpAny_mono (hbg _ s5 _ H5 x u _ I5' r5 (step x H5 y5)) (fun _ s6 ⟨σ6,H6,I6,q6⟩=>?_) fun _ _ z=>z;refine wpAny_mono (hbt _ s6 σ6 H6 _ I6 q6) (fun ok s7 ⟨H7,I7,q7⟩=>?_) fun _ _ z=>z;have lenY:∀ {σ':St} {pn} {H'} {s'},Inv (ai X scope cl NY fp s2 H2 G2.objs.size) pn σ' H' s'→(a6 cap σ).length=σ'.length:=fun {σ' pn H' s'} Z=>IY0.len.trans Z.len.symm;have captured:∀ {σ':St} {pn} {H'} {s'},Inv (ai X scope cl NY fp s2 H2 G2.objs.size) pn σ' H' s'→Inv (ai X scope cl NY fp s2 H2 G2.objs.size) pn (a6 cap σ) H' s':=fun {σ' pn H' s'} Z=>by
        refine ⟨Z.ok,Z.os,Z.bare,Z.base,?_,Z.cell,Z.free,Z.freeC,Z.pin,Z.hok,IY0.len⟩;obtain ⟨m,hn,_⟩:=Z.loc;refine ⟨m,hn,fun j x v e1 e2 e3=>?_⟩;obtain ⟨i',h1,h2,h3,h4⟩:=CapOk.get (σ:=σ) hcap e1 e2;obtain ⟨m',hn',hl⟩:=I2.loc;have vis:Vis X.env.scope x:=by rcases h3 with z|z;exact .inr (.inl z);exact .inr (.inr z)
        obtain ⟨u,r,l⟩:=hl i' x v h1 h2 vis;refine ⟨u,r,.inr ⟨h4,?_⟩⟩;rcases l with ⟨kk,_⟩|⟨_,c,e,z⟩
        · rcases h3 with z|z <;> (rw [kk] at z;cases z)
        · obtain ⟨c',e'⟩:=okY.has x h4;have e':cl.lookup x=some c':=e';have e'':=hclX x c' e';rw [e] at e'';cases e'';obtain ⟨o,ho,hd⟩:=z;have nfp:c∉fp:=fun hz=>(f2 c hz).2.2.2.2.1 x c e rfl;obtain ⟨sl,q⟩:=Z.base.any (show s2.heap.get? c=some o from ho) (I2.freeC x c e) nfp;exact ⟨c,e',_,q,hd⟩
      have again:∀ {ys':List V} {its':List Value} {k':Nat} {σ':St} {H':Hp} {s':Shared},Inv (ai X scope cl NY fp s2 H2 G2.objs.size) ([(s2.heap.objs.size,{ cls:=.type "list",data:=.seq its'.toArray k' })]++bf fp s5.heap) σ' H' s'→Vals ys' its'→ys'.length≤sizeLine →
          (∃ m',m' < n∧W (i+1) m' ys' H')→∃ m,m < n∧∃ i ys its k H',Inv (ai X scope cl NY fp s2 H2 G2.objs.size) [(s2.heap.objs.size,{ cls:=.type "list",data:=.seq its.toArray k })] (a6 cap σ) H' s'∧Vals ys its∧ys.length≤sizeLine∧tn i s'.heap∧(∀ b∈fp,H' b=none)∧W i m ys H':=fun {ys' its' k' σ' H' s'} Z rv' hz' hw=>by
        obtain ⟨m',hm,w'⟩:=hw;refine ⟨m',hm,i+1,ys',its',k',H',captured Z.unpinned,rv',hz',T.keep _ _ _ st5 fun b hb o e=>(Z.pin (b,o) (aab _ (aab _ (bh hb e)))).1,fun b hb=>?_,w'⟩;obtain ⟨o,e,d⟩:=T.obj _ _ st5 b hb;exact (Z.pin (b,o) (aab _ (aab _ (bh hb e)))).2.1
      cases ok with
      | false =>
        rw [if_neg aai] at q7 ⊢;exact again I7 rv hz q7
      | true =>
        rw [if_pos rfl] at q7 ⊢;refine wpAny_mono (hbe _ s7 σ6 H7 _ I7 q7) (fun xv s8 ⟨v,H8,I8,r8,q8⟩=>?_) fun _ _ z=>z;have pD:=I8.pin (s2.heap.objs.size,{ cls:=.type "list",data:=.seq its.toArray k }) (by simp [ai]);have hlen:=rv.length;refine append_at pD.1 (fun h9 hs9 hD9=>?_) (by rw [aam];lia);have I9:Inv (ai X scope cl NY fp s2 H2 G2.objs.size) (bf fp s5.heap) σ6 H8 s8:=I8.pins_of fun p hp=>I8.pin p (aab _ (aab _ hp));have I10:Inv (ai X scope cl NY fp s2 H2 G2.objs.size) (bf fp s5.heap) σ6 H8 { s8 with heap:=h9 }:=I9.turned (t':=s8.toks) (it:=s2.heap.objs.size) (fun b o hb e=>hs9.extBut b o hb e) pD.2.1 hDC (.inr (aag _))
          (fun x c e=>aau (cellLt x c (hclX x c e))) fun p hp=>by
            have hp':p∈bf fp s5.heap:=by simpa [ai] using hp
            exact abo (abo (below _ (fpl _ (dh hp').1)).2)
        have I11:Inv (ai X scope cl NY fp s2 H2 G2.objs.size) ([(s2.heap.objs.size,{ cls:=.type "list",data:=.seq (its++[xv]).toArray (k+1) })]++bf fp s5.heap) σ6 H8 { s8 with heap:=h9 }:=I10.pins_of fun p hp=>by
          rcases aao.mp hp with z|z
          · have e:p=(s2.heap.objs.size,{ cls:=.type "list",data:=.seq (its++[xv]).toArray (k+1) }):=by simpa using z
            rw [e];refine ⟨?_,pD.2.1,hDC,nostk _ (aag _),fun v z=>by cases z⟩;rw [List.push_toArray] at hD9;exact hD9
          · exact I10.pin p (aab _ z)
        exact again I11 (rv.append (.cons r8 .nil)) (by rw [aae,aaN];exact hlt) q8
  exact codeAny_compStart_list (loop _ rfl) (T.self _ 0 _ _ _ stW (loop _ rfl))
end
open PySem PySem.Spec PyProof.Rows
section
variable {X:Cx}
theorem bp {n:String}:dE X (.builtin "isinstance") (fun xs H Q=>∃ x t b,xs=[x,.ty n]∧TyOf X.K H x t∧aaE X.K t (.type n)=some b∧Q (.bl b) H):=by
  intro pins s σ H xs us Q I r h;obtain ⟨x,t,b,rfl,ty,e,q⟩:=h;obtain ⟨u,w',rfl,rx,rt⟩:=n0 r;cases rt;exact pO I rx ty e fun tk=>⟨.bl b,H,I.tok _,rfl,q⟩
theorem lE:OpR X (binaryOp .FloorDiv) (rI (fun _ j=>0 < j∧j < 2 ^ 64) fun i j=>.int (i / j)):=opI fun i j _ _ _ _ _ hc q=>by
  have h1:(0:Int) < j:=hc.1;have h2:j < 2 ^ 64:=hc.2;refine floordiv_int (by lia) (by rw [Int.fdiv_eq_ediv_of_nonneg i (by lia)];exact q) (.inl (PyProof.noPylong_of_log2 ?_));have h3:j.natAbs < 2 ^ 64:=by lia
  have h4:j.natAbs≠0:=by lia
  have h5:j.natAbs.log2 < 64:=(Nat.log2_lt h4).mpr h3;lia
def Cal (P:Program) (w:World) (K:aaa) (mg:Str→Option Value) (base:Heap) (x:Str) (k:Nat) (ps:List Str) (sp:Sp):Prop :=
  ∃ f fd,FnOk P w K mg base CX0 k f fd ps sp∧Binds K fd ps []∧abc K (.ref f)=true∧mg x=some (.ref f)
theorem ag {x:Str} {k k':Nat} {ps:List Str} {sp:Sp} {e:Expr} {es:List Expr} {t:TA} {p pos:Pos} (C:Cal X.prog X.w X.K X.mg X.base x k ps sp) (hr:Room k' X.A) (hk:k≤k') (hg:Gl X x) (ha:PA X (e :: es) t)
    (hdb:(x == ("__debug__":Str))=false:=by decide) (he:starEach (e :: es) X.env=(false,eval e X.env) :: starEach es X.env:=by rfl) (hpl:(backTo pos (starEach es X.env)).any (·.1)=false:=by rfl) :
    PE X (.Call (.Name x p) (e :: es) [] pos) (qm sp [] E0 t):=by
  obtain ⟨f,fd,F,b,kp,m⟩:=C;exact ox F (hr.mono hk) hg m kp b .nil wz ha hdb he hpl
end
theorem Same.new {H:Hp} {p:Addr} (h:H p=none) (o:HO):Same H (upd H p o):=fun b u q=>by rw [aB (aG q h)];exact q
def But (w:Addr) (H H':Hp):Prop:=∀ b o,b≠w→H b=some o→H' b=some o
theorem But.refl {w:Addr} {H:Hp}:But w H H:=fun _ _ _ h=>h
theorem But.trans {w:Addr} {H H1 H2:Hp} (a:But w H H1) (b:But w H1 H2):But w H H2:=fun c o n h=>b c o n (a c o n h)
theorem But.of {w:Addr} {H H':Hp} (a:Same H H'):But w H H':=fun c o _ h=>a c o h
theorem But.new {w:Addr} {H:Hp} {p:Addr} (h:H p=none) (o:HO):But w H (upd H p o):=But.of (Same.new h o)
theorem But.put {w:Addr} {H:Hp} {o:HO}:But w H (upd H w o):=fun b u n q=>by rw [aB n];exact q
end L2
namespace Srt
open PySem PySem.W PyProof.Rows
def run {α:Type} (lt:Nat→Nat→Bool):KasT α→α
  | .ret a=>a
  | .ask i j k=>run lt (k (lt i j))
section
variable (key:Nat→Int)
abbrev lt:Nat→Nat→Bool:=fun i j=>decide (key i < key j)
def kp (p:Array Nat) (x:Nat):Int:=key (p.getD x 0)
variable {key}
end
end Srt
namespace Srt
open PySem PySem.W PyProof.Rows
def Ent (n:Nat) (p:Array Nat):Prop:=∀ x,p.getD x 0 < n
section
variable {prog:Program} {w:World} {A:Around} {E:Value→Shared→Prop} {s:Shared}
end
end Srt
set_option maxHeartbeats 2000000
namespace L2
open PySem PySem.Spec PyProof.Rows
inductive EqR (K:aaa) (H:Hp):Nat→V→V→Bool→Prop
  | flat {n:Nat} {x y:V} (fx:dZ x=true) (fy:dZ y=true):EqR K H n x y (eqV x y)
  | lens {n:Nat} {a b:Addr} {xs ys:List V} (ha:SqL K H a xs) (hb:SqL K H b ys) (hl:xs.length≠ys.length):EqR K H (n+1) (.ref a) (.ref b) false
  | lst {n:Nat} {a b:Addr} {xs ys:List V} {e:Nat→Bool} (ha:SqL K H a xs) (hb:SqL K H b ys) (hl:xs.length=ys.length) (h:∀ (j:Nat) x y,xs[j]?=some x→ys[j]?=some y→EqR K H n x y (e j)):EqR K H (n+1) (.ref a) (.ref b) ((abz xs.length).all e)
  | tup {n:Nat} {a b:Addr} {xs ys:List V} {e:Nat→Bool} (ha:SqT K H a xs) (hb:SqT K H b ys) (h:∀ (j:Nat) x y,xs[j]?=some x→ys[j]?=some y→EqR K H n x y (e j)) :
      EqR K H (n+1) (.ref a) (.ref b) ((abz (min xs.length ys.length)).all e && xs.length == ys.length)
theorem rE {x:V} (f:dZ x=true):eqV x x=true:=by
  cases x <;> first|rfl|(simp [eqV];done)|exact absurd (show false=true from f) aai
section
variable {X:Cx} {pins:List (Addr × Obj)} {σ:St} {H:Hp} {s:Shared}
theorem EqR.self (I:Inv X pins σ H s) {n:Nat} {x y:V} {b:Bool} (h:EqR X.K H n x y b):x=y→b=true:=by
  induction h with
  | flat fx fy=>intro e;subst e;exact rE fx
  | lens ha hb hl =>
    intro e;injection e with e;subst e
    exact absurd (by rw [I.list_inj ha hb]) hl
  | @lst n a b xs ys e ha hb hl h ih =>
    intro q;injection q with q;subst q
    obtain rfl:=I.list_inj ha hb;rw [aay];intro j hj;have hj':j < xs.length:=List.mem_range.mp hj;exact ih j _ _ (aar hj') (aar hj') rfl
  | @tup n a b xs ys e ha hb h ih =>
    intro q;injection q with q;subst q
    obtain rfl:=I.tuple_inj ha hb;rw [Bool.and_eq_true,aay];refine ⟨fun j hj=>?_,beq_self_eq_true _⟩;have hj':j < xs.length:=by have:=List.mem_range.mp hj;lia
    exact ih j _ _ (aar hj') (aar hj') rfl
theorem fA {xs:List V} {its:List Value} (r:Vals xs its) {j:Nat} (h:j < its.toArray.size):∃ x,xs[j]?=some x∧RelV x its.toArray[j]:=by
  have hl:=r.length;have h':j < xs.length:=by rw [hl];simpa using h
  obtain ⟨u,hu,ru⟩:=r.get (aar h');refine ⟨_,aar h',?_⟩;have e:its.toArray[j]=u:=by
    have : its[j]?=some u:=hu;rw [aar (by simpa using h)] at this;simpa using aaV this
  rw [e];exact ru
theorem EqR.at (I:Inv X pins σ H s) {n:Nat} {x y:V} {b:Bool} (h:EqR X.K H n x y b):∀ {A:Around} {u v:Value},RelV x u→RelV y v→A.units+n < cLine→SeqAt.EqAt A s u v b:=by
  induction h with
  | flat fx fy=>intro A u v rx ry hu;exact rG rx ry fx fy
  | @lens n a b xs ys ha hb hl =>
    intro A u v rx ry hu;cases rx;cases ry;obtain ⟨its,r,pl,_⟩:=I.list ha;obtain ⟨its2,r2,pl2,_⟩:=I.list hb;have ne:a≠b:=fun e=>by subst e;exact hl (by rw [I.list_inj ha hb])
    refine .of_refs ne (.lists_lengths pl.isList pl2.isList ?_ (by lia));rw [aam,aam,← r.length,← r2.length];exact bne_iff_ne.mpr hl
  | @lst n a b xs ys e ha hb hl h ih =>
    intro A u v rx ry hu;by_cases q:a=b
    · have:=(EqR.lst ha hb hl h).self I (by rw [q]);cases rx;cases ry;rw [this];subst q;exact SeqAt.EqAt.same _
    · cases rx;cases ry;obtain ⟨its,r,pl,_⟩:=I.list ha;obtain ⟨its2,r2,pl2,_⟩:=I.list hb;have e1:its.toArray.size=xs.length:=by rw [aam,r.length]
      rw [← e1];refine .of_refs q (.lists pl.isList pl2.isList (by rw [aam,aam,← r.length,← r2.length];exact hl) (by lia) fun j h1 h2=>?_);obtain ⟨x,hx,rx⟩:=fA r h1;obtain ⟨y,hy,ry⟩:=fA r2 h2;exact ih j x y hx hy rx ry (by show A.units+1+n < cLine;lia)
  | @tup n a b xs ys e ha hb h ih =>
    intro A u v rx ry hu;by_cases q:a=b
    · have:=(EqR.tup ha hb h).self I (by rw [q]);cases rx;cases ry;rw [this];subst q;exact SeqAt.EqAt.same _
    · cases rx;cases ry;obtain ⟨its,r,pl,_⟩:=I.tuple ha;obtain ⟨its2,r2,pl2,_⟩:=I.tuple hb;have e1:its.toArray.size=xs.length:=by rw [aam,r.length]
      have e2:its2.toArray.size=ys.length:=by rw [aam,r2.length]
      rw [← e1,← e2];refine .of_refs q (.tuples pl pl2 (by lia) fun j h1 h2=>?_);obtain ⟨x,hx,rx⟩:=fA r h1;obtain ⟨y,hy,ry⟩:=fA r2 h2;exact ih j x y hx hy rx ry (by show A.units+1+n < cLine;lia)
end
abbrev PairIn (H:Hp) (p:Int × Int) (v:V):Prop:=∃ a,v=.ref a∧H a=some (.tup [.int p.1,.int p.2])
abbrev PairsIn (H:Hp):List (Int × Int)→List V→Prop:=Paired (PairIn H)
theorem Inv.adopt2 {X:Cx} {pins:List (Addr × Obj)} {σ:St} {H:Hp} {s:Shared} {a:Addr} {o:HO} (I:Inv X pins σ H s) (hn:H a=none) (hx:∀ u,X.s₀.heap.get? a≠some u) (hL:a≠X.env.locals) (hC:∀ x c,X.env.cells.lookup x=some c→c≠a) (hp:∀ p∈X.pn++pins,p.1≠a)
    (new:ObjOk X.prog X.w (upd H a o) s.heap a o):Inv X pins σ (upd H a o) s:=by
  have ne:∀ b u,X.s₀.heap.get? b=some u→b≠a:=fun b u e z=>hx u (by rw [← z];exact e);refine ⟨I.ok,I.os,I.bare,⟨I.base.keep,I.base.slot,fun b u e n hx=>?_,I.base.there,fun b xs e=>?_,fun b u xs e=>?_,fun b ps e=>?_⟩,I.loc,I.cell,?_,fun x c e=>?_,fun p hq=>?_,fun b u e=>?_,I.len⟩
  · rw [aB (ne b u e)];exact I.base.free b u e n hx
  · have q:=I.base.tups b xs e;rw [aB (aG q hn)];exact q
  · have q:=I.base.frzs b u xs e;rw [aB (aG q hn)];exact q
  · obtain ⟨m,q⟩:=I.base.tbls b ps e;exact ⟨m,by rw [aB (aG q hn)];exact q⟩
  · rw [aB (abo hL)];exact I.free
  · rw [aB (hC x c e)];exact I.freeC x c e
  · obtain ⟨h1,h2,h3⟩:=I.pin p hq;exact ⟨h1,by rw [aB (hp p hq)];exact h2,h3⟩
  · by_cases hb:b=a
    · subst hb;rw [upd_same] at e;cases e;exact new
    · rw [aB hb] at e;exact (I.hok b u e).stay (fun c v _ q=>q) (fun c q=>by rw [aB (aG q hn)];exact q) fun c xs q=>by rw [aB (aG q hn)];exact q
open PySem PySem.Spec PyProof.Rows
theorem ObjOk.get {P:Program} {w:World} {H:Hp} {h:Heap} {a:Addr} {o:HO} (x:ObjOk P w H h a o):∃ u,h.get? a=some u:=by
  cases o with
  | lst xs=>obtain ⟨_,_,_,_,e⟩:=x;exact ⟨_,e⟩
  | tup xs=>obtain ⟨_,_,_,o,e,_⟩:=x;exact ⟨_,e⟩
  | dK kvs=>obtain ⟨_,_,_,_,o,_,_,e,_⟩:=x;exact ⟨_,e⟩
  | dT kvs=>obtain ⟨_,_,_,_,o,_,_,e,_⟩:=x;exact ⟨_,e⟩
  | set S n=>obtain ⟨o,_,_,_,e,_⟩:=x;exact ⟨_,e⟩
  | ins C dx fs=>obtain ⟨_,_,_,e,_⟩:=x;exact ⟨_,e⟩
  | own y=>obtain ⟨_,e⟩:=x;exact ⟨_,e⟩
  | xd fs=>obtain ⟨_,⟨_,_,_,e,_⟩,_⟩:=x;exact ⟨_,e⟩
  | rng lo hi=>obtain ⟨_,_,_,e⟩:=x;exact ⟨_,e⟩
  | frz ob u=>obtain ⟨e,_⟩:=x;exact ⟨_,e⟩
  | tbl ps=>exact ⟨_,(show h.get? a=some _ from x)⟩
  | met f y=>exact ⟨_,(show h.get? a=some _ from x)⟩
  | ext φ=>obtain ⟨_,⟨_,e⟩,_⟩:=x;exact ⟨_,e⟩
section
variable {X:Cx}
end
open PySem PySem.Spec PyProof.Rows
theorem ig {c A B:Prop} [Decidable c] (hc:c) (h:A):if decide c=true then A else B:=by
  rw [if_pos (decide_eq_true hc)];exact h
theorem ii {c A B:Prop} [Decidable c] (hc:¬ c) (h:B):if decide c=true then A else B:=by
  rw [if_neg (fun e=>hc (of_decide_eq_true e))];exact h
section
variable {X:Cx} {K:aaa}
theorem oF (hK:X.K=K):IxR X (uK K):=by subst hK;exact ix_tup
theorem lc (hK:X.K=K):SlR X (v9 K):=by subst hK;exact cu
theorem ow {es:List Expr} {k:Nat} {pos:Pos} {t:TGs} {n:Nat} (hK:X.K=K) (hc:X.calm=true) (h:PGs X es t)
    (hn:(assignEach es X.env).length=n:=by rfl) (hst:(assignEach es X.env).findIdx? (·.1)=none:=by rfl):PG X (.Tuple es k pos) (wP K n t):=by subst hK;exact eK hc h hn hst
end
def Nxt (n i:Nat) (P:Prop):Prop:=∃ m',m' < n - i∧m'=n - (i+1)∧i+1≤n∧P
theorem tu {K:aaa} {a:Addr} {xs:List V} {cap:List (Option Nat)} {g:TG} {tt:TT} {te:TE} {σ:St} {H:Hp} {Q:VK} (Pv:Nat→List V→Hp→Prop) (h0:Pv 0 [] H) (hl:∀ i ys H,i≤xs.length→Pv i ys H→SqL K H a xs∧ys.length < sizeLine)
    (hs:∀ i x ys H,xs[i]?=some x→Pv i ys H→(∀ {P:Prop},P→Nxt xs.length i P)→g x (a6 cap σ) H fun σ2 H2=>tt σ2 H2 fun b H3=>if b=true then te σ2 H3 fun v H4=>Nxt xs.length i (Pv (i+1) (ys++[v]) H4) else Nxt xs.length i (Pv (i+1) ys H3)) (hd:∀ ys H,Pv xs.length ys H→∀ p,H p=none→Q (.ref p) (upd H p (.lst ys))) :
    sq cap g tt te σ Q (Itl K a) H:=by
  refine ⟨fun i m ys H=>m=xs.length - i∧i≤xs.length∧Pv i ys H,⟨xs.length,by simp,aaM _,h0⟩,?_⟩;rintro i m ys H ⟨rfl,hi,p⟩;have q:=hl i ys H hi p;by_cases hlt:i < xs.length
  · refine .inr ⟨⟨xs,xs[i],q.1,by simp [hlt]⟩,q.2,fun x H' y=>?_⟩;obtain ⟨e,y⟩:=y;subst e;exact hs i x ys _ (y xs q.1) p fun h=>⟨_,by lia,rfl,hlt,h⟩
  · have e:i=xs.length:=by lia
    subst e;exact .inl ⟨⟨xs,q.1,aag _⟩,hd ys H p⟩
theorem vf {K:aaa} {a:Addr} {xs:List V} {cap:List (Option Nat)} {g:TG} {tt:TT} {te:TE} {σ:St} {H:Hp} {Q:VK} (Pv:Nat→List V→Hp→Prop) (h0:Pv 0 [] H) (hl:∀ i ys H,i≤xs.length→Pv i ys H→SqT K H a xs∧ys.length < sizeLine)
    (hs:∀ i x ys H,xs[i]?=some x→Pv i ys H→(∀ {P:Prop},P→Nxt xs.length i P)→g x (a6 cap σ) H fun σ2 H2=>tt σ2 H2 fun b H3=>if b=true then te σ2 H3 fun v H4=>Nxt xs.length i (Pv (i+1) (ys++[v]) H4) else Nxt xs.length i (Pv (i+1) ys H3)) (hd:∀ ys H,Pv xs.length ys H→∀ p,H p=none→Q (.ref p) (upd H p (.lst ys))) :
    sq cap g tt te σ Q (Itt K a) H:=by
  refine ⟨fun i m ys H=>m=xs.length - i∧i≤xs.length∧Pv i ys H,⟨xs.length,by simp,aaM _,h0⟩,?_⟩;rintro i m ys H ⟨rfl,hi,p⟩;have q:=hl i ys H hi p;by_cases hlt:i < xs.length
  · refine .inr ⟨⟨xs,xs[i],q.1,by simp [hlt]⟩,q.2,fun x H' y=>?_⟩;obtain ⟨e,y⟩:=y;subst e;exact hs i x ys _ (y xs q.1) p fun h=>⟨_,by lia,rfl,hlt,h⟩
  · have e:i=xs.length:=by lia
    subst e;exact .inl ⟨⟨xs,q.1,aag _⟩,hd ys H p⟩
theorem fm {H:Hp}:∀ {ps:List (Int × Int)} {vs:List V},PairsIn H ps vs→∀ {j:Nat} {x:V},vs[j]?=some x→∃ p,ps[j]?=some p∧PairIn H p x
  | _,_,.nil,j,x,h=>by simp at h
  | _,_,.cons a _,0,x,h=>by simp at h;subst h;exact ⟨_,rfl,a⟩
  | _,_,.cons _ b,j+1,x,h=>by
    obtain ⟨p,h1,h2⟩:=fm b (j:=j) (x:=x) (by simpa using h);exact ⟨p,by simpa using h1,h2⟩
open PySem PySem.Spec PyProof.Rows
def wJ:Key→PyData
  | .inl i=>.int i
  | .inr x=>.str x
mutual
def Dat (H:Hp):PyData→V→Prop
  | .none,v=>v=.non
  | .bool b,v=>v=.bl b
  | .int i,v=>v=.int i
  | .str x,v=>v=.str x
  | .list ds,v=>∃ a xs,v=.ref a∧H a=some (.lst xs)∧DatAll H ds xs
  | .tuple ds,v=>∃ a xs,v=.ref a∧H a=some (.tup xs)∧DatAll H ds xs
  | .dict kvs,v=>∃ a ks,v=.ref a∧H a=some (.dK ks)∧DatKv H kvs ks
def DatAll (H:Hp):List PyData→List V→Prop
  | [],vs=>vs=[]
  | d :: ds,vs=>∃ v r,vs=v :: r∧Dat H d v∧DatAll H ds r
def DatKv (H:Hp):List (PyData × PyData)→List (Key × V)→Prop
  | [],ks=>ks=[]
  | (k,d) :: r,ks=>∃ q v t,ks=(q,v) :: t∧k=wJ q∧Dat H d v∧DatKv H r t
end
mutual
theorem Dat.mono {H H':Hp} (g:Same H H'):∀ (d:PyData) (v:V),Dat H d v→Dat H' d v
  | .none,v,h=>h
  | .bool b,v,h=>h
  | .int i,v,h=>h
  | .str x,v,h=>h
  | .list ds,v,h=>by
    simp only [Dat] at h ⊢;obtain ⟨a,xs,e,h1,h2⟩:=h;exact ⟨a,xs,e,g _ _ h1,DatAll.mono g ds xs h2⟩
  | .tuple ds,v,h=>by
    simp only [Dat] at h ⊢;obtain ⟨a,xs,e,h1,h2⟩:=h;exact ⟨a,xs,e,g _ _ h1,DatAll.mono g ds xs h2⟩
  | .dict kvs,v,h=>by
    simp only [Dat] at h ⊢;obtain ⟨a,xs,e,h1,h2⟩:=h;exact ⟨a,xs,e,g _ _ h1,DatKv.mono g kvs xs h2⟩
theorem DatAll.mono {H H':Hp} (g:Same H H'):∀ (ds:List PyData) (vs:List V),DatAll H ds vs→DatAll H' ds vs
  | [],vs,h=>h
  | d :: ds,vs,h=>by
    simp only [DatAll] at h ⊢;obtain ⟨v,r,e,h1,h2⟩:=h;exact ⟨v,r,e,Dat.mono g d v h1,DatAll.mono g ds r h2⟩
theorem DatKv.mono {H H':Hp} (g:Same H H'):∀ (kvs:List (PyData × PyData)) (ks:List (Key × V)),DatKv H kvs ks→DatKv H' kvs ks
  | [],ks,h=>h
  | (k,d) :: r,ks,h=>by
    simp only [DatKv] at h ⊢;obtain ⟨q,v,t,e1,e2,h1,h2⟩:=h;exact ⟨q,v,t,e1,e2,Dat.mono g d v h1,DatKv.mono g r t h2⟩
end
theorem DatAll.len {H:Hp}:∀ {ds:List PyData} {vs:List V},DatAll H ds vs→ds.length=vs.length
  | [],vs,h=>by simp only [DatAll] at h;rw [h];rfl
  | d :: ds,vs,h=>by
    simp only [DatAll] at h;obtain ⟨v,r,rfl,_,h2⟩:=h;rw [aaD,aaD,DatAll.len h2]
theorem DatAll.app {H:Hp}:∀ {as:List PyData} {vs:List V} {bs:List PyData} {us:List V},DatAll H as vs→DatAll H bs us→DatAll H (as++bs) (vs++us)
  | [],vs,bs,us,h,k=>by simp only [DatAll] at h;subst h;exact k
  | d :: as,vs,bs,us,h,k=>by
    simp only [DatAll] at h;obtain ⟨v,r,rfl,h1,h2⟩:=h;show DatAll H (d :: (as++bs)) (v :: (r++us));simp only [DatAll];exact ⟨v,_,rfl,h1,DatAll.app h2 k⟩
theorem DatAll.one {H:Hp} {d:PyData} {v:V} (h:Dat H d v):DatAll H [d] [v]:=by simp only [DatAll];exact ⟨v,[],rfl,h,rfl⟩
theorem DatAll.last {H:Hp}:∀ {ds:List PyData} {vs:List V},DatAll H ds vs→vs≠[]→∃ ds' d vs' v,ds=ds'++[d]∧vs=vs'++[v]∧DatAll H ds' vs'∧Dat H d v
  | [],vs,h,ne=>by simp only [DatAll] at h;exact absurd h ne
  | [d],vs,h,ne=>by
    simp only [DatAll] at h;obtain ⟨v,r,rfl,h1,rfl⟩:=h;exact ⟨[],d,[],v,rfl,rfl,by simp only [DatAll],h1⟩
  | d :: e :: ds,vs,h,ne=>by
    have h':=h;simp only [DatAll] at h;obtain ⟨v,r,rfl,h1,v2,r2,rfl,h2,h3⟩:=h;have h23:DatAll H (e :: ds) (v2 :: r2):=by simp only [DatAll];exact ⟨v2,r2,rfl,h2,h3⟩
    obtain ⟨ds',d',vs',v',e1,e2,h4,h5⟩:=DatAll.last h23 (by simp);refine ⟨d :: ds',d',v :: vs',v',by rw [e1];rfl,by rw [e2];rfl,?_,h5⟩;simp only [DatAll];exact ⟨v,vs',rfl,h1,h4⟩
theorem wI {α:Type} {xs:List α} (h:xs.length=3):∃ x y z,xs=[x,y,z]:=match xs,h with|[x,y,z],_=>⟨x,y,z,rfl⟩
def off (w:Addr) (H:Hp):Hp:=fun b=>if b=w then none else H b
theorem bY {w b:Addr} {H:Hp} (h:b≠w):off w H b=H b:=if_neg h
theorem off_le {w:Addr} {H:Hp}:Same (off w H) H:=fun b o h=>by
  unfold off at h;by_cases c:b=w
  · rw [if_pos c] at h;cases h
  · rw [if_neg c] at h;exact h
theorem a_ {w:Addr} {H H':Hp} (g:But w H H'):Same (off w H) (off w H'):=fun b o h=>by
  by_cases c:b=w
  · unfold off at h;rw [if_pos c] at h;cases h
  · rw [bY c] at h ⊢;exact g b o c h
def mn:PyData→String
  | .none=>"NoneType"
  | .bool _=>"bool"
  | .int _=>"int"
  | .str _=>"str"
  | .list _=>"list"
  | .tuple _=>"tuple"
  | .dict _=>"dict"
theorem Dat.ty {K:aaa} {H:Hp} {d:PyData} {v:V} (h:Dat H d v):TyOf K H v (.type (mn d)):=by
  cases d with
  | none=>simp only [Dat] at h;subst h;exact .non
  | bool b=>simp only [Dat] at h;subst h;exact .bl b
  | int i=>simp only [Dat] at h;subst h;exact .int i
  | str x=>simp only [Dat] at h;subst h;exact .str x
  | list ds=>simp only [Dat] at h;obtain ⟨a,xs,rfl,e,_⟩:=h;exact .lst e
  | tuple ds=>simp only [Dat] at h;obtain ⟨a,xs,rfl,e,_⟩:=h;exact .tup e
  | dict kvs=>simp only [Dat] at h;obtain ⟨a,xs,rfl,e,_⟩:=h;exact .dK e
section
variable {X:Cx} {pins:List (Addr × Obj)} {σ:St} {H:Hp} {s:Shared}
theorem Inv.nosys (I:Inv X pins σ H s) {a:Addr} {o:HO} (h:H a=some o):a≠sysModules:=fun e=>by
  obtain ⟨mm,ob,es,ep,g,_⟩:=I.mod.sysm;have:=(I.bs _ _ g).2;rw [← e,h] at this;cases this
theorem pJ {P:Program} {w:World} {h:Heap} {q:Key} {v:Value} (e:(ba P w).is q v=true):Reads h v (wJ q) []:=by
  rw [ng] at e;rcases bo e with ⟨i,t,rfl,rfl⟩|⟨x,t,rfl,rfl⟩
  · exact .int i t
  · exact .str x t
mutual
theorem Dat.reads (I:Inv X pins σ H s):∀ (d:PyData) (v:V) (u:Value),Dat H d v→RelV v u→∃ as,Reads s.heap u d as∧sysModules∉as
  | .none,v,u,h,r=>by
    simp only [Dat] at h;subst h;cases r;exact ⟨_,.none,by simp⟩
  | .bool b,v,u,h,r=>by
    simp only [Dat] at h;subst h;cases r;exact ⟨_,.bool b,by simp⟩
  | .int i,v,u,h,r=>by
    simp only [Dat] at h;subst h;obtain ⟨t,rfl⟩:=r;exact ⟨_,.int i t,by simp⟩
  | .str x,v,u,h,r=>by
    simp only [Dat] at h;subst h;obtain ⟨t,rfl⟩:=r;exact ⟨_,.str x t,by simp⟩
  | .list ds,v,u,h,r=>by
    simp only [Dat] at h;obtain ⟨a,xs,rfl,hr,hd⟩:=h;cases r;obtain ⟨its,rv,⟨o,n,e1,e2,_,e3⟩,_⟩:=I.list (SqL.of hr);obtain ⟨as,ra,na⟩:=DatAll.reads I ds xs its hd rv;have ho:=hr;refine ⟨_,.list e1 e2 e3 (by simpa using ra),fun z=>?_⟩;rcases aah.mp z with z|z
    · exact I.nosys ho z.symm
    · exact na z
  | .tuple ds,v,u,h,r=>by
    simp only [Dat] at h;obtain ⟨a,xs,rfl,hr,hd⟩:=h;cases r;obtain ⟨its,rv,⟨o,e1,e2,n,e3⟩,_⟩:=I.tuple (SqT.of hr);obtain ⟨as,ra,na⟩:=DatAll.reads I ds xs its hd rv;exact ⟨_,.tuple e1 e2 e3 (by simpa using ra),na⟩
  | .dict kvs,v,u,h,r=>by
    simp only [Dat] at h;obtain ⟨a,ks,rfl,hr,hd⟩:=h;cases r;obtain ⟨_,_,vs,rel,o,es,ep,e1,ex,e3,_,pr,_⟩:=rM I.hok hr;obtain ⟨as,bs,ra,rb,na,nb⟩:=DatKv.reads I kvs ks vs es.toList hd rel pr;have ho:=hr;refine ⟨_,.dict e1 ex.1 e3 ra rb,fun z=>?_⟩;rcases aao.mp z with z|z
    · rcases aah.mp z with z|z
      · exact I.nosys ho z.symm
      · exact na z
    · exact nb z
theorem DatAll.reads (I:Inv X pins σ H s):∀ (ds:List PyData) (vs:List V) (us:List Value),DatAll H ds vs→Vals vs us→∃ as,ReadsAll s.heap us ds as∧sysModules∉as
  | [],vs,us,h,r=>by
    simp only [DatAll] at h;subst h;cases r;exact ⟨_,.nil,by simp⟩
  | d :: ds,vs,us,h,r=>by
    simp only [DatAll] at h;obtain ⟨v,t,rfl,h1,h2⟩:=h;cases r with
    | cons r1 r2 =>
      obtain ⟨as,ra,na⟩:=Dat.reads I d v _ h1 r1;obtain ⟨bs,rb,nb⟩:=DatAll.reads I ds t _ h2 r2;exact ⟨_,.cons ra rb,fun z=>(aao.mp z).elim na nb⟩
theorem DatKv.reads (I:Inv X pins σ H s):∀ (kvs:List (PyData × PyData)) (ks:List (Key × V)) (vs:List (Key × Value)) (es:List DictEntry),DatKv H kvs ks→KV ks vs→Pairs (ba X.prog X.w) es vs →
    ∃ as bs,ReadsAll s.heap (es.map (·.key)) (kvs.map (·.1)) as∧ReadsAll s.heap (es.map (·.val)) (kvs.map (·.2)) bs∧sysModules∉as∧sysModules∉bs
  | [],ks,vs,es,h,r,p=>by
    simp only [DatKv] at h;subst h;cases r;cases p;exact ⟨_,_,.nil,.nil,by simp,by simp⟩
  | (k,d) :: kr,ks,vs,es,h,r,p=>by
    simp only [DatKv] at h;obtain ⟨q,v,t,rfl,rfl,h1,h2⟩:=h;cases r with
    | cons r1 r2 =>
      cases p with
      | cons p1 p2 p3 =>
        obtain ⟨rk,rv⟩:=r1;obtain ⟨as,bs,ra,rb,na,nb⟩:=DatKv.reads I kr t _ _ h2 r2 p3;obtain ⟨cs,rc,nc⟩:=Dat.reads I d v _ h1 rv;have rk':q=_:=rk;subst rk';have kd:=pJ (h:=s.heap) p1;refine ⟨[]++as,cs++bs,.cons kd ra,.cons (by dsimp only;rw [p2];exact rc) rb,by simpa using na,fun z=>(aao.mp z).elim nc nb⟩
end
theorem jP (hg:X.A.guards=some []) (hu:X.A.units+64 < cLine):dE X (.builtin "repr") (fun xs H Q=>∃ x d,xs=[x]∧Dat H d x∧d.showable=true∧d.depth≤60∧d.shown.length≤sizeLine∧Q (.str d.shown) H):=by
  intro pins s σ H xs us Q I r h;obtain ⟨x,d,rfl,hd,hs,hdp,hl,q⟩:=h;obtain ⟨u,rfl,ru⟩:=bU r;have key:∀ a,u=.ref a→wpAny (model X.prog X.w) X.A (call (.builtin "repr") [u]) (EP X pins σ Q) X.xe s:=fun a e=>by
    subst e;obtain ⟨as,ra,na⟩:=Dat.reads I d x _ hd ru;refine repr_of_reads' ra hs (fun _=>na) hg (by lia) (fun _ _ e=>e) (fun h' u tk hk=>?_) hl;exact ⟨.str d.shown,H,I.kept hk,⟨u,rfl⟩,q⟩
  cases d with
  | none =>
    simp only [Dat] at hd;subst hd;cases ru;rw [PyData.shown_none] at q;exact PySem.P.repr_of_none ⟨.str "None",H,I.tok _,⟨_,rfl⟩,q⟩
  | bool b =>
    simp only [Dat] at hd;subst hd;cases ru;rw [PyData.shown_bool] at q;exact PySem.P.repr_of_bool ⟨.str _,H,I.tok _,⟨_,rfl⟩,q⟩
  | int i =>
    simp only [Dat] at hd;subst hd;obtain ⟨t,rfl⟩:=ru;rw [PyData.shown_int] at q;exact PySem.P.repr_of_int (by simpa [abf] using hs) ⟨.str _,H,I.tok _,⟨_,rfl⟩,q⟩
  | str z =>
    simp only [Dat] at hd;subst hd;obtain ⟨t,rfl⟩:=ru;rw [PyData.shown_str] at q hl;exact PySem.P.repr_of_str ⟨.str _,H,I.tok _,⟨_,rfl⟩,q⟩ hl
  | list ds =>
    have hd':=hd;simp only [Dat] at hd';obtain ⟨a,_,rfl,_⟩:=hd';exact key a ru
  | tuple ds =>
    have hd':=hd;simp only [Dat] at hd';obtain ⟨a,_,rfl,_⟩:=hd';exact key a ru
  | dict kvs =>
    have hd':=hd;simp only [Dat] at hd';obtain ⟨a,_,rfl,_⟩:=hd';exact key a ru
end
open PySem PySem.Spec PyProof.Rows
section
variable {X:Cx}
def wk (neg:Bool):R2:=fun x y H Q=>∃ d e,Dat H d x∧Dat H e y∧d.canLay0=true∧e.canLay0=true∧d.depth≤60∧Q (.bl (if neg then !PyData.eqv d e else abw d e)) H
theorem uW (hu:X.A.units+64 < cLine):OpR X (compareOp .Eq) (wk false):=by
  intro pins s σ H x y v u Q I rx ry h;obtain ⟨d,e,hd,he,cd,ce,dp,q⟩:=h;obtain ⟨as,ra,_⟩:=Dat.reads I d x _ hd rx;obtain ⟨bs,rb,_⟩:=Dat.reads I e y _ he ry;exact PySem.SeqAt.compareEq_reads ra rb cd ce (by lia) ⟨.bl _,H,I,rfl,q⟩
theorem gU (hu:X.A.units+64 < cLine):OpR X (compareOp .NotEq) (wk true):=by
  intro pins s σ H x y v u Q I rx ry h;obtain ⟨d,e,hd,he,cd,ce,dp,q⟩:=h;obtain ⟨as,ra,_⟩:=Dat.reads I d x _ hd rx;obtain ⟨bs,rb,_⟩:=Dat.reads I e y _ he ry;exact PySem.SeqAt.compareNe_reads ra rb cd ce (by lia) ⟨.bl _,H,I,rfl,q⟩
end
open PySem PySem.Spec PyProof.Rows
theorem Inv.turnedL {X:Cx} {pins:List (Addr × Obj)} {σ:St} {H:Hp} {s:Shared} {h':Heap} {t':Nat} {fp:List Addr} (I:Inv X pins σ H s) (k:∀ b o,b∉fp→s.heap.get? b=some o→h'.get? b=some o) (hf:∀ b∈fp,gC X pins H b):Inv X pins σ H { s with heap:=h',toks:=t' }:=by
  have nit:∀ b u,H b=some u→b∉fp:=fun b u e z=>by rw [(hf b z).1] at e;cases e
  refine I.step (g':=s.gens) (d':=s.drawn) (ch:=fp) (fun b hb=>⟨(hf b hb).2.2.2.1,(hf b hb).2.1,(hf b hb).2.2.2.2.1,(hf b hb).2.2.2.2.2⟩) (fun b o _ _ hc e _=>k b o hc e) (fun b o _ _ hc e _=>⟨o.slots,k b o hc e⟩) (fun _ _ _ _ n=>n)
    (fun b o hc e=>⟨o,k b o hc e⟩) (fun _ _ e=>e) (fun _ _ _ e=>e) (fun b ps e=>⟨#[],by rw [e];simp⟩) (fun m hm=>?_) (fun b u e=>?_) I.bare
  · obtain ⟨o,es,ep,ho,r⟩:=hm;exact ⟨o,es,ep,k _ o (fun z=>(hf _ z).2.1 rfl) ho,r⟩
  · refine (I.hok b u e).stay (fun c v hc q=>k c v ?_ q) (fun _ q=>q) fun _ _ q=>q;rcases hc with z|z
    · rw [z];exact nit b u e
    · exact nit c _ z
def vQ (K:aaa) (a:Addr):It :=
  ⟨fun i H=>∃ xs x,SqL K H a xs∧xs[i]?=some x,fun i H x H'=>∃ p y,H p=none∧x=.ref p∧H'=upd H p (.tup [.int i,y])∧∀ xs,SqL K H a xs→xs[i]?=some y,fun i H=>∃ xs,SqL K H a xs∧xs.length≤i⟩
theorem o1 {P:Program} {w:World} {K:aaa} {elts:List Expr} {k:Nat} {pos:Pos} (a e it:Addr) (hei:e≠it):Turn P w K (.Tuple elts k pos) (vQ K a) [e,it] e (fun i h=>(∃ old,IsEnum h e it i old)∧h.IsListIter it a i) where
  mem:=by simp
  obj:=fun i h st b hb=>by
    obtain ⟨⟨old,he⟩,o,e1,c,d⟩:=st;rcases aah.mp hb with z|z
    · subst z;exact ⟨_,he,fun v z=>by cases z⟩
    · have z:b=it:=by simpa using z
      subst z;exact ⟨o,e1,fun v z=>by rw [d] at z;cases z⟩
  keep:=fun i h h' st kp=>⟨let ⟨old,he⟩:=st.1;⟨old,kp e (by simp) _ he⟩,st.2.at fun o x=>kp it (by simp) o x⟩
  item:=by
    intro X hP hw hK hc i pins s σ H E I hf st hg;subst hP hw hK;obtain ⟨xs,x,hq,hx⟩:=hg;obtain ⟨its,rv,p,hz⟩:=I.list hq;obtain ⟨u,hu,ru⟩:=rv.get hx;obtain ⟨⟨old,he⟩,hit⟩:=st;have helt:e < s.heap.objs.size:=aaj he;have hilt:it < s.heap.objs.size:=by obtain ⟨_,x,_⟩:=hit;exact aaj x
    refine wpAny_pyNext_enum_item he hit p.isList (x:=u) (by simpa using hu) hei fun h' ho hit' hT hsz hk=>?_;refine ⟨_,rfl,wpAny_letOwnedTupleGo_enum ho fun h'' he' hs'=>?_⟩;have hs2:ab0 e h' h'':=hs';have keep:∀ b o,b∉[e,it]→s.heap.get? b=some o→h''.get? b=some o:=fun b o hb q=>by
      have b1:b≠e:=fun z=>hb (by simp [z]);have b2:b≠it:=fun z=>hb (by simp [z]);exact (hs2.2 b b1).trans (hk b o b1 b2 q)
    have I1:Inv X pins σ H { s with heap:=h'',toks:=s.toks+1 }:=I.turnedL keep hf;have gT:h''.get? s.heap.objs.size=some { cls:=.type "tuple",data:=.seq #[.int i s.toks,u] }:=(hs2.2 _ (abn helt)).trans hT;have fresh:H s.heap.objs.size=none:=I.hok.fresh (aag _);have I2:=I1.adopt (a:=s.heap.objs.size) (o:=.tup [.int i,x]) fresh I.sz (abn I.lt) (fun y c e1=>by
        obtain ⟨v,q⟩:=I.cell y c e1;exact aau q.lt) (fun q hq=>aau (aaj (I.pin q hq).1)) ⟨by show 2≤sizeLine;decide,[.int i s.toks,u],.cons ⟨_,rfl⟩ (.cons ru .nil),⟨_,gT,rfl,_,rfl⟩⟩
    refine ⟨.ref s.heap.objs.size,_,I2,rfl,⟨_,x,fresh,rfl,rfl,fun ys hy=>by rw [I.list_inj hy hq];exact hx⟩,⟨⟨u,by simpa using he'⟩,hit'.at fun o y=>(hs2.2 it hei.symm).trans y⟩,fun b hb=>?_⟩;rw [aB]
    · exact (hf b hb).1
    · rcases aah.mp hb with z|z
      · rw [z];exact aau helt
      · have z:b=it:=by simpa using z
        rw [z];exact aau hilt
  done:=by
    intro X hP hw hK hc i pins s σ H E I hf st hg;subst hP hw hK;obtain ⟨xs,hq,hx⟩:=hg;obtain ⟨its,rv,p,hz⟩:=I.list hq;obtain ⟨⟨old,he⟩,hit⟩:=st;have hl:=rv.length;refine wpAny_pyNext_enum_end (I.ok.hd hc) he hit p.isList (by simp;lia) fun h' eb=>⟨rfl,I.turnedL (t':=s.toks) (fp:=[e,it]) (fun b o hb q=>eb b o (fun z=>hb (by simp [z])) q) hf⟩
  self:=fun _ _ _ _ _ st h=>by
    obtain ⟨⟨old,he⟩,_⟩:=st;exact wpAny_pyIter_enum he h
def wO (K:aaa) (ta:TA):TI:=fun σ H R=>ta σ H fun vs H1=>∃ a,vs=[.ref a]∧(∃ xs,SqL K H1 a xs)∧R (vQ K a) H1
theorem ou {X:Cx} {elts:List Expr} {k:Nat} {tpos:Pos} {a:Expr} {ta:TA} {p pos:Pos} (hg:Gl X "enumerate") (hm:X.mg "enumerate" = none) (ha:PA X [a] ta) (hs:starEach [a] X.env=[(false,eval a X.env)]:=by rfl):PI X (.Tuple elts k tpos) (.Call (.Name "enumerate" p) [a] [] pos) (wO X.K ta):=by
  intro pins s σ H R I h;refine Call_ (f_ I hg hm boot_enumerate (abg (thn (ha pos pins s σ H _ I h) fun us s1 ⟨vs,H1,I1,r1,q1⟩=>?_) hs rfl));obtain ⟨l,e,⟨xs,hq⟩,q⟩:=q1;subst e;cases r1 with
  | cons r rr =>
    cases rr;cases r;obtain ⟨its,rv,pl,hz⟩:=I1.list hq;refine call_enumerate_list pl.isList fun h' he hit hsz hk=>?_;refine wpAny_pyIter_enum (s:={ s1 with heap:=h' }) he ?_;have I2:Inv X pins σ H1 { s1 with heap:=h' }:=I1.kept (t':=s1.toks) hk;refine ⟨s1.heap.objs.size+1,[s1.heap.objs.size+1,s1.heap.objs.size],_,_,H1,rfl,I2,o1 l _ _ (Nat.succ_ne_self _),⟨⟨_,he⟩,hit⟩,fun b hb=>?_,q⟩;have hb2:s1.heap.objs.size≤b:=by
      rcases aah.mp hb with z|z
      · rw [z];exact Nat.le_succ _
      · have z:b=s1.heap.objs.size:=by simpa using z
        rw [z];exact aag _
    exact I1.fpOk hb2 (I1.hok.fresh hb2)
open PySem PySem.Spec PyProof.Rows
section
variable {prog:Program} {w:World} {κ:Type} [DecidableEq κ] {knd:HeapKind prog w κ} {A:Around} {E:Value→Shared→Prop} {s:Shared}
end
open PySem PySem.Spec PyProof.Rows
section
variable {prog:Program} {w:World} {κ:Type} [DecidableEq κ] {knd:HeapKind prog w κ} {A:Around} {E:Value→Shared→Prop} {s:Shared}
inductive HitsH (A:Around) (s:Shared) (kb:List (κ × Addr × Value)):List (κ × Addr × Value)→Bool→Prop
  | nil:HitsH A s kb [] true
  | miss {k:κ} {a:Addr} {v:Value} {r:List (κ × Addr × Value)}:atKey kb k=none→HitsH A s kb ((k,a,v) :: r) false
  | hit {k:κ} {a c:Addr} {v y:Value} {r:List (κ × Addr × Value)} {e b:Bool}:atKey kb k=some (c,y)→SeqAt.EqAt A s v y e→HitsH A s kb r b→HitsH A s kb ((k,a,v) :: r) (e && b)
end
open PySem PySem.Spec PyProof.Rows
inductive HitsV (K:aaa) (H:Hp) (n:Nat) (kb:List (List Key × V)):List (List Key × V)→Bool→Prop
  | nil:HitsV K H n kb [] true
  | miss {k:List Key} {v:V} {r:List (List Key × V)}:dj kb k=none→HitsV K H n kb ((k,v) :: r) false
  | hit {k:List Key} {v y:V} {r:List (List Key × V)} {e b:Bool}:dj kb k=some y→EqR K H n v y e→HitsV K H n kb r b→HitsV K H n kb ((k,v) :: r) (e && b)
open PySem PySem.Spec PyProof.Rows
section
variable {prog:Program} {w:World} {κ:Type} [DecidableEq κ] {knd:HeapKind prog w κ} {A:Around} {E:Value→Shared→Prop}
variable {s:Shared}
end
open PySem PySem.Spec PyProof.Rows
section
variable {prog:Program} {w:World} {A:Around} {E:Value→Shared→Prop} {s:Shared}
end
end L2
namespace L2
open PySem PySem.Spec PyProof.Rows PySem.W
section
variable {prog:Program} {w:World} {A:Around} {E:Value→Shared→Prop} {s:Shared}
end
end L2
namespace L2
theorem u1 {a:Nat} (h:a+64 < PySem.cLine):a+1 < PySem.cLine:=by lia
open PySem PySem.Spec PyProof.Rows
section
variable {prog:Program} {w:World} {A:Around} {E:Value→Shared→Prop} {s:Shared}
end
open PySem PySem.Spec PyProof.Rows
open PySem PySem.Spec PyProof.Rows
def Its (z:Str):It :=
  ⟨fun i _=>i < z.cps.size,fun i H x H'=>H'=H∧∃ c,z.cps[i]?=some c∧x=.str ⟨#[c]⟩,fun i _=>z.cps.size≤i⟩
theorem qj {P:Program} {w:World} {K:aaa} {tg:Expr} (it:Addr) (z:Str) (t:Tok):Turn P w K tg (Its z) [it] it (fun i h=>h.IsStrIter it "str_ascii_iterator" z t i) where
  mem:=by simp
  obj:=fun i h st b hb=>by
    have e:b=it:=by simpa using hb
    subst e;obtain ⟨o,e,c,d⟩:=st;exact ⟨o,e,fun v z=>by rw [d] at z;cases z⟩
  keep:=fun i h h' st k=>by
    obtain ⟨o,e,r⟩:=st;exact ⟨o,k it (by simp) o e,r⟩
  item:=by
    intro X hP hw hK hc i pins s σ H E I hf st hg;subst hP hw hK;have hg:i < z.cps.size:=hg;obtain ⟨f0,f1,f2,f3,f4,f5⟩:=hf it (by simp);have hx:z.cps[i]?=some z.cps[i]:=by simp [hg]
    refine wpAny_pyNext_ascii_item st (c:=z.cps[i]) hx fun h' st' sb=>?_;have I1:Inv X pins σ H { s with heap:=h',toks:=s.toks+1 }:=I.turned (t':=s.toks+1) (fun b o hb e=>(sb.2 b hb).trans e) f0 f1 f3 f4 f5;obtain ⟨o,e,c,d⟩:=id st';exact ⟨_,rfl,oI (s:={ s with heap:=h',toks:=s.toks+1 }) e c d (by decide) ⟨.str ⟨#[z.cps[i]]⟩,H,I1,⟨_,rfl⟩,⟨rfl,_,hx,rfl⟩,st',fun b hb=>(hf b hb).1⟩⟩
  done:=by
    intro X hP hw hK hc i pins s σ H E I hf st hg;subst hP hw hK;have hg:z.cps.size≤i:=hg;obtain ⟨f0,f1,f2,f3,f4,f5⟩:=hf it (by simp);exact wpAny_pyNext_ascii_end (I.ok.hd hc) st (by simp [hg]) fun h' eb=>⟨rfl,I.turned (t':=s.toks) (fun b o hb e=>eb b o hb e) f0 f1 f3 f4 f5⟩
  self:=fun _ _ _ _ _ st h=>wpAny_pyIter_striter_ascii st h
def xA (tl:TE):TI:=fun σ H R=>tl σ H fun x H1=>∃ z,x=.str z∧z.cps.all (· < 128)=true∧R (Its z) H1
theorem qH {X:Cx} {tg l:Expr} {tl:TE} (hl:PE X l tl):PI X tg l (xA tl):=by
  intro pins s σ H R I h;refine thn (hl pins s σ H _ I h) fun v s1 ⟨x,H1,I1,r1,q1⟩=>?_;obtain ⟨z,e,ha,q⟩:=q1;subst e;obtain ⟨t,rfl⟩:=r1;refine wpAny_pyIter_ascii ha ?_;refine ⟨s1.heap.objs.size,[s1.heap.objs.size],_,_,H1,rfl,I1.kept (t':=s1.toks) fun b o e=>aaf _ e,qj _ z t,⟨_,aaz _ rfl,rfl,rfl⟩,fun b hb=>?_,q⟩;have e:b=s1.heap.objs.size:=by simpa using hb
  subst e;exact I1.fpOk (aag _) (I1.hok.fresh (aag _))
theorem vg {z:Str} {cap:List (Option Nat)} {g:TG} {tt:TT} {te:TE} {σ:St} {H:Hp} {Q:VK} (Pv:Nat→List V→Hp→Prop) (h0:Pv 0 [] H) (hl:∀ i ys H,i≤z.cps.size→Pv i ys H→ys.length < sizeLine)
    (hs:∀ i c ys H,z.cps[i]?=some c→Pv i ys H→(∀ {P:Prop},P→Nxt z.cps.size i P)→g (.str ⟨#[c]⟩) (a6 cap σ) H fun σ2 H2=>tt σ2 H2 fun b H3=>if b=true then te σ2 H3 fun v H4=>Nxt z.cps.size i (Pv (i+1) (ys++[v]) H4) else Nxt z.cps.size i (Pv (i+1) ys H3)) (hd:∀ ys H,Pv z.cps.size ys H→∀ p,H p=none→Q (.ref p) (upd H p (.lst ys))) :
    sq cap g tt te σ Q (Its z) H:=by
  refine ⟨fun i m ys H=>m=z.cps.size - i∧i≤z.cps.size∧Pv i ys H,⟨z.cps.size,by simp,aaM _,h0⟩,?_⟩;rintro i m ys H ⟨rfl,hi,p⟩;have q:=hl i ys H hi p;by_cases hlt:i < z.cps.size
  · refine .inr ⟨hlt,q,fun x H' y=>?_⟩;obtain ⟨e,c,y,ex⟩:=y;subst e ex;exact hs i c ys _ y p fun h=>⟨_,by lia,rfl,hlt,h⟩
  · have e:i=z.cps.size:=by lia
    subst e;exact .inl ⟨aag _,hd ys H p⟩
theorem tK {z:Str} {g:TG} {tb:TS} {D:Ends} {σ:St} {H:Hp} (Pv:Nat→St→Hp→Prop) (h0:Pv 0 σ H)
    (hs:∀ i c σ H,z.cps[i]?=some c→Pv i σ H→g (.str ⟨#[c]⟩) σ H fun σ2 H2=>tb { D with nx:=Pv (i+1),ct:=Pv (i+1),bk:=D.nx } σ2 H2) (hd:∀ σ H,Pv z.cps.size σ H→D.nx σ H) :
    ∃ W:Nat→Nat→St→Hp→Prop,(∃ m,W 0 m σ H)∧∀ i m σ H,W i m σ H →
      ((Its z).stop i H∧D.nx σ H)∨((Its z).go i H∧∃ N:St→Hp→Prop,(∀ σ' H',N σ' H'→∃ m',m' < m∧W (i+1) m' σ' H')∧∀ x H',(Its z).yld i H x H'→g x σ H' fun σ2 H2=>tb { D with nx:=N,ct:=N,bk:=D.nx } σ2 H2):=by
  refine ⟨fun i m σ H=>m=z.cps.size - i∧i≤z.cps.size∧Pv i σ H,⟨z.cps.size,by simp,aaM _,h0⟩,?_⟩;rintro i m σ H ⟨rfl,hi,p⟩;by_cases hlt:i < z.cps.size
  · refine .inr ⟨hlt,Pv (i+1),fun σ' H' p'=>⟨z.cps.size - (i+1),by lia,rfl,hlt,p'⟩,fun x H' y=>?_⟩;obtain ⟨e,c,y,ex⟩:=y;subst e ex;exact hs i c σ _ y p
  · have e:i=z.cps.size:=by lia
    subst e;exact .inl ⟨aag _,hd σ H p⟩
end L2
namespace PySem
open Sem (wp)
namespace F
end F
section
variable {prog:Program} {w:World} {A:Around} {E:Value→Shared→Prop} {h:Heap} {g:Array GenState} {d:Drawn} {t:Nat} {os:OsState} {a:Addr} {vs:Array Value}
end
end PySem
namespace L2
open PySem PySem.Spec PyProof.Rows
section
variable {prog:Program} {w:World} {A:Around} {E:Value→Shared→Prop} {s:Shared}
end
open PySem PySem.Spec PyProof.Rows
theorem gA {X:Cx} (hc:X.calm=true):dE X (.builtin "all") (fun xs H Q=>∃ (p:Addr) (bs:List Bool),xs=[.ref p]∧SqL X.K H p (bs.map V.bl)∧Q (.bl (bs.all id)) H):=by
  intro pins s σ H xs us Q I r h;obtain ⟨p,bs,rfl,hq,q⟩:=h;obtain ⟨u,rfl,rx⟩:=bU r;cases rx;obtain ⟨its,r',pl,hz⟩:=I.list hq;have hlen:=r'.length;rw [aak] at hlen;have hps:p < s.heap.objs.size:=by obtain ⟨o,n,ho,_⟩:=pl;exact aaj ho
  refine call_all_walk (wpAny_pyIter_list pl.isList ?_);refine ⟨s.heap.objs.size,_,_,_,_,_,fun i=>bs.getD i true,rfl,Walks.list (A:=X.A.in1) (I.ok.hd hc) s.heap.objs.size p (aau hps) its.toArray,⟨⟨_,aaz _ rfl,rfl,rfl⟩,pl.isList.at fun o x=>aaf _ x⟩,?_,?_⟩
  · intro i v s' Q' E' hP hQ';have hv:its.toArray[i]?=some v:=hP;have hv2:its[i]?=some v:=by simpa using hv
    have hi:i < bs.length:=by
      have:=(aaB.mp hv2).1;lia
    have hb:(bs.map V.bl)[i]?=some (.bl bs[i]):=by rw [aaJ,aar hi];rfl
    obtain ⟨u,hu,ru⟩:=r'.get hb;rw [hv2] at hu;cases hu;cases ru;have e:bs.getD i true=bs[i]:=by rw [abJ,aar hi];rfl
    have hQ2:Q' (bs.getD i true) s':=hQ';rw [e] at hQ2;exact wpAny_pure hQ2
  · intro h' tk k;have I2:Inv X pins σ H { s with heap:=h',toks:=tk }:=by
      refine I.turnedL (fp:=[s.heap.objs.size]) (t':=tk) (fun b o hb x=>k b o (by simpa using hb) (aaf _ x)) fun b hb=>?_;have e:b=s.heap.objs.size:=by simpa using hb
      subst e;exact I.fpOk (aag _) (I.hok.fresh (aag _))
    have e:(abz its.toArray.size).all (fun i=>bs.getD i true)=bs.all id:=by
      have e1:its.toArray.size=bs.length:=by simp;lia
      rw [e1];apply Bool.eq_iff_iff.mpr;rw [aay,aay];constructor
      · intro hh b hb;obtain ⟨i,hi,e⟩:=List.getElem_of_mem hb;have:=hh i (acl.mpr hi);rw [abJ,aar hi] at this;rw [← e];exact this
      · intro hh i hi;have hi:=List.mem_range.mp hi;rw [abJ,aar hi];exact hh _ (List.getElem_mem hi)
    rw [e];exact ⟨.bl (bs.all id),H,I2,rfl,q⟩
open PySem PySem.Spec PyProof.Rows
open PySem PySem.Spec PyProof.Rows
theorem kU {elt tg iter tg2 iter2:Expr} {ifs ifs2:List Expr} {G:List Comprehension} {k:Nat} (hk:G[k]?=some ⟨tg,iter,ifs,0⟩) (hk2:G[k+1]?=some ⟨tg2,iter2,ifs2,0⟩) {scope:Scope} {pos:Pos} {it acc:Value} {env:Env} :
    compTurn (.ListComp elt G scope pos) k it acc env=(do
      standAt iter.pos
      match ← pyNext it with
      | none=>pure (.done .next)
      | some v =>
        letOwnedTupleGo tg it v
        assign tg env v
        let mut ok:=true
        for c in ifs do
          if ok then ok ← isTrue c env (eval c env)
        if ok then do
          let x ← eval iter2 env
          standAt iter2.pos
          let x ← foldedSetIterable iter2 env x
          let i ← holding [x] (pyIter x)
          let _ ← runOwn (.compStart (.ListComp elt G scope pos) (k+1) i acc env) env
          again (.compLoop (.ListComp elt G scope pos) k it acc env)
        else again (.compLoop (.ListComp elt G scope pos) k it acc env)):=by
  unfold compTurn;simp only [hk,hk2];rfl
theorem jy {elt tg2 iter2:Expr} {ifs2:List Expr} {G:List Comprehension} {k:Nat} (hk:G[k]?=some ⟨tg2,iter2,ifs2,0⟩) (hk2:G[k+1]?=none) {scope:Scope} {pos:Pos} {it acc:Value} {env:Env} :
    compTurn (.ListComp elt G scope pos) k it acc env=(do
      standAt iter2.pos
      match ← pyNext it with
      | none=>pure (.done .next)
      | some v =>
        letOwnedTupleGo tg2 it v
        assign tg2 env v
        let mut ok:=true
        for c in ifs2 do
          if ok then ok ← isTrue c env (eval c env)
        if ok then
          (do let _ ← call (.builtin "list.append") [acc,← eval elt env])
        again (.compLoop (.ListComp elt G scope pos) k it acc env)):=by
  unfold compTurn;simp only [hk,hk2];rfl
theorem jp {prog:Program} {w:World} {A:Around} {R:Result→Shared→Prop} {s:Shared} {elt tg iter tg2 iter2:Expr} {ifs ifs2:List Expr} {G:List Comprehension} {k:Nat} (hk:G[k]?=some ⟨tg,iter,ifs,0⟩) (hk2:G[k+1]?=some ⟨tg2,iter2,ifs2,0⟩) {scope:Scope} {pos:Pos} {it acc:Value} {env:Env} (J:Nat→Shared→Prop) (hs2:∀ x,foldedSetIterable iter2 env x=pure x)
    (turn:∀ n s,J n s→wpAny (model prog w) A (pyNext it) (fun r s₁=>match r with
      | none=>R (.ok .next) s₁
      | some v=>wpAny (model prog w) A (letOwnedTupleGo tg it v) (fun _ s₁'=>wpAny (model prog w) A (assign tg env v) (fun _ s₂ =>
          wpAny (model prog w) A (forIn ifs true fun c r=>if r=true then do let ok ← isTrue c env (eval c env);pure (ForInStep.yield ok) else pure (ForInStep.yield r)) (fun ok s₃ =>
            if ok=true then wpAny (model prog w) A (eval iter2 env) (fun x s₄=>wpAny (model prog w) A (pyIter x) (fun it2 s₅ =>
              codeAny (model prog w) A (.compStart (.ListComp elt G scope pos) (k+1) it2 acc env) (fun r s₆=>match r with|.ok _=>∃ m,m < n∧J m s₆|.error _=>False) s₅) (fun _ _=>False) s₄) (fun _ _=>False) s₃
            else ∃ m,m < n∧J m s₃) (fun _ _=>False) s₂) (fun _ _=>False) s₁') (fun _ _=>False) s₁) (fun _ _=>False) s)
    (n:Nat) (h:J n s) :
    codeAny (model prog w) A (.compLoop (.ListComp elt G scope pos) k it acc env) R s:=by
  refine codeAny_loop rfl J (fun n s hI=>?_) n h;show wpAny _ A ((compTurn (.ListComp elt G scope pos) k it acc env).onRaise (fun x=>do noteFrame x env;theTreesLotGoes x)) _ _ s;refine wpAny_noted ?_;rw [kU hk hk2];refine wpAny_bind (wpAny_standAt (wpAny_bind (wpAny_mono (turn n s hI) (fun r s₁ h₁=>?_) fun _ _ h'=>h'.elim)));cases r with
  | none=>exact wpAny_pure h₁
  | some v =>
    refine wpAny_bind (wpAny_mono h₁ (fun _ s₁' h₁'=>?_) fun _ _ h'=>h'.elim);refine wpAny_bind (wpAny_mono h₁' (fun _ s₂ h₂=>wpAny_bind (wpAny_mono h₂ (fun ok s₃ h₃=>?_) fun _ _ h'=>h'.elim)) fun _ _ h'=>h'.elim);cases ok with
    | false=>exact wpAny_pure ⟨rfl,h₃⟩
    | true =>
      refine wpAny_bind (wpAny_mono h₃ (fun x s₄ h₄=>?_) fun _ _ h'=>h'.elim);refine wpAny_bind (wpAny_standAt (wpAny_bind (wpAny_of_eq (hs2 x) (wpAny_bind (wpAny_holding (wpAny_mono h₄ (fun it2 s₅ h₅=>?_) fun _ _ h'=>h'.elim))))));refine wpAny_bind (wpAny_runOwn (codeAny_mono h₅ fun r s₆ h₆=>?_));cases r with
      | ok f=>exact wpAny_pure ⟨rfl,h₆⟩
      | error e=>exact h₆.elim
theorem nP {prog:Program} {w:World} {A:Around} {R:Result→Shared→Prop} {s:Shared} {elt tg2 iter2:Expr} {ifs2:List Expr} {G:List Comprehension} {k:Nat} (hk:G[k]?=some ⟨tg2,iter2,ifs2,0⟩) (hk2:G[k+1]?=none) {scope:Scope} {pos:Pos} {it acc:Value} {env:Env} (J:Nat→Shared→Prop)
    (turn:∀ n s,J n s→wpAny (model prog w) A (pyNext it) (fun r s₁=>match r with
      | none=>R (.ok .next) s₁
      | some v=>wpAny (model prog w) A (letOwnedTupleGo tg2 it v) (fun _ s₁'=>wpAny (model prog w) A (assign tg2 env v) (fun _ s₂ =>
          wpAny (model prog w) A (forIn ifs2 true fun c r=>if r=true then do let ok ← isTrue c env (eval c env);pure (ForInStep.yield ok) else pure (ForInStep.yield r)) (fun ok s₃ =>
            if ok=true then wpAny (model prog w) A (eval elt env) (fun x s₄ =>
              wpAny (model prog w) A (call (.builtin "list.append") [acc,x]) (fun _ s₅=>∃ m,m < n∧J m s₅) (fun _ _=>False) s₄) (fun _ _=>False) s₃
            else ∃ m,m < n∧J m s₃) (fun _ _=>False) s₂) (fun _ _=>False) s₁') (fun _ _=>False) s₁) (fun _ _=>False) s)
    (n:Nat) (h:J n s) :
    codeAny (model prog w) A (.compLoop (.ListComp elt G scope pos) k it acc env) R s:=by
  refine codeAny_loop rfl J (fun n s hI=>?_) n h;show wpAny _ A ((compTurn (.ListComp elt G scope pos) k it acc env).onRaise (fun x=>do noteFrame x env;theTreesLotGoes x)) _ _ s;refine wpAny_noted ?_;rw [jy hk hk2];refine wpAny_bind (wpAny_standAt (wpAny_bind (wpAny_mono (turn n s hI) (fun r s₁ h₁=>?_) fun _ _ h'=>h'.elim)));cases r with
  | none=>exact wpAny_pure h₁
  | some v =>
    refine wpAny_bind (wpAny_mono h₁ (fun _ s₁' h₁'=>?_) fun _ _ h'=>h'.elim);refine wpAny_bind (wpAny_mono h₁' (fun _ s₂ h₂=>wpAny_bind (wpAny_mono h₂ (fun ok s₃ h₃=>?_) fun _ _ h'=>h'.elim)) fun _ _ h'=>h'.elim);cases ok with
    | false=>exact wpAny_pure ⟨rfl,h₃⟩
    | true =>
      exact wpAny_bind (wpAny_bind (wpAny_mono h₃ (fun x s₄ h₄=>wpAny_bind (wpAny_mono h₄ (fun _ s₅ h₅=>wpAny_pure (wpAny_pure ⟨rfl,h₅⟩)) fun _ _ h'=>h'.elim)) fun _ _ h'=>h'.elim))
theorem jo {prog:Program} {w:World} {A:Around} {R:Result→Shared→Prop} {s:Shared} {elt tg2 iter2:Expr} {ifs2:List Expr} {G:List Comprehension} {k:Nat} (hk:G[k]?=some ⟨tg2,iter2,ifs2,0⟩) {scope:Scope} {pos:Pos} {it acc:Value} {env:Env}
    (h0:codeAny (model prog w) A (.compLoop (.ListComp elt G scope pos) k it acc env) R s)
    (h:wpAny (model prog w) A (pyIter it) (fun it' s'=>codeAny (model prog w) A (.compLoop (.ListComp elt G scope pos) k it' acc env) R s')
      (notedBy (model prog w) A env fun x s'=>R (.error x) s') s) :
    codeAny (model prog w) A (.compStart (.ListComp elt G scope pos) k it acc env) R s:=by
  refine codeAny_of_tree ?_;show wpAny _ _ ((compStart (.ListComp elt G scope pos) k it acc env).onRaise (fun x=>do noteFrame x env;standAt theWindowsPlace)) _ _ s;refine wpAny_notedAt ?_;unfold compStart;rw [show (clausesOf (.ListComp elt G scope pos))[k]?=some ⟨tg2,iter2,ifs2,0⟩ from hk];show wpAny _ _ (ask >>= _) _ _ s;refine wpAny_bind (wpAny_askSetting (wpAny_ite ?_));split
  · first
      | exact wpAny_bind (wpAny_pure (wpAny_pure (And.intro rfl h0)))
      | exact wpAny_pure (And.intro rfl h0)
  · first
      | exact wpAny_bind (wpAny_rule (wpAny_bind (wpAny_standAt (wpAny_bind (wpAny_mono h (fun it' s' h'=>wpAny_pure (And.intro rfl h')) fun _ _ x=>x)))))
      | (refine wpAny_bind (wpAny_rule ?_);show wpAny _ _ (standAt iter2.pos >>= _) _ _ s;exact wpAny_bind (wpAny_standAt (wpAny_bind (wpAny_mono h (fun it' s' h'=>wpAny_pure (And.intro rfl h')) fun _ _ x=>x))))
structure PCl (Y:Cx) (c:Comprehension) (r:TI × TG × TT):Prop where
  as:c.is_async=0
  it:PI Y c.target c.iter r.1
  tg:PG Y c.target r.2.1
  fs:kZ Y c.ifs r.2.2
  st:∀ E x,foldedSetIterable c.iter E x=pure x
abbrev so (g2:TG) (tt2:TT) (te:TE) (ys:List V) (σ2:St) (Fin:List V→St→Hp→Prop) (J2:It) (H4:Hp):Prop:=∃ W2:Nat→Nat→List V→St→Hp→Prop,(∃ m,W2 0 m ys σ2 H4)∧∀ i m ys σ H,W2 i m ys σ H →
  (J2.stop i H∧Fin ys σ H) ∨
  (J2.go i H∧ys.length < sizeLine∧∀ x H',J2.yld i H x H'→g2 x σ H' fun σ3 H5=>tt2 σ3 H5 fun b H6=>if b=true then te σ3 H6 fun v H7=>∃ m',m' < m∧W2 (i+1) m' (ys++[v]) σ3 H7 else ∃ m',m' < m∧W2 (i+1) m' ys σ3 H6)
abbrev LcT:List (TI × TG × TT)→TG→TT→TE→List V→St→(List V→St→Hp→Prop)→It→Hp→Prop
  | [],g,tt,te,ys,σ,Fn,J,H=>so g tt te ys σ Fn J H
  | r :: rs,g,tt,te,ys,σ2,Fn,J2,H4=>∃ W2:Nat→Nat→List V→St→Hp→Prop,(∃ m,W2 0 m ys σ2 H4)∧∀ i m ys σ H,W2 i m ys σ H →
    (J2.stop i H∧Fn ys σ H) ∨
    (J2.go i H∧∀ x H',J2.yld i H x H'→g x σ H' fun σ3 H5=>tt σ3 H5 fun b H6=>if b=true then r.1 σ3 H6 (LcT rs r.2.1 r.2.2 te ys σ3 fun ys' σ' H7=>∃ m',m' < m∧W2 (i+1) m' ys' σ' H7) else ∃ m',m' < m∧W2 (i+1) m' ys σ3 H6)
abbrev Lp (D:Addr) (its:List Value) (k:Nat):Addr × Obj:=(D,{ cls:=.type "list",data:=.seq its.toArray k })
def vR (Y:Cx) (D:Addr) (P:List (Addr × Obj)) (Fin:List V→St→Hp→Prop) (s:Shared):Prop:=∃ ys its k σ H,Inv Y (Lp D its k :: P) σ H s∧Vals ys its∧ys.length≤sizeLine∧Fin ys σ H
theorem rj {Y:Cx} (hc:Y.calm=true) (hxe:Y.xe=fun _ _=>False) {D:Addr} (hDx:D∈Y.ex∨Y.s₀.heap.objs.size≤D) (hDc:∀ x c,Y.env.cells.lookup x=some c→c≠D) (hDp:∀ p∈Y.pn,p.1≠D)
    {elt:Expr} {te:TE} {G:List Comprehension} {scope:Scope} {pos:Pos} (hbe:PE Y elt te) :
    ∀ (rs:List (TI × TG × TT)) (c:Comprehension) (r:TI × TG × TT) (k:Nat),G[k]?=some c→PCl Y c r→Paired (PCl Y) (G.drop (k+1)) rs →
    ∀ (P:List (Addr × Obj)),(∀ p∈P,p.1≠D)→∀ {σ:St} {H:Hp} {s:Shared} {ys:List V} {its:List Value} {kk:Nat} {Fin:List V→St→Hp→Prop},Inv Y (Lp D its kk :: P) σ H s→Vals ys its→ys.length≤sizeLine →
      r.1 σ H (LcT rs r.2.1 r.2.2 te ys σ Fin) →
      wpAny (model Y.prog Y.w) Y.A (eval c.iter Y.env) (fun x s₄=>wpAny (model Y.prog Y.w) Y.A (pyIter x) (fun it2 s₅ =>
        codeAny (model Y.prog Y.w) Y.A (.compStart (.ListComp elt G scope pos) k it2 (.ref D) Y.env) (fun r s₆=>match r with|.ok _=>vR Y D P Fin s₆|.error _=>False) s₅) (fun _ _=>False) s₄) (fun _ _=>False) s:=by
  intro rs;have xe:∀ e s,Y.xe e s→False:=fun e s z=>by rw [hxe] at z;exact z
  induction rs with
  | nil =>
    intro c r k hk hcl hG P hP σ H s ys its kk Fin I rv hz h;have hk2:G[k+1]?=none:=by
      have l:=acg hG;rw [aaQ] at l;exact ab3 (by simp at l;lia)
    obtain ⟨tg,iter,ifs,as⟩:=c;have as0:as=0:=hcl.as;subst as0;refine wpAny_mono (hcl.it _ s σ H _ I h) (fun v s1 h1=>wpAny_mono h1 (fun itv s2 h2=>?_) fun e s z=>(xe e s z).elim) fun e s z=>(xe e s z).elim;obtain ⟨it,fp,tn,J,H2,e,I2,T,st2,f2,W,⟨m0,w0⟩,turn⟩:=h2;subst e;have neD:∀ b∈fp,D≠b:=fun b hb=>(f2 b hb).2.2.2.2.2 (Lp D its kk) (aab _ aav);have fpYs:∀ {H':Hp} {n:Nat} {its':List Value},(∀ b∈fp,H' b=none)→∀ b∈fp,gC Y (Lp D its' n :: P) H' b:=fun {H' n its'} hn b hb=>by
      refine ⟨hn b hb,(f2 b hb).2.1,(f2 b hb).2.2.1,(f2 b hb).2.2.2.1,(f2 b hb).2.2.2.2.1,fun p hp=>?_⟩;rcases aao.mp hp with z|z
      · exact (f2 b hb).2.2.2.2.2 p (aa8 _ z)
      · rcases aah.mp z with z|z
        · rw [z];exact neD b hb
        · exact (f2 b hb).2.2.2.2.2 p (aab _ (aat _ z))
    have loop:codeAny (model Y.prog Y.w) Y.A (.compLoop (.ListComp elt G scope pos) k (.ref it) (.ref D) Y.env) (fun r s₆=>match r with|.ok _=>vR Y D P Fin s₆|.error _=>False) s2:=by
      refine nP hk hk2 (fun n s'=>∃ i ys its k σ H',Inv Y (Lp D its k :: P) σ H' s'∧Vals ys its∧ys.length≤sizeLine∧tn i s'.heap∧(∀ b∈fp,H' b=none)∧W i n ys σ H') ?_ m0 ⟨0,ys,its,kk,σ,H2,I2,rv,hz,st2,fun b hb=>(f2 b hb).1,w0⟩;rintro n s3 ⟨i,ys3,its3,k3,σ3,H3,I3,rv3,hz3,st3,fr3,w3⟩;rcases turn i n ys3 σ3 H3 w3 with ⟨stop,qn⟩|⟨go,hlt,step⟩
      · refine wpAny_mono (T.done Y rfl rfl rfl hc i _ s3 _ H3 (fun _ _=>False) I3 (fpYs fr3) st3 stop) (fun r s4 ⟨hr,I4⟩=>?_) fun _ _ z=>z;subst hr;exact ⟨ys3,its3,k3,σ3,H3,I4,rv3,hz3,qn⟩
      · refine wpAny_mono (T.item Y rfl rfl rfl hc i _ s3 _ H3 (fun _ _=>False) I3 (fpYs fr3) st3 go) (fun r s4 ⟨u,hr,h4⟩=>?_) fun _ _ z=>z;subst hr;refine wpAny_mono h4 (fun _ s5 ⟨x,H5,I5,r5,y5,st5,fr5⟩=>?_) fun _ _ z=>z;have I5':=I5.pinned (fpYs fr5) (T.obj _ _ st5);refine wpAny_mono (hcl.tg _ s5 _ H5 x u _ I5' r5 (step x H5 y5)) (fun _ s6 ⟨σ6,H6,I6,q6⟩=>?_) fun e s z=>(xe e s z).elim;refine wpAny_mono (hcl.fs _ s6 σ6 H6 _ I6 q6) (fun ok s7 ⟨H7,I7,q7⟩=>?_) fun e s z=>(xe e s z).elim;have again:∀ {ys':List V} {its':List Value} {k':Nat} {σ':St} {H':Hp} {s':Shared},Inv Y (Lp D its' k' :: (P++bf fp s5.heap)) σ' H' s'→Vals ys' its'→ys'.length≤sizeLine→(∃ m',m' < n∧W (i+1) m' ys' σ' H') →
            ∃ m,m < n∧∃ i ys its k σ H',Inv Y (Lp D its k :: P) σ H' s'∧Vals ys its∧ys.length≤sizeLine∧tn i s'.heap∧(∀ b∈fp,H' b=none)∧W i m ys σ H':=fun {ys' its' k' σ' H' s'} Z rv' hz' hw=>by
          obtain ⟨m',hm,w'⟩:=hw;have pn:∀ {b:Addr} {o:Obj},b∈fp→s5.heap.get? b=some o→_:=fun {b o} hb e=>Z.pin (b,o) (aab _ (aat _ (aab _ (bh hb e))));refine ⟨m',hm,i+1,ys',its',k',σ',H',Inv.unpinned (pl:=bf fp s5.heap) Z,rv',hz',T.keep _ _ _ st5 fun b hb o e=>(pn hb e).1,fun b hb=>?_,w'⟩;obtain ⟨o,e,d⟩:=T.obj _ _ st5 b hb;exact (pn hb e).2.1
        cases ok with
        | false =>
          rw [if_neg aai] at q7 ⊢;exact again I7 rv3 hz3 q7
        | true =>
          rw [if_pos rfl] at q7 ⊢;refine wpAny_mono (hbe _ s7 σ6 H7 _ I7 q7) (fun xv s15 ⟨v,H15,I15,r15,q15⟩=>?_) fun e s z=>(xe e s z).elim;have pD:=I15.pin (Lp D its3 k3) (aab _ aav);have hlen:=rv3.length;refine append_at pD.1 (fun h16 hs16 hD16=>?_) (by rw [aam];lia);have I16:Inv Y (P++bf fp s5.heap) σ6 H15 s15:=I15.pins_of fun p hp=>I15.pin p (aab _ (aat _ hp));have I17:Inv Y (P++bf fp s5.heap) σ6 H15 { s15 with heap:=h16 }:=I16.turned (t':=s15.toks) (it:=D) (fun b o hb e=>hs16.extBut b o hb e) pD.2.1 pD.2.2.1 hDx hDc fun p hp=>by
            rcases aao.mp hp with z|z
            · exact hDp p z
            · rcases aao.mp z with z|z
              · exact hP p z
              · exact abo (neD _ (dh z).1)
          have I18:Inv Y (Lp D (its3++[xv]) (k3+1) :: (P++bf fp s5.heap)) σ6 H15 { s15 with heap:=h16 }:=I17.pins_of fun p hp=>by
            rcases aah.mp hp with z|z
            · rw [z];refine ⟨?_,pD.2.1,pD.2.2.1,pD.2.2.2.1,fun v z=>by cases z⟩;rw [List.push_toArray] at hD16;exact hD16
            · exact I17.pin p (aab _ z)
          exact again I18 (rv3.append (.cons r15 .nil)) (by rw [aae,aaN];exact hlt) q15
    exact jo hk loop (T.self _ 0 _ _ _ st2 loop)
  | cons r2 rs ih =>
    intro c r k hk hcl hG P hP σ H s ys its kk Fin I rv hz h;obtain ⟨c2,hk2,hcl2,hG2⟩:∃ c2,G[k+1]?=some c2∧PCl Y c2 r2∧Paired (PCl Y) (G.drop (k+1+1)) rs:=by
      cases e:G.drop (k+1) with
      | nil=>rw [e] at hG;cases hG
      | cons c2 l =>
        rw [e] at hG;have e1:G[k+1]?=some c2:=by
          have:=congrArg (·[0]?) e;simpa using this
        have e2:G.drop (k+1+1)=l:=by rw [← List.drop_drop,e];rfl
        cases hG with
        | cons a b=>exact ⟨c2,e1,a,by rw [e2];exact b⟩
    obtain ⟨tg,iter,ifs,as⟩:=c;have as0:as=0:=hcl.as;subst as0;obtain ⟨tg2,iter2,ifs2,as2⟩:=c2;have as20:as2=0:=hcl2.as;subst as20;refine wpAny_mono (hcl.it _ s σ H _ I h) (fun v s1 h1=>wpAny_mono h1 (fun itv s2 h2=>?_) fun e s z=>(xe e s z).elim) fun e s z=>(xe e s z).elim;obtain ⟨it,fp,tn,J,H2,e,I2,T,st2,f2,W,⟨m0,w0⟩,turn⟩:=h2;subst e;have neD:∀ b∈fp,D≠b:=fun b hb=>(f2 b hb).2.2.2.2.2 (Lp D its kk) (aab _ aav);have fpYs:∀ {H':Hp} {n:Nat} {its':List Value},(∀ b∈fp,H' b=none)→∀ b∈fp,gC Y (Lp D its' n :: P) H' b:=fun {H' n its'} hn b hb=>by
      refine ⟨hn b hb,(f2 b hb).2.1,(f2 b hb).2.2.1,(f2 b hb).2.2.2.1,(f2 b hb).2.2.2.2.1,fun p hp=>?_⟩;rcases aao.mp hp with z|z
      · exact (f2 b hb).2.2.2.2.2 p (aa8 _ z)
      · rcases aah.mp z with z|z
        · rw [z];exact neD b hb
        · exact (f2 b hb).2.2.2.2.2 p (aab _ (aat _ z))
    have loop:codeAny (model Y.prog Y.w) Y.A (.compLoop (.ListComp elt G scope pos) k (.ref it) (.ref D) Y.env) (fun r s₆=>match r with|.ok _=>vR Y D P Fin s₆|.error _=>False) s2:=by
      refine jp hk hk2 (fun n s'=>∃ i ys its k σ H',Inv Y (Lp D its k :: P) σ H' s'∧Vals ys its∧ys.length≤sizeLine∧tn i s'.heap∧(∀ b∈fp,H' b=none)∧W i n ys σ H') (hcl2.st _) ?_ m0 ⟨0,ys,its,kk,σ,H2,I2,rv,hz,st2,fun b hb=>(f2 b hb).1,w0⟩;rintro n s3 ⟨i,ys3,its3,k3,σ3,H3,I3,rv3,hz3,st3,fr3,w3⟩;rcases turn i n ys3 σ3 H3 w3 with ⟨stop,qn⟩|⟨go,step⟩
      · refine wpAny_mono (T.done Y rfl rfl rfl hc i _ s3 _ H3 (fun _ _=>False) I3 (fpYs fr3) st3 stop) (fun r s4 ⟨hr,I4⟩=>?_) fun _ _ z=>z;subst hr;exact ⟨ys3,its3,k3,σ3,H3,I4,rv3,hz3,qn⟩
      · refine wpAny_mono (T.item Y rfl rfl rfl hc i _ s3 _ H3 (fun _ _=>False) I3 (fpYs fr3) st3 go) (fun r s4 ⟨u,hr,h4⟩=>?_) fun _ _ z=>z;subst hr;refine wpAny_mono h4 (fun _ s5 ⟨x,H5,I5,r5,y5,st5,fr5⟩=>?_) fun _ _ z=>z;have I5':=I5.pinned (fpYs fr5) (T.obj _ _ st5);refine wpAny_mono (hcl.tg _ s5 _ H5 x u _ I5' r5 (step x H5 y5)) (fun _ s6 ⟨σ6,H6,I6,q6⟩=>?_) fun e s z=>(xe e s z).elim;refine wpAny_mono (hcl.fs _ s6 σ6 H6 _ I6 q6) (fun ok s7 ⟨H7,I7,q7⟩=>?_) fun e s z=>(xe e s z).elim;have again:∀ {ys':List V} {its':List Value} {k':Nat} {σ':St} {H':Hp} {s':Shared},Inv Y (Lp D its' k' :: (P++bf fp s5.heap)) σ' H' s'→Vals ys' its'→ys'.length≤sizeLine→(∃ m',m' < n∧W (i+1) m' ys' σ' H') →
            ∃ m,m < n∧∃ i ys its k σ H',Inv Y (Lp D its k :: P) σ H' s'∧Vals ys its∧ys.length≤sizeLine∧tn i s'.heap∧(∀ b∈fp,H' b=none)∧W i m ys σ H':=fun {ys' its' k' σ' H' s'} Z rv' hz' hw=>by
          obtain ⟨m',hm,w'⟩:=hw;have pn:∀ {b:Addr} {o:Obj},b∈fp→s5.heap.get? b=some o→_:=fun {b o} hb e=>Z.pin (b,o) (aab _ (aat _ (aab _ (bh hb e))));refine ⟨m',hm,i+1,ys',its',k',σ',H',Inv.unpinned (pl:=bf fp s5.heap) Z,rv',hz',T.keep _ _ _ st5 fun b hb o e=>(pn hb e).1,fun b hb=>?_,w'⟩;obtain ⟨o,e,d⟩:=T.obj _ _ st5 b hb;exact (pn hb e).2.1
        cases ok with
        | false =>
          rw [if_neg aai] at q7 ⊢;exact again I7 rv3 hz3 q7
        | true =>
          rw [if_pos rfl] at q7 ⊢;refine wpAny_mono (ih ⟨tg2,iter2,ifs2,0⟩ r2 (k+1) hk2 hcl2 hG2 (P++bf fp s5.heap) (fun p hp=>?_) I7 rv3 hz3 q7) (fun x s8 h8=>wpAny_mono h8 (fun it2 s9 h9=>codeAny_mono h9 fun r s10 h10=>?_) fun _ _ z=>z) fun _ _ z=>z
          · rcases aao.mp hp with z|z
            · exact hP p z
            · exact abo (neD _ (dh z).1)
          · cases r with
            | error e=>exact h10.elim
            | ok f =>
              obtain ⟨ys',its',k',σ',H',Z,rv',hz',w'⟩:=h10;exact again Z rv' hz' w'
    exact jo hk loop (T.self _ 0 _ _ _ st2 loop)
abbrev uk (cap:List (Option Nat)) (g:TG) (tt:TT) (r2:TI × TG × TT) (rs:List (TI × TG × TT)) (te:TE) (σ:St) (Q:VK) (J:It) (H1:Hp):Prop:=∃ W:Nat→Nat→List V→Hp→Prop,(∃ m,W 0 m [] H1)∧∀ i m ys H,W i m ys H →
  (J.stop i H∧∀ p,H p=none→Q (.ref p) (upd H p (.lst ys))) ∨
  (J.go i H∧∀ x H',J.yld i H x H'→g x (a6 cap σ) H' fun σ2 H2=>tt σ2 H2 fun b H3=>if b=true then r2.1 σ2 H3 (LcT rs r2.2.1 r2.2.2 te ys σ2 fun ys' _ H4=>∃ m',m' < m∧W (i+1) m' ys' H4) else ∃ m',m' < m∧W (i+1) m' ys H3)
def xk (cap:List (Option Nat)) (wi:TI) (g:TG) (tt:TT) (r2:TI × TG × TT) (rs:List (TI × TG × TT)) (te:TE):TE:=fun σ H Q=>wi σ H (uk cap g tt r2 rs te σ Q)
section
variable {X:Cx}
theorem uP {elt tg iter:Expr} {ifs:List Expr} {G:List Comprehension} {r2:TI × TG × TT} {rs:List (TI × TG × TT)} {scope:Scope} {pos:Pos} {cl:List (Str × Addr)} {NY:List Str} {cap:List (Option Nat)} {wi:TI} {g:TG} {tt:TT} {te:TE} (hc:X.calm=true) (hi:PI X tg iter wi)
    (hclos:closureFor scope X.env=pure cl) (hci:CellsIn X.env cl) (hcap:CapOk X.env (relabel scope X.env) X.N NY cap)
    (hb:∀ fp s H C,PG (ai X scope cl NY fp s H C) tg g∧kZ (ai X scope cl NY fp s H C) ifs tt∧Paired (PCl (ai X scope cl NY fp s H C)) G (r2 :: rs)∧PE (ai X scope cl NY fp s H C) elt te)
    (hkind:scope.kind=.function:=by rfl) (hnc:(scope.names.all fun y=>y.2 != .cell)=true:=by rfl)
    (hnames:(scope.names.all fun y=>y.2 != .local || scope.names.lookup y.1 == some .local)=true:=by rfl)
    (hhas:((relabel scope X.env).names.all fun p=>(p.2 != .cell && p.2 != .free) || (cl.lookup p.1).isSome)=true:=by rfl)
    (hs:∀ x,foldedSetIterable iter X.env x=pure x:=by intro _;rfl) :
    PE X (.ListComp elt (⟨tg,iter,ifs,0⟩ :: G) scope pos) (xk cap wi g tt r2 rs te):=by
  have hnc':∀ y∈scope.names,y.2≠.cell:=fun y hy=>by
    have q:=aay.mp hnc y hy;simpa using q
  have hnames':∀ y∈scope.names,y.2=.local→scope.names.lookup y.1=some .local:=fun y hy e=>by
    have q:=aay.mp hnames y hy;rw [e] at q;simpa using q
  intro pins s σ H Q I h;rw [eval_ListComp];refine wpAny_comprehension_free (use:=none) rfl hs hclos hkind hnames' (wpAny_mono (hi pins s σ H _ I h) (fun v s1 h1=>wpAny_mono h1 (fun itv s2 h2=>?_) fun _ _ e=>e) fun _ _ e=>e);obtain ⟨it,fp,tn,J,H2,e,I2,T,st2,f2,W,⟨m0,w0⟩,turn⟩:=h2;subst e;refine wpAny_newObj_type (wpAny_newFunctionEnv hnc' (by intro y hy;simp at hy) (fun h₁ hns₁ hsb₁=>?_) hkind);dsimp only at hns₁ hsb₁ ⊢;generalize hH2:s2.heap.push { cls:=.type "list",dict:=none,data:=.seq ([]:List Value).toArray }=G2 at hns₁ hsb₁ ⊢;have hC:G2.objs.size=s2.heap.objs.size+1:=by rw [← hH2,abX]
  have hDC:s2.heap.objs.size≠G2.objs.size:=by rw [hC];exact aau (acb _)
  have hDlt:s2.heap.objs.size≤G2.objs.size:=by rw [hC];exact Nat.le_succ _
  have below:∀ b,b < s2.heap.objs.size→b≠G2.objs.size∧b≠s2.heap.objs.size:=fun b hb=>⟨by rw [hC];exact aau (abV hb),aau hb⟩
  have old:∀ b o,s2.heap.get? b=some o→h₁.get? b=some o:=fun b o e=>hsb₁.extBut b o (below b (aaj e)).1 (aaf _ (hH2 ▸ aaf _ e));have hacc:h₁.get? s2.heap.objs.size=some { cls:=.type "list",data:=.seq ([]:List Value).toArray 0 }:=hsb₁.extBut _ _ hDC (aaf _ (hH2 ▸ aaz _ rfl));have fpl:∀ b∈fp,b < s2.heap.objs.size:=fun b hb=>by
    obtain ⟨o,e,_⟩:=T.obj _ _ st2 b hb;exact aaj e
  have freshD:H2 s2.heap.objs.size=none:=I2.hok.fresh (aag _);have freshC:H2 G2.objs.size=none:=I2.hok.fresh hDlt;have cellLt:∀ x c,X.env.cells.lookup x=some c→c < s2.heap.objs.size:=fun x c e=>by
    obtain ⟨v,q⟩:=I2.cell x c e;exact q.lt
  have hclX:∀ x c,cl.lookup x=some c→X.env.cells.lookup x=some c:=fun x c e=>hci.get e;obtain ⟨hbg,hbt,hbG,hbe⟩:=hb fp s2 H2 G2.objs.size;obtain ⟨c2,G',eG,hcl2,hG'⟩:∃ c2 G',G=c2 :: G'∧PCl (ai X scope cl NY fp s2 H2 G2.objs.size) c2 r2∧Paired (PCl (ai X scope cl NY fp s2 H2 G2.objs.size)) G' rs:=by
    cases hbG with
    | cons a b=>exact ⟨_,_,rfl,a,b⟩
  obtain ⟨tg2,iter2,ifs2,as2⟩:=c2;have as20:as2=0:=hcl2.as;subst as20;have okY:(ai X scope cl NY fp s2 H2 G2.objs.size).Ok:=by
    refine ⟨I2.ok.mod,hkind,I2.ok.glob,I2.ok.blt,hDlt,fun x y c e1 e2=>I2.ok.inj x y c (hclX x c e1) (hclX y c e2),fun x hx=>?_,fun x c hf _=>?_,I2.ok.hd,I2.ok.frames,.inl rfl,fun b hb=>⟨(below b (fpl b hb)).1,fun x c e z=>?_⟩,I2.bs,
      aaZ I2.ok.bsz I2.sz,fun b o e hb=>?_,fun b hb hz=>?_,I2.stack,I2.stkFree⟩
    · have hx':(relabel scope X.env).names.lookup x=some .cell∨(relabel scope X.env).names.lookup x=some .free:=hx;have key:∀ k,(relabel scope X.env).names.lookup x=some k→(k=.cell∨k=.free)→∃ c,cl.lookup x=some c:=fun k e hk=>by
        have q:=aay.mp hhas (x,k) (aaW e);have q':(cl.lookup x).isSome=true:=by
          rcases hk with rfl|rfl <;> simpa using q
        exact aba.mp q'
      rcases hx' with e|e
      · exact key _ e (.inl rfl)
      · exact key _ e (.inr rfl)
    · exact absurd (show false=true from hf) aai
    · exact (f2 b hb).2.2.2.2.1 x c (hclX x c e) z
    · rcases (f2 b hb).2.2.2.1 with z|z
      · exact I2.ok.noex b o e z
      · exact absurd (aaq (aaj (I2.ok.bs b o e).1) z) (aaT _)
    · rcases aah.mp (I2.stkSub b hz) with z|z
      · exact (f2 b hb).2.1 z
      · exact (f2 b hb).2.2.1 z
  have fpYs:∀ {H':Hp} {n:Nat} {its:List Value},(∀ b∈fp,H' b=none)→∀ b∈fp,gC (ai X scope cl NY fp s2 H2 G2.objs.size) [(s2.heap.objs.size,{ cls:=.type "list",data:=.seq its.toArray n })] H' b:=fun {H' n its} hn b hb=>by
    refine ⟨hn b hb,(below b (fpl b hb)).1,fun hz=>?_,.inl hb,fun x c e=>(f2 b hb).2.2.2.2.1 x c (hclX x c e),fun p hp=>?_⟩
    · rcases aah.mp (I2.stkSub b hz) with z|z
      · exact (f2 b hb).2.1 z
      · exact (f2 b hb).2.2.1 z
    · have e:p=(s2.heap.objs.size,{ cls:=.type "list",data:=.seq its.toArray n }):=by simpa [ai] using hp
      rw [e];exact abo (below b (fpl b hb)).2
  have nostk:∀ b,s2.heap.objs.size≤b→b∉frs X.stack:=fun b hb hz=>by
    rcases aah.mp (I2.stkSub b hz) with z|z
    · have:=I2.lt;rw [← z] at this;exact absurd (aaq this hb) (aaT _)
    · exact I2.nofs hb z
  have IY0:Inv (ai X scope cl NY fp s2 H2 G2.objs.size) [(s2.heap.objs.size,{ cls:=.type "list",data:=.seq ([]:List Value).toArray 0 })] (a6 cap σ) H2 { s2 with heap:=h₁,toks:=s2.toks+([]:List (Str × Value)).length }:=by
    refine ⟨okY,rfl,I2.bare,Un.kept old,⟨_,hns₁,fun j x v e1 e2 e3=>?_⟩,fun x c e=>?_,freshC,fun x c e=>I2.freeC x c (hclX x c e),fun p hp=>?_,I2.hok.kept old,?_⟩
    · obtain ⟨i,h1,h2,h3,h4⟩:=CapOk.get (σ:=σ) hcap e1 e2;obtain ⟨m,hn,hl⟩:=I2.loc;have vis:Vis X.env.scope x:=by rcases h3 with z|z;exact .inr (.inl z);exact .inr (.inr z)
      obtain ⟨u,r,l⟩:=hl i x v h1 h2 vis;refine ⟨u,r,.inr ⟨h4,?_⟩⟩;rcases l with ⟨k,_⟩|⟨_,c,e,z⟩
      · rcases h3 with z|z <;> (rw [k] at z;cases z)
      · obtain ⟨c',e'⟩:=okY.has x h4;have e':cl.lookup x=some c':=e';have e'':=hclX x c' e';rw [e] at e'';cases e'';obtain ⟨o,ho,hd⟩:=z;exact ⟨c,e',o,old _ _ ho,hd⟩
    · obtain ⟨v,o,ho,hd⟩:=I2.cell x c (hclX x c e);exact ⟨v,o,old _ _ ho,hd⟩
    · have e:p=(s2.heap.objs.size,{ cls:=.type "list",data:=.seq ([]:List Value).toArray 0 }):=by simpa [ai] using hp
      rw [e];exact ⟨hacc,freshD,hDC,nostk _ (aag _),fun v z=>by cases z⟩
    · show (a6 cap σ).length=NY.length;unfold a6;rw [aak];exact hcap.len
  have hcY:(ai X scope cl NY fp s2 H2 G2.objs.size).calm=true:=hc;have stW:tn 0 h₁:=T.keep _ _ _ st2 fun b _ o e=>old b o e;have loop:∀ s₃:Shared,s₃={ s2 with heap:=h₁,toks:=s2.toks+([]:List (Str × Value)).length } →
      codeAny (model X.prog X.w) X.A (.compLoop (.ListComp elt (⟨tg,iter,ifs,0⟩ :: G) scope pos) 0 (.ref it) (.ref s2.heap.objs.size) (compEnvC scope cl G2.objs.size X.env))
        (compPost (model X.prog X.w) X.A X.xe none (EP X pins σ Q) (.ref s2.heap.objs.size) G2.objs.size) s₃:=by
    rintro s₃ rfl;refine jp (k:=0) rfl (show (⟨tg,iter,ifs,0⟩ :: G:List Comprehension)[1]?=some ⟨tg2,iter2,ifs2,0⟩ by rw [eG];rfl) (fun n s'=>∃ i ys its k H',Inv (ai X scope cl NY fp s2 H2 G2.objs.size) [(s2.heap.objs.size,{ cls:=.type "list",data:=.seq its.toArray k })] (a6 cap σ) H' s'∧Vals ys its∧ys.length≤sizeLine∧tn i s'.heap∧(∀ b∈fp,H' b=none)∧W i n ys H') (hcl2.st _) ?_ m0
      ⟨0,[],[],0,H2,IY0,.nil,aaM _,stW,fun b hb=>(f2 b hb).1,w0⟩
    rintro n s3 ⟨i,ys,its,k,H3,I3,rv,hz,st3,fr3,w3⟩;rcases turn i n ys H3 w3 with ⟨stop,qn⟩|⟨go,step⟩
    · refine wpAny_mono (T.done (ai X scope cl NY fp s2 H2 G2.objs.size) rfl rfl rfl hcY i _ s3 _ H3 (fun _ _=>False) I3 (fpYs fr3) st3 stop) (fun r s4 ⟨hr,I4⟩=>?_) fun _ _ z=>z;subst hr;obtain ⟨m,hnC,_⟩:=id I4.loc;have hnC:s4.heap.Ns G2.objs.size m:=hnC;refine ⟨m,hnC,fun h' hsb=>?_⟩;have pD:=(I4.pin (s2.heap.objs.size,{ cls:=.type "list",data:=.seq its.toArray k }) (by simp [ai]))
      have un:Un (frs X.stack) fp H2 H3 s2.heap s4.heap:=I4.base;have I5:Inv X pins σ H3 s4:=I2.call' (ch:=fp) I4.os un I4.hok I4.bare fun b hb=>⟨(f2 b hb).2.2.2.1,(f2 b hb).2.1,(f2 b hb).2.2.2.2.1,(f2 b hb).2.2.2.2.2⟩
      have cC:H3 G2.objs.size=none:=I4.free;have szX:X.s₀.heap.objs.size≤s2.heap.objs.size:=I2.sz;have I6:Inv X pins σ H3 { s4 with heap:=h' }:=I5.turned (t':=s4.toks) (it:=G2.objs.size) (fun b o hb e=>hsb.extBut b o hb e) cC (abn (aaq I2.lt hDlt)) (.inr (aaZ szX hDlt))
        (fun x c e z=>absurd (cellLt x c e) (by rw [z];exact abW.mpr hDlt)) (fun p hp z=>absurd (aaj (I2.pin p hp).1) (by rw [z];exact abW.mpr hDlt))
      have I7:Inv X pins σ (upd H3 s2.heap.objs.size (.lst ys)) { s4 with heap:=h' }:=I6.adopt pD.2.1 szX (abn I2.lt) (fun x c e=>aau (cellLt x c e)) (fun p hp=>aau (aaj (I2.pin p hp).1))
        ⟨hz,its,k,rv,hsb.extBut _ _ hDC pD.1⟩
      exact ⟨.ref s2.heap.objs.size,_,I7,rfl,qn _ pD.2.1⟩
    · refine wpAny_mono (T.item (ai X scope cl NY fp s2 H2 G2.objs.size) rfl rfl rfl hcY i _ s3 _ H3 (fun _ _=>False) I3 (fpYs fr3) st3 go) (fun r s4 ⟨u,hr,h4⟩=>?_) fun _ _ z=>z;subst hr;refine wpAny_mono h4 (fun _ s5 ⟨x,H5,I5,r5,y5,st5,fr5⟩=>?_) fun _ _ z=>z;have I5':=I5.pinned (fpYs fr5) (T.obj _ _ st5);refine wpAny_mono (hbg _ s5 _ H5 x u _ I5' r5 (step x H5 y5)) (fun _ s6 ⟨σ6,H6,I6,q6⟩=>?_) fun _ _ z=>z;refine wpAny_mono (hbt _ s6 σ6 H6 _ I6 q6) (fun ok s7 ⟨H7,I7,q7⟩=>?_) fun _ _ z=>z;have lenY:∀ {σ':St} {pn} {H'} {s'},Inv (ai X scope cl NY fp s2 H2 G2.objs.size) pn σ' H' s'→(a6 cap σ).length=σ'.length:=fun {σ' pn H' s'} Z=>IY0.len.trans Z.len.symm;have captured:∀ {σ':St} {pn} {H'} {s'},Inv (ai X scope cl NY fp s2 H2 G2.objs.size) pn σ' H' s'→Inv (ai X scope cl NY fp s2 H2 G2.objs.size) pn (a6 cap σ) H' s':=fun {σ' pn H' s'} Z=>by
        refine ⟨Z.ok,Z.os,Z.bare,Z.base,?_,Z.cell,Z.free,Z.freeC,Z.pin,Z.hok,IY0.len⟩;obtain ⟨m,hn,_⟩:=Z.loc;refine ⟨m,hn,fun j x v e1 e2 e3=>?_⟩;obtain ⟨i',h1,h2,h3,h4⟩:=CapOk.get (σ:=σ) hcap e1 e2;obtain ⟨m',hn',hl⟩:=I2.loc;have vis:Vis X.env.scope x:=by rcases h3 with z|z;exact .inr (.inl z);exact .inr (.inr z)
        obtain ⟨u,r,l⟩:=hl i' x v h1 h2 vis;refine ⟨u,r,.inr ⟨h4,?_⟩⟩;rcases l with ⟨kk,_⟩|⟨_,c,e,z⟩
        · rcases h3 with z|z <;> (rw [kk] at z;cases z)
        · obtain ⟨c',e'⟩:=okY.has x h4;have e':cl.lookup x=some c':=e';have e'':=hclX x c' e';rw [e] at e'';cases e'';obtain ⟨o,ho,hd⟩:=z;have nfp:c∉fp:=fun hz=>(f2 c hz).2.2.2.2.1 x c e rfl;obtain ⟨sl,q⟩:=Z.base.any (show s2.heap.get? c=some o from ho) (I2.freeC x c e) nfp;exact ⟨c,e',_,q,hd⟩
      have again:∀ {ys':List V} {its':List Value} {k':Nat} {σ':St} {H':Hp} {s':Shared},Inv (ai X scope cl NY fp s2 H2 G2.objs.size) ([(s2.heap.objs.size,{ cls:=.type "list",data:=.seq its'.toArray k' })]++bf fp s5.heap) σ' H' s'→Vals ys' its'→ys'.length≤sizeLine →
          (∃ m',m' < n∧W (i+1) m' ys' H')→∃ m,m < n∧∃ i ys its k H',Inv (ai X scope cl NY fp s2 H2 G2.objs.size) [(s2.heap.objs.size,{ cls:=.type "list",data:=.seq its.toArray k })] (a6 cap σ) H' s'∧Vals ys its∧ys.length≤sizeLine∧tn i s'.heap∧(∀ b∈fp,H' b=none)∧W i m ys H':=fun {ys' its' k' σ' H' s'} Z rv' hz' hw=>by
        obtain ⟨m',hm,w'⟩:=hw;refine ⟨m',hm,i+1,ys',its',k',H',captured Z.unpinned,rv',hz',T.keep _ _ _ st5 fun b hb o e=>(Z.pin (b,o) (aab _ (aab _ (bh hb e)))).1,fun b hb=>?_,w'⟩;obtain ⟨o,e,d⟩:=T.obj _ _ st5 b hb;exact (Z.pin (b,o) (aab _ (aab _ (bh hb e)))).2.1
      cases ok with
      | false =>
        rw [if_neg aai] at q7 ⊢;exact again I7 rv hz q7
      | true =>
        rw [if_pos rfl] at q7 ⊢;have fpD:∀ p∈bf fp s5.heap,p.1≠s2.heap.objs.size:=fun p hp=>(below _ (fpl _ (dh hp).1)).2;have go2:=rj (Y:=ai X scope cl NY fp s2 H2 G2.objs.size) hcY rfl (D:=s2.heap.objs.size) (.inr (aag _)) (fun x c e=>aau (cellLt x c (hclX x c e))) (fun p hp=>absurd hp (by simp [ai])) (elt:=elt) (G:=⟨tg,iter,ifs,0⟩ :: G) (scope:=scope) (pos:=pos) hbe rs ⟨tg2,iter2,ifs2,0⟩ r2 1 (by rw [eG];rfl) hcl2 (by rw [eG];exact hG') (bf fp s5.heap) fpD I7 rv hz q7;refine wpAny_mono go2 (fun x s8 h8=>wpAny_mono h8 (fun it2 s9 h9=>codeAny_mono h9 fun r s10 h10=>?_) fun _ _ z=>z) fun _ _ z=>z;cases r with
        | error e=>exact h10.elim
        | ok f =>
          obtain ⟨ys',its',k',σ',H',Z,rv',hz',w'⟩:=h10;exact again Z rv' hz' w'
  exact codeAny_compStart_list (loop _ rfl) (T.self _ 0 _ _ _ stW (loop _ rfl))
end
abbrev uj (g2:TG) (tt2:TT) (te:TE) (ys:List V) (σ2:St) (Fin:List V→Hp→Prop) (J2:It) (H4:Hp):Prop:=so g2 tt2 te ys σ2 (fun ys _ H=>Fin ys H) J2 H4
abbrev ul (cap:List (Option Nat)) (g:TG) (tt:TT) (wi2:TI) (g2:TG) (tt2:TT) (te:TE) (σ:St) (Q:VK) (J:It) (H1:Hp):Prop:=uk cap g tt (wi2,g2,tt2) [] te σ Q J H1
def xl (cap:List (Option Nat)) (wi:TI) (g:TG) (tt:TT) (wi2:TI) (g2:TG) (tt2:TT) (te:TE):TE:=fun σ H Q=>wi σ H (ul cap g tt wi2 g2 tt2 te σ Q)
section
variable {X:Cx}
theorem uQ {elt tg iter tg2 iter2:Expr} {ifs ifs2:List Expr} {scope:Scope} {pos:Pos} {cl:List (Str × Addr)} {NY:List Str} {cap:List (Option Nat)} {wi wi2:TI} {g g2:TG} {tt tt2:TT} {te:TE} (hc:X.calm=true) (hi:PI X tg iter wi)
    (hclos:closureFor scope X.env=pure cl) (hci:CellsIn X.env cl) (hcap:CapOk X.env (relabel scope X.env) X.N NY cap)
    (hb:∀ fp s H C,PG (ai X scope cl NY fp s H C) tg g∧kZ (ai X scope cl NY fp s H C) ifs tt∧PI (ai X scope cl NY fp s H C) tg2 iter2 wi2∧PG (ai X scope cl NY fp s H C) tg2 g2∧kZ (ai X scope cl NY fp s H C) ifs2 tt2∧PE (ai X scope cl NY fp s H C) elt te)
    (hkind:scope.kind=.function:=by rfl) (hnc:(scope.names.all fun y=>y.2 != .cell)=true:=by rfl)
    (hnames:(scope.names.all fun y=>y.2 != .local || scope.names.lookup y.1 == some .local)=true:=by rfl)
    (hhas:((relabel scope X.env).names.all fun p=>(p.2 != .cell && p.2 != .free) || (cl.lookup p.1).isSome)=true:=by rfl)
    (hs:∀ x,foldedSetIterable iter X.env x=pure x:=by intro _;rfl) (hs2:∀ E x,foldedSetIterable iter2 E x=pure x:=by intro _ _;rfl) :
    PE X (.ListComp elt [⟨tg,iter,ifs,0⟩,⟨tg2,iter2,ifs2,0⟩] scope pos) (xl cap wi g tt wi2 g2 tt2 te) :=
  uP (r2:=(wi2,g2,tt2)) (rs:=[]) hc hi hclos hci hcap (fun fp s H C=>by obtain ⟨hbg,hbt,i2,t2,f2,hbe⟩:=hb fp s H C;exact ⟨hbg,hbt,(.cons ⟨rfl,i2,t2,f2,hs2⟩ .nil),hbe⟩) hkind hnc hnames hhas hs
end
open PySem PySem.Spec PyProof.Rows
def g9 (h:Heap) (S:List Addr):Heap:=⟨h.objs.mapIdx fun i o=>if i∈S then { o with data:=.freed } else o,h.life⟩
theorem dG {h:Heap} {S:List Addr} {b:Addr} (hb:b∈S):(g9 h S).get? b=none:=by
  unfold g9 Heap.get?;simp only [Array.getElem?_mapIdx];cases e:h.objs[b]? with
  | none=>rfl
  | some o=>simp [hb]
theorem i6 {h:Heap} {S:List Addr} {b:Addr} (hb:b∉S):(g9 h S).get? b=h.get? b:=by
  unfold g9 Heap.get?;simp only [Array.getElem?_mapIdx];cases e:h.objs[b]? with
  | none=>rfl
  | some o=>simp [hb]
theorem eO (h:Heap) (S:List Addr):(g9 h S).StaysIn h:=fun b o e=>by
  by_cases hb:b∈S
  · rw [dG hb] at e;cases e
  · rw [i6 hb] at e;exact e
theorem cQ {h h1 base:Heap} {S:List Addr}:∀ {l:List Env},(∀ b∈l.filterMap (·.frame),b∈S)→h1.FunFrames base l→h1.FunFrames (g9 h S) l
  | [],_,_=>trivial
  | env :: fh,hs,⟨hk,⟨L,o,hf,hn,ho,hd⟩,hr⟩=>by
    refine ⟨hk,⟨L,o,hf,dG (hs L ?_),ho,hd⟩,cQ (fun b hb=>hs b ?_) hr⟩
    · rw [abk,hf];exact aav
    · rw [abk,hf];exact aat _ hb
def Trc (h:Heap) (e T:Addr) (cls:Value):Prop:=∃ oe vs oT ts a0,h.get? e=some oe∧(oe.cls=cls∧vs[0]?=some a0)∧oe.data=.fields vs∧vs[1]?=some (.ref T)∧T≠e∧h.get? T=some oT∧oT.data=.fields ts∧ts[3]?=some .none
section
variable {M:Model} {A:Around} {E:Value→Shared→Prop} {s:Shared}
structure Lft (l:List Env) (e:Addr) (x:List Addr) (h h':Heap):Prop where
  keep:∀ b o,b∉l.filterMap (·.frame)→b≠e→b∉x→h.get? b=some o→h'.get? b=some o
  slot:∀ b o,b∈l.filterMap (·.frame)→h.get? b=some o→∃ sl,h'.get? b=some { o with slots:=sl }
theorem kM {base b0:Heap} {l:List Env} {e:Addr} {x:List Addr} {cls:Value} {h h':Heap} (hl:h.FunFrames b0 l) {a0:Value} (L:Heap.LeftW (g9 h (e :: x++l.filterMap (·.frame))) l e cls a0 h h') (he:h.get? e≠none) :
    Lft l e x h h'∧∃ T,Trc h' e T cls∧(T∈x∨h.get? T=none):=by
  obtain ⟨k1,k2,k3,k4⟩:=L;refine ⟨⟨fun b o hb hbe hx ho=>k1 b o (by rw [i6];exact ho;simp [hb,hbe,hx]),fun b o hb ho=>?_⟩,?_⟩
  · obtain ⟨_,o',ho',hd⟩:=hl.mem hb;rw [ho] at ho';cases ho';exact k4 b o ho hd
  · obtain ⟨oe,vs,T,oT,ts,h1,h2,h3,h4,h5,h6,h7,h8,h9⟩:=k3;refine ⟨T,⟨oe,vs,oT,ts,a0,h1,h2,h3,h4,h6,h7,h8,h9⟩,?_⟩;by_cases hT:T∈x
    · exact .inl hT
    · refine .inr ?_;have nf:T∉l.filterMap (·.frame):=fun z=>by
        obtain ⟨_,o,ho,hd⟩:=k2.mem z;rw [h7] at ho;cases ho;exact hd ts h8
      rw [i6 (by simp [hT,h6,nf])] at h5;exact h5
theorem lP {b0:Heap} {env:Env} {outer:List Env} {L e:Addr} {oe:Obj} {vs:Array Value} {Q:Unit→Shared→Prop} (hfr:A.frames=some (env :: outer)) (hl:s.heap.FunFrames b0 (env :: outer)) (hf:env.frame=some L)
    (he:s.heap.get? e=some oe) (hd:oe.data=.fields vs) (h1:vs[1]?=some .none) {a0:Value} (h0:vs[0]?=some a0)
    (h:∀ h' T,Lft (env :: outer) e [] s.heap h'→Trc h' e T oe.cls→s.heap.get? T=none→Q () { s with heap:=h' }):wpAny M A (leaving env (.ref e)) Q E s:=by
  refine wpAny_leaving_firstW (a0:=a0) (base:=g9 s.heap (e :: []++(env :: outer).filterMap (·.frame))) hfr (cQ (fun b hb=>aab _ hb) hl) hf he (eO _ _) (dG (by simp)) hd h1 h0 fun h' L'=>?_;obtain ⟨l',T,t,z⟩:=kM (base:=b0) hl L' (by rw [he];simp);rcases z with z|z
  · exact absurd z (by simp)
  · exact h h' T l' t z
theorem nu {b0:Heap} {env:Env} {outer:List Env} {L e T:Addr} {cls:Value} {Q:Unit→Shared→Prop} (hfr:A.frames=some (env :: outer)) (hl:s.heap.FunFrames b0 (env :: outer)) (hf:env.frame=some L)
    (ht:Trc s.heap e T cls)
    (h:∀ h' T',Lft (env :: outer) e [T] s.heap h'→Trc h' e T' cls→(T'=T∨s.heap.get? T'=none)→Q () { s with heap:=h' }):wpAny M A (leaving env (.ref e)) Q E s:=by
  obtain ⟨oe,vs,oT,ts,a0,h1,h2,h3,h4,h6,h7,h8,h9⟩:=ht;refine wpAny_leaving_nextW (a0:=a0) (base:=g9 s.heap (e :: [T]++(env :: outer).filterMap (·.frame))) (cls:=cls) hfr (cQ (fun b hb=>aab _ hb) hl) hf ⟨oe,vs,T,oT,ts,h1,h2,h3,h4,dG (by simp),h6,h7,h8,h9⟩ (eO _ _) (dG (by simp)) fun h' L'=>?_;obtain ⟨l',T',t,z⟩:=kM (base:=b0) hl L' (by rw [h1];simp);refine h h' T' l' t ?_;rcases z with z|z
  · exact .inl (by simpa using z)
  · exact .inr z
end
def CX1 (P:Program) (w:World):CXT:=fun outer H s E e s'=>∃ (ea T C:Addr) (H':Hp),e=.ref ea∧s'.os=s.os∧AllBare s'.gens∧Un (frs outer) [] H H' s.heap s'.heap∧HOk P w H' s'.heap∧s.heap.get? ea=none∧s.heap.get? T=none∧H' ea=none∧H' T=none∧Trc s'.heap ea T (.ref C)∧E (.ref C) none H'
theorem hE {h h' base:Heap}:∀ {l:List Env},(∀ b∈frs l,∀ o,h.get? b=some o→∃ sl,h'.get? b=some { o with slots:=sl })→h.FunFrames base l→h'.FunFrames base l
  | [],_,_=>trivial
  | env :: fh,k,⟨hk,⟨L,o,hf,hn,ho,hd⟩,hr⟩=>by
    have m:∀ b,b=L∨b∈frs fh→b∈frs (env :: fh):=fun b hb=>by
      show b∈(env :: fh).filterMap (·.frame);rw [abk,hf];rcases hb with rfl|hb
      · exact aav
      · exact aat _ hb
    obtain ⟨sl,e⟩:=k L (m L (.inl rfl)) o ho;exact ⟨hk,⟨L,_,hf,hn,e,hd⟩,hE (fun b hb=>k b (m b (.inr hb))) hr⟩
theorem jg {env:Env} {outer:List Env} {L:Addr} (hf:env.frame=some L):frs (env :: outer)=L :: frs outer:=by
  show (env :: outer).filterMap (·.frame)=_;rw [abk,hf];rfl
theorem n_ {env:Env} {outer:List Env} {L e:Addr} {x:List Addr} {H0 H':Hp} {h0 h1 h2:Heap} (hf:env.frame=some L) (u:Un (frs (env :: outer)) [] H0 H' h0 h1) (l:Lft (env :: outer) e x h1 h2) (hL:h0.get? L=none) (he:h0.get? e=none) (hx:∀ b∈x,h0.get? b=none) :
    Un (frs outer) [] H0 H' h0 h2:=by
  have ne:∀ b o,h0.get? b=some o→b≠L∧b≠e∧b∉x:=fun b o q=>⟨(fun z=>by rw [z,hL] at q;cases q),(fun z=>by rw [z,he] at q;cases q),(fun z=>by rw [hx b z] at q;cases q)⟩
  have fr:∀ b,b∈frs (env :: outer)↔b=L∨b∈frs outer:=fun b=>by rw [jg hf,aah]
  have fwd:∀ b o,h0.get? b=some o→∀ o',h1.get? b=some o'→∃ sl,h2.get? b=some { o' with slots:=sl }:=fun b o q o' q'=>by
    by_cases hb:b∈frs (env :: outer)
    · exact l.slot b o' hb q'
    · exact ⟨o'.slots,l.keep b o' hb (ne b o q).2.1 (ne b o q).2.2 q'⟩
  refine ⟨fun b o q n hb _=>?_,fun b o q n hb _=>?_,fun b o q n h=>u.free b o q n h,fun b o q h=>?_,u.tups,u.frzs,u.tbls⟩
  · have nb:b∉frs (env :: outer):=fun z=>((fr b).mp z).elim (ne b o q).1 hb;exact l.keep b o nb (ne b o q).2.1 (ne b o q).2.2 (u.keep b o q n nb (by simp))
  · obtain ⟨sl,e1⟩:=u.slot b o q n ((fr b).mpr (.inr hb)) (by simp);obtain ⟨sl',e2⟩:=fwd b o q _ e1;exact ⟨sl',e2⟩
  · obtain ⟨o',e1⟩:=u.there b o q h;obtain ⟨sl,e2⟩:=fwd b o q o' e1;exact ⟨_,e2⟩
theorem lW {P:Program} {w:World} {l:List Env} {e:Addr} {x:List Addr} {H:Hp} {h1 h2:Heap} (ok:HOk P w H h1) (f:Lft l e x h1 h2) (hl:∀ b∈frs l,H b=none) (he:H e=none) (hx:∀ b∈x,H b=none):HOk P w H h2:=fun b u q =>
  (ok b u q).stay (fun c v hc r=>by
    have hn:H c≠none:=by rcases hc with rfl|hc;rw [q];simp;rw [hc];simp
    exact f.keep c v (fun z=>hn (hl c z)) (fun z=>hn (by rw [z];exact he)) (fun z=>hn (hx c z)) r) (fun _ r=>r) fun _ _ r=>r
section
variable {P:Program} {w:World} {K:aaa} {mg:Str→Option Value} {base:Heap} {N:List Str} {qual:Str} {scope:Scope} {f:Addr} {cd:Value} {A:Around} {outer:List Env} {s0:Shared} {H0:Hp} {E:XK}
theorem uJ {pins:List (Addr × Obj)} {σ:St} {H:Hp} {s:Shared} {h':Heap} {e C:Addr} {args:List Value} (I:Inv (jk (CX1 P w) P w K mg base N qual scope f cd A outer s0 H0 E) pins σ H s) (mk:Heap.MadeExcOf s.heap h' e (.ref C) args) (q:E (.ref C) none H) :
    (jk (CX1 P w) P w K mg base N qual scope f cd A outer s0 H0 E).xe (.ref e) { s with heap:=h' }:=by
  have hf:(envOfC qual scope s0.heap.objs.size f cd).frame=some s0.heap.objs.size:=rfl;obtain ⟨t,he,ht,_⟩:=mk.there;have fr:h'.FunFrames base (envOfC qual scope s0.heap.objs.size f cd :: outer):=hE (fun b _ o ho=>⟨o.slots,mk.keeps b o ho⟩) I.stack;have un1:Un (frs (envOfC qual scope s0.heap.objs.size f cd :: outer)) [] H0 H s0.heap h':=(Un.mono I.base (fun b hb=>by rw [jg hf];exact aat _ hb) (fun b hb=>hb)).trans (Un.kept mk.keeps);have none_of:∀ b,s.heap.get? b=none→s0.heap.get? b=none∧H b=none:=fun b hb=>by
    constructor
    · cases z:s0.heap.get? b with
      | none=>rfl
      | some o =>
        obtain ⟨o',z'⟩:=I.base.there b o z (fun z=>nomatch z);rw [hb] at z';cases z'
    · cases z:H b with
      | none=>rfl
      | some o =>
        obtain ⟨u,hu⟩:=(I.hok b o z).get;rw [hb] at hu;cases hu
  refine lP (b0:=base) (s:={ s with heap:=h' }) (oe:={ cls:=.ref C,data:=.fields #[.ref t,.none,.none,.none,.bool false,.none] }) I.ok.frames fr hf he rfl rfl (a0:=.ref t) rfl fun h2 T lf tr hT=>?_;have hT':s.heap.get? T=none:=by
    cases z:s.heap.get? T with
    | none=>rfl
    | some o =>
      have:=mk.keeps T o z;have hT:h'.get? T=none:=hT;rw [hT] at this;cases this
  have hL:s0.heap.get? s0.heap.objs.size=none:=by
    cases z:s0.heap.get? s0.heap.objs.size with
    | none=>rfl
    | some o=>exact absurd (aaj z) (aaT _)
  exact ⟨e,T,C,H,rfl,I.os,I.bare,n_ hf un1 lf hL (none_of e mk.new).1 (fun b hb=>nomatch hb),lW (I.hok.kept mk.keeps) lf I.stkFree (none_of e mk.new).2 (fun b hb=>nomatch hb),(none_of e mk.new).1,(none_of T hT').1,(none_of e mk.new).2,(none_of T hT').2,tr,q⟩
theorem tZ:jr (CX1 P w) (jk (CX1 P w) P w K mg base N qual scope f cd A outer s0 H0 E) E:=by
  rintro pins σ H s e s' I ⟨ea,T,C,H',rfl,os,bare,un,hok,n1,n2,m1,m2,tr,q⟩;have hf:(envOfC qual scope s0.heap.objs.size f cd).frame=some s0.heap.objs.size:=rfl;have un:Un (frs (envOfC qual scope s0.heap.objs.size f cd :: outer)) [] H H' s.heap s'.heap:=un;have fr:s'.heap.FunFrames base (envOfC qual scope s0.heap.objs.size f cd :: outer):=hE (fun b hb o ho=>un.any ho (I.stkFree b hb) (fun z=>nomatch z)) I.stack;have un1:Un (frs (envOfC qual scope s0.heap.objs.size f cd :: outer)) [] H0 H' s0.heap s'.heap:=(Un.mono I.base (fun b hb=>by rw [jg hf];exact aat _ hb) (fun b hb=>hb)).trans un;have none_of:∀ b,s.heap.get? b=none→s0.heap.get? b=none:=fun b hb=>by
    cases z:s0.heap.get? b with
    | none=>rfl
    | some o =>
      obtain ⟨o',z'⟩:=I.base.there b o z (fun z=>nomatch z);rw [hb] at z';cases z'
  have hL:s0.heap.get? s0.heap.objs.size=none:=by
    cases z:s0.heap.get? s0.heap.objs.size with
    | none=>rfl
    | some o=>exact absurd (aaj z) (aaT _)
  have frN:∀ b∈frs (envOfC qual scope s0.heap.objs.size f cd :: outer),H' b=none:=fun b hb=>by
    obtain ⟨_,o,ho,_⟩:=(show s.heap.FunFrames base (envOfC qual scope s0.heap.objs.size f cd :: outer) from I.stack).mem hb;exact un.free b o ho (I.stkFree b hb) (fun z=>nomatch z)
  refine nu (b0:=base) I.ok.frames fr hf tr fun h2 T' lf tr' hT=>?_;have x1:∀ b∈[T],s0.heap.get? b=none:=fun b hb=>by rw [aaL.mp hb];exact none_of T n2
  have x2:∀ b∈[T],H' b=none:=fun b hb=>by rw [aaL.mp hb];exact m2
  refine ⟨ea,T',C,H',rfl,os.trans I.os,bare,n_ hf un1 lf hL (none_of ea n1) x1,lW hok lf frN m1 x2,none_of ea n1,?_,m1,?_,tr',q⟩
  · rcases hT with rfl|hT
    · exact none_of _ n2
    · cases z:s0.heap.get? T' with
      | none=>rfl
      | some o =>
        obtain ⟨o',z'⟩:=un1.there T' o z (fun z=>nomatch z);rw [hT] at z';cases z'
  · rcases hT with rfl|hT
    · exact m2
    · cases z:H' T' with
      | none=>rfl
      | some o =>
        obtain ⟨u,hu⟩:=(hok T' o z).get;rw [hT] at hu;cases hu
end
structure EC (K:aaa) (C:Addr):Prop where
  ex:∃ nm q N bs bm hdct sn sub ab col dd k0 k1 k2 k3 k5 B newId initId bmB mN,ExcBaseFacts B newId initId bmB∧bm.contains (.type "BaseException")=true∧mN ("__init__":Str)=none ∧
    ∀ h,K.In h→h.get? C=some (excClassObj nm q C N bs bm hdct sn sub ab col dd k0 k1 k2 k3 k5 newId)∧h.Ns N mN∧OwnTail h bmB bm
def Rz (X:Cx) (E:XK):Prop:=∀ (pins:List (Addr × Obj)) (σ:St) (H:Hp) (s:Shared) (h':Heap) (e C:Addr) (args:List Value),Inv X pins σ H s→Heap.MadeExcOf s.heap h' e (.ref C) args→E (.ref C) none H→X.xe (.ref e) { s with heap:=h' }
theorem rz1 {P:Program} {w:World} {K:aaa} {mg:Str→Option Value} {base:Heap} {N:List Str} {qual:Str} {scope:Scope} {f:Addr} {cd:Value} {A:Around} {outer:List Env} {s0:Shared} {H0:Hp} {E:XK} :
    Rz (jk (CX1 P w) P w K mg base N qual scope f cd A outer s0 H0 E) E:=fun _ _ _ _ _ _ _ _ I mk q=>uJ I mk q
theorem iP {X:Cx} {E:XK} {C:Addr} {x t:Str} {np p cpos pos:Pos} {j:Nat} (hz:Rz X E) (ec:EC X.K C) (hc:X.calm=true) (hg:Gl X x) (hm:X.mg x=some (.ref C))
    (hs:backTo cpos (starEach [.Constant (.str t) j p] X.env)=[(false,eval (.Constant (.str t) j p) X.env)]:=by rfl) (hdb:(x == ("__debug__":Str))=false:=by decide) :
    PS X (.Raise (some (.Call (.Name x np) [.Constant (.str t) j p] [] cpos)) none pos) (fun _ _ H=>E (.ref C) none H):=by
  intro pins s σ H D I h;obtain ⟨nm,q,N,bs,bm,hdct,sn,sub,ab,col,dd,k0,k1,k2,k3,k5,B,newId,initId,bmB,mN,F,hb,hni,hK⟩:=ec.ex;refine wpAny_Raise_call_subT (nm:=nm) (q:=q) (N:=N) (bs:=bs) (hdct:=hdct) (sn:=sn) (sub:=sub) (ab:=ab) (col:=col) (dd:=dd) (k0:=k0) (k1:=k1) (k2:=k2) (k3:=k3) (k5:=k5) F hb (I.ok.hd hc) (by rw [hs];rfl) hni (gw I hg hm ⟨rfl,?_⟩ hdb);rw [hs];refine abL (abQ (Calls.Constant_str (abU ?_)));have I1:Inv X pins σ H { s with toks:=s.toks+1 }:=I.tok _;obtain ⟨h1,h2,h3⟩:=hK _ I1.kIn;exact ⟨rfl,(by show 1≤sizeLine;decide),h1,h2,h3,fun h' e mk=>hz pins σ H _ h' e C _ I1 mk h⟩
theorem Fun.ok1 {P:Program} {w:World} {K:aaa} {mg:Str→Option Value} {base:Heap} {x qual:Str} {st:Stmt} {f:Addr} {fd:FuncData} {N ps:List Str} {k:Nat} {sp:Sp} (F:Fun K x qual st f fd) (S:FnScope N ps (ah st)) (len:∀ vs H Q E,sp vs H Q E→vs.length=ps.length)
    (hbody:∀ (cdv:Value) (A:Around) (outer:List Env) (s:Shared) (H:Hp) (vs:List V) (Q:VK) (E:XK),Room k (A.deeper (envOfC qual (ah st) s.heap.objs.size f cdv))→sp vs H Q E →
      ∃ t,PSs (jk (CX1 P w) P w K mg base N qual (ah st) f cdv A outer s H E) (cm st) t∧t { nx:=fun _ H'=>Q .non H',rt:=Q } (ge N vs) H):FnOk P w K mg base (CX1 P w) (k+1) f fd ps sp:=by
  obtain ⟨oc,od,kV,doc,pm,an,cdv,ct,osl,rfl,lk,hcd⟩:=F.ex;exact ud lk hcd S len fun A outer s H vs Q E hr hsp=>hbody cdv A outer s H vs Q E hr hsp
def gD (P:Program) (w:World) (K:aaa) (mg:Str→Option Value) (base:Heap) (x:Str) (k:Nat) (ps:List Str) (sp:Sp):Prop :=
  ∃ f fd,FnOk P w K mg base (CX1 P w) k f fd ps sp∧Binds K fd ps []∧abc K (.ref f)=true∧mg x=some (.ref f)
theorem oy {X:Cx} {E:XK} {x:Str} {k k':Nat} {ps:List Str} {sp:Sp} {e:Expr} {es:List Expr} {t:TA} {p pos:Pos} (C:gD X.prog X.w X.K X.mg X.base x k ps sp) (hx:jr (CX1 X.prog X.w) X E) (hr:Room k' X.A) (hk:k≤k') (hg:Gl X x) (ha:PA X (e :: es) t)
    (hdb:(x == ("__debug__":Str))=false:=by decide) (he:starEach (e :: es) X.env=(false,eval e X.env) :: starEach es X.env:=by rfl) (hpl:(backTo pos (starEach es X.env)).any (·.1)=false:=by rfl) :
    PE X (.Call (.Name x p) (e :: es) [] pos) (qm sp [] E t):=by
  obtain ⟨f,fd,F,b,kp,m⟩:=C;exact ox F (hr.mono hk) hg m kp b .nil hx ha hdb he hpl
def js (X:Cx) (pins:List (Addr × Obj)) (a:Addr):Prop:=X.s₀.heap.get? a=none∧a≠X.env.locals∧(∀ x c,X.env.cells.lookup x=some c→c≠a)∧∀ p∈X.pn++pins,p.1≠a
def qc (X:Cx) (pins0:List (Addr × Obj)) (Cat:St→Addr→Hp→Prop):Cx :=
  { X with pn:=X.pn++pins0,xe:=fun e s'=>∃ ea T C H' σ,e=Value.ref ea∧Inv X pins0 σ H' s'∧Trc s'.heap ea T (.ref C)∧H' ea=none∧H' T=none∧js X pins0 ea∧js X pins0 T∧Cat σ C H' }
section
variable {X:Cx} {pins0 pins:List (Addr × Obj)} {Cat:St→Addr→Hp→Prop} {σ:St} {H:Hp} {s:Shared}
theorem tH (I:Inv X pins0 σ H s):Inv (qc X pins0 Cat) [] σ H s :=
  ⟨⟨I.ok.mod,I.ok.kind,I.ok.glob,I.ok.blt,I.ok.above,I.ok.inj,I.ok.has,I.ok.cab,I.ok.hd,I.ok.frames,I.ok.stk,I.ok.exf,I.ok.bs,I.ok.bsz,I.ok.noex,I.ok.exfs,I.ok.funs,I.ok.frf⟩,I.os,I.bare,I.base,I.loc,I.cell,I.free,I.freeC,fun p hp=>I.pin p (by
    have hp:p∈(X.pn++pins0)++[]:=hp
    rwa [List.append_nil] at hp),I.hok,I.len⟩
theorem dY (I:Inv (qc X pins0 Cat) pins σ H s):Inv X pins0 σ H s :=
  ⟨⟨I.ok.mod,I.ok.kind,I.ok.glob,I.ok.blt,I.ok.above,I.ok.inj,I.ok.has,I.ok.cab,I.ok.hd,I.ok.frames,I.ok.stk,I.ok.exf,I.ok.bs,I.ok.bsz,I.ok.noex,I.ok.exfs,I.ok.funs,I.ok.frf⟩,I.os,I.bare,I.base,I.loc,I.cell,I.free,I.freeC,fun p hp=>I.pin p (show p∈(X.pn++pins0)++pins from aa8 _ hp),I.hok,I.len⟩
theorem Inv.fresh_of (I:Inv X pins σ H s) {a:Addr} (hx:X.ex=[]) (h:s.heap.get? a=none):js X pins a:=by
  refine ⟨?_,fun z=>?_,fun x c e z=>?_,fun p hp z=>?_⟩
  · cases q:X.s₀.heap.get? a with
    | none=>rfl
    | some o =>
      obtain ⟨o',q'⟩:=I.base.there a o q (by rw [hx];exact fun z=>nomatch z);rw [h] at q';cases q'
  · obtain ⟨m,⟨o,_,_,ho,_⟩,_⟩:=I.loc;rw [← z,h] at ho;cases ho
  · obtain ⟨v,o,ho,_⟩:=I.cell x c e;rw [z,h] at ho;cases ho
  · have:=(I.pin p hp).1;rw [z,h] at this;cases this
def uz (sp:Sp) (Cat:St→Addr→Hp→Prop) (t:TA):TE:=fun σ H Q=>t σ H fun vs H1=>sp vs H1 Q fun v _ H'=>∀ C,v=Value.ref C→Cat σ C H'
theorem kl {x:Str} {k k':Nat} {ps:List Str} {sp:Sp} {e:Expr} {es:List Expr} {t:TA} {p pos:Pos} (C:gD X.prog X.w X.K X.mg X.base x k ps sp) (hx:X.ex=[]) (hr:Room k' X.A) (hk:k≤k') (hg:Gl X x) (ha:PA (qc X pins0 Cat) (e :: es) t)
    (hdb:(x == ("__debug__":Str))=false:=by decide) (he:starEach (e :: es) X.env=(false,eval e X.env) :: starEach es X.env:=by rfl) (hpl:(backTo pos (starEach es X.env)).any (·.1)=false:=by rfl) :
    PE (qc X pins0 Cat) (.Call (.Name x p) (e :: es) [] pos) (uz sp Cat t):=by
  obtain ⟨f,fd,F,b,kp,m⟩:=C;intro pins s σ H Q I h;refine wpAny_Call_Name_kw (gw I hg m ?_ hdb);refine PySem.W.callWith_K (h₀:=X.base) I.ok.mod.kin kp (thn (ha pos pins s σ H _ I h) fun us s1 ⟨vs,H1,I1,r,q⟩=>⟨I1.kIn,?_⟩) he hpl;have r2:Vals vs (us++[]):=by rw [List.append_nil];exact r
  have hl:(us++[]).length=ps.length:=by rw [← r2.length];exact F.len _ _ _ _ q
  refine wpAny_call (codeAny_mono (F.run X.A X.stack s1 H1 ⟨us,[]⟩ (us++[]) vs Q _ (hr.mono hk) I1.env0 (b s1 us I1.kIn hl) r2 q) fun r s' hq=>?_);cases r with
  | ok fl =>
    cases fl with
    | ret u=>exact I1.after hq
    | next=>exact abj hq
    | brk=>exact abj hq
    | cont=>exact abj hq
  | error e =>
    obtain ⟨ea,T,C,H',rfl,os,bare,un,hok,n1,n2,m1,m2,tr,q⟩:=hq;have J:=dY I1;exact ⟨ea,T,C,H',σ,rfl,J.call' os un hok bare (fun b z=>nomatch z),tr,m1,m2,J.fresh_of hx n1,J.fresh_of hx n2,q C rfl⟩
end
section
variable {M:Model} {A:Around} {E:Value→Shared→Prop} {s:Shared}
theorem pj {b0:Heap} {env:Env} {outer:List Env} {L e T:Addr} {cls:Value} {Q:Unit→Shared→Prop} (hfr:A.frames=some (env :: outer)) (hl:s.heap.FunFrames b0 (env :: outer)) (hf:env.frame=some L) (ht:Trc s.heap e T cls)
    (h:∀ h' T',Lft (env :: outer) e [T] s.heap h'→Trc h' e T' cls→(T'=T∨s.heap.get? T'=none)→Q () { s with heap:=h' }) :
    wpAny M A (noteFrame (.ref e) env) (fun _ s2=>wpAny M A (setFlight (.ref e) none) Q E s2) E s:=by
  obtain ⟨oe,vs,oT,ts,a0,h1,h2,h3,h4,h6,h7,h8,h9⟩:=ht;refine wpAny_noteFrame_onW (a0:=a0) (base:=g9 s.heap (e :: [T]++(env :: outer).filterMap (·.frame))) (cls:=cls) hfr (cQ (fun b hb=>aab _ hb) hl) hf ⟨oe,vs,T,oT,ts,h1,h2,h3,h4,dG (by simp),h6,h7,h8,h9⟩ (eO _ _) (dG (by simp)) fun h1' N=>?_;obtain ⟨k1,k2,k3,k4⟩:=N;refine wpAny_setFlight_noneW (s:={ s with heap:=h1' }) k1 k2 k3 fun h2' j1 j2 j3 j4=>?_;have L':Heap.LeftW (g9 s.heap (e :: [T]++(env :: outer).filterMap (·.frame))) (env :: outer) e cls a0 s.heap h2':=⟨j1,j2,j3,fun b o hb hn=>by
    obtain ⟨sl,q⟩:=k4 b o hb hn;exact ⟨sl,j4 b _ q hn⟩⟩
  obtain ⟨l',T',t,z⟩:=kM (base:=b0) hl L' (by rw [h1];simp);refine h h2' T' l' t ?_;rcases z with z|z
  · exact .inl (by simpa using z)
  · exact .inr z
end
def cH (a C:Addr):HO:=.ext fun h=>∃ o vs,h.get? a=some o∧o.cls=.ref C∧o.data=.fields vs
structure Und (K:aaa) (C P:Addr):Prop where
  ex:∃ nm q N bs bm hdct sn sub ab col dd k0 k1 k2 k3 k5 newId nm' q' N' bs' bm' hdct' sn' sub' ab' col' dd' k0' k1' k2' k3' k5' newId',(Value.ref C :: bm).contains (.ref P)=true∧bm'.contains (.type "BaseException")=true ∧
    ∀ h,K.In h→h.get? C=some (excClassObj nm q C N bs bm hdct sn sub ab col dd k0 k1 k2 k3 k5 newId)∧h.get? P=some (excClassObj nm' q' P N' bs' bm' hdct' sn' sub' ab' col' dd' k0' k1' k2' k3' k5' newId')
theorem pW {M:Model} {A:Around} {E:Value→Shared→Prop} {K:aaa} {C P e:Addr} {oe:Obj} {s:Shared} {Q:Bool→Shared→Prop} (u:Und K C P) (hk:K.In s.heap) (he:s.heap.get? e=some oe) (hcls:oe.cls=.ref C) (hq:Q true s):wpAny M A (excMatches (.ref e) (.ref P)) Q E s:=by
  obtain ⟨nm,q,N,bs,bm,hdct,sn,sub,ab,col,dd,k0,k1,k2,k3,k5,newId,nm',q',N',bs',bm',hdct',sn',sub',ab',col',dd',k0',k1',k2',k3',k5',newId',h1,h2,h3⟩:=u.ex;obtain ⟨hC,hP⟩:=h3 _ hk;obtain ⟨h,g,d,t,os⟩:=s;have hcB:(Value.ref P :: bm').contains (.type "BaseException")=true:=by rw [List.contains_cons,h2,Bool.or_true]
  have f:=tc_notTuple;unfold excMatches
  repeat (first|(with_reducible refine wpAny_loadPart_at he ?_;rw [hcls])|with_reducible refine wpAny_loadPart_at hP ?_|(with_reducible refine wpAny_isSubtype_exc hP ?_;rw [hcB])|(with_reducible refine wpAny_isSubtype_exc hC ?_;rw [h1])|wp_step)
  exact hq
section
variable {X:Cx} {pins:List (Addr × Obj)} {σ:St} {H:Hp} {s:Shared}
theorem sf {ea T C:Addr} (I:Inv X pins σ H s) (tr:Trc s.heap ea T (.ref C)) (m1:H ea=none) (f1:js X pins ea):Inv X pins σ (upd H ea (cH ea C)) s:=by
  obtain ⟨oe,vs,oT,ts,a0,h1,h2,h3,h4,h6,h7,h8,h9⟩:=tr;exact I.adopt2 m1 (fun u z=>by rw [f1.1] at z;cases z) f1.2.1 f1.2.2.1 f1.2.2.2 ⟨⟨oe,vs,h1,h2.1,h3⟩,⟨oe,h1⟩,fun g1 g2 ⟨o,ws,z1,z2,z3⟩ k=>⟨o,ws,k o z1,z2,z3⟩⟩
theorem l_ {ea C:Addr} {x:List Addr} {h':Heap} (I:Inv X pins σ (upd H ea (cH ea C)) s) (f1:js X pins ea) (fx:∀ T∈x,js X pins T∧upd H ea (cH ea C) T=none) (lf:Lft X.stack ea x s.heap h') (hea:∃ o vs,h'.get? ea=some o∧o.cls=.ref C∧o.data=.fields vs) :
    Inv X pins σ (upd H ea (cH ea C)) { s with heap:=h' }:=by
  have tk:∀ b,upd H ea (cH ea C) b=none→b≠ea:=fun b hb z=>by rw [z,upd_same] at hb;cases hb
  have old:∀ b o,X.s₀.heap.get? b=some o→b≠ea∧b∉x∧b≠X.env.locals:=fun b o q=>by
    refine ⟨fun z=>?_,fun z=>?_,fun z=>?_⟩
    · rw [z,f1.1] at q;cases q
    · rw [(fx b z).1.1] at q;cases q
    · have h1:=aaj q;rw [z] at h1;exact absurd I.ok.above (Nat.not_le.mpr h1)
  have one:∀ b o,b≠ea→b∉x→s.heap.get? b=some o→∃ sl,h'.get? b=some { o with slots:=sl }:=fun b o z1 z2 q=>by
    by_cases hb:b∈frs X.stack
    · exact lf.slot b o hb q
    · exact ⟨o.slots,lf.keep b o hb z1 z2 q⟩
  have nstk:∀ b,b≠X.env.locals→b∉X.fs→b∉frs X.stack:=fun b z1 z2 z=>by
    rcases aah.mp (I.stkSub b z) with z|z
    · exact z1 z
    · exact z2 z
  have cl:∀ x' c,X.env.cells.lookup x'=some c→∀ v,s.heap.IsCell c v→h'.IsCell c v:=fun x' c e v ⟨o,ho,hd⟩=>by
    obtain ⟨sl,z⟩:=one c o (f1.2.2.1 x' c e) (fun z=>(fx c z).1.2.2.1 x' c e rfl) ho;exact ⟨_,z,hd⟩
  refine ⟨I.ok,I.os,I.bare,⟨fun b o q n hb hx=>?_,fun b o q n hb hx=>?_,I.base.free,fun b o q hx=>?_,I.base.tups,I.base.frzs,I.base.tbls⟩,?_,fun x' c e=>?_,I.free,I.freeC,fun p hp=>?_,fun b u q=>?_,I.len⟩
  · exact lf.keep b o (nstk b (old b o q).2.2 hb) (old b o q).1 (old b o q).2.1 (I.base.keep b o q n hb hx)
  · obtain ⟨sl,z⟩:=I.base.slot b o q n hb hx;obtain ⟨sl',z'⟩:=one b _ (old b o q).1 (old b o q).2.1 z;exact ⟨sl',z'⟩
  · obtain ⟨o',z⟩:=I.base.there b o q hx;obtain ⟨sl',z'⟩:=one b _ (old b o q).1 (old b o q).2.1 z;exact ⟨_,z'⟩
  · obtain ⟨m,⟨o,es,ep,ho,hd,r⟩,hl⟩:=I.loc;obtain ⟨sl,z⟩:=one X.env.locals o (abo f1.2.1) (fun z=>(fx _ z).1.2.1 rfl) ho;refine ⟨m,⟨_,es,ep,z,hd,r⟩,fun i y v e1 e2 e3=>?_⟩;obtain ⟨u,ru,l⟩:=hl i y v e1 e2 e3;refine ⟨u,ru,?_⟩;rcases l with l|⟨k,c,e,z⟩
    · exact .inl l
    · exact .inr ⟨k,c,e,cl y c e _ z⟩
  · obtain ⟨v,z⟩:=I.cell x' c e;exact ⟨v,cl x' c e v z⟩
  · obtain ⟨z1,z2,z3,z4,z5⟩:=I.pin p hp;exact ⟨lf.keep _ _ (nstk _ z3 z4) (f1.2.2.2 p hp) (fun z=>(fx _ z).1.2.2.2 p hp rfl) z1,z2,z3,z4,z5⟩
  · by_cases z1:b=ea
    · subst z1;rw [upd_same] at q;cases q;obtain ⟨o,vs,y1,y2,y3⟩:=hea;exact ⟨⟨o,vs,y1,y2,y3⟩,⟨o,y1⟩,fun g1 g2 ⟨o,ws,y1,y2,y3⟩ k=>⟨o,ws,k o y1,y2,y3⟩⟩
    · have tr:∀ c v,upd H ea (cH ea C) c=some v→c≠ea→∀ o,s.heap.get? c=some o→h'.get? c=some o:=fun c v hc z o r=>lf.keep c o (fun y=>by rw [I.stkFree c y] at hc;cases hc) z (fun y=>by rw [(fx c y).2] at hc;cases hc) r;refine (I.hok b u q).stay (fun c v hc r=>?_) (fun _ r=>r) fun _ _ r=>r;rcases hc with rfl|hc
      · exact tr c u q z1 v r
      · refine tr c _ hc (fun z=>?_) v r;rw [z,upd_same] at hc;cases hc
end
section
variable {M:Model} {A:Around} {E:Value→Shared→Prop} {s:Shared}
theorem pI {b0:Heap} {l:List Env} {e T:Addr} {cls:Value} {Q:Unit→Shared→Prop} (hl:s.heap.FunFrames b0 l) (ht:Trc s.heap e T cls)
    (h:∀ h' T',Lft l e [T] s.heap h'→Trc h' e T' cls→(T'=T∨s.heap.get? T'=none)→Q () { s with heap:=h' }):wpAny M A (setFlight (.ref e) none) Q E s:=by
  obtain ⟨oe,vs,oT,ts,a0,h1,h2,h3,h4,h6,h7,h8,h9⟩:=ht;refine wpAny_setFlight_noneW (base:=g9 s.heap (e :: [T]++l.filterMap (·.frame))) (cls:=cls) (a0:=a0) (fl:=.none) (eO _ _) (cQ (fun b hb=>aab _ hb) hl) ⟨oe,vs,T,oT,ts,h1,h2,h3,h4,dG (by simp),h6,h7,h8,h9⟩ fun h2' j1 j2 j3 j4=>?_;have L':Heap.LeftW (g9 s.heap (e :: [T]++l.filterMap (·.frame))) l e cls a0 s.heap h2':=⟨j1,j2,j3,fun b o hb hn=>⟨o.slots,j4 b o hb hn⟩⟩
  obtain ⟨l',T',t,z⟩:=kM (base:=b0) hl L' (by rw [h1];simp);refine h h2' T' l' t ?_;rcases z with z|z
  · exact .inl (by simpa using z)
  · exact .inr z
end
section
variable {X:Cx} {pins:List (Addr × Obj)} {σ:St} {H:Hp} {s:Shared}
theorem Inv.unset {i:Nat} {n:Str} {v:Option Value} {m:Str→Option Value} {h':Heap} {t':Nat} (I:Inv X pins σ H s) (hN:X.N.Nodup) (hi:X.N[i]?=some n) (hl:∀ (i:Nat) (x:Str) (v:V),X.N[i]?=some x→σ[i]?=some (some v)→Vis X.env.scope x→∃ u,RelV v u∧wZ X.env s.heap m x u)
    (hn:h'.Ns X.env.locals (fun x=>if x=n then v else m x)) (hs:ab0 X.env.locals s.heap h'):Inv X pins (σ.set i none) H { s with heap:=h',toks:=t' }:=by
  have cne:∀ x c,X.env.cells.lookup x=some c→c≠X.env.locals:=fun x c e z=>by
    obtain ⟨v,o,ho,hd⟩:=I.cell x c e;obtain ⟨m,⟨o',es,ep,ho',hd',_⟩,_⟩:=I.loc;rw [z,ho'] at ho;cases ho;rw [hd'] at hd;cases hd
  have old:∀ b o,X.s₀.heap.get? b=some o→b≠X.env.locals:=fun b o q z=>by
    have h1:=aaj q;rw [z] at h1;exact absurd I.ok.above (Nat.not_le.mpr h1)
  refine ⟨I.ok,I.os,I.bare,⟨fun b o q n hb hx=>hs.extBut b o (old b o q) (I.base.keep b o q n hb hx),fun b o q n hb hx=>?_,I.base.free,fun b o q hx=>?_,I.base.tups,I.base.frzs,I.base.tbls⟩,⟨_,hn,fun j y w e1 e2 e3=>?_⟩,fun x c e=>?_,I.free,I.freeC,fun p hp=>?_,fun b u q=>?_,?_⟩
  · obtain ⟨sl,z⟩:=I.base.slot b o q n hb hx;exact ⟨sl,hs.extBut b _ (old b o q) z⟩
  · obtain ⟨o',z⟩:=I.base.there b o q hx;exact ⟨o',hs.extBut b _ (old b o q) z⟩
  · by_cases hj:j=i
    · subst hj;rw [List.getElem?_set_self'] at e2;cases z:σ[j]? with
      | none=>rw [z] at e2;simp at e2
      | some _=>rw [z] at e2;simp at e2
    · rw [List.getElem?_set_ne (abo hj)] at e2;obtain ⟨u,ru,l⟩:=hl j y w e1 e2 e3;refine ⟨u,ru,?_⟩;rcases l with ⟨k,l⟩|⟨k,c,e,o,ho,hd⟩
      · refine .inl ⟨k,?_⟩;have : y≠n:=fun z=>hj (iY hN e1 (by rw [z];exact hi));show (if y=n then v else m y)=some u;rw [if_neg this];exact l
      · exact .inr ⟨k,c,e,o,hs.extBut c o (cne y c e) ho,hd⟩
  · obtain ⟨v,o,ho,hd⟩:=I.cell x c e;exact ⟨v,o,hs.extBut c o (cne x c e) ho,hd⟩
  · obtain ⟨z1,z2,z3,z4,z5⟩:=I.pin p hp;exact ⟨hs.extBut _ _ z3 z1,z2,z3,z4,z5⟩
  · refine (I.hok b u q).stay (fun c v hc r=>hs.extBut c v (fun z=>?_) r) (fun _ r=>r) fun _ _ r=>r;rcases hc with rfl|hc
    · rw [z,I.free] at q;cases q
    · rw [z,I.free] at hc;cases hc
  · rw [List.length_set];exact I.len
def nX (X:Cx) (v:Value):Cx:={ X with A:=X.A.mark (some v),calm:=false,xe:=fun _ _=>False }
theorem lV {v:Value} (I:Inv X pins σ H s):Inv (nX X v) pins σ H s :=
  ⟨⟨I.ok.mod,I.ok.kind,I.ok.glob,I.ok.blt,I.ok.above,I.ok.inj,I.ok.has,I.ok.cab,(fun z=>absurd (show false=true from z) aai),I.ok.frames,I.ok.stk,I.ok.exf,I.ok.bs,I.ok.bsz,I.ok.noex,I.ok.exfs,I.ok.funs,I.ok.frf⟩,I.os,I.bare,I.base,I.loc,I.cell,I.free,I.freeC,I.pin,I.hok,I.len⟩
theorem nD {v:Value} (c:X.calm=true→X.A.handled=none) (fr:X.A.frames=some X.stack) (I:Inv (nX X v) pins σ H s):Inv X pins σ H s :=
  ⟨⟨I.ok.mod,I.ok.kind,I.ok.glob,I.ok.blt,I.ok.above,I.ok.inj,I.ok.has,I.ok.cab,c,fr,I.ok.stk,I.ok.exf,I.ok.bs,I.ok.bsz,I.ok.noex,I.ok.exfs,I.ok.funs,I.ok.frf⟩,I.os,I.bare,I.base,I.loc,I.cell,I.free,I.freeC,I.pin,I.hok,I.len⟩
end
theorem Trc.there {h:Heap} {e T C:Addr} (t:Trc h e T (.ref C)):∃ o vs,h.get? e=some o∧o.cls=.ref C∧o.data=.fields vs:=by
  obtain ⟨oe,vs,oT,ts,a0,h1,h2,h3,_⟩:=t;exact ⟨oe,vs,h1,h2.1,h3⟩
theorem Trc.ne {h:Heap} {e T:Addr} {c:Value} (t:Trc h e T c):T≠e:=by
  obtain ⟨oe,vs,oT,ts,a0,h1,h2,h3,h4,h6,_⟩:=t;exact h6
def xr (K:aaa) (Pa:Addr) (iE:Nat) (tb:(St→Addr→Hp→Prop)→TS) (ts:TS):TS:=fun D σ H =>
  tb (fun σ' C H'=>Und K C Pa∧∀ ea,H' ea=none→ts { nx:=fun σ2 H2=>D.nx (σ2.set iE none) H2,rt:=fun _ _=>False } (σ'.set iE (some (.ref ea))) (upd H' ea (cH ea C))) D σ H
theorem uL {X:Cx} {body:List Stmt} {tb:(St→Addr→Hp→Prop)→TS} {ts:TS} {iE:Nat} {n x:Str} {Pa:Addr} {b₀:Stmt} {suite:List Stmt} {tp hpos pos:Pos} (hx:X.ex=[]) (hst:X.stack=X.env :: X.outer) (hfr:X.env.frame=some X.env.locals)
    (hg:Gl X x) (hm:X.mg x=some (.ref Pa)) (hN:X.N.Nodup) (hi:X.N[iE]?=some n) (hl:X.env.scope.names.lookup n=some .local) (hb:∀ pins0 Cat,PSs (qc X pins0 Cat) body (tb Cat)) (hs:∀ v,PSs (nX X v) (b₀ :: suite) ts) (hdb:(x == ("__debug__":Str))=false:=by decide) :
    PS X (.Try body [.ExceptHandler (some (.Name x tp)) (some n) (b₀ :: suite) hpos] [] [] pos) (xr X.K Pa iE tb ts):=by
  intro pins s σ H D I h;refine wpAny_Try_except (wpAny_mono (hb pins _ [] s σ H D (tH I) h) (fun f s1 q=>?_) (fun e s1 q=>?_))
  · cases f with
    | next=>obtain ⟨σ',H',I',q⟩:=q;exact wpAny_execs_nil ⟨σ',H',dY I',q⟩
    | brk=>obtain ⟨σ',H',I',q⟩:=q;exact ⟨σ',H',dY I',q⟩
    | cont=>obtain ⟨σ',H',I',q⟩:=q;exact ⟨σ',H',dY I',q⟩
    | ret u=>obtain ⟨v,σ',H',I',r,q⟩:=q;exact ⟨v,σ',H',dY I',r,q⟩
  · obtain ⟨ea,T,C,H',σ',rfl,J,tr,m1,m2,f1,f2,und,cat⟩:=q;have fr:X.A.frames=some (X.env :: X.outer):=by rw [← hst];exact J.ok.frames
    have stk:s1.heap.FunFrames X.base (X.env :: X.outer):=by rw [← hst];exact J.stack
    refine pj (b0:=X.base) fr stk hfr tr fun h2 T2 lf tr2 hT2=>?_;have J1:=sf J tr m1 f1;have mT:upd H' ea (cH ea C) T=none:=by rw [aB tr.ne];exact m2
    have J2:Inv X pins σ' (upd H' ea (cH ea C)) { s1 with heap:=h2 }:=l_ J1 f1 (x:=[T]) (fun b hb=>by rw [aaL.mp hb];exact ⟨f2,mT⟩) (by rw [hst];exact lf) tr2.there;have fT2:js X pins T2∧upd H' ea (cH ea C) T2=none:=by
      rcases hT2 with rfl|z
      · exact ⟨f2,mT⟩
      · refine ⟨J1.fresh_of hx z,?_⟩;cases q:upd H' ea (cH ea C) T2 with
        | none=>rfl
        | some o =>
          obtain ⟨u,hu⟩:=(J1.hok T2 o q).get;rw [z] at hu;cases hu
    refine wpAny_handleBy_cons (codeAny_handlers_test ?_) (by intro q;cases q);refine gw (X:=nX X (.ref ea)) (lV J2) hg hm ?_ hdb;obtain ⟨oe,vs,he2,hc2,_⟩:=tr2.there;refine pW (s:={ s1 with heap:=h2 }) und J2.kIn he2 hc2 ?_;show codeAny _ _ _ _ _;refine codeAny_handlers_suite_as ?_;have stk2:h2.FunFrames X.base (X.env :: X.outer):=by rw [← hst];exact J2.stack
    refine pI (s:={ s1 with heap:=h2 }) (b0:=X.base) (l:=X.env :: X.outer) stk2 tr2 fun h3 T3 lf3 tr3 hT3=>?_;have J3:Inv X pins σ' (upd H' ea (cH ea C)) { s1 with heap:=h3 }:=l_ (s:={ s1 with heap:=h2 }) J2 f1 (x:=[T2]) (fun b hb=>by rw [aaL.mp hb];exact fT2) (by rw [hst];exact lf3) tr3.there;refine dk (v:=.ref ea) J3 hN hi (.inl hl) rfl (fun s4 J4=>?_) (.inr hl);refine wpAny_mono (hs (.ref ea) pins s4 _ _ _ (lV J4) (cat ea m1)) (fun f s5 q5=>?_) (fun _ _ z=>z.elim);cases f with
    | next =>
      obtain ⟨σ5,H5,I5,q5⟩:=q5;have I5:=nD J.ok.hd J.ok.frames I5;obtain ⟨m,hn,hlk⟩:=id I5.loc;exact wpAny_nameGoes_keeps hl hn (by rw [I5.ok.kind];rfl) fun h6 v hn6 hs6=>⟨_,H5,I5.unset hN hi hlk hn6 hs6,q5⟩
    | brk=>obtain ⟨_,_,_,q⟩:=q5;exact abj q
    | cont=>obtain ⟨_,_,_,q⟩:=q5;exact abj q
    | ret u=>obtain ⟨_,_,_,_,_,q⟩:=q5;exact abj q
open PySem PySem.Spec PyProof.Rows
structure Lkp (M:Model) (h:Heap) (C:Addr):Prop where
  ga:ach M h (typeLookup (.ref C) "__getattribute__") (some (.builtin "BaseException.__getattribute__"))
  no:ach M h (typeLookup (.ref C) "__getattr__") none
  cls:ach M h (typeLookup (.ref C) "__class__") (some (.builtin "object.__class__"))
  be:ach M h (isSubtype (.ref C) (.type "BaseException")) true
  obj:ach M h (isSubtype (.ref C) (.type (".".intercalate ("object.__class__".cutAt '.').dropLast))) true
section
variable {prog:Program} {w:World} {A:Around} {E:Value→Shared→Prop} {h:Heap} {g:Array GenState} {d:Drawn} {t:Nat} {os:OsState} {a C:Addr} {o:Obj}
theorem tP {R:Result→Shared→Prop} (L:Lkp (model prog w) h C) (hx:h.get? a=some o) (hc:o.cls=.ref C) (hq:R (.ok (.ret (.ref C))) ⟨h,g,d,t,os⟩) :
    codeAny (model prog w) A (.call (.builtin "getset_descriptor.__get__") ⟨[.builtin "object.__class__",.ref a,.ref C],[]⟩) R ⟨h,g,d,t,os⟩:=by
  have hT5:(⟨h,g,d,t,os⟩:Shared).TypeIs (.builtin "object.__class__") "getset_descriptor":=abZ;refine codeAny_call_builtin F.slot_gs_get.plain F.entry_gs_get (F.slot_gs_get.check _ _ _ _ _ _ _ _ hT5 (F.args_gs_get _ _ _) ?_)
  repeat (any_goals (first|assumption|(with_reducible refine wpAny_loadPart_at hx ?_;rw [hc])|(refine L.obj _ _ _ _ (fun _ _ e=>e) ?_)|wp_step))
  refine ⟨Code.quiet_builtin _ (by decide +kernel),codeAny_builtin F.entry_object_class ?_⟩
  repeat (any_goals (first|assumption|(with_reducible refine wpAny_loadPart_at hx ?_;rw [hc])|wp_step))
theorem p_ {M:Model} {nameV:Value} {Q:Unit→Shared→Prop} (L:Lkp M h C) (hx:h.get? a=some o) (hc:o.cls=.ref C) (hq:Q () ⟨h,g,d,t,os⟩):wpAny M A (checkBuiltinCall "BaseException.__getattribute__" ⟨[.ref a,nameV],[]⟩) Q E ⟨h,g,d,t,os⟩:=by
  have hk:builtinKind "BaseException.__getattribute__" = some .slot:=by decide +kernel
  have hsplit:splitId "BaseException.__getattribute__" = some ("BaseException","__getattribute__"):=by decide +kernel
  have ha:=F.args_bexc_ga (.ref a) nameV;simp only [checkBuiltinCall,hk,hsplit];refine wpAny_bind ?_;unfold isInstance
  repeat (first|(with_reducible refine wpAny_loadPart_at hx ?_;rw [hc])|(refine L.be _ _ _ _ (fun _ _ e=>e) ?_)|wp_step)
  exact hq
theorem pZ {tk:Tok} {Q:Fin→Shared→Prop} (L:Lkp (model prog w) h C) (hx:h.get? a=some o) (hc:o.cls=.ref C) (hq:Q (.done (.ret (.ref C))) ⟨h,g,d,t,os⟩) :
    wpAny (model prog w) A (Builtin.«object.__getattribute__» ⟨[.ref a,.str "__class__" tk],[]⟩) Q E ⟨h,g,d,t,os⟩:=by
  have hT5:(⟨h,g,d,t,os⟩:Shared).TypeIs (.builtin "object.__class__") "getset_descriptor":=abZ;have f5:=abZ;have f6:=F.slot_gs_get.lookup;have f7:=F.slot_gs_set.lookup
  repeat (any_goals (first|assumption|(with_reducible refine wpAny_loadPart_at hx ?_;rw [hc])|(refine L.cls _ _ _ _ (fun _ _ e=>e) ?_)|wp_step))
  refine tP L hx hc ?_
  repeat (any_goals (first|assumption|wp_step))
theorem rZ {tk:Tok} {R:Result→Shared→Prop} (L:Lkp (model prog w) h C) {B:String} (hg:Slot B "__getattribute__" "BaseException.__getattribute__") (hx:h.get? a=some o) (hc:o.cls=.ref C) (hq:R (.ok (.ret (.ref C))) ⟨h,g,d,t,os⟩) :
    codeAny (model prog w) A (.call (.builtin "BaseException.__getattribute__") ⟨[.ref a,.str "__class__" tk],[]⟩) R ⟨h,g,d,t,os⟩ :=
  codeAny_call_builtin hg.plain F.entry_bexc_ga (p_ L hx hc (pZ L hx hc hq))
theorem vI {tk:Tok} {fill expr:Bool} {Q:Value→Shared→Prop} (L:Lkp (model prog w) h C) {B:String} (hg:Slot B "__getattribute__" "BaseException.__getattribute__") (hx:h.get? a=some o) (hc:o.cls=.ref C) (hq:Q (.ref C) ⟨h,g,d,t,os⟩) :
    wpAny (model prog w) A (getAttrBy (.ref a) (.str "__class__" tk) fill expr) Q E ⟨h,g,d,t,os⟩:=by
  have f3:=hg.bind (.ref a);have hx0:(expr && onTheHeap (Value.builtin "BaseException.__getattribute__"))=false:=by cases expr <;> rfl
  have hx2:(Value.builtin "BaseException.__getattribute__" == Value.builtin "object.__getattribute__")=false:=by decide +kernel
  have hx1:(onTheHeap (Value.ref C) && Value.builtin "BaseException.__getattribute__" == Value.builtin "object.__getattribute__")=false:=by rw [hx2];rfl
  repeat (any_goals (first|assumption|(with_reducible refine wpAny_loadPart_at hx ?_;rw [hc])|(refine L.ga _ _ _ _ (fun _ _ e=>e) ?_)|(refine L.no _ _ _ _ (fun _ _ e=>e) ?_)|wp_step))
  refine rZ L hg hx hc ?_
  repeat (any_goals (first|assumption|wp_step))
theorem r_ {Q:Option Value→Shared→Prop} (L:Lkp (model prog w) h C) {B:String} (hg:Slot B "__getattribute__" "BaseException.__getattribute__") (hx:h.get? a=some o) (hc:o.cls=.ref C) (hq:Q (some (.ref C)) ⟨h,g,d,t+1,os⟩):wpAny (model prog w) A (getAttr? (.ref a) "__class__") Q E ⟨h,g,d,t,os⟩:=by
  unfold getAttr? getAttrBy?
  repeat (any_goals (first|assumption|with_reducible apply vI L hg hx hc|wp_step))
end
structure ExC (K:aaa) (C:Addr):Prop where
  lk:∀ (M:Model) (h:Heap),K.In h→Lkp M h C
  cl:(aaU K C).isSome=true
  sl:∃ B,Slot B "__getattribute__" "BaseException.__getattribute__"
theorem lR {K:aaa} {e C:Addr} (x:ExC K C):PySem.W.KitX K (.ref e) (.ref C) (fun h=>∃ o,h.get? e=some o∧o.cls=.ref C) where
  ty:=fun M h _ p=>by
    obtain ⟨o,h1,h2⟩:=p;exact h2 ▸ (PySem.W.Looks.ld h1).andThen .now
  it:=fun _ _ X _=>by
    have hcD:=x.cl;unfold aaU at hcD;split at hcD
    · rename_i c' d' cd' sl' ho;intro A' Q' E' s' k q;unfold isType loadHead;exact wpAny_bind (wpAny_loadPart (k _ _ (X _ _ ho)) (wpAny_pure q))
    · cases hcD
  ne:=fun h tp dd its n sl X htp=>by
    refine Bool.eq_false_iff.mpr fun q=>?_;have e:C=tp:=Value.ref.inj (beq_iff_eq.mp q);subst e;have hcD:=x.cl;unfold aaU at hcD;split at hcD
    · rename_i c' d' cd' sl' ho;have z:=(X _ _ ho).symm.trans htp;cases z
    · cases hcD
  ca:=fun {prog w A E Q s} X p k=>by
    obtain ⟨h,g,d,t,os⟩:=s;obtain ⟨o,h1,h2⟩:=p;obtain ⟨B,hg⟩:=x.sl;exact r_ (x.lk _ _ X) hg h1 h2 k
open PySem PySem.Spec PyProof.Rows
theorem fK:∀ {bs:List Bool} {its:List Value},Vals (bs.map V.bl) its→its=bs.map Value.bool
  | [],_,.nil=>rfl
  | b :: r,_,.cons h t=>by
    cases (show _=Value.bool b from h);rw [fK t];rfl
theorem oN {X:Cx} {pins:List (Addr × Obj)} {σ:St} {H:Hp} {s:Shared} (I:Inv X pins σ H s) {A:Around} (hu:A.units+0 < cLine) (b:Bool):SeqAt.EqAt A s (.bool b) (.bool true) (Value.bool b == Value.bool true):=by
  have z:=(EqR.flat (K:=X.K) (H:=H) (n:=0) (x:=.bl b) (y:=.bl true) rfl rfl).at I (A:=A) (u:=.bool b) (v:=.bool true) rfl rfl hu;have e:eqV (.bl b) (.bl true)=(Value.bool b == Value.bool true):=by cases b <;> rfl
  rw [e] at z;exact z
theorem pG {X:Cx} (hu:X.A.units+64 < cLine):MtR X "list.count" (fun x vs H Q=>∃ (l:Addr) (bs:List Bool),x=.ref l∧vs=[.bl true]∧SqL X.K H l (bs.map V.bl)∧Q (.int (bs.countP id:Nat)) H):=by
  intro pins s σ H x vs v us Q I rx rv h;obtain ⟨l,bs,rfl,rfl,hq,q⟩:=h;cases rx;obtain ⟨u,rfl,ru⟩:=bU rv;cases ru;obtain ⟨its,r,⟨o,n,ho,hc,hs,hd⟩,hz⟩:=I.list hq;have ei:=fK r;subst ei;obtain ⟨oc,od,dat,sl⟩:=o;cases (show oc=_ from hc);cases (show dat=_ from hd);refine call_meets F.slot_list_count ⟨_,ho,rfl⟩ F.entry_list_count (F.args_list_count_2 _ _) (SeqAt.list_countAt l (bs.map Value.bool).toArray n od sl (.bool true) (fun v=>v == .bool true)) ⟨ho,fun y hy=>?_,?_⟩
  · have hy':y∈bs.map Value.bool:=by simpa using hy
    obtain ⟨b,_,rfl⟩:=abm.mp hy';exact oN I (by show X.A.units+1+0 < cLine;lia) b
  · have e:(bs.map Value.bool).countP (fun v=>v == .bool true)=bs.countP id:=by
      rw [List.countP_map];congr 1;funext b;cases b <;> rfl
    refine ⟨.int (bs.countP id:Nat),H,I.tok _,⟨s.toks,?_⟩,q⟩;show Value.int (((bs.map Value.bool).toArray.toList.countP fun v=>v == .bool true:Nat):Int) s.toks=_;rw [show (bs.map Value.bool).toArray.toList=bs.map Value.bool from rfl,e]
theorem pE {X:Cx} (hu:X.A.units+64 < cLine):MtR X "list.index" (fun x vs H Q=>∃ (l:Addr) (bs:List Bool) (j:Nat),x=.ref l∧vs=[.bl true]∧SqL X.K H l (bs.map V.bl)∧bs[j]?=some true∧(∀ m,m < j→bs[m]?=some false)∧bs.length≤1000∧Q (.int (j:Nat)) H):=by
  intro pins s σ H x vs v us Q I rx rv h;obtain ⟨l,bs,j,rfl,rfl,hq,hj,hb,hl,q⟩:=h;cases rx;obtain ⟨u,rfl,ru⟩:=bU rv;cases ru;obtain ⟨its,r,⟨o,n,ho,hc,hs,hd⟩,hz⟩:=I.list hq;have ei:=fK r;subst ei;obtain ⟨oc,od,dat,sl⟩:=o;cases (show oc=_ from hc);cases (show dat=_ from hd);have hjl:j < bs.length:=(aaB.mp hj).1;refine call_meets F.slot_list_index ⟨_,ho,rfl⟩ F.entry_list_index (F.args_list_index_2 _ _) (SeqAt.list_indexAt l (bs.map Value.bool).toArray n od sl (.bool true) (fun v=>v == .bool true) j (by simpa using hjl) (by lia) ?_ ?_) ⟨ho,fun y hy=>?_,?_⟩
  · have : bs[j]=true:=(aaB.mp hj).2;simp [this]
  · intro m hm hmj;have : bs[m]'(by simpa using hm)=false:=(aaB.mp (hb m hmj)).2;simp [this]
  · have hy':y∈bs.map Value.bool:=by simpa using hy
    obtain ⟨b,_,rfl⟩:=abm.mp hy';exact oN I (by show X.A.units+1+0 < cLine;lia) b
  · exact ⟨.int (j:Nat),H,I.tok _,⟨_,rfl⟩,q⟩
theorem iD:∀ {ns:List Int} {its:List Value},Vals (ns.map V.int) its→∃ ts:List (Int × Tok),its=ts.map (fun p=>Value.int p.1 p.2)∧ts.map (·.1)=ns
  | [],_,.nil=>⟨[],rfl,rfl⟩
  | i :: r,_,.cons h t=>by
    obtain ⟨k,rfl⟩:=(show ∃ k,_=Value.int i k from h)
    obtain ⟨ts,e1,e2⟩:=iD t;exact ⟨(i,k) :: ts,by rw [e1];rfl,by rw [aax,e2]⟩
theorem sg {X:Cx} (hc:X.calm=true):dE X (.builtin "sum") (fun xs H Q=>∃ (p:Addr) (ns:List Int),xs=[.ref p]∧SqL X.K H p (ns.map V.int)∧Q (.int ns.sum) H):=by
  intro pins s σ H xs us Q I r h;obtain ⟨p,ns,rfl,hq,q⟩:=h;obtain ⟨u,rfl,rx⟩:=bU r;cases rx;obtain ⟨its,r',pl,hz⟩:=I.list hq;obtain ⟨ts,e1,e2⟩:=iD r';subst e1;have el:(ts.map (fun p=>Value.int p.1 p.2)).toArray=intItems ts.toArray:=by unfold intItems;simp
  refine sum_intListG (xs:=ts.toArray) (I.ok.hd hc) (by rw [← el];exact pl.isList) fun h' tk t' hk=>?_;have e:preSum (numAt ts.toArray) ts.toArray.size=ns.sum:=by
    rw [preSum_eq,aa0 (by simp),← e2]
  rw [e];exact ⟨.int ns.sum,H,I.kept (t':=tk) hk,⟨t',rfl⟩,q⟩
open PySem PySem.Spec PyProof.Rows
open PySem PySem.Spec PyProof.Rows
def ic (es:Array DictEntry):Bool:=es.toList.all fun e=>match e.key with|.str _ _=>true|_=>false
theorem re {es:Array DictEntry} (h:ic es=true):StrKeys es:=fun e he=>by
  have z:=aay.mp h e (by simpa using he);cases q:e.key with
  | str n t=>exact ⟨n,t,rfl⟩
  | _=>rw [q] at z;cases z
section
variable {K:aaa} {C Pa N N':Addr} {nm nm' q q':Str} {bs bs' sub sub':List Value} {hdct hdct':Bool} {sn sn':List Str} {ab ab':Bool} {col col':Option Bool} {dd dd':Option Addr} {k0 k1 k2 k3 k5 k0' k1' k2' k3' k5' oc oc':Option Value}
  {c1 c2:Value} {od od':Option Addr} {es es':Array DictEntry} {n n':Nat} {sl sl':Array (Option Value)}
theorem t0 (s:K.lookup N=some ⟨c1,od,.dict es n,sl⟩) (t:ic es=true) {h:Heap} (X:K.In h):h.Ns N (nsFind es):=⟨_,es,n,X _ _ s,rfl,re t,fun _=>rfl⟩
abbrev jX:List Value:=[.type "ValueError",.type "Exception",.type "BaseException",.type "object"]
theorem nI (l:K.lookup C=some (excClassObj nm q C N bs (.ref Pa :: jX) hdct sn sub ab col dd k0 k1 k2 k3 k5 "ValueError.__new__")) (s:K.lookup N=some ⟨c1,od,.dict es n,sl⟩) (t:ic es=true) (i:nsFind es "__init__" = none)
    (l':K.lookup Pa=some (excClassObj nm' q' Pa N' bs' jX hdct' sn' sub' ab' col' dd' k0' k1' k2' k3' k5' "ValueError.__new__")) (s':K.lookup N'=some ⟨c2,od',.dict es' n',sl'⟩) (t':ic es'=true) (i':nsFind es' "__init__" = none):EC K C :=
  ⟨_,_,_,_,_,_,_,_,_,_,_,_,_,_,_,_,"ValueError",_,_,_,nsFind es,PySem.F.excBase_ValueError,(by rfl),i,fun h X=>⟨X _ _ l,t0 s t X,.own (X _ _ l') (t0 s' t' X) i' .base⟩⟩
theorem jY (l:K.lookup C=some (excClassObj nm q C N bs (.ref Pa :: jX) hdct sn sub ab col dd k0 k1 k2 k3 k5 "ValueError.__new__"))
    (l':K.lookup Pa=some (excClassObj nm' q' Pa N' bs' jX hdct' sn' sub' ab' col' dd' k0' k1' k2' k3' k5' "ValueError.__new__")):Und K C Pa :=
  ⟨_,_,_,_,_,_,_,_,_,_,_,_,_,_,_,_,_,_,_,_,_,_,_,_,_,_,_,_,_,_,_,_,_,_,(by simp),(by rfl),fun h X=>⟨X _ _ l,X _ _ l'⟩⟩
theorem nG (l:K.lookup C=some (excClassObj nm q C N bs (.ref Pa :: jX) hdct sn sub ab col dd k0 k1 k2 k3 k5 "ValueError.__new__")) (f1:aaP K (.ref C) "__getattribute__" = some (some (.builtin "BaseException.__getattribute__"))) (f2:aaP K (.ref C) "__getattr__" = some none)
    (f3:aaP K (.ref C) "__class__" = some (some (.builtin "object.__class__"))) (f4:aan K (.ref C) (.type "BaseException")=some true) (f5:aan K (.ref C) (.type "object")=some true):ExC K C where
  lk:=fun M h X=>⟨PySem.W.looks_findIn X f1,PySem.W.looks_findIn X f2,PySem.W.looks_findIn X f3,PySem.W.looks_subIn X f4,by
    have e:(".".intercalate ("object.__class__".cutAt '.').dropLast) = "object":=by decide +kernel
    rw [e];exact PySem.W.looks_subIn X f5⟩
  cl:=by unfold aaU;rw [l];rfl
  sl:=⟨"ValueError",PySem.F.attrBase_ValueError.ga⟩
theorem aK {D:Addr} {cd:ClassData} {b:Bool} (ne:(Value.ref C == Value.ref D)=false) (h1:aaU K D=some cd) (h2:aa4 K (.ref D)=some (.type "type")) (h3:aan K (.ref C) (.ref D)=some b):aaE K (.ref C) (.ref D)=some b:=by
  unfold aaE PySem.W.kitCls;rw [ne,if_neg (by simp)];show (if ((aaU K D).isSome && aa4 K (Value.ref D) == some (Value.type "type"))=true then aan K (Value.ref C) (Value.ref D) else none)=some b;rw [h1,h2];exact (if_pos (by simp)).trans h3
theorem i7:aaE K (.ref C) (.ref C)=some true:=by
  unfold aaE;rw [if_pos (beq_self_eq_true _)]
theorem kN (h3:aan K (.ref C) (.type "ValueError")=some true):aaE K (.ref C) (.type "ValueError")=some true:=by
  unfold aaE PySem.W.kitCls;have e:PySem.W.kitMeta "ValueError" = true:=by decide +kernel
  have e1:(Value.ref C == Value.type "ValueError")=false:=rfl;simp only [e1,e,if_true];exact h3
end
end L2
namespace L2
open PySem
theorem i8 {K:aaa} {t a b c d:Value} (h1:aaE K t a=some false) (h2:aaE K t b=some false) (h3:aaE K t c=some false) (h4:aaE K t d=some false):PySem.W.kitAny K t [a,b,c,d]=some false:=by
  simp only [PySem.W.kitAny,h1,h2,h3,h4]
open PySem PySem.Spec PyProof.Rows
def uG (sp:Sp):Sp:=fun vs H Q _=>sp vs H Q fun _ _ _=>False
theorem FnOk.down {P:Program} {w:World} {K:aaa} {mg:Str→Option Value} {base:Heap} {k:Nat} {f:Addr} {fd:FuncData} {ps:List Str} {sp:Sp} (F:FnOk P w K mg base (CX1 P w) k f fd ps sp):FnOk P w K mg base CX0 k f fd ps (uG sp) :=
  ⟨fun vs H Q E h=>F.len vs H Q _ h,fun A outer s H args us vs Q E hr he hb hv hs=>codeAny_mono (F.run A outer s H args us vs Q _ hr he hb hv hs) fun r s' h=>by
    cases r with
    | ok fl=>cases fl <;> exact h
    | error e =>
      obtain ⟨ea,T,C,H',_,_,_,_,_,_,_,_,_,_,z⟩:=h;exact z.elim⟩
open PySem PySem.Spec PyProof.Rows
section
variable {X:Cx}
theorem kj {i₀:Nat} {x:Str} {px spos:Pos} {elt tg iter:Expr} {ifs:List Expr} {scope:Scope} {pos:Pos} {cl:List (Str × Addr)} {NY:List Str} {cap:List (Option Nat)} {wi:TI} {g:TG} {tt:TT} {te:TE} (hN:X.N.Nodup) (hiN:X.N[i₀]?=some x) (hx:Loc X.env.scope x) (hc:X.calm=true) (hi:PI X tg iter wi)
    (hclos:closureFor scope X.env=pure cl) (hci:CellsIn X.env cl) (hcap:CapOk X.env (relabel scope X.env) X.N NY cap)
    (hb:∀ fp s H C,PG (ai X scope cl NY fp s H C) tg g∧kZ (ai X scope cl NY fp s H C) ifs tt∧PE (ai X scope cl NY fp s H C) elt te)
    (hkind:scope.kind=.function:=by rfl) (hnc:(scope.names.all fun y=>y.2 != .cell)=true:=by rfl)
    (hnames:(scope.names.all fun y=>y.2 != .local || scope.names.lookup y.1 == some .local)=true:=by rfl)
    (hhas:((relabel scope X.env).names.all fun p=>(p.2 != .cell && p.2 != .free) || (cl.lookup p.1).isSome)=true:=by rfl)
    (hs:∀ x,foldedSetIterable iter X.env x=pure x:=by intro _;rfl) (hsw:swapsWith (.ListComp elt [⟨tg,iter,ifs,0⟩] scope pos) (some (.Name x px)) spos.line X.env=pure true:=by rfl)
    (hf:X.fn x=true∨X.env.scope.names.lookup x=some .local:=by first|exact .inl rfl|exact .inr rfl|assumption) :
    PS X (.Assign [.Name x px] (.ListComp elt [⟨tg,iter,ifs,0⟩] scope pos) spos) (uA (tLc cap wi g tt te) (rz i₀)):=by
  have hnc':∀ y∈scope.names,y.2≠.cell:=fun y hy=>by
    have q:=aay.mp hnc y hy;simpa using q
  have hnames':∀ y∈scope.names,y.2=.local→scope.names.lookup y.1=some .local:=fun y hy e=>by
    have q:=aay.mp hnames y hy;rw [e] at q;simpa using q
  intro pins s σ H D I h;rw [exec_Assign_Name_used _ _ _ _ hsw];refine wpAny_bind (wpAny_standAt (wpAny_bind ?_));show wpAny _ X.A (do let _ ← comprehension (.ListComp elt [⟨tg,iter,ifs,0⟩] scope pos) scope X.env _ (newList []) false (eval iter X.env) (some (assign (.Name x px) X.env))) _ _ s;refine wpAny_bind (wpAny_mono (wpAny_comprehension_free (use:=some (assign (.Name x px) X.env)) (Q:=fun _ s'=>∃ σ' H',Inv X pins σ' H' s'∧D.nx σ' H') rfl hs hclos hkind hnames' (wpAny_mono (hi pins s σ H _ I h) (fun v s1 h1=>wpAny_mono h1 (fun itv s2 h2=>?_) fun _ _ e=>e) fun _ _ e=>e)) (fun _ s' hq=>wpAny_pure (wpAny_pure hq)) fun _ _ e=>e);obtain ⟨it,fp,tn,J,H2,e,I2,T,st2,f2,W,⟨m0,w0⟩,turn⟩:=h2;subst e;refine wpAny_newObj_type (wpAny_newFunctionEnv hnc' (by intro y hy;simp at hy) (fun h₁ hns₁ hsb₁=>?_) hkind);dsimp only at hns₁ hsb₁ ⊢;generalize hH2:s2.heap.push { cls:=.type "list",dict:=none,data:=.seq ([]:List Value).toArray }=G2 at hns₁ hsb₁ ⊢;have hC:G2.objs.size=s2.heap.objs.size+1:=by rw [← hH2,abX]
  have hDC:s2.heap.objs.size≠G2.objs.size:=by rw [hC];exact aau (acb _)
  have hDlt:s2.heap.objs.size≤G2.objs.size:=by rw [hC];exact Nat.le_succ _
  have below:∀ b,b < s2.heap.objs.size→b≠G2.objs.size∧b≠s2.heap.objs.size:=fun b hb=>⟨by rw [hC];exact aau (abV hb),aau hb⟩
  have old:∀ b o,s2.heap.get? b=some o→h₁.get? b=some o:=fun b o e=>hsb₁.extBut b o (below b (aaj e)).1 (aaf _ (hH2 ▸ aaf _ e));have hacc:h₁.get? s2.heap.objs.size=some { cls:=.type "list",data:=.seq ([]:List Value).toArray 0 }:=hsb₁.extBut _ _ hDC (aaf _ (hH2 ▸ aaz _ rfl));have fpl:∀ b∈fp,b < s2.heap.objs.size:=fun b hb=>by
    obtain ⟨o,e,_⟩:=T.obj _ _ st2 b hb;exact aaj e
  have freshD:H2 s2.heap.objs.size=none:=I2.hok.fresh (aag _);have freshC:H2 G2.objs.size=none:=I2.hok.fresh hDlt;have cellLt:∀ x c,X.env.cells.lookup x=some c→c < s2.heap.objs.size:=fun x c e=>by
    obtain ⟨v,q⟩:=I2.cell x c e;exact q.lt
  have hclX:∀ x c,cl.lookup x=some c→X.env.cells.lookup x=some c:=fun x c e=>hci.get e;obtain ⟨hbg,hbt,hbe⟩:=hb fp s2 H2 G2.objs.size;have okY:(ai X scope cl NY fp s2 H2 G2.objs.size).Ok:=by
    refine ⟨I2.ok.mod,hkind,I2.ok.glob,I2.ok.blt,hDlt,fun x y c e1 e2=>I2.ok.inj x y c (hclX x c e1) (hclX y c e2),fun x hx=>?_,fun x c hf _=>?_,I2.ok.hd,I2.ok.frames,.inl rfl,fun b hb=>⟨(below b (fpl b hb)).1,fun x c e z=>?_⟩,I2.bs,
      aaZ I2.ok.bsz I2.sz,fun b o e hb=>?_,fun b hb hz=>?_,I2.stack,I2.stkFree⟩
    · have hx':(relabel scope X.env).names.lookup x=some .cell∨(relabel scope X.env).names.lookup x=some .free:=hx;have key:∀ k,(relabel scope X.env).names.lookup x=some k→(k=.cell∨k=.free)→∃ c,cl.lookup x=some c:=fun k e hk=>by
        have q:=aay.mp hhas (x,k) (aaW e);have q':(cl.lookup x).isSome=true:=by
          rcases hk with rfl|rfl <;> simpa using q
        exact aba.mp q'
      rcases hx' with e|e
      · exact key _ e (.inl rfl)
      · exact key _ e (.inr rfl)
    · exact absurd (show false=true from hf) aai
    · exact (f2 b hb).2.2.2.2.1 x c (hclX x c e) z
    · rcases (f2 b hb).2.2.2.1 with z|z
      · exact I2.ok.noex b o e z
      · exact absurd (aaq (aaj (I2.ok.bs b o e).1) z) (aaT _)
    · rcases aah.mp (I2.stkSub b hz) with z|z
      · exact (f2 b hb).2.1 z
      · exact (f2 b hb).2.2.1 z
  have fpYs:∀ {H':Hp} {n:Nat} {its:List Value},(∀ b∈fp,H' b=none)→∀ b∈fp,gC (ai X scope cl NY fp s2 H2 G2.objs.size) [(s2.heap.objs.size,{ cls:=.type "list",data:=.seq its.toArray n })] H' b:=fun {H' n its} hn b hb=>by
    refine ⟨hn b hb,(below b (fpl b hb)).1,fun hz=>?_,.inl hb,fun x c e=>(f2 b hb).2.2.2.2.1 x c (hclX x c e),fun p hp=>?_⟩
    · rcases aah.mp (I2.stkSub b hz) with z|z
      · exact (f2 b hb).2.1 z
      · exact (f2 b hb).2.2.1 z
    · have e:p=(s2.heap.objs.size,{ cls:=.type "list",data:=.seq its.toArray n }):=by simpa [ai] using hp
      rw [e];exact abo (below b (fpl b hb)).2
  have nostk:∀ b,s2.heap.objs.size≤b→b∉frs X.stack:=fun b hb hz=>by
    rcases aah.mp (I2.stkSub b hz) with z|z
    · have:=I2.lt;rw [← z] at this;exact absurd (aaq this hb) (aaT _)
    · exact I2.nofs hb z
  have IY0:Inv (ai X scope cl NY fp s2 H2 G2.objs.size) [(s2.heap.objs.size,{ cls:=.type "list",data:=.seq ([]:List Value).toArray 0 })] (a6 cap σ) H2 { s2 with heap:=h₁,toks:=s2.toks+([]:List (Str × Value)).length }:=by
    refine ⟨okY,rfl,I2.bare,Un.kept old,⟨_,hns₁,fun j x v e1 e2 e3=>?_⟩,fun x c e=>?_,freshC,fun x c e=>I2.freeC x c (hclX x c e),fun p hp=>?_,I2.hok.kept old,?_⟩
    · obtain ⟨i,h1,h2,h3,h4⟩:=CapOk.get (σ:=σ) hcap e1 e2;obtain ⟨m,hn,hl⟩:=I2.loc;have vis:Vis X.env.scope x:=by rcases h3 with z|z;exact .inr (.inl z);exact .inr (.inr z)
      obtain ⟨u,r,l⟩:=hl i x v h1 h2 vis;refine ⟨u,r,.inr ⟨h4,?_⟩⟩;rcases l with ⟨k,_⟩|⟨_,c,e,z⟩
      · rcases h3 with z|z <;> (rw [k] at z;cases z)
      · obtain ⟨c',e'⟩:=okY.has x h4;have e':cl.lookup x=some c':=e';have e'':=hclX x c' e';rw [e] at e'';cases e'';obtain ⟨o,ho,hd⟩:=z;exact ⟨c,e',o,old _ _ ho,hd⟩
    · obtain ⟨v,o,ho,hd⟩:=I2.cell x c (hclX x c e);exact ⟨v,o,old _ _ ho,hd⟩
    · have e:p=(s2.heap.objs.size,{ cls:=.type "list",data:=.seq ([]:List Value).toArray 0 }):=by simpa [ai] using hp
      rw [e];exact ⟨hacc,freshD,hDC,nostk _ (aag _),fun v z=>by cases z⟩
    · show (a6 cap σ).length=NY.length;unfold a6;rw [aak];exact hcap.len
  have hcY:(ai X scope cl NY fp s2 H2 G2.objs.size).calm=true:=hc;have stW:tn 0 h₁:=T.keep _ _ _ st2 fun b _ o e=>old b o e;have loop:∀ s₃:Shared,s₃={ s2 with heap:=h₁,toks:=s2.toks+([]:List (Str × Value)).length } →
      codeAny (model X.prog X.w) X.A (.compLoop (.ListComp elt [⟨tg,iter,ifs,0⟩] scope pos) 0 (.ref it) (.ref s2.heap.objs.size) (compEnvC scope cl G2.objs.size X.env))
        (compPost (model X.prog X.w) X.A X.xe (some (assign (.Name x px) X.env)) (fun _ s'=>∃ σ' H',Inv X pins σ' H' s'∧D.nx σ' H') (.ref s2.heap.objs.size) G2.objs.size) s₃:=by
    rintro s₃ rfl;refine jO (fun n s'=>∃ i ys its k H',Inv (ai X scope cl NY fp s2 H2 G2.objs.size) [(s2.heap.objs.size,{ cls:=.type "list",data:=.seq its.toArray k })] (a6 cap σ) H' s'∧Vals ys its∧ys.length≤sizeLine∧tn i s'.heap∧(∀ b∈fp,H' b=none)∧W i n ys H') ?_ m0
      ⟨0,[],[],0,H2,IY0,.nil,aaM _,stW,fun b hb=>(f2 b hb).1,w0⟩
    rintro n s3 ⟨i,ys,its,k,H3,I3,rv,hz,st3,fr3,w3⟩;rcases turn i n ys H3 w3 with ⟨stop,qn⟩|⟨go,hlt,step⟩
    · refine wpAny_mono (T.done (ai X scope cl NY fp s2 H2 G2.objs.size) rfl rfl rfl hcY i _ s3 _ H3 (fun _ _=>False) I3 (fpYs fr3) st3 stop) (fun r s4 ⟨hr,I4⟩=>?_) fun _ _ z=>z;subst hr;obtain ⟨m,hnC,_⟩:=id I4.loc;have hnC:s4.heap.Ns G2.objs.size m:=hnC;have pD:=(I4.pin (s2.heap.objs.size,{ cls:=.type "list",data:=.seq its.toArray k }) (by simp [ai]))
      have un:Un (frs X.stack) fp H2 H3 s2.heap s4.heap:=I4.base;have I5:Inv X pins σ H3 s4:=I2.call' (ch:=fp) I4.os un I4.hok I4.bare fun b hb=>⟨(f2 b hb).2.2.2.1,(f2 b hb).2.1,(f2 b hb).2.2.2.2.1,(f2 b hb).2.2.2.2.2⟩
      have cC:H3 G2.objs.size=none:=I4.free;have szX:X.s₀.heap.objs.size≤s2.heap.objs.size:=I2.sz;have I7:Inv X pins σ (upd H3 s2.heap.objs.size (.lst ys)) s4:=I5.adopt pD.2.1 szX (abn I2.lt) (fun x c e=>aau (cellLt x c e)) (fun p hp=>aau (aaj (I2.pin p hp).1))
        ⟨hz,its,k,rv,pD.1⟩
      obtain ⟨oC,es,ep,hoC,hdC,rC⟩:=hnC;have nL:G2.objs.size≠X.env.locals:=abn (aaq I2.lt hDlt);have cC':upd H3 s2.heap.objs.size (.lst ys) G2.objs.size=none:=by rw [aB (abo hDC)];exact cC
      have I8:Inv X ((G2.objs.size,oC) :: pins) σ (upd H3 s2.heap.objs.size (.lst ys)) s4:=I7.pins_of fun p hp=>by
        rcases aah.mp hp with z|z
        · rw [z];exact ⟨hoC,cC',nL,fun hz=>I2.nofs hDlt hz,fun v z=>by rw [hdC] at z;cases z⟩
        · exact I7.pin p (aab _ z)
      show wpAny _ X.A (assign (.Name x px) X.env (.ref s2.heap.objs.size)) _ _ s4;refine wpAny_assign_Name (dk (v:=.ref s2.heap.objs.size) I8 hN hiN hx rfl (fun s5 I9=>?_) hf);have pC:=I9.pin (G2.objs.size,oC) (aab _ aav);refine ⟨m,⟨oC,es,ep,pC.1,hdC,rC⟩,fun h' hsb=>?_⟩;have I10:Inv X pins (σ.set i₀ (some (.ref s2.heap.objs.size))) (upd H3 s2.heap.objs.size (.lst ys)) s5:=I9.pins_of fun p hp=>I9.pin p (aab _ (aat _ hp));have I11:Inv X pins (σ.set i₀ (some (.ref s2.heap.objs.size))) (upd H3 s2.heap.objs.size (.lst ys)) { s5 with heap:=h' }:=I10.turned (t':=s5.toks) (it:=G2.objs.size) (fun b o hb e=>hsb.extBut b o hb e) cC' nL (.inr (aaZ szX hDlt))
        (fun x c e z=>absurd (cellLt x c e) (by rw [z];exact abW.mpr hDlt)) (fun p hp z=>absurd (aaj (I2.pin p hp).1) (by rw [z];exact abW.mpr hDlt))
      exact ⟨_,_,I11,qn _ pD.2.1⟩
    · refine wpAny_mono (T.item (ai X scope cl NY fp s2 H2 G2.objs.size) rfl rfl rfl hcY i _ s3 _ H3 (fun _ _=>False) I3 (fpYs fr3) st3 go) (fun r s4 ⟨u,hr,h4⟩=>?_) fun _ _ z=>z;subst hr;refine wpAny_mono h4 (fun _ s5 ⟨x,H5,I5,r5,y5,st5,fr5⟩=>?_) fun _ _ z=>z;have I5':=I5.pinned (fpYs fr5) (T.obj _ _ st5);refine wpAny_mono (hbg _ s5 _ H5 x u _ I5' r5 (step x H5 y5)) (fun _ s6 ⟨σ6,H6,I6,q6⟩=>?_) fun _ _ z=>z;refine wpAny_mono (hbt _ s6 σ6 H6 _ I6 q6) (fun ok s7 ⟨H7,I7,q7⟩=>?_) fun _ _ z=>z;have lenY:∀ {σ':St} {pn} {H'} {s'},Inv (ai X scope cl NY fp s2 H2 G2.objs.size) pn σ' H' s'→(a6 cap σ).length=σ'.length:=fun {σ' pn H' s'} Z=>IY0.len.trans Z.len.symm;have captured:∀ {σ':St} {pn} {H'} {s'},Inv (ai X scope cl NY fp s2 H2 G2.objs.size) pn σ' H' s'→Inv (ai X scope cl NY fp s2 H2 G2.objs.size) pn (a6 cap σ) H' s':=fun {σ' pn H' s'} Z=>by
        refine ⟨Z.ok,Z.os,Z.bare,Z.base,?_,Z.cell,Z.free,Z.freeC,Z.pin,Z.hok,IY0.len⟩;obtain ⟨m,hn,_⟩:=Z.loc;refine ⟨m,hn,fun j x v e1 e2 e3=>?_⟩;obtain ⟨i',h1,h2,h3,h4⟩:=CapOk.get (σ:=σ) hcap e1 e2;obtain ⟨m',hn',hl⟩:=I2.loc;have vis:Vis X.env.scope x:=by rcases h3 with z|z;exact .inr (.inl z);exact .inr (.inr z)
        obtain ⟨u,r,l⟩:=hl i' x v h1 h2 vis;refine ⟨u,r,.inr ⟨h4,?_⟩⟩;rcases l with ⟨kk,_⟩|⟨_,c,e,z⟩
        · rcases h3 with z|z <;> (rw [kk] at z;cases z)
        · obtain ⟨c',e'⟩:=okY.has x h4;have e':cl.lookup x=some c':=e';have e'':=hclX x c' e';rw [e] at e'';cases e'';obtain ⟨o,ho,hd⟩:=z;have nfp:c∉fp:=fun hz=>(f2 c hz).2.2.2.2.1 x c e rfl;obtain ⟨sl,q⟩:=Z.base.any (show s2.heap.get? c=some o from ho) (I2.freeC x c e) nfp;exact ⟨c,e',_,q,hd⟩
      have again:∀ {ys':List V} {its':List Value} {k':Nat} {σ':St} {H':Hp} {s':Shared},Inv (ai X scope cl NY fp s2 H2 G2.objs.size) ([(s2.heap.objs.size,{ cls:=.type "list",data:=.seq its'.toArray k' })]++bf fp s5.heap) σ' H' s'→Vals ys' its'→ys'.length≤sizeLine →
          (∃ m',m' < n∧W (i+1) m' ys' H')→∃ m,m < n∧∃ i ys its k H',Inv (ai X scope cl NY fp s2 H2 G2.objs.size) [(s2.heap.objs.size,{ cls:=.type "list",data:=.seq its.toArray k })] (a6 cap σ) H' s'∧Vals ys its∧ys.length≤sizeLine∧tn i s'.heap∧(∀ b∈fp,H' b=none)∧W i m ys H':=fun {ys' its' k' σ' H' s'} Z rv' hz' hw=>by
        obtain ⟨m',hm,w'⟩:=hw;refine ⟨m',hm,i+1,ys',its',k',H',captured Z.unpinned,rv',hz',T.keep _ _ _ st5 fun b hb o e=>(Z.pin (b,o) (aab _ (aab _ (bh hb e)))).1,fun b hb=>?_,w'⟩;obtain ⟨o,e,d⟩:=T.obj _ _ st5 b hb;exact (Z.pin (b,o) (aab _ (aab _ (bh hb e)))).2.1
      cases ok with
      | false =>
        rw [if_neg aai] at q7 ⊢;exact again I7 rv hz q7
      | true =>
        rw [if_pos rfl] at q7 ⊢;refine wpAny_mono (hbe _ s7 σ6 H7 _ I7 q7) (fun xv s8 ⟨v,H8,I8,r8,q8⟩=>?_) fun _ _ z=>z;have pD:=I8.pin (s2.heap.objs.size,{ cls:=.type "list",data:=.seq its.toArray k }) (by simp [ai]);have hlen:=rv.length;refine append_at pD.1 (fun h9 hs9 hD9=>?_) (by rw [aam];lia);have I9:Inv (ai X scope cl NY fp s2 H2 G2.objs.size) (bf fp s5.heap) σ6 H8 s8:=I8.pins_of fun p hp=>I8.pin p (aab _ (aab _ hp));have I10:Inv (ai X scope cl NY fp s2 H2 G2.objs.size) (bf fp s5.heap) σ6 H8 { s8 with heap:=h9 }:=I9.turned (t':=s8.toks) (it:=s2.heap.objs.size) (fun b o hb e=>hs9.extBut b o hb e) pD.2.1 hDC (.inr (aag _))
          (fun x c e=>aau (cellLt x c (hclX x c e))) fun p hp=>by
            have hp':p∈bf fp s5.heap:=by simpa [ai] using hp
            exact abo (abo (below _ (fpl _ (dh hp').1)).2)
        have I11:Inv (ai X scope cl NY fp s2 H2 G2.objs.size) ([(s2.heap.objs.size,{ cls:=.type "list",data:=.seq (its++[xv]).toArray (k+1) })]++bf fp s5.heap) σ6 H8 { s8 with heap:=h9 }:=I10.pins_of fun p hp=>by
          rcases aao.mp hp with z|z
          · have e:p=(s2.heap.objs.size,{ cls:=.type "list",data:=.seq (its++[xv]).toArray (k+1) }):=by simpa using z
            rw [e];refine ⟨?_,pD.2.1,hDC,nostk _ (aag _),fun v z=>by cases z⟩;rw [List.push_toArray] at hD9;exact hD9
          · exact I10.pin p (aab _ z)
        exact again I11 (rv.append (.cons r8 .nil)) (by rw [aae,aaN];exact hlt) q8
  exact codeAny_compStart_list (loop _ rfl) (T.self _ 0 _ _ _ stW (loop _ rfl))
end
open PySem PySem.Spec PyProof.Rows
section
variable {X:Cx}
theorem gu:MtR X "str.startswith" (fun x vs H Q=>∃ z y,x=.str z∧vs=[.str y]∧Q (.bl (Txt.startswith z y)) H):=by
  intro pins s σ H x vs v us Q I rx rv h;obtain ⟨z,y,rfl,rfl,q⟩:=h;obtain ⟨t,rfl⟩:=rx;obtain ⟨u,rfl,ru⟩:=bU rv;obtain ⟨t2,rfl⟩:=ru;exact PySem.SC.startswith ⟨.bl _,H,I,rfl,q⟩
theorem io:MtR X "str.endswith" (fun x vs H Q=>∃ z y,x=.str z∧vs=[.str y]∧Q (.bl (Txt.endswith z y)) H):=by
  intro pins s σ H x vs v us Q I rx rv h;obtain ⟨z,y,rfl,rfl,q⟩:=h;obtain ⟨t,rfl⟩:=rx;obtain ⟨u,rfl,ru⟩:=bU rv;obtain ⟨t2,rfl⟩:=ru;exact PySem.SC.endswith ⟨.bl _,H,I,rfl,q⟩
theorem kJ:MtR X "str.count" (fun x vs H Q=>∃ z y,x=.str z∧vs=[.str y]∧Q (.int (Txt.count z y)) H):=by
  intro pins s σ H x vs v us Q I rx rv h;obtain ⟨z,y,rfl,rfl,q⟩:=h;obtain ⟨t,rfl⟩:=rx;obtain ⟨u,rfl,ru⟩:=bU rv;obtain ⟨t2,rfl⟩:=ru;exact PySem.SC.count ⟨.int _,H,I.tok _,⟨_,rfl⟩,q⟩
theorem fF:MtR X "str.removeprefix" (fun x vs H Q=>∃ z y,x=.str z∧vs=[.str y]∧z.length≤sizeLine∧Q (.str (acd z y)) H):=by
  intro pins s σ H x vs v us Q I rx rv h;obtain ⟨z,y,rfl,rfl,hz,q⟩:=h;obtain ⟨t,rfl⟩:=rx;obtain ⟨u,rfl,ru⟩:=bU rv;obtain ⟨t2,rfl⟩:=ru;exact PySem.SC.removeprefix (fun t' k=>⟨.str _,H,I.tok _,⟨_,rfl⟩,q⟩) hz
theorem dP:∀ {zs:List Str} {its:List Value},Vals (zs.map V.str) its→∃ l:List (Str × Tok),its=strValues l∧l.map (·.1)=zs
  | [],_,.nil=>⟨[],rfl,rfl⟩
  | z :: r,_,.cons h t=>by
    obtain ⟨k,rfl⟩:=(show ∃ k,_=Value.str z k from h)
    obtain ⟨l,e1,e2⟩:=dP t;exact ⟨(z,k) :: l,by rw [e1];rfl,by rw [aax,e2]⟩
theorem ib:MtR X "str.join" (fun x vs H Q=>∃ z p zs,x=.str z∧vs=[.ref p]∧SqL X.K H p (zs.map V.str)∧JoinOk z zs=true∧Q (.str (aci z zs)) H):=by
  intro pins s σ H x vs v us Q I rx rv h;obtain ⟨z,p,zs,rfl,rfl,hq,hok,q⟩:=h;obtain ⟨t,rfl⟩:=rx;obtain ⟨u,rfl,ru⟩:=bU rv;cases ru;obtain ⟨its,r,pl,hz⟩:=I.list hq;obtain ⟨l,rfl,e2⟩:=dP r;exact PySem.SC.join pl.isList e2 hok fun t' k=>⟨.str _,H,I.tok _,⟨_,rfl⟩,q⟩
def jn (z:Str) (lo hi:Option Int):Str:=if (aaG lo hi 1 z.length).length=z.length then z else ⟨((aaG lo hi 1 z.length).filterMap (z.cps[·]?)).toArray⟩
theorem mI:SlR X (fun x lo hi H Q=>∃ z,x=.str z∧(jn z lo hi).length≤sizeLine∧Q (.str (jn z lo hi)) H):=by
  intro pins s σ H x v vl vu lo hi sl Q I rx hs pl pu h;obtain ⟨z,rfl,hz,q⟩:=h;obtain ⟨t,rfl⟩:=rx;refine ⟨"str",_,F.slot_str_getitem.lookup,typeIs_str _ z t,?_⟩;obtain ⟨l,hl1,hl2⟩:∃ l:Option (Int × Tok),partValue l=vl∧l.map (·.1)=lo:=by
    cases pl with
    | none=>exact ⟨none,rfl,rfl⟩
    | int i t=>exact ⟨some (i,t),rfl,rfl⟩
  obtain ⟨u,hu1,hu2⟩:∃ u:Option (Int × Tok),partValue u=vu∧u.map (·.1)=hi:=by
    cases pu with
    | none=>exact ⟨none,rfl,rfl⟩
    | int i t=>exact ⟨some (i,t),rfl,rfl⟩
  obtain ⟨o,ho,hc,hd⟩:=hs;refine wpAny_getItem_str_slice (l:=l) (u:=u) (st:=none) ⟨o,ho,hc,by rw [hd,hl1,hu1];rfl⟩ rfl ?_;have ep:slicePicked z l u none=aaG lo hi 1 z.length:=by unfold slicePicked;rw [hl2,hu2];rfl
  unfold sliceMade;rw [ep];unfold jn at hz q;by_cases c:(aaG lo hi 1 z.length).length=z.length
  · rw [if_pos c] at hz q;rw [if_pos (by simp [c])];exact ⟨.str z,H,I,⟨t,rfl⟩,q⟩
  · rw [if_neg c] at hz q;rw [if_neg (by simp [c])];exact ⟨hz,.str _,H,I.tok _,⟨_,rfl⟩,q⟩
theorem iA (x:Str):Str.empty++x=x:=by
  cases x with|mk c=>show Str.mk (#[]++c)=_;simp
theorem wu {e:Expr} {te:TE} {a b:Str} {ja jb:Nat} {pa pb pf pos:Pos} (he:PE X e te) (ha:a.length≤sizeLine:=by decide) :
    PE X (.JoinedStr [.Constant (.str a) ja pa,.FormattedValue e (-1) none pf,.Constant (.str b) jb pb] pos) (fun σ H Q=>te σ H fun x H1=>∃ z,x=.str z∧z.length≤sizeLine∧(a++z).length≤sizeLine∧(a++z++b).length≤sizeLine∧Q (.str (a++z++b)) H1):=by
  intro pins s σ H Q I h;refine wpAny_JoinedStr ?_;show wpAny _ _ (eval (.Constant (.str a) ja pa) X.env) _ _ s;refine thn (aj pins s σ H (fun x H1=>x=.str a∧H1=H) I ⟨rfl,rfl⟩) fun v1 s1 ⟨x1,H1,I1,r1,⟨e1,e2⟩⟩=>?_;subst e1 e2;obtain ⟨t1,rfl⟩:=r1;refine ⟨a,t1,rfl,by rw [iA];exact ha,?_⟩;rw [iA];show wpAny _ _ (eval (.FormattedValue e (-1) none pf) X.env) _ _ s1;refine wpAny_FormattedValue_plain (thn (he pins s1 σ H1 _ I1 h) fun v2 s2 ⟨x2,H2,I2,r2,z,ez,hz,haz,hazb,q⟩=>?_);subst ez;obtain ⟨t2,rfl⟩:=r2;have fin:∀ s3:Shared,Inv X pins σ H2 s3→∀ t3,∃ y t,Value.str z t3=.str y t∧(a++y).length≤sizeLine∧Joins (model X.prog X.w) X.A X.xe [eval (.Constant (.str b) jb pb) X.env] (a++y) (fun out s₁=>out.length≤sizeLine∧EP X pins σ Q (.str out s₁.toks) { s₁ with toks:=s₁.toks+1 }) s3:=fun s3 I3 t3=>by
    refine ⟨z,t3,rfl,haz,?_⟩;show wpAny _ _ (eval (.Constant (.str b) jb pb) X.env) _ _ s3;refine thn (aj pins s3 σ H2 (fun x H1=>x=.str b∧H1=H2) I3 ⟨rfl,rfl⟩) fun v4 s4 ⟨x4,H4,I4,r4,⟨e3,e4⟩⟩=>?_;subst e3 e4;obtain ⟨t4,rfl⟩:=r4;exact ⟨b,t4,rfl,hazb,hazb,.str _,H4,I4.tok _,⟨_,rfl⟩,q⟩
  exact wpAny_formatField_str (fin _ I2 t2) (fin _ (I2.tok _) _) hz
theorem jA:dE X (.type "int") (fun xs H Q=>∃ z n,xs=[.str z]∧PySem.intText? z=some n∧z.length≤640∧Q (.int n) H):=by
  intro pins s σ H xs us Q I r h;obtain ⟨z,n,rfl,hn,hl,q⟩:=h;obtain ⟨u,rfl,ru⟩:=bU r;obtain ⟨t,rfl⟩:=ru;exact PySem.W.KIN.call_text hn hl ⟨.int n,H,I.tok _,⟨_,rfl⟩,q⟩
theorem sM {i j:Nat} {x y:Str} {e:Expr} {te:TE} {px py pos:Pos} (hN:X.N.Nodup) (hi:X.N[i]?=some x) (hj:X.N[j]?=some y) (hx:Loc X.env.scope x) (hy:Loc X.env.scope y) (he:PE X e te)
    (hs:swapsWithSole [.Name x px,.Name y py] e pos.line X.env=pure false:=by rfl) (hw:swappedStores [.Name x px,.Name y py] e X.env=pure none:=by rfl)
    (hf:X.fn x=true∨X.env.scope.names.lookup x=some .local:=by first|exact .inl rfl|exact .inr rfl|assumption) (hf':X.fn y=true∨X.env.scope.names.lookup y=some .local:=by first|exact .inl rfl|exact .inr rfl|assumption) :
    PS X (.Assign [.Name x px,.Name y py] e pos) (fun D σ H=>te σ H fun v H1=>D.nx ((σ.set i (some v)).set j (some v)) H1):=by
  intro pins s σ H D I h;refine wpAny_Assign_stores (thn (he pins s σ H _ I h) fun v s1 ⟨x1,H1,I1,r1,q1⟩=>?_) hs hw;show wpAny _ _ (assignAll v [assign (.Name x px) X.env,assign (.Name y py) X.env]) _ _ s1;unfold assignAll;refine wpAny_bind (wpAny_holding (wpAny_assign_Name (dk I1 hN hi hx r1 (fun s2 I2=>?_) hf)));exact wpAny_assign_Name (dk I2 hN hj hy r1 (fun s3 I3=>⟨_,H1,I3,q1⟩) hf')
end
open PySem PySem.Spec PyProof.Rows
theorem nj:typeLookup (.type "list_reverseiterator") "__len__" = pure none:=by rw [typeLookup_type,builtinLookup_eq_fast];kernel_rfl
theorem qU:typeLookup (.type "list_reverseiterator") "__length_hint__" = pure (some (.builtin "list_reverseiterator.__length_hint__")):=by rw [typeLookup_type,builtinLookup_eq_fast];kernel_rfl
theorem tj:isSubtype (.type "list_reverseiterator") (.type "list_reverseiterator")=pure true:=by rw [isSubtype_type];kernel_rfl
section
variable {prog:Program} {w:World} {A:Around} {E:Value→Shared→Prop} {s:Shared} {I:Addr} {fp wr:List Addr} {G:Array GenState→Array GenState→Prop} {n:Nat} {P:Nat→Value→Prop} {St:Nat→Shared→Prop}
theorem collect_rev {Q:List Value→Shared→Prop} (W:WalksS prog w A.in1 I fp wr G n P St) (hT:∀ i s,St i s→s.TypeIs (.ref I) "list_reverseiterator") (hst:St 0 s) (hfp:∀ b∈fp,b < s.heap.objs.size) (hI:I∈fp)
    (hQ:∀ s' acc,Moved wr G s s'→ItemsOf P acc n→Q acc.toList s') (hn:n≤sizeLine):wpAny (model prog w) A (collect (.ref I)) Q E s:=by
  have hSf:s.heap.objs.size∉fp:=fun hm=>aaT _ (hfp _ hm);have hSI:s.heap.objs.size≠I:=fun e=>hSf (e ▸ hI);unfold collect;refine wpAny_bind (wpAny_runValue (codeAny_builtin F.entry_proto_collect ?_));rw [Around.under_plainId F.plain_proto_collect _];show wpAny _ A.in1 (newList [] >>= fun l=>again (.builtin "list.__iadd__" ⟨[l,.ref I],[]⟩)) _ _ s;refine wpAny_bind (wpAny_newObj_type ?_);refine wpAny_pure ⟨plainId_quiet F.plain_list_iadd _,codeAny_builtin F.entry_list_iadd ?_⟩;rw [Around.under_plainId F.plain_list_iadd _];have hst₁:=W.frame 0 s (s.heap.push { cls:=.type "list",data:=.seq ([]:List Value).toArray }) s.toks hst (aag _) fun b _ o e=>aaf _ e;show wpAny _ A.in1 (Builtin.List.listExtendWith (.ref s.heap.objs.size) (.ref I) (.ref s.heap.objs.size)) _ _ _;unfold Builtin.List.listExtendWith;refine wpAny_bind (wpAny_typeOf (hT 0 _ hst₁) ?_);have h1:Builtin.List.listSameRef (.ref s.heap.objs.size) (.ref I)=false:=by simp [Builtin.List.listSameRef,hSI]
  have h2:(Value.type "list_reverseiterator" == Value.type "list")=false:=by decide
  have h3:(Value.type "list_reverseiterator" == Value.type "tuple")=false:=by decide
  simp only [h1,h2,h3,Bool.or_false,Bool.false_eq_true,if_false];refine wpAny_bind (W.self 0 _ _ _ hst₁ ?_);refine wpAny_bind (wpAny_holding ?_);unfold Builtin.List.listLengthHint;refine wpAny_bind (wpAny_specialOf (hT 0 _ hst₁) nj ?_);show wpAny _ A.in1 (specialOf (Value.ref I) (abq "__length_hint__") >>= _) _ _ _;refine wpAny_bind (wpAny_specialOf (hT 0 _ hst₁) qU ?_);have hsp:splitId "list_reverseiterator.__length_hint__" = some ("list_reverseiterator","__length_hint__"):=by decide +kernel
  simp only [hsp];refine wpAny_bind (wpAny_isInstance (hT 0 _ hst₁) tj ?_);refine wpAny_ite ?_;split
  · rename_i h;exact absurd h (by decide)
  refine wpAny_ite ?_;split
  case isFalse h=>exact absurd (by decide +kernel) h
  refine wpAny_ite ?_;split
  · rename_i h;exact absurd h (by decide)
  refine wpAny_pure ?_;simp only [Bool.false_or];refine wpAny_ite ?_;split
  case isTrue h=>exact absurd h (by decide +kernel)
  have hS₁:(s.heap.push { cls:=.type "list",data:=.seq ([]:List Value).toArray }).get? s.heap.objs.size=some { cls:=.type "list",data:=.seq ([]:List Value).toArray }:=aaz _ rfl;refine wpAny_pure ⟨plainId_quiet F.plain_extend_loop _,codeAny_extend_loopS W hn _ hSf _ n 0 _ _ _ rfl (aaM _) hst₁ hS₁ (ItemsOf.nil P) fun s' acc' c' hm hS' hacc=>?_⟩;show wpAny _ A (load s.heap.objs.size >>= _) _ _ s';refine wpAny_bind (wpAny_load hS' ?_);refine wpAny_pure (hQ s' acc' (Moved.drop_new (o:={ cls:=.type "list",data:=.seq ([]:List Value).toArray }) (tk:=s.toks) hm (aag _)) hacc)
end
end L2
set_option maxHeartbeats 1000000
namespace L2
open PySem PySem.Spec PyProof.Rows
section
variable {X:Cx} {pos:Pos} {t u:TS}
end
open PySem PySem.Spec PyProof.Rows
theorem vE {X:Cx} {pins:List (Addr × Obj)} {σ:St} {H:Hp} {s:Shared} {a:Addr} {y v:V} {u r:Value} {A:Around} {E:Value→Shared→Prop} {H':Hp} {Q:Unit→Shared→Prop} (hu:A.units+1 < cLine) (I:Inv X pins σ H s) (g:DPut H a y v H') (ry:RelV y u) (rv:RelV v r) (h:∀ s',Inv X pins σ H' s'→Q () s') :
    wpAny (model X.prog X.w) A (dictSet a u r) Q E s:=by
  rcases g with ⟨kvs,k,e,ey,l,eH⟩|⟨kvs,k,b,e,ey,eb,l,eH⟩
  · subst ey eH;obtain ⟨z,hd,vs,rel,dd⟩:=rM I.hok e;have hz:vs.length≤sizeLine:=by rw [← rel.length];exact z
    have hl:(eJ kvs k v).length≤sizeLine:=by have:=dF kvs k v;lia
    refine wpAny_dictSet_pairs (hsz:=hz) (oE ry) dd fun h' dd' hs=>h _ ?_;have he:∃ q,h'.get? a=some q:=let ⟨q,_,_,hq,_⟩:=dd';⟨q,hq⟩;exact kT I (by rw [e];exact True.intro) hs he (rN hl hd (rel.put k rv) dd')
  · subst ey eH;cases (show u=Value.ref b from ry);obtain ⟨z,hd,xs,rel,dd⟩:=wR I.hok e;have hz:xs.length≤sizeLine:=by rw [← acg rel];exact z
    have hl:(eJ kvs k v).length≤sizeLine:=by have:=dF kvs k v;lia
    have hr:(tupleKind (ba X.prog X.w)).room A:=by show A.units < cLine;lia
    refine wpAny_dictSet_heap (hsz:=hz) hr (nz I.hok eb) dd fun h' dd' hs=>h _ ?_;obtain ⟨q,es,ep,hq,h2,h3,h4,_,h5⟩:=dd';refine kT I (by rw [e];exact True.intro) hs ⟨q,hq⟩ ⟨hl,hd,_,(rel.put k eb rv).keeps fun c ys ec=>?_,q,es,ep,hq,h2,h3,h4,h5⟩;rw [aB (wH ec e (fun z=>nomatch z))];exact ec
theorem nQ {prog:Program} {w:World} {A:Around} {R:Result→Shared→Prop} {s:Shared} {kx vx target iter:Expr} {ifs:List Expr} {scope:Scope} {pos:Pos} {it:Value} {D:Addr} {env:Env} (J:Nat→Shared→Prop)
    (turn:∀ n s,J n s→wpAny (model prog w) A (pyNext it) (fun r s₁=>match r with
      | none=>R (.ok .next) s₁
      | some v=>wpAny (model prog w) A (letOwnedTupleGo target it v) (fun _ s₁'=>wpAny (model prog w) A (assign target env v) (fun _ s₂ =>
          wpAny (model prog w) A (forIn ifs true fun c r=>if r=true then do let ok ← isTrue c env (eval c env);pure (ForInStep.yield ok) else pure (ForInStep.yield r)) (fun ok s₃ =>
            if ok=true then wpAny (model prog w) A (eval kx env) (fun kv s₄=>wpAny (model prog w) A (eval vx env) (fun vv s₅ =>
              wpAny (model prog w) A (dictSet D kv vv) (fun _ s₆=>∃ m,m < n∧J m s₆) (fun _ _=>False) s₅) (fun _ _=>False) s₄) (fun _ _=>False) s₃
            else ∃ m,m < n∧J m s₃) (fun _ _=>False) s₂) (fun _ _=>False) s₁') (fun _ _=>False) s₁) (fun _ _=>False) s)
    (n:Nat) (h:J n s) :
    codeAny (model prog w) A (.compLoop (.DictComp kx vx [⟨target,iter,ifs,0⟩] scope pos) 0 it (.ref D) env) R s:=by
  refine codeAny_loop rfl J (fun n s hI=>?_) n h;show wpAny _ A ((compTurn (.DictComp kx vx [⟨target,iter,ifs,0⟩] scope pos) 0 it (.ref D) env).onRaise (fun x=>do noteFrame x env;theTreesLotGoes x)) _ _ s;refine wpAny_noted ?_;rw [compTurn_dict];refine wpAny_bind (wpAny_standAt (wpAny_bind (wpAny_mono (turn n s hI) (fun r s₁ h₁=>?_) fun _ _ h'=>h'.elim)));cases r with
  | none=>exact wpAny_pure h₁
  | some v =>
    refine wpAny_bind (wpAny_mono h₁ (fun _ s₁' h₁'=>?_) fun _ _ h'=>h'.elim);refine wpAny_bind (wpAny_mono h₁' (fun _ s₂ h₂=>wpAny_bind (wpAny_mono h₂ (fun ok s₃ h₃=>?_) fun _ _ h'=>h'.elim)) fun _ _ h'=>h'.elim);cases ok with
    | false=>exact wpAny_pure ⟨rfl,h₃⟩
    | true =>
      exact wpAny_bind (wpAny_bind (wpAny_mono h₃ (fun kv s₄ h₄=>wpAny_bind (wpAny_holding (wpAny_mono h₄ (fun vv s₅ h₅=>wpAny_bind (wpAny_standAt (wpAny_holding (wpAny_mono h₅ (fun _ s₆ h₆=>wpAny_pure ⟨rfl,h₆⟩) fun _ _ h'=>h'.elim)))) fun _ _ h'=>h'.elim))) fun _ _ h'=>h'.elim))
abbrev w_ (cap:List (Option Nat)) (g:TG) (tt:TT) (tk tv:TE) (ob:HO) (σ:St) (Q:VK) (J:It) (H1:Hp):Prop:=∃ W:Addr→Nat→Nat→Hp→Prop,(∀ p,H1 p=none→∃ m,W p 0 m (upd H1 p ob))∧∀ p i m H,H1 p=none→W p i m H →
  (J.stop i H∧Q (.ref p) H) ∨
  (J.go i H∧∀ x H',J.yld i H x H'→g x (a6 cap σ) H' fun σ2 H2=>tt σ2 H2 fun b H3=>if b=true then tk σ2 H3 fun k H4=>tv σ2 H4 fun v H5=>∃ H6,DPut H5 p k v H6∧∃ m',m' < m∧W p (i+1) m' H6 else ∃ m',m' < m∧W p (i+1) m' H3)
def tDc (cap:List (Option Nat)) (wi:TI) (g:TG) (tt:TT) (tk tv:TE) (ob:HO):TE:=fun σ H Q=>wi σ H (w_ cap g tt tk tv ob σ Q)
section
variable {X:Cx}
end
open PySem PySem.Spec PyProof.Rows
section
variable {X:Cx}
end
end L2
namespace PySem
open Builtin Builtin.Str Builtin.Int
section
variable {prog:Program} {w:World} {A:Around} {E:Value→Shared→Prop} {s:Shared} {x:Str} {t:Tok} {Q:Value→Shared→Prop}
  {I:Addr} {fp wr:List Addr} {G:Array GenState→Array GenState→Prop} {n:Nat} {P:Nat→Value→Prop} {St:Nat→Shared→Prop}
theorem SC.joinRev (W:WalksS prog w A.in1.in1 I fp wr G n P St) (hT:∀ i s,St i s→s.TypeIs (.ref I) "list_reverseiterator") (hst:St 0 s) (hfp:∀ b∈fp,b < s.heap.objs.size) (hI:I∈fp)
    (hstr:∀ i v,P i v→∃ y u,v=Value.str y u)
    (hq:∀ s' (l:List (Str × Tok)),Moved wr G s s'→ItemsOf P (strValues l).toArray n→JoinOk x (l.map (·.1))=true∧∀ t' k,Q (.str (aci x (l.map (·.1))) t') { s' with toks:=k })
    (hsz:n≤sizeLine:=by size_fits) :
    wpAny (model prog w) A (call (.builtin "str.join") [.str x t,.ref I]) Q E s:=by
  refine wpAny_call (codeAny_call_builtin F.slot_str_join.plain F.entry_str_join (F.slot_str_join.check _ _ _ _ _ _ _ _ (typeIs_str _ _ _) (F.args_str_join_2 _ _) ?_));rw [join_tree_other];refine wpAny_bind (wpAny_typeOf (hT 0 s hst) ?_);show wpAny _ A.in1 ((pyIter (.ref I)).tryCatch _ >>= fun it=>collect it >>= fun items=>joinTail x items) _ _ s;refine wpAny_bind (wpAny_tryCatch (W.of_in1.self 0 s _ _ hst ?_));refine wpAny_bind (L2.collect_rev W hT hst hfp hI (fun s' acc hm hacc=>?_) hsz);obtain ⟨l,hl⟩:=exists_strValues acc.toList fun v hv=>by
    obtain ⟨j,hj,rfl⟩:=Array.mem_iff_getElem.mp (Array.mem_toList_iff.mp hv);exact hstr j _ (hacc.2 j _ (Array.getElem?_eq_getElem hj))
  rw [← hl];have hacc':ItemsOf P (strValues l).toArray n:=by rw [hl];simpa using hacc
  obtain ⟨hok,hpost⟩:=hq s' l hm hacc';unfold JoinOk at hok;rw [Bool.not_eq_true'] at hok;have g:Gives (joinTail x (strValues l)) (joinMade x l):=by
    have g0:=gives_joinTail x l hok;cases l with
    | nil=>exact g0
    | cons p r=>cases r with
      | nil=>exact g0
      | cons q r'=>exact g0
  exact g prog w A (wants Q E) s' (post_join l ⟨joinFit_length hok,hpost⟩)
end
end PySem
namespace L2
open PySem PySem.Spec PyProof.Rows
section
variable {X:Cx}
theorem jB:bootBuiltins "reversed" = some (.type "reversed"):=by decide +kernel
theorem mQ {e:Expr} {te:TE} {z:Str} {kz:Nat} {pz p0 rpos apos cpos:Pos} (hc:X.calm=true) (hg:Gl X "reversed") (hm:X.mg "reversed" = none) (he:PE X e te)
    (hbase:attributeBase (.Constant (.str z) kz pz) "join" X.env (eval (.Constant (.str z) kz pz) X.env)=eval (.Constant (.str z) kz pz) X.env:=by rfl)
    (hline:(apos.endLine == cpos.line)=true:=by rfl) (hs:starEach [e] X.env=[(false,eval e X.env)]:=by rfl) :
    PE X (.Call (.Attribute (.Constant (.str z) kz pz) "join" apos) [.Call (.Name "reversed" p0) [e] [] rpos] [] cpos) (fun σ H Q=>te σ H fun x H1=>∃ (p:Addr) (zs:List Str),x=.ref p∧SqL X.K H1 p (zs.map V.str)∧JoinOk z zs.reverse=true∧Q (.str (aci z zs.reverse)) H1):=by
  intro pins s σ H Q I h;refine wpAny_Call_method_late hbase rfl hline rfl (Calls.Constant_str ?_);refine ⟨"str","str.join",aaS,ab8,ab9,typeIs_str _ _ _,(fun a q=>nomatch q),?_⟩;refine abC rfl (abL ?_);show wpAny _ _ (spliced ((false,eval (.Call (.Name "reversed" p0) [e] [] rpos) X.env) :: backTo cpos (starEach [] X.env))) _ _ _;have I0:Inv X pins σ H { s with toks:=s.toks+1 }:=I.tok _;refine abQ (Call_ (f_ I0 hg hm jB (abg (thn (aa he ac hs rpos pins _ σ H (fun vs H1=>∃ (p:Addr) (zs:List Str),vs=[.ref p]∧SqL X.K H1 p (zs.map V.str)∧JoinOk z zs.reverse=true∧Q (.str (aci z zs.reverse)) H1) I0 ?_) fun us s1 ⟨vs,H1,I1,r1,p,zs,ev,hq,hok,q⟩=>?_) hs rfl)))
  · show te σ H fun x H1=>∃ (p:Addr) (zs:List Str),[x]=[V.ref p]∧_;simpa using h
  subst ev;obtain ⟨u,rfl,ru⟩:=bU r1;cases ru;obtain ⟨its,r,pl,hz⟩:=I1.list hq;obtain ⟨l,rfl,e2⟩:=dP r;refine call_reversed_list pl.isList ?_;refine abU ?_;have hlp:p < s1.heap.objs.size:=by
    obtain ⟨o,ho,_⟩:=pl.isList;exact aaj ho
  have I2:Inv X pins σ H1 { s1 with heap:=s1.heap.push (revObj p (((strValues l).toArray.size:Int) - 1)) }:=I1.kept (t':=s1.toks) fun b o e=>aaf _ e;obtain ⟨f0,f1,f2,f3,f4,f5⟩:=I1.fpOk (aag _) (I1.hok.fresh (aag s1.heap.objs.size));have hh:X.A.handled=none:=I1.ok.hd hc;have W:=(Walks.listRev (prog:=X.prog) (w:=X.w) (A:=X.A.in1.in1) hh s1.heap.objs.size p (aau hlp) (strValues l).toArray).toS;have hlen:(strValues l).toArray.size=zs.length:=by have:=r.length;simpa using this.symm
  refine SC.joinRev W (fun i s' st=>?_) ⟨aaM _,⟨_,aaz _ rfl,rfl,by rw [show (((strValues l).toArray.size:Int) - 1 - ((0:Nat):Int))=((strValues l).toArray.size:Int) - 1 by lia];rfl⟩,pl.isList.push _⟩ (fun b hb=>?_) (by simp) (fun i v hv=>?_) (fun s' l' mv items=>?_) (by rw [hlen];simpa using hz)
  · obtain ⟨o,ho,c,d⟩:=st.2.1;exact ⟨o,ho,c⟩
  · show b < (s1.heap.push _).objs.size;rw [abX];rcases aah.mp hb with rfl|hb
    · exact acb _
    · rcases aah.mp hb with rfl|hb
      · exact abV hlp
      · cases hb
  · have : v∈strValues l:=by simpa using Array.mem_of_getElem? hv
    obtain ⟨⟨y,u⟩,_,rfl⟩:=abm.mp this;exact ⟨y,u,rfl⟩
  · have e':l'.map (·.1)=zs.reverse:=by
      have hn':l'.length=zs.length:=by have:=items.1;rw [hlen] at this;simpa [strValues] using this
      refine List.ext_getElem? fun i=>?_;by_cases hi:i < zs.length
      · have hi':i < l'.length:=by lia
        have h1:(strValues l').toArray[i]?=some (.str (l'[i]).1 (l'[i]).2):=by simp [strValues,hi']
        have h2:=items.2 i _ h1;rw [hlen] at h2;have hj:zs.length - 1 - i < l.length:=by rw [← e2,aak] at hi ⊢;lia
        have h3:(strValues l).toArray[zs.length - 1 - i]?=some (.str (l[zs.length - 1 - i]).1 (l[zs.length - 1 - i]).2):=by simp [strValues,hj]
        rw [h3] at h2;have h4:(l[zs.length - 1 - i]).1=(l'[i]).1:=by
          have:=aaV h2;simp only [Value.str.injEq] at this;exact this.1
        have h5:zs[zs.length - 1 - i]?=some (l[zs.length - 1 - i]).1:=by
          have : (l.map (·.1))[zs.length - 1 - i]?=some (l[zs.length - 1 - i]).1:=by rw [aaJ,aar hj];rfl
          rw [e2] at this;exact this
        rw [List.getElem?_reverse hi,h5,aaJ,aar hi',h4];rfl
      · rw [ab3 (by simp;lia),ab3 (by simp;lia)]
    rw [e'];refine ⟨hok,fun t' k=>⟨.str _,H1,?_,⟨_,rfl⟩,q⟩⟩;have I3:=I2.turned (t':=k) (h':=s'.heap) (it:=s1.heap.objs.size) (fun b o hb e=>mv.heap b o (by simpa using hb) e) f0 f1 f3 f4 f5;have hg:=mv.gens;have hd:=mv.drawn;have ho:=mv.os;obtain ⟨a1,a2,a3,a4,a5⟩:=s';simp only at hg hd ho;subst hg hd ho;exact I3
end
open PySem PySem.Spec PyProof.Rows
section
variable {X:Cx}
theorem gb:∀ {l:List (Str × Tok)} {zs:List Str},l.map (·.1)=zs→Vals (zs.map V.str) (strValues l)
  | [],_,e=>by subst e;exact .nil
  | (z,t) :: l,_,e=>by subst e;exact .cons ⟨t,rfl⟩ (gb rfl)
theorem qr {prog:Program} {w:World} {A:Around} {E:Value→Shared→Prop} {s:Shared} {x y:Str} {t u:Tok} {Q:Value→Shared→Prop} (hy:(y.length == 0)=false) (hsz:x.length≤sizeLine)
    (hsz2:(abu x (aa5 x y 0 x.length (x.length+1)) y.length).length≤sizeLine)
    (hq:∀ (l:List (Str × Tok)) k,l.map (·.1)=abS x y→Q (.ref s.heap.objs.size) { s with heap:=s.heap.push { cls:=.type "list",data:=.seq (strValues l).toArray },toks:=k }) :
    wpAny (model prog w) A (call (.builtin "str.split") [.str x t,.str y u]) Q E s:=by
  cases h1:(decide (x.length < y.length) || decide (Builtin.Str.strKind x < Builtin.Str.strKind y))
  · cases hf:(aa5 x y 0 x.length (x.length+1)).isEmpty
    · refine call_meets F.slot_str_split (typeIs_str _ _ _) F.entry_str_split (F.args_str_split_2 _ _) (meets_str_split_sep x y t u h1 hy hf hsz hsz2) ?_;show wants Q E _ { s with toks:=_,heap:=s.heap.push { cls:=.type "list",data:=.seq (strsFrom s.toks (abu x (aa5 x y 0 x.length (x.length+1)) y.length)).toArray } };rw [strsFrom_eq];exact hq (numbered s.toks _) _ ((numbered_texts _ _).trans ((if_neg (ne_true_of_eq_false h1)).trans (if_neg (ne_true_of_eq_false hf))).symm)
    · exact call_meets F.slot_str_split (typeIs_str _ _ _) F.entry_str_split (F.args_str_split_2 _ _) (meets_str_split_not_found x y t u h1 hy hf)
        (hq [(x,t)] s.toks ((if_neg (ne_true_of_eq_false h1)).trans (if_pos hf)).symm)
  · exact call_meets F.slot_str_split (typeIs_str _ _ _) F.entry_str_split (F.args_str_split_2 _ _) (meets_str_split_cannot_occur x y t u h1)
      (hq [(x,t)] s.toks (if_pos h1).symm)
theorem gv:MtR X "str.split" (fun x vs H Q=>∃ z y,x=.str z∧vs=[.str y]∧(y.length == 0)=false∧z.length≤sizeLine∧(abS z y).length≤sizeLine ∧
    (abu z (aa5 z y 0 z.length (z.length+1)) y.length).length≤sizeLine∧∀ p,H p=none→Q (.ref p) (upd H p (.lst ((abS z y).map V.str)))):=by
  intro pins s σ H x vs v us Q I rx rv h;obtain ⟨z,y,rfl,rfl,hy,hz,hl,hp,q⟩:=h;obtain ⟨t,rfl⟩:=rx;obtain ⟨u,rfl,ru⟩:=bU rv;obtain ⟨t2,rfl⟩:=ru;refine qr hy hz hp fun l k e=>?_;exact ⟨.ref s.heap.objs.size,_,I.laid (t':=k) (fun b o e=>aaf _ e) (aag _) (show ObjOk X.prog X.w _ _ _ (.lst ((abS z y).map V.str)) from ⟨by rw [aak];exact hl,strValues l,0,gb e,aaz _ rfl⟩),rfl,q _ (I.hok.fresh (aag _))⟩
theorem uR {e1 e2:Expr} {t1 t2:TE} {a:Str} {ja:Nat} {pa p1 p2 pos:Pos} (h1:PE X e1 t1) (h2:PE X e2 t2) :
    PE X (.JoinedStr [.FormattedValue e1 (-1) none p1,.Constant (.str a) ja pa,.FormattedValue e2 (-1) none p2] pos)
      (fun σ H Q=>t1 σ H fun x H1=>∃ i:Int,x=.int i∧i.natAbs.log2 < 1920∧(abq (toString i)).length≤sizeLine∧(abq (toString i)++a).length≤sizeLine∧t2 σ H1 fun y H2=>∃ j:Int,y=.int j∧j.natAbs.log2 < 1920∧(abq (toString i)++a++abq (toString j)).length≤sizeLine∧Q (.str (abq (toString i)++a++abq (toString j))) H2):=by
  intro pins s σ H Q I h;refine wpAny_JoinedStr ?_;show wpAny _ _ (eval (.FormattedValue e1 (-1) none p1) X.env) _ _ s;refine wpAny_FormattedValue_plain (thn (h1 pins s σ H _ I h) fun v1 s1 ⟨x1,H1,I1,r1,i,ei,hi,l1,l2,q1⟩=>?_);subst ei;obtain ⟨k1,rfl⟩:=r1;refine wpAny_formatField_int hi ?_;refine ⟨abq (toString i),_,rfl,by rw [iA];exact l1,?_⟩;rw [iA];show wpAny _ _ (eval (.Constant (.str a) ja pa) X.env) _ _ _;have I1':=I1.tok (s1.toks+1+1);refine thn (aj pins _ σ H1 (fun x H2=>x=.str a∧H2=H1) I1' ⟨rfl,rfl⟩) fun v2 s2 ⟨x2,H2,I2,r2,⟨e3,e4⟩⟩=>?_;subst e3 e4;obtain ⟨k2,rfl⟩:=r2;refine ⟨a,k2,rfl,l2,?_⟩;show wpAny _ _ (eval (.FormattedValue e2 (-1) none p2) X.env) _ _ s2;refine wpAny_FormattedValue_plain (thn (h2 pins s2 σ H2 _ I2 q1) fun v3 s3 ⟨x3,H3,I3,r3,j,ej,hj,l3,q3⟩=>?_);subst ej;obtain ⟨k3,rfl⟩:=r3;refine wpAny_formatField_int hj ?_;exact ⟨abq (toString j),_,rfl,l3,l3,.str _,H3,I3.tok _,⟨_,rfl⟩,q3⟩
theorem rX {y:Str} {l:List (Str × Tok)}:(strValues l).countP (eqU (.str y))=(l.map (·.1)).countP (fun z=>decide (z=y)):=by
  induction l with
  | nil=>rfl
  | cons p r ih =>
    obtain ⟨z,t⟩:=p;show (Value.str z t :: strValues r).countP (eqU (.str y))=_;rw [List.countP_cons,ih,aax,List.countP_cons];have e:eqU (.str y) (.str z t)=decide (z=y):=by
      have e1:eqU (.str y) (.str z t)=(z == y):=rfl;rw [e1,abd,beq_iff_eq,decide_eq_true_eq]
    rw [e]
theorem jL (zs:List Str):(zs.map V.str).all dZ=true:=by
  rw [ab1,aay];intro z _;rfl
theorem pF:MtR X "list.count" (fun x vs H Q=>∃ (l:Addr) (zs:List Str) (y:Str),x=.ref l∧vs=[.str y]∧SqL X.K H l (zs.map V.str)∧Q (.int (zs.countP (fun z=>decide (z=y)):Nat)) H):=by
  intro pins s σ H x vs v us Q I rx rv h;obtain ⟨l,zs,y,rfl,rfl,hq,q⟩:=h;cases rx;obtain ⟨u,rfl,ru⟩:=bU rv;obtain ⟨ty,rfl⟩:=ru;obtain ⟨its,r,⟨o,n,ho,hc,hs,hd⟩,hz⟩:=I.list hq;obtain ⟨ls,rfl,e2⟩:=dP r;obtain ⟨oc,od,dat,sl⟩:=o;cases (show oc=_ from hc);cases (show dat=_ from hd);refine call_meets F.slot_list_count ⟨_,ho,rfl⟩ F.entry_list_count (F.args_list_count_2 _ _) (SeqAt.list_countAt l (strValues ls).toArray n od sl (.str y ty) (eqU (.str y))) ⟨ho,fun w hw=>?_,?_⟩
  · exact fu (x:=.str y) ⟨ty,rfl⟩ rfl r (jL zs) w (by simpa using hw)
  · have e:(strValues ls).countP (eqU (.str y))=zs.countP (fun z=>decide (z=y)):=by rw [rX,e2]
    refine ⟨.int (zs.countP (fun z=>decide (z=y)):Nat),H,I.tok _,⟨s.toks,?_⟩,q⟩;show Value.int (((strValues ls).toArray.toList.countP (eqU (.str y)):Nat):Int) s.toks=_;rw [show (strValues ls).toArray.toList=strValues ls from rfl,e]
theorem pA:MtR X "list.index" (fun x vs H Q=>∃ (l:Addr) (zs:List Str) (y:Str) (j:Nat),x=.ref l∧vs=[.str y]∧SqL X.K H l (zs.map V.str)∧zs[j]?=some y∧(∀ m,m < j→zs[m]?≠some y)∧zs.length≤1000∧Q (.int (j:Nat)) H):=by
  intro pins s σ H x vs v us Q I rx rv h;obtain ⟨l,zs,y,j,rfl,rfl,hq,hj,hb,hl,q⟩:=h;cases rx;obtain ⟨u,rfl,ru⟩:=bU rv;obtain ⟨ty,rfl⟩:=ru;obtain ⟨its,r,⟨o,n,ho,hc,hs,hd⟩,hz⟩:=I.list hq;obtain ⟨ls,rfl,e2⟩:=dP r;obtain ⟨oc,od,dat,sl⟩:=o;cases (show oc=_ from hc);cases (show dat=_ from hd);have hjl:j < zs.length:=(aaB.mp hj).1;have hls:ls.length=zs.length:=by rw [← e2,aak]
  have at_:∀ m (hm:m < ls.length),eqU (.str y) ((strValues ls)[m]'(by simpa [strValues] using hm))=decide (zs[m]?=some y):=fun m hm=>by
    have h1:(strValues ls)[m]'(by simpa [strValues] using hm)=Value.str (ls[m]).1 (ls[m]).2:=by simp [strValues]
    have h2:zs[m]?=some (ls[m]).1:=by rw [← e2,aaJ,aar hm];rfl
    rw [h1,h2];have e1:eqU (.str y) (.str (ls[m]).1 (ls[m]).2)=((ls[m]).1 == y):=rfl;rw [e1,abd,beq_iff_eq,decide_eq_true_eq,Option.some.injEq]
  refine call_meets F.slot_list_index ⟨_,ho,rfl⟩ F.entry_list_index (F.args_list_index_2 _ _) (SeqAt.list_indexAt l (strValues ls).toArray n od sl (.str y ty) (eqU (.str y)) j (by simpa [strValues] using (show j < ls.length by lia)) (by lia) ?_ ?_) ⟨ho,fun w hw=>?_,?_⟩
  · have:=at_ j (by lia);simpa [hj] using this
  · intro m hm hmj;have:=at_ m (by lia);simpa [hb m hmj] using this
  · exact fu (x:=.str y) ⟨ty,rfl⟩ rfl r (jL zs) w (by simpa using hw)
  · exact ⟨.int (j:Nat),H,I.tok _,⟨_,rfl⟩,q⟩
theorem mS (hu:X.A.units+64 < cLine):OpR X (compareOp .In) (fun x y H Q=>∃ p xs,x=.non∧y=.ref p∧SqL X.K H p xs∧(∀ v∈xs,∃ a ys,v=.ref a∧H a=some (.tup ys))∧Q (.bl false) H):=by
  intro pins s σ H x y v u Q I rx ry h;obtain ⟨p,xs,rfl,rfl,hq,ha,q⟩:=h;cases rx;cases ry;obtain ⟨its,r,pl,hz⟩:=I.list hq;have hall:∀ w∈its,∃ a,w=.ref a∧∃ items,s.heap.IsTuple a items:=by
    have key:∀ {xs:List V} {its:List Value},Vals xs its→(∀ v∈xs,∃ a ys,v=.ref a∧H a=some (.tup ys))→∀ w∈its,∃ a,w=.ref a∧∃ items,s.heap.IsTuple a items:=by
      intro xs its r
      induction r with
      | nil=>intro _ w hw;cases hw
      | @cons v' u' vs us h t ih =>
        intro hv w hw;rcases aah.mp hw with rfl|hw
        · obtain ⟨a,ys,rfl,e⟩:=hv v' aav;cases (show w=Value.ref a from h);obtain ⟨_,its',_,e'⟩:=(show ObjOk X.prog X.w H s.heap a (.tup ys) from I.hok a _ e)
          exact ⟨a,rfl,_,e'⟩
        · exact ih (fun v hv'=>hv v (aat _ hv')) w hw
    exact key r ha
  refine SeqAt.in_listAt (fun _=>false) pl.isList (fun w hw=>?_) ⟨.bl _,H,I,rfl,?_⟩
  · obtain ⟨a,rfl,items,e⟩:=hall w (by simpa using hw);exact SeqAt.EqAt.tuple_none e (by show X.A.units+1 < cLine;lia)
  · rw [show its.toArray.any (fun _=>false)=false by simp];exact q
end
open PySem PySem.Spec PyProof.Rows
section
variable {X:Cx} {pins:List (Addr × Obj)} {σ:St} {H:Hp} {s:Shared} {A:Around} {Q:Value→Shared→Prop} {E:Value→Shared→Prop} {b:Bool}
end
section
variable {X:Cx} {a b c d:Expr} {ta tb tc td:TE} {pos:Pos}
def sy (r r' r'':R2) (ta tb tc td:TE):TE:=fun σ H Q=>ta σ H fun x H1=>tb σ H1 fun y H2=>r x y H2 fun z H3=>∃ k,z=.bl k ∧
  (if k=true then tc σ H3 fun w' H4=>r' y w' H4 fun z' H5=>∃ k',z'=.bl k'∧(if k'=true then td σ H5 fun w'' H6=>r'' w' w'' H6 Q else Q (.bl false) H5) else Q (.bl false) H3)
theorem o7 {op op' op'':CmpOp} {r r' r'':R2} (ho:OpR X (compareOp op) r) (ho':OpR X (compareOp op') r') (ho'':OpR X (compareOp op'') r'') (ha:PE X a ta) (hb:PE X b tb) (hc:PE X c tc) (hd:PE X d td)
    (hm:lastMarks [op,op',op''] [b,c,d]=false:=by with_unfolding_all rfl):PE X (.Compare a [op,op',op''] [b,c,d] pos) (sy r r' r'' ta tb tc td):=by
  intro pins s σ H Q I h;refine Compare_chain (thn (ha pins s σ H _ I h) fun v s1 ⟨x,H1,I1,r1,q1⟩=>chain_link (thn (hb pins s1 σ H1 _ I1 q1) fun u s2 ⟨y,H2,I2,r2,q2⟩ =>
    thn (ho pins s2 σ H2 x y v u _ I2 r1 r2 q2) fun d s3 ⟨z,H3,I3,r3,k,e,q3⟩=>?_)) hm
  subst e;cases r3;refine wpAny_truthy_bool ?_;cases k with
  | false=>exact ite_ff ⟨.bl false,H3,I3,rfl,q3⟩
  | true =>
    refine ite_tt (chain_link (thn (hc pins s3 σ H3 _ I3 q3) fun w' s4 ⟨z',H4,I4,r4,q4⟩=>thn (ho' pins s4 σ H4 y z' u w' _ I4 r2 r4 q4) fun d' s5 ⟨z2,H5,I5,r5,k2,e2,q5⟩=>?_));subst e2;cases r5;refine wpAny_truthy_bool ?_;cases k2 with
    | false=>exact ite_ff ⟨.bl false,H5,I5,rfl,q5⟩
    | true=>exact ite_tt (chain_last (thn (hd pins s5 σ H5 _ I5 q5) fun w'' s6 ⟨z3,H6,I6,r6,q6⟩=>ho'' pins s6 σ H6 z' z3 w' w'' Q I6 r4 r6 q6))
end
section
variable {X:Cx}
theorem ww {ob:HO} {kx vx tg iter:Expr} {ifs:List Expr} {scope:Scope} {pos:Pos} {cl:List (Str × Addr)} {NY:List Str} {cap:List (Option Nat)} {wi:TI} {g:TG} {tt:TT} {tk tv:TE} (hob:ob=.dK []∨ob=.dT []) (hu:X.A.units+1 < cLine) (hc:X.calm=true) (hi:PI X tg iter wi)
    (hclos:closureFor scope X.env=pure cl) (hci:CellsIn X.env cl) (hcap:CapOk X.env (relabel scope X.env) X.N NY cap)
    (hb:∀ fp s H C,PG (ai X scope cl NY fp s H C) tg g∧kZ (ai X scope cl NY fp s H C) ifs tt∧PE (ai X scope cl NY fp s H C) kx tk∧PE (ai X scope cl NY fp s H C) vx tv)
    (hkind:scope.kind=.function:=by rfl) (hnc:(scope.names.all fun y=>y.2 != .cell)=true:=by rfl)
    (hnames:(scope.names.all fun y=>y.2 != .local || scope.names.lookup y.1 == some .local)=true:=by rfl)
    (hhas:((relabel scope X.env).names.all fun p=>(p.2 != .cell && p.2 != .free) || (cl.lookup p.1).isSome)=true:=by rfl)
    (hs:∀ x,foldedSetIterable iter X.env x=pure x:=by intro _;rfl) :
    PE X (.DictComp kx vx [⟨tg,iter,ifs,0⟩] scope pos) (tDc cap wi g tt tk tv ob):=by
  have hnc':∀ y∈scope.names,y.2≠.cell:=fun y hy=>by
    have q:=aay.mp hnc y hy;simpa using q
  have hnames':∀ y∈scope.names,y.2=.local→scope.names.lookup y.1=some .local:=fun y hy e=>by
    have q:=aay.mp hnames y hy;rw [e] at q;simpa using q
  intro pins s σ H Q I h;rw [arm_eval_DictComp];refine wpAny_comprehension_free (use:=none) rfl hs hclos hkind hnames' (wpAny_mono (hi pins s σ H _ I h) (fun v s1 h1=>wpAny_mono h1 (fun itv s2o h2=>?_) fun _ _ e=>e) fun _ _ e=>e);obtain ⟨it,fp,tn,J,H2o,e,I2o,T,st2o,f2o,W,w00,turn⟩:=h2;subst e;have freshO:H2o s2o.heap.objs.size=none:=I2o.hok.fresh (aag _);obtain ⟨m0,w0⟩:=w00 _ freshO;have obk:ObjOk X.prog X.w (upd H2o s2o.heap.objs.size ob) (s2o.heap.push { cls:=.type "dict",data:=.dict #[] }) s2o.heap.objs.size ob:=by
    rcases hob with rfl|rfl
    · exact ji s2o.heap I2o.big
    · exact rJ s2o.heap I2o.big
  have I2:=I2o.laid (a:=s2o.heap.objs.size) (o:=ob) (h':=s2o.heap.push { cls:=.type "dict",data:=.dict #[] }) (t':=s2o.toks) (fun _ _ q=>aaf _ q) (aag _) obk;have st2:tn 0 (s2o.heap.push { cls:=.type "dict",data:=.dict #[] }):=T.keep _ _ _ st2o fun b _ o e=>aaf _ e;have f2:∀ b∈fp,gC X pins (upd H2o s2o.heap.objs.size ob) b:=fun b hb=>by
    obtain ⟨h1,h2⟩:=f2o b hb;refine ⟨?_,h2⟩;rw [aB (fun z=>?_)]
    · exact h1
    · obtain ⟨o,e,_⟩:=T.obj _ _ st2o b hb;exact absurd (aaj e) (by rw [z];exact aaT _)
  refine wpAny_newObj_type ?_;have hsz0:(s2o.heap.push { cls:=.type "dict",data:=.dict #[] }).objs.size=s2o.heap.objs.size+1:=abX _ _;generalize hs2:({ s2o with heap:=s2o.heap.push { cls:=.type "dict",data:=.dict #[] } }:Shared)=s2 at I2 st2 ⊢;generalize hHH:upd H2o s2o.heap.objs.size ob=H2 at I2 f2 w0;have hDs:s2.heap.objs.size=s2o.heap.objs.size+1:=by rw [← hs2];exact hsz0
  have st2:tn 0 s2.heap:=by rw [← hs2];exact st2
  generalize hDD:s2o.heap.objs.size=DD at freshO w0 hDs ⊢;refine wpAny_newFunctionEnv hnc' (by intro y hy;simp at hy) (fun h₁ hns₁ hsb₁=>?_) hkind
  try dsimp only at hns₁ hsb₁ ⊢
  generalize hG2:s2.heap=G2 at hns₁ hsb₁ ⊢;have hDlt:s2.heap.objs.size≤G2.objs.size:=by rw [hG2];exact aag _
  have below:∀ b,b < s2.heap.objs.size→b≠G2.objs.size:=fun b hb=>by rw [← hG2];exact aau hb
  have old:∀ b o,s2.heap.get? b=some o→h₁.get? b=some o:=fun b o e=>hsb₁.extBut b o (below b (aaj e)) (aaf _ (hG2 ▸ e));have fpl:∀ b∈fp,b < s2.heap.objs.size:=fun b hb=>by
    obtain ⟨o,e,_⟩:=T.obj _ _ st2 b hb;exact aaj e
  have freshC:H2 G2.objs.size=none:=I2.hok.fresh hDlt;have cellLt:∀ x c,X.env.cells.lookup x=some c→c < s2.heap.objs.size:=fun x c e=>by
    obtain ⟨v,q⟩:=I2.cell x c e;exact q.lt
  have hclX:∀ x c,cl.lookup x=some c→X.env.cells.lookup x=some c:=fun x c e=>hci.get e;obtain ⟨hbg,hbt,hbk,hbv⟩:=hb fp s2 H2 G2.objs.size;have okY:(ai X scope cl NY fp s2 H2 G2.objs.size).Ok:=by
    refine ⟨I2.ok.mod,hkind,I2.ok.glob,I2.ok.blt,hDlt,fun x y c e1 e2=>I2.ok.inj x y c (hclX x c e1) (hclX y c e2),fun x hx=>?_,fun x c hf _=>?_,I2.ok.hd,I2.ok.frames,.inl rfl,fun b hb=>⟨(below b (fpl b hb)),fun x c e z=>?_⟩,I2.bs,
      aaZ I2.ok.bsz I2.sz,fun b o e hb=>?_,fun b hb hz=>?_,I2.stack,I2.stkFree⟩
    · have hx':(relabel scope X.env).names.lookup x=some .cell∨(relabel scope X.env).names.lookup x=some .free:=hx;have key:∀ k,(relabel scope X.env).names.lookup x=some k→(k=.cell∨k=.free)→∃ c,cl.lookup x=some c:=fun k e hk=>by
        have q:=aay.mp hhas (x,k) (aaW e);have q':(cl.lookup x).isSome=true:=by
          rcases hk with rfl|rfl <;> simpa using q
        exact aba.mp q'
      rcases hx' with e|e
      · exact key _ e (.inl rfl)
      · exact key _ e (.inr rfl)
    · exact absurd (show false=true from hf) aai
    · exact (f2 b hb).2.2.2.2.1 x c (hclX x c e) z
    · rcases (f2 b hb).2.2.2.1 with z|z
      · exact I2.ok.noex b o e z
      · exact absurd (aaq (aaj (I2.ok.bs b o e).1) z) (aaT _)
    · rcases aah.mp (I2.stkSub b hz) with z|z
      · exact (f2 b hb).2.1 z
      · exact (f2 b hb).2.2.1 z
  have fpYs:∀ {H':Hp},(∀ b∈fp,H' b=none)→∀ b∈fp,gC (ai X scope cl NY fp s2 H2 G2.objs.size) [] H' b:=fun {H'} hn b hb=>by
    refine ⟨hn b hb,(below b (fpl b hb)),fun hz=>?_,.inl hb,fun x c e=>(f2 b hb).2.2.2.2.1 x c (hclX x c e),fun p hp=>?_⟩
    · rcases aah.mp (I2.stkSub b hz) with z|z
      · exact (f2 b hb).2.1 z
      · exact (f2 b hb).2.2.1 z
    · exact absurd hp (by simp [ai])
  have nostk:∀ b,s2.heap.objs.size≤b→b∉frs X.stack:=fun b hb hz=>by
    rcases aah.mp (I2.stkSub b hz) with z|z
    · have:=I2.lt;rw [← z] at this;exact absurd (aaq this hb) (aaT _)
    · exact I2.nofs hb z
  have IY0:Inv (ai X scope cl NY fp s2 H2 G2.objs.size) [] (a6 cap σ) H2 { s2 with heap:=h₁,toks:=s2.toks+([]:List (Str × Value)).length }:=by
    refine ⟨okY,rfl,I2.bare,Un.kept old,⟨_,hns₁,fun j x v e1 e2 e3=>?_⟩,fun x c e=>?_,freshC,fun x c e=>I2.freeC x c (hclX x c e),fun p hp=>?_,I2.hok.kept old,?_⟩
    · obtain ⟨i,h1,h2,h3,h4⟩:=CapOk.get (σ:=σ) hcap e1 e2;obtain ⟨m,hn,hl⟩:=I2.loc;have vis:Vis X.env.scope x:=by rcases h3 with z|z;exact .inr (.inl z);exact .inr (.inr z)
      obtain ⟨u,r,l⟩:=hl i x v h1 h2 vis;refine ⟨u,r,.inr ⟨h4,?_⟩⟩;rcases l with ⟨k,_⟩|⟨_,c,e,z⟩
      · rcases h3 with z|z <;> (rw [k] at z;cases z)
      · obtain ⟨c',e'⟩:=okY.has x h4;have e':cl.lookup x=some c':=e';have e'':=hclX x c' e';rw [e] at e'';cases e'';obtain ⟨o,ho,hd⟩:=z;exact ⟨c,e',o,old _ _ ho,hd⟩
    · obtain ⟨v,o,ho,hd⟩:=I2.cell x c (hclX x c e);exact ⟨v,o,old _ _ ho,hd⟩
    · exact absurd hp (by simp [ai])
    · show (a6 cap σ).length=NY.length;unfold a6;rw [aak];exact hcap.len
  have hcY:(ai X scope cl NY fp s2 H2 G2.objs.size).calm=true:=hc;have stW:tn 0 h₁:=T.keep _ _ _ st2 fun b _ o e=>old b o e;have loop:∀ s₃:Shared,s₃={ s2 with heap:=h₁,toks:=s2.toks+([]:List (Str × Value)).length } →
      codeAny (model X.prog X.w) X.A (.compLoop (.DictComp kx vx [⟨tg,iter,ifs,0⟩] scope pos) 0 (.ref it) (.ref DD) (compEnvC scope cl G2.objs.size X.env))
        (compPost (model X.prog X.w) X.A X.xe none (EP X pins σ Q) (.ref DD) G2.objs.size) s₃:=by
    rintro s₃ rfl;refine nQ (fun n s'=>∃ i H',Inv (ai X scope cl NY fp s2 H2 G2.objs.size) [] (a6 cap σ) H' s'∧tn i s'.heap∧(∀ b∈fp,H' b=none)∧W DD i n H') ?_ m0
      ⟨0,H2,IY0,stW,fun b hb=>(f2 b hb).1,w0⟩
    rintro n s3 ⟨i,H3,I3,st3,fr3,w3⟩;rcases turn DD i n H3 freshO w3 with ⟨stop,qn⟩|⟨go,step⟩
    · refine wpAny_mono (T.done (ai X scope cl NY fp s2 H2 G2.objs.size) rfl rfl rfl hcY i _ s3 _ H3 (fun _ _=>False) I3 (fpYs fr3) st3 stop) (fun r s4 ⟨hr,I4⟩=>?_) fun _ _ z=>z;subst hr;obtain ⟨m,hnC,_⟩:=id I4.loc;have hnC:s4.heap.Ns G2.objs.size m:=hnC;have un:Un (frs X.stack) fp H2 H3 s2.heap s4.heap:=I4.base;have I5:Inv X pins σ H3 s4:=I2.call' (ch:=fp) I4.os un I4.hok I4.bare fun b hb=>⟨(f2 b hb).2.2.2.1,(f2 b hb).2.1,(f2 b hb).2.2.2.2.1,(f2 b hb).2.2.2.2.2⟩
      have cC:H3 G2.objs.size=none:=I4.free;have szX:X.s₀.heap.objs.size≤s2.heap.objs.size:=I2.sz;refine ⟨m,hnC,fun h' hsb=>?_⟩;have I6:Inv X pins σ H3 { s4 with heap:=h' }:=I5.turned (t':=s4.toks) (it:=G2.objs.size) (fun b o hb e=>hsb.extBut b o hb e) cC (abn (aaq I2.lt hDlt)) (.inr (aaZ szX hDlt))
        (fun x c e z=>absurd (cellLt x c e) (by rw [z];exact abW.mpr hDlt)) (fun p hp z=>absurd (aaj (I2.pin p hp).1) (by rw [z];exact abW.mpr hDlt))
      exact ⟨.ref DD,H3,I6,rfl,qn⟩
    · refine wpAny_mono (T.item (ai X scope cl NY fp s2 H2 G2.objs.size) rfl rfl rfl hcY i _ s3 _ H3 (fun _ _=>False) I3 (fpYs fr3) st3 go) (fun r s4 ⟨u,hr,h4⟩=>?_) fun _ _ z=>z;subst hr;refine wpAny_mono h4 (fun _ s5 ⟨x,H5,I5,r5,y5,st5,fr5⟩=>?_) fun _ _ z=>z;have I5':=I5.pinned (fpYs fr5) (T.obj _ _ st5);refine wpAny_mono (hbg _ s5 _ H5 x u _ I5' r5 (step x H5 y5)) (fun _ s6 ⟨σ6,H6,I6,q6⟩=>?_) fun _ _ z=>z;refine wpAny_mono (hbt _ s6 σ6 H6 _ I6 q6) (fun ok s7 ⟨H7,I7,q7⟩=>?_) fun _ _ z=>z;have lenY:∀ {σ':St} {pn} {H'} {s'},Inv (ai X scope cl NY fp s2 H2 G2.objs.size) pn σ' H' s'→(a6 cap σ).length=σ'.length:=fun {σ' pn H' s'} Z=>IY0.len.trans Z.len.symm;have captured:∀ {σ':St} {pn} {H'} {s'},Inv (ai X scope cl NY fp s2 H2 G2.objs.size) pn σ' H' s'→Inv (ai X scope cl NY fp s2 H2 G2.objs.size) pn (a6 cap σ) H' s':=fun {σ' pn H' s'} Z=>by
        refine ⟨Z.ok,Z.os,Z.bare,Z.base,?_,Z.cell,Z.free,Z.freeC,Z.pin,Z.hok,IY0.len⟩;obtain ⟨m,hn,_⟩:=Z.loc;refine ⟨m,hn,fun j x v e1 e2 e3=>?_⟩;obtain ⟨i',h1,h2,h3,h4⟩:=CapOk.get (σ:=σ) hcap e1 e2;obtain ⟨m',hn',hl⟩:=I2.loc;have vis:Vis X.env.scope x:=by rcases h3 with z|z;exact .inr (.inl z);exact .inr (.inr z)
        obtain ⟨u,r,l⟩:=hl i' x v h1 h2 vis;refine ⟨u,r,.inr ⟨h4,?_⟩⟩;rcases l with ⟨kk,_⟩|⟨_,c,e,z⟩
        · rcases h3 with z|z <;> (rw [kk] at z;cases z)
        · obtain ⟨c',e'⟩:=okY.has x h4;have e':cl.lookup x=some c':=e';have e'':=hclX x c' e';rw [e] at e'';cases e'';obtain ⟨o,ho,hd⟩:=z;have nfp:c∉fp:=fun hz=>(f2 c hz).2.2.2.2.1 x c e rfl;obtain ⟨sl,q⟩:=Z.base.any (show s2.heap.get? c=some o from ho) (I2.freeC x c e) nfp;exact ⟨c,e',_,q,hd⟩
      have again:∀ {σ':St} {H':Hp} {s':Shared},Inv (ai X scope cl NY fp s2 H2 G2.objs.size) ([]++bf fp s5.heap) σ' H' s' →
          (∃ m',m' < n∧W DD (i+1) m' H')→∃ m,m < n∧∃ i H',Inv (ai X scope cl NY fp s2 H2 G2.objs.size) [] (a6 cap σ) H' s'∧tn i s'.heap∧(∀ b∈fp,H' b=none)∧W DD i m H':=fun {σ' H' s'} Z hw=>by
        obtain ⟨m',hm,w'⟩:=hw;refine ⟨m',hm,i+1,H',captured Z.unpinned,T.keep _ _ _ st5 fun b hb o e=>(Z.pin (b,o) (aab _ (aab _ (bh hb e)))).1,fun b hb=>?_,w'⟩;obtain ⟨o,e,d⟩:=T.obj _ _ st5 b hb;exact (Z.pin (b,o) (aab _ (aab _ (bh hb e)))).2.1
      cases ok with
      | false =>
        rw [if_neg aai] at q7 ⊢;exact again I7 q7
      | true =>
        rw [if_pos rfl] at q7 ⊢;refine wpAny_mono (hbk _ s7 σ6 H7 _ I7 q7) (fun kv s8 ⟨k,H8,I8,r8,q8⟩=>?_) fun _ _ z=>z;refine wpAny_mono (hbv _ s8 σ6 H8 _ I8 q8) (fun vv s9 ⟨v,H9,I9,r9,H10,put,q9⟩=>?_) fun _ _ z=>z;exact vE (X:=ai X scope cl NY fp s2 H2 G2.objs.size) (A:=X.A) hu I9 put r8 r9 fun s10 I10=>again I10 q9
  exact codeAny_compStart_dict (loop _ rfl) (T.self _ 0 _ _ _ stW (loop _ rfl))
end
open PySem PySem.Spec PyProof.Rows
def mf (z:Str):It :=
  ⟨fun i _=>i < z.cps.size,fun i H x H'=>∃ p c,H p=none∧x=.ref p∧z.cps[i]?=some c∧H'=upd H p (.tup [.int i,.str ⟨#[c]⟩]),fun i _=>i=z.cps.size⟩
theorem mw {P:Program} {w:World} {K:aaa} {elts:List Expr} {k:Nat} {pos:Pos} (z:Str) (t:Tok) (e it:Addr) (hei:e≠it):Turn P w K (.Tuple elts k pos) (mf z) [e,it] e (fun i h=>(∃ old,IsEnum h e it i old)∧h.IsStrIter it "str_ascii_iterator" z t i) where
  mem:=by simp
  obj:=fun i h st b hb=>by
    obtain ⟨⟨old,he⟩,o,e1,c,d⟩:=st;rcases aah.mp hb with z|z
    · subst z;exact ⟨_,he,fun v z=>by cases z⟩
    · have z:b=it:=by simpa using z
      subst z;exact ⟨o,e1,fun v z=>by rw [d] at z;cases z⟩
  keep:=fun i h h' st kp=>by
    obtain ⟨⟨old,he⟩,o,e1,r⟩:=st;exact ⟨⟨old,kp e (by simp) _ he⟩,o,kp it (by simp) o e1,r⟩
  item:=by
    intro X hP hw hK hc i pins s σ H E I hf st hg;subst hP hw hK;have hg:i < z.cps.size:=hg;obtain ⟨⟨old,he⟩,hit⟩:=st;have helt:e < s.heap.objs.size:=aaj he;have hilt:it < s.heap.objs.size:=by obtain ⟨_,x,_⟩:=hit;exact aaj x
    refine wpAny_pyNext_enum_itemD (Draws.strAscii (A:=X.A.in1) (I.ok.hd hc) it z t) he hit hg hei (by simpa using hei) fun x h' tk hPx ho hit' hT hsz hk=>?_;obtain ⟨c,u,hcz,rfl⟩:=hPx;refine ⟨_,rfl,wpAny_letOwnedTupleGo_enum ho fun h'' he' hs'=>?_⟩;have hs2:ab0 e h' h'':=hs';have keep:∀ b o,b∉[e,it]→s.heap.get? b=some o→h''.get? b=some o:=fun b o hb q=>by
      have b1:b≠e:=fun z=>hb (by simp [z]);have b2:b≠it:=fun z=>hb (by simp [z]);exact (hs2.2 b b1).trans (hk b o b1 b2 q)
    have I1:Inv X pins σ H { s with heap:=h'',toks:=tk+1 }:=I.turnedL keep hf;have gT:h''.get? s.heap.objs.size=some { cls:=.type "tuple",data:=.seq #[.int i tk,.str ⟨#[c]⟩ u] }:=(hs2.2 _ (abn helt)).trans hT;have fresh:H s.heap.objs.size=none:=I.hok.fresh (aag _);have I2:=I1.adopt (a:=s.heap.objs.size) (o:=.tup [.int i,.str ⟨#[c]⟩]) fresh I.sz (abn I.lt) (fun y c e1=>by
        obtain ⟨v,q⟩:=I.cell y c e1;exact aau q.lt) (fun q hq=>aau (aaj (I.pin q hq).1)) ⟨by show 2≤sizeLine;decide,[.int i tk,.str ⟨#[c]⟩ u],.cons ⟨_,rfl⟩ (.cons ⟨_,rfl⟩ .nil),⟨_,gT,rfl,_,rfl⟩⟩
    refine ⟨.ref s.heap.objs.size,_,I2,rfl,⟨_,c,fresh,rfl,hcz,rfl⟩,⟨⟨_,by simpa using he'⟩,?_⟩,fun b hb=>?_⟩
    · obtain ⟨o,ho2,r⟩:=hit';exact ⟨o,(hs2.2 it hei.symm).trans ho2,r⟩
    rw [aB]
    · exact (hf b hb).1
    · rcases aah.mp hb with z|z
      · rw [z];exact aau helt
      · have z:b=it:=by simpa using z
        rw [z];exact aau hilt
  done:=by
    intro X hP hw hK hc i pins s σ H E I hf st hg;subst hP hw hK;have hg:i=z.cps.size:=hg;subst hg;obtain ⟨⟨old,he⟩,hit⟩:=st;refine wpAny_pyNext_enum_endD (Draws.strAscii (A:=X.A.in1) (I.ok.hd hc) it z t) he hit fun h' eb=>⟨rfl,I.turnedL (t':=s.toks) (fp:=[e,it]) (fun b o hb q=>eb b o (fun z=>hb (by simp [z])) q) hf⟩
  self:=fun _ _ _ _ _ st h=>by
    obtain ⟨⟨old,he⟩,_⟩:=st;exact wpAny_pyIter_enum he h
def vy (ta:TA):TI:=fun σ H R=>ta σ H fun vs H1=>∃ z,vs=[.str z]∧z.cps.all (· < 128)=true∧R (mf z) H1
theorem qI {X:Cx} {elts:List Expr} {k:Nat} {tpos:Pos} {a:Expr} {ta:TA} {p pos:Pos} (hg:Gl X "enumerate") (hm:X.mg "enumerate" = none) (ha:PA X [a] ta) (hs:starEach [a] X.env=[(false,eval a X.env)]:=by rfl):PI X (.Tuple elts k tpos) (.Call (.Name "enumerate" p) [a] [] pos) (vy ta):=by
  intro pins s σ H R I h;refine Call_ (f_ I hg hm boot_enumerate (abg (thn (ha pos pins s σ H _ I h) fun us s1 ⟨vs,H1,I1,r1,q1⟩=>?_) hs rfl));obtain ⟨z,e,hasc,q⟩:=q1;subst e;obtain ⟨u,rfl,ru⟩:=bU r1;obtain ⟨t,rfl⟩:=ru;refine call_enumerate_str fun h' he hit hsz hk=>?_;have hty:strIterType z = "str_ascii_iterator":=by
    unfold strIterType
    first
      | rw [if_pos hasc]
      | simp [hasc]
  rw [hty] at hit;refine wpAny_pyIter_enum (s:={ s1 with heap:=h' }) he ?_;have I2:Inv X pins σ H1 { s1 with heap:=h' }:=I1.kept (t':=s1.toks) hk;refine ⟨s1.heap.objs.size+1,[s1.heap.objs.size+1,s1.heap.objs.size],_,_,H1,rfl,I2,mw z t _ _ (Nat.succ_ne_self _),⟨⟨_,he⟩,hit⟩,fun b hb=>?_,q⟩;have hb2:s1.heap.objs.size≤b:=by
    rcases aah.mp hb with z|z
    · rw [z];exact Nat.le_succ _
    · have z:b=s1.heap.objs.size:=by simpa using z
      rw [z];exact aag _
  exact I1.fpOk hb2 (I1.hok.fresh hb2)
theorem pU {z:Str} {g:TG} {tb:TS} {D:Ends} {σ:St} {H:Hp} (Pv:Nat→St→Hp→Prop) (h0:Pv 0 σ H)
    (hs:∀ i c p σ H,z.cps[i]?=some c→Pv i σ H→H p=none→g (.ref p) σ (upd H p (.tup [.int i,.str ⟨#[c]⟩])) fun σ2 H2=>tb { D with nx:=Pv (i+1),ct:=Pv (i+1),bk:=D.nx } σ2 H2) (hd:∀ σ H,Pv z.cps.size σ H→D.nx σ H) :
    ∃ W:Nat→Nat→St→Hp→Prop,(∃ m,W 0 m σ H)∧∀ i m σ H,W i m σ H →
      ((mf z).stop i H∧D.nx σ H)∨((mf z).go i H∧∃ N:St→Hp→Prop,(∀ σ' H',N σ' H'→∃ m',m' < m∧W (i+1) m' σ' H')∧∀ x H',(mf z).yld i H x H'→g x σ H' fun σ2 H2=>tb { D with nx:=N,ct:=N,bk:=D.nx } σ2 H2):=by
  refine ⟨fun i m σ H=>m=z.cps.size - i∧i≤z.cps.size∧Pv i σ H,⟨z.cps.size,by simp,aaM _,h0⟩,?_⟩;rintro i m σ H ⟨rfl,hi,p⟩;by_cases hlt:i < z.cps.size
  · refine .inr ⟨hlt,Pv (i+1),fun σ' H' p'=>⟨z.cps.size - (i+1),by lia,rfl,hlt,p'⟩,fun x H' y=>?_⟩;obtain ⟨pa,c,n,e1,hc,e2⟩:=y;subst e1 e2;exact hs i c pa σ _ hc p n
  · have e:i=z.cps.size:=by lia
    subst e;exact .inl ⟨rfl,hd σ H p⟩
section
variable {X:Cx} {o e:Expr} {es:List Expr} {to:TE} {t:TA} {name:Str} {apos cpos:Pos} {T id:String} {r:V→List V→Hp→VK→Prop} {K:aaa}
theorem uS (hK:X.K=K) (pa:PlainAttrs T) (slot:Slot T name id) (hty:typeOf (.builtin id)=pure (.type "method_descriptor")) (hm:MtR X id r) (ho:PE X o to) (ha:PA X (e :: es) t)
    (hbase:attributeBase o name X.env (eval o X.env)=eval o X.env:=by rfl)
    (hfew:((backTo cpos (starEach (e :: es) X.env)).all (fun x=>!x.1) && (backToKw cpos (keywordEach [] X.env)).all (fun x=>x.1.isSome)
      && decide ((e :: es).length+([]:List Keyword).length+(if ([]:List Keyword).isEmpty then 0 else 1) < 30))=true:=by rfl)
    (hline:(apos.endLine == cpos.line)=true:=by rfl) (hs:starEach (e :: es) X.env=(false,eval e X.env) :: starEach es X.env:=by rfl) (hplain:(backTo cpos (starEach es X.env)).any (·.1)=false:=by rfl) :
    PE X (.Call (.Attribute o name apos) (e :: es) [] cpos) (tBM K T r to t):=by
  subst hK;exact cA pa slot hty hm ho ha hbase hfew hline hs hplain
end
open PySem PySem.Spec PyProof.Rows
structure Trn (J:It) (n:Nat) (Kp:Hp→Prop) (item:Nat→V→Hp→Hp→Prop):Prop where
  go:∀ i H,i < n→Kp H→J.go i H
  stop:∀ H,Kp H→J.stop n H
  yld:∀ i H x H',i < n→Kp H→J.yld i H x H'→item i x H H'
theorem Trn.list {K:aaa} {a:Addr} {xs:List V}:Trn (Itl K a) xs.length (fun H=>SqL K H a xs) (fun i x H H'=>H'=H∧xs[i]?=some x) :=
  ⟨fun i H hi q=>⟨xs,xs[i],q,by simp [hi]⟩,fun H q=>⟨xs,q,aag _⟩,fun i H x H' hi q y=>⟨y.1,y.2 xs q⟩⟩
theorem Trn.tup {K:aaa} {a:Addr} {xs:List V}:Trn (Itt K a) xs.length (fun H=>SqT K H a xs) (fun i x H H'=>H'=H∧xs[i]?=some x) :=
  ⟨fun i H hi q=>⟨xs,xs[i],q,by simp [hi]⟩,fun H q=>⟨xs,q,aag _⟩,fun i H x H' hi q y=>⟨y.1,y.2 xs q⟩⟩
theorem Trn.range {lo:Int} {n:Nat}:Trn (Itr lo n) n (fun _=>True) (fun i x H H'=>H'=H∧x=.int (lo+i)) :=
  ⟨fun i H hi _=>hi,fun H _=>aag _,fun i H x H' hi _ y=>y⟩
theorem eR {J:It} {n:Nat} {Kp:Hp→Prop} {item:Nat→V→Hp→Hp→Prop} (T:Trn J n Kp item) {cap:List (Option Nat)} {g:TG} {tt:TT} {te:TE} {σ:St} {H:Hp} {Q:VK} (Pv:Nat→List V→Hp→Prop) (h0:Pv 0 [] H) (hk:∀ i ys H,i≤n→Pv i ys H→Kp H∧ys.length < sizeLine)
    (hs:∀ i x ys H H',i < n→item i x H H'→Pv i ys H→∀ Nx:List V→Hp→Prop,(∀ ys' H2,Pv (i+1) ys' H2→Nx ys' H2)→g x (a6 cap σ) H' fun σ2 H2=>tt σ2 H2 fun b H3=>if b=true then te σ2 H3 fun v H4=>Nx (ys++[v]) H4 else Nx ys H3)
    (hd:∀ ys H,Pv n ys H→∀ p,H p=none→Q (.ref p) (upd H p (.lst ys))):sq cap g tt te σ Q J H:=by
  refine ⟨fun i m ys H=>m=n - i∧i≤n∧Pv i ys H,⟨n,by simp,aaM _,h0⟩,?_⟩;rintro i m ys H ⟨rfl,hi,p⟩;by_cases hlt:i < n
  · refine .inr ⟨T.go i H hlt (hk i ys H hi p).1,(hk i ys H hi p).2,fun x H' y=>?_⟩;exact hs i x ys H H' hlt (T.yld i H x H' hlt (hk i ys H hi p).1 y) p (fun ys' H4=>∃ m',m' < n - i∧m'=n - (i+1)∧i+1≤n∧Pv (i+1) ys' H4) fun ys' H2 h=>⟨_,by lia,rfl,hlt,h⟩
  · have e:i=n:=by lia
    subst e;exact .inl ⟨T.stop H (hk _ ys H hi p).1,hd ys H p⟩
theorem vi {J:It} {n:Nat} {Kp:Hp→Prop} {item:Nat→V→Hp→Hp→Prop} (T:Trn J n Kp item) {cap:List (Option Nat)} {g:TG} {tt:TT} {wi2:TI} {g2:TG} {tt2:TT} {te:TE} {σ:St} {H:Hp} {Q:VK} (Pv:Nat→List V→Hp→Prop) (h0:Pv 0 [] H) (hk:∀ i ys H,i≤n→Pv i ys H→Kp H)
    (hs:∀ i x ys H H',i < n→item i x H H'→Pv i ys H→∀ Nx:List V→Hp→Prop,(∀ ys' H2,Pv (i+1) ys' H2→Nx ys' H2)→g x (a6 cap σ) H' fun σ2 H2=>tt σ2 H2 fun b H3=>if b=true then wi2 σ2 H3 (uj g2 tt2 te ys σ2 Nx) else Nx ys H3)
    (hd:∀ ys H,Pv n ys H→∀ p,H p=none→Q (.ref p) (upd H p (.lst ys))):ul cap g tt wi2 g2 tt2 te σ Q J H:=by
  refine ⟨fun i m ys H=>m=n - i∧i≤n∧Pv i ys H,⟨n,by simp,aaM _,h0⟩,?_⟩;rintro i m ys H ⟨rfl,hi,p⟩;by_cases hlt:i < n
  · refine .inr ⟨T.go i H hlt (hk i ys H hi p),fun x H' y=>?_⟩;exact hs i x ys H H' hlt (T.yld i H x H' hlt (hk i ys H hi p) y) p (fun ys' H4=>∃ m',m' < n - i∧m'=n - (i+1)∧i+1≤n∧Pv (i+1) ys' H4) fun ys' H2 h=>⟨_,by lia,rfl,hlt,h⟩
  · have e:i=n:=by lia
    subst e;exact .inl ⟨T.stop H (hk _ ys H hi p),hd ys H p⟩
theorem vc {J:It} {n:Nat} {Kp:Hp→Prop} {item:Nat→V→Hp→Hp→Prop} (T:Trn J n Kp item) {g2:TG} {tt2:TT} {te:TE} {ys:List V} {σ:St} {H:Hp} {Fin:List V→Hp→Prop} (Pv:Nat→List V→St→Hp→Prop) (h0:Pv 0 ys σ H) (hk:∀ i ys σ H,i≤n→Pv i ys σ H→Kp H∧ys.length < sizeLine)
    (hs:∀ i x ys σ H H',i < n→item i x H H'→Pv i ys σ H→∀ Nx:List V→St→Hp→Prop,(∀ ys' σ' H2,Pv (i+1) ys' σ' H2→Nx ys' σ' H2)→g2 x σ H' fun σ3 H5=>tt2 σ3 H5 fun b H6=>if b=true then te σ3 H6 fun v H7=>Nx (ys++[v]) σ3 H7 else Nx ys σ3 H6)
    (hd:∀ ys σ H,Pv n ys σ H→Fin ys H):uj g2 tt2 te ys σ Fin J H:=by
  refine ⟨fun i m ys σ H=>m=n - i∧i≤n∧Pv i ys σ H,⟨n,by simp,aaM _,h0⟩,?_⟩;rintro i m ys σ H ⟨rfl,hi,p⟩;by_cases hlt:i < n
  · refine .inr ⟨T.go i H hlt (hk i ys σ H hi p).1,(hk i ys σ H hi p).2,fun x H' y=>?_⟩;exact hs i x ys σ H H' hlt (T.yld i H x H' hlt (hk i ys σ H hi p).1 y) p (fun ys' σ' H4=>∃ m',m' < n - i∧m'=n - (i+1)∧i+1≤n∧Pv (i+1) ys' σ' H4) fun ys' σ' H2 h=>⟨_,by lia,rfl,hlt,h⟩
  · have e:i=n:=by lia
    subst e;exact .inl ⟨T.stop H (hk _ ys σ H hi p).1,hd ys σ H p⟩
theorem wS {J:It} {n:Nat} {Kp:Hp→Prop} {item:Nat→V→Hp→Hp→Prop} (T:Trn J n Kp item) {cap:List (Option Nat)} {g:TG} {tt:TT} {tk tv:TE} {ob:HO} {σ:St} {H:Hp} {Q:VK} (Pv:Addr→Nat→Hp→Prop) (h0:∀ p,H p=none→Pv p 0 (upd H p ob)) (hk:∀ p i H,i≤n→Pv p i H→Kp H)
    (hs:∀ p i x H1 H',H p=none→i < n→item i x H1 H'→Pv p i H1→∀ Nx:Hp→Prop,(∀ H2,Pv p (i+1) H2→Nx H2)→g x (a6 cap σ) H' fun σ2 H2=>tt σ2 H2 fun b H3=>if b=true then tk σ2 H3 fun k H4=>tv σ2 H4 fun v H5=>∃ H6,DPut H5 p k v H6∧Nx H6 else Nx H3)
    (hd:∀ p H1,H p=none→Pv p n H1→Q (.ref p) H1):w_ cap g tt tk tv ob σ Q J H:=by
  refine ⟨fun p i m H1=>m=n - i∧i≤n∧Pv p i H1,fun p hp=>⟨n,by simp,aaM _,h0 p hp⟩,?_⟩;rintro p i m H1 hp ⟨rfl,hi,q⟩;by_cases hlt:i < n
  · refine .inr ⟨T.go i H1 hlt (hk p i H1 hi q),fun x H' y=>?_⟩;exact hs p i x H1 H' hp hlt (T.yld i H1 x H' hlt (hk p i H1 hi q) y) q (fun H4=>∃ m',m' < n - i∧m'=n - (i+1)∧i+1≤n∧Pv p (i+1) H4) fun H2 h=>⟨_,by lia,rfl,hlt,h⟩
  · have e:i=n:=by lia
    subst e;exact .inl ⟨T.stop H1 (hk p _ H1 hi q),hd p H1 hp q⟩
theorem tG {X:Cx} {K:aaa} (hK:X.K=K):IxR X (rIx K):=by subst hK;exact vp
open PySem PySem.Spec PyProof.Rows
open PySem PySem.Spec PyProof.Rows
section
variable {X:Cx}
end
open PySem PySem.Spec PyProof.Rows
section
variable {X:Cx} {a b c d e:Expr} {ta tb tc td te:TE} {pos:Pos}
end
end L2
namespace L2
open PySem PySem.Spec PyProof.Rows PySem.W
def cdO (c:Addr) (qual:Str):HO:=.ext fun h=>h.CodeRec (.ref c) qual
structure LTab (P:Addr) (qual:Str) (H:Hp) (ps:Array Value):Prop where
  tab:H P=some (.tbl ps)
  tri:TriplesOk ps.toList
  cds:∀ pos cv,codeAmong pos ps.toList=some cv→∃ c',cv=.ref c'∧H c'=some (cdO c' qual)
section
variable {X:Cx} {pins:List (Addr × Obj)} {σ:St} {H:Hp} {s:Shared}
end
section
variable {CX:CXT} {P:Program} {w:World} {K:aaa} {mg:Str→Option Value} {base:Heap} {k:Nat}
end
section
variable {X:Cx} {pins pl:List (Addr × Obj)} {σ:St} {H:Hp} {s:Shared}
end
section
variable {X:Cx}
end
end L2
namespace L2
open PySem PySem.Spec PyProof.Rows PySem.W
section
variable {X:Cx} {pins pl:List (Addr × Obj)} {σ:St} {H:Hp} {s:Shared}
end
section
variable {X:Cx}
end
end L2
namespace L2
open PySem PySem.Spec PyProof.Rows PySem.W
structure FunC (K:aaa) (x qual:Str) (st:Stmt) (f:Addr) (fd:FuncData) (c:Addr):Prop where
  ex:∃ (oc:Value) (od:Option Addr) (kV doc pm:Value) (an:Option Addr) (ct:Value) (osl:Array (Option Value)),
    fd=abp x qual (cL st) (cm st) (ah st) .none kV doc pm an (.ref c) ct∧K.lookup f=some ⟨oc,od,.func fd,osl⟩∧abB K (.ref c) qual=true
  kp:abc K (.ref f)=true
section
variable {P:Program} {w:World} {K:aaa} {mg:Str→Option Value} {base:Heap}
end
open PySem PySem.Spec PyProof.Rows
open PySem PySem.Spec PyProof.Rows
open PySem PySem.Spec PyProof.Rows
open PySem PySem.Spec PyProof.Rows
section
variable {prog:Program} {w:World} {A:Around} {E:Value→Shared→Prop} {s:Shared}
end
def Ent (P:Program) (w:World) (d:Addr) (o:Obj) (u:HO) (n:Nat) (rw:Nat→V→V→Hp→Prop) (es:Array DictEntry) (ep:Nat):Prop :=
  o.data=.dict es ep∧es.size=n∧∀ H h,HOk P w H h→H d=some (.frz o u)→h.get? d=some o∧∀ i e,es[i]?=some e→∃ k y,RelV k e.key∧RelV y e.val∧rw i k y H
theorem nE {J:It} {n:Nat} {Kp:Hp→Prop} {item:Nat→V→Hp→Hp→Prop} (T:Trn J n Kp item) {g:TG} {tb:TS} {D:Ends} {σ:St} {H:Hp} (Pv:Nat→St→Hp→Prop) (h0:Pv 0 σ H) (hk:∀ i σ H,i≤n→Pv i σ H→Kp H)
    (hs:∀ i x σ H H',i < n→item i x H H'→Pv i σ H→g x σ H' fun σ2 H2=>tb { D with nx:=Pv (i+1),ct:=Pv (i+1),bk:=D.nx } σ2 H2) (hd:∀ σ H,Pv n σ H→D.nx σ H) :
    ∃ W:Nat→Nat→St→Hp→Prop,(∃ m,W 0 m σ H)∧∀ i m σ H,W i m σ H →
      (J.stop i H∧D.nx σ H)∨(J.go i H∧∃ N:St→Hp→Prop,(∀ σ' H',N σ' H'→∃ m',m' < m∧W (i+1) m' σ' H')∧∀ x H',J.yld i H x H'→g x σ H' fun σ2 H2=>tb { D with nx:=N,ct:=N,bk:=D.nx } σ2 H2):=by
  refine ⟨fun i m σ H=>m=n - i∧i≤n∧Pv i σ H,⟨n,by simp,aaM _,h0⟩,?_⟩;rintro i m σ H ⟨rfl,hi,p⟩;have q:=hk i σ H hi p;by_cases hlt:i < n
  · exact .inr ⟨T.go i H hlt q,Pv (i+1),fun σ' H' p'=>⟨n - (i+1),by lia,rfl,hlt,p'⟩,fun x H' y=>hs i x σ H H' hlt (T.yld i H x H' hlt q y) p⟩
  · have e:i=n:=by lia
    subst e;exact .inl ⟨T.stop H q,hd σ H p⟩
def vP (H:Hp) (d:Addr):Prop:=∀ o v,H d≠some (.frz o v)
end L2
namespace PySem
open Sem (wp)
namespace F
end F
section
variable {prog:Program} {w:World} {A:Around} {E:Value→Shared→Prop} {h:Heap} {g:Array GenState} {d:Drawn} {t:Nat} {os:OsState} {a:Addr} {xs:Array Value} {k:Nat}
end
end PySem
namespace L2
open PySem PySem.Spec PyProof.Rows
section
variable {prog:Program} {w:World} {A:Around} {E:Value→Shared→Prop} {s:Shared}
end
open PySem PySem.Spec PyProof.Rows
section
variable {X:Cx}
end
structure FunD (K:aaa) (x qual:Str) (st:Stmt) (f:Addr) (fd:FuncData) (tD:Addr):Prop where
  ex:∃ (oc:Value) (od:Option Addr) (kV doc pm:Value) (an:Option Addr) (cdv ct:Value) (osl:Array (Option Value)),
    fd=abp x qual (cL st) (cm st) (ah st) (.ref tD) kV doc pm an cdv ct∧K.lookup f=some ⟨oc,od,.func fd,osl⟩∧abB K cdv qual=true
  kp:abc K (.ref f)=true
section
variable {P:Program} {w:World} {K:aaa} {mg:Str→Option Value} {base:Heap}
end
open PySem PySem.Spec PyProof.Rows
section
variable {X:Cx} {tg:Expr}
end
open PySem PySem.Spec PyProof.Rows
end L2
namespace L2
open PySem PySem.Spec PyProof.Rows PySem.W
section
variable {prog:Program} {w:World} {A:Around} {E:Value→Shared→Prop} {s:Shared}
end
open PySem PySem.Spec PyProof.Rows
def vd (e l:Nat→Bool) (n m:Nat):Nat→Nat→Bool
  | _,0=>decide (n < m)
  | j,k+1=>if e j=true then vd e l n m (j+1) k else l j
section
open PySem.SeqAt
open PySem.AutoSeq1 (wpAny_loadPart')
open PySem.MeetsSeq PySem.MeetsSeq2 PySem.MeetsSeq3
end
inductive LtR (K:aaa) (H:Hp):Nat→V→V→Bool→Prop
  | int {n:Nat} {a b:Int}:LtR K H n (.int a) (.int b) (decide (a < b))
  | tup {n:Nat} {a b:Addr} {xs ys:List V} {e l:Nat→Bool} (ha:SqT K H a xs) (hb:SqT K H b ys) (h:∀ (j:Nat) x y,xs[j]?=some x→ys[j]?=some y→EqR K H n x y (e j)) (hl:∀ (j:Nat) x y,xs[j]?=some x→ys[j]?=some y→e j=false→LtR K H n x y (l j)) :
      LtR K H (n+1) (.ref a) (.ref b) (vd e l xs.length ys.length 0 (min xs.length ys.length))
section
variable {X:Cx} {pins:List (Addr × Obj)} {σ:St} {H:Hp} {s:Shared}
end
section
variable {X:Cx}
end
open PySem PySem.Spec PyProof.Rows
def Fq (K:aaa) (x:Str) (s:Stmt) (f:Addr):Prop:=aas K mainGlobals x=some (some (.ref f))∧∃ fd,Fun K x x s f fd
theorem Fq.mk4 {K:aaa} {x:Str} {st:Stmt} {f:Addr} {oc:Value} {od an:Option Addr} {osl:Array (Option Value)} {kV doc pm cdv ct:Value} (a:aas K mainGlobals x=some (some (.ref f))) (l:K.lookup f=some ⟨oc,od,.func (abp x x (cL st) (cm st) (ah st) .none kV doc pm an cdv ct),osl⟩)
    (c:abB K cdv x=true) (k:abc K (.ref f)=true):Fq K x st f:=⟨a,_,rA l c k⟩
theorem Fq.use {K:aaa} {x:Str} {st:Stmt} {f:Addr} {h:Heap} {mg:Str→Option Value} (q:Fq K x st f) (X:K.In h) (G:h.Ns mainGlobals mg) {ps:List Str}
    (hb:∀ (kV doc pm:Value) (an:Option Addr) (cdv ct:Value) (us:List Value),us.length=ps.length→bindArgs (abp x x (cL st) (cm st) (ah st) .none kV doc pm an cdv ct) ⟨us,[]⟩=pure (ps.zip us)):∃ fd,Fun K x x st f fd∧Binds K fd ps []∧mg x=some (.ref f):=by
  obtain ⟨a,fd,F⟩:=q;exact ⟨fd,F,F.binds hb,aaI X G a⟩
open PySem PySem.Spec PyProof.Rows
open PySem PySem.Spec PyProof.Rows
open PySem PySem.Spec PyProof.Rows
open PySem PySem.Spec PyProof.Rows
section
variable {prog:Program} {w:World} {A:Around} {E:Value→Shared→Prop} {s:Shared}
end
end L2
namespace L2
open PySem
def wW (xs:Array Nat):Prop:=xs.toList.Pairwise (· < ·)
def Okm (m:Nat):Prop:=m=7∨m=15∨m=31∨m=63∨m=127∨m=255∨m=511∨m=1023
def lp (m:Nat):Nat→Nat→Nat→Nat × Nat
  | 0,i,p=>(i,p)
  | L+1,i,p=>lp m L ((i * 5+1+p / 32) % (m+1)) (p / 32)
end L2
namespace L2
open PySem
end L2
namespace L2
open PySem
structure GT (n:Nat) (b:Bool) (t:SetTable):Prop where
  okm:Okm t.mask
  dum:t.dummies=#[]
  pl:t.plain=true
  rise:wW t.place
  size:t.place.size=n
  led:t.led=b
  room:n * 5 < t.mask * 3
structure GT1 (n:Nat) (b:Bool) (t:SetTable):Prop where
  okm:Okm t.mask
  dum:t.dummies=#[]
  pl:t.plain=true
  rise:wW t.place
  size:t.place.size=n
  led:t.led=b
  room:(n - 1) * 5 < t.mask * 3
open PySem PySem.Spec PyProof.Rows
section
variable {prog:Program} {w:World} {A:Around} {E:Value→Shared→Prop} {s:Shared}
end
end L2
set_option maxHeartbeats 3200000
namespace L2
open PySem PySem.Spec PyProof.Rows
section
variable {prog:Program} {w:World} {A:Around} {E:Value→Shared→Prop} {s:Shared}
variable {R:Result→Shared→Prop} {I:Addr} {fp wr:List Addr} {G:Array GenState→Array GenState→Prop} {n:Nat} {P:Nat→Value→Prop} {St:Nat→Shared→Prop}
end
section
variable {prog:Program} {w:World} {A:Around} {E:Value→Shared→Prop} {s:Shared}
end
open PySem PySem.Spec PyProof.Rows
section
variable {prog:Program} {w:World} {A:Around} {E:Value→Shared→Prop} {s:Shared}
end
end L2
namespace PySem.F
end PySem.F
namespace L2
open PySem PySem.Spec PyProof.Rows
section
variable {prog:Program} {w:World} {A:Around} {E:Value→Shared→Prop} {s:Shared}
end
open PySem PySem.Spec PyProof.Rows
section
variable {prog:Program} {w:World} {A:Around} {E:Value→Shared→Prop} {s:Shared}
end
open PySem PySem.Spec PyProof.Rows
end L2
namespace PySem.F
end PySem.F
namespace L2
open PySem PySem.Spec PyProof.Rows
structure SI (prog:Program) (w:World) (h:Heap) (a:Addr) (o:Obj) (es:Array (Int × Value)) (ep:Nat) (t:SetTable):Prop where
  at':h.get? a=some o
  ex:o.ExactSet
  dat:o.data=.set es ep t
  fit:t.fits es.size=true
  els:ElemsOf (intKind prog w) es.toList
  few:es.size < scanBound
section
variable {prog:Program} {w:World} {A:Around} {E:Value→Shared→Prop} {s:Shared}
end
open PySem PySem.Spec PyProof.Rows
section
variable {prog:Program} {w:World} {A:Around} {E:Value→Shared→Prop} {s:Shared}
end
open PySem PySem.Spec PyProof.Rows
section
variable {prog:Program} {w:World} {A:Around} {E:Value→Shared→Prop} {s:Shared}
end
open PySem PySem.Spec PyProof.Rows
section
variable {prog:Program} {w:World} {A:Around} {E:Value→Shared→Prop} {s:Shared}
end
open PySem PySem.Spec PyProof.Rows
section
variable {prog:Program} {w:World} {A:Around} {E:Value→Shared→Prop} {s:Shared}
end
open PySem PySem.Spec PyProof.Rows
section
variable {prog:Program} {w:World} {A:Around} {E:Value→Shared→Prop} {s:Shared}
end
open PySem PySem.Spec PyProof.Rows
open PySem PySem.Spec PyProof.Rows
open PySem PySem.Spec PyProof.Rows
open PySem PySem.Spec PyProof.Rows
open PySem PySem.Spec PyProof.Rows
section
variable {X:Cx}
end
open PySem PySem.Spec PyProof.Rows
open PySem PySem.Spec PyProof.Rows
section
open PySem.SeqAt
open PySem.AutoSeq1 (wpAny_loadPart')
open PySem.MeetsSeq PySem.MeetsSeq2 PySem.MeetsSeq3
end
inductive LtQ (K:aaa) (H:Hp):Nat→V→V→Bool→Prop
  | int {n:Nat} {a b:Int}:LtQ K H n (.int a) (.int b) (decide (a < b))
  | lst {n:Nat} {a b:Addr} {xs ys:List V} {e l:Nat→Bool} (ha:SqL K H a xs) (hb:SqL K H b ys) (h:∀ (j:Nat) x y,xs[j]?=some x→ys[j]?=some y→EqR K H n x y (e j)) (hl:∀ (j:Nat) x y,xs[j]?=some x→ys[j]?=some y→e j=false→LtQ K H n x y (l j)) :
      LtQ K H (n+1) (.ref a) (.ref b) (vd e l xs.length ys.length 0 (min xs.length ys.length))
section
variable {X:Cx} {pins:List (Addr × Obj)} {σ:St} {H:Hp} {s:Shared}
end
end L2
namespace Tim
open PySem PyProof.Rows
section
variable {prog:Program} {w:World} {A:Around} {E:Value→Shared→Prop} {s:Shared}
end
end Tim
namespace L2
open PySem PySem.Spec PyProof.Rows
section
variable {prog:Program} {w:World} {A:Around} {E:Value→Shared→Prop} {s:Shared}
end
structure Rnk (K:aaa) (H:Hp) (n:Nat) (us:List V) (kf:V→Int):Prop where
  two:∀ x∈us,∃ t k wv ks,x=.ref t∧H t=some (.tup [.ref k,wv])∧H k=some (.lst ks)
  cmp:∀ t t' k k' wv wv',V.ref t∈us→V.ref t'∈us→H t=some (.tup [.ref k,wv])→H t'=some (.tup [.ref k',wv']) →
    EqR K H n (.ref k) (.ref k') (decide (kf (.ref t)=kf (.ref t')))∧(kf (.ref t)≠kf (.ref t')→LtQ K H n (.ref k) (.ref k') (decide (kf (.ref t) < kf (.ref t'))))∧(kf (.ref t)=kf (.ref t')→EqR K H n wv wv' true)
open PySem PySem.Spec PyProof.Rows
section
variable {X:Cx} {tg:Expr}
end
section
variable {X:Cx}
end
open PySem PySem.Spec PyProof.Rows
open PySem PySem.Spec PyProof.Rows
def CauT (K:aaa) (H:Hp) (x:V) (t:Value):Prop:=(x=.non∧t=.type "NoneType")∨∃ ea C,x=.ref ea∧H ea=some (cH ea C)∧ExC K C∧t=.ref C
theorem CauT.mono {K:aaa} {H H':Hp} {x:V} {t:Value} (s:∀ b o,H b=some o→H' b=some o) (h:CauT K H x t):CauT K H' x t:=by
  rcases h with h|⟨ea,C,e1,e2,e3,e4⟩
  · exact .inl h
  · exact .inr ⟨ea,C,e1,s _ _ e2,e3,e4⟩
theorem bw {X:Cx}:dE X (.builtin "isinstance") (fun xs H Q=>∃ x c t u b,xs=[x,c]∧CauT X.K H x t∧(∀ u',RelV c u'→u'=u)∧aaE X.K t u=some b∧Q (.bl b) H):=by
  intro pins s σ H xs us Q I r h;obtain ⟨x,c,t,u,b,rfl,hx,hu,hk,q⟩:=h;obtain ⟨u1,u2,rfl,r1,r2⟩:=n0 r;obtain rfl:=hu _ r2;rcases hx with ⟨rfl,rfl⟩|⟨ea,C,rfl,he,x,rfl⟩
  · cases (show u1=Value.none from r1);exact aaX PySem.W.kitx_none I.kIn True.intro hk (fun z=>nomatch z) fun tk=>⟨.bl b,H,I.tok tk,rfl,q⟩
  · cases r1;obtain ⟨⟨o,vs,h1,h2,_⟩,_⟩:=(show ObjOk X.prog X.w H s.heap ea (cH ea C) from I.hok ea _ he)
    exact aaX (lR x) I.kIn ⟨o,h1,h2⟩ hk (fun z=>nomatch z) fun tk=>⟨.bl b,H,I.tok tk,rfl,q⟩
theorem jz {X:Cx}:dE X (.builtin "isinstance") (fun xs H Q=>∃ x tp cs t us b,xs=[x,.ref tp]∧CauT X.K H x t∧H tp=some (.tup cs)∧(∀ us',Vals cs us'→us'=us)∧PySem.W.kitAny X.K t us=some b∧Q (.bl b) H):=by
  intro pins s σ H xs us Q I r h;obtain ⟨x,tp,cs,t,us,b,rfl,hx,ht,hu,hk,q⟩:=h;obtain ⟨u1,u2,rfl,r1,r2⟩:=n0 r;cases r2;obtain ⟨_,its,rv,ot,g1,g2,k,g3⟩:=(show ObjOk X.prog X.w H s.heap tp (.tup cs) from I.hok tp _ ht)
  obtain rfl:=hu _ rv;obtain ⟨oc,od,dat,sl⟩:=ot;cases (show oc=_ from g2);cases (show dat=_ from g3);rcases hx with ⟨rfl,rfl⟩|⟨ea,C,rfl,he,x,rfl⟩
  · cases (show u1=Value.none from r1);exact PySem.W.kia_tup PySem.W.kitx_none I.kIn True.intro g1 hk (fun z=>nomatch z) fun tk=>⟨.bl b,H,I.tok tk,rfl,q⟩
  · cases r1;obtain ⟨⟨o,vs,h1,h2,_⟩,_⟩:=(show ObjOk X.prog X.w H s.heap ea (cH ea C) from I.hok ea _ he)
    exact PySem.W.kia_tup (lR x) I.kIn ⟨o,h1,h2⟩ g1 hk (fun z=>nomatch z) fun tk=>⟨.bl b,H,I.tok tk,rfl,q⟩
section
variable {X:Cx} {pos:Pos}
end
end L2
namespace L2
open PySem PySem.Spec PyProof.Rows PySem.W
section
variable {X:Cx} {pins pl:List (Addr × Obj)} {σ:St} {H:Hp} {s:Shared}
end
section
variable {X:Cx}
end
end L2
namespace L2
open PySem PySem.Spec PyProof.Rows PySem.W
section
variable {X:Cx} {pins pl:List (Addr × Obj)} {σ:St} {H:Hp} {s:Shared}
end
section
variable {X:Cx}
end
open PySem PySem.Spec PyProof.Rows
inductive Thw (H:Hp):Hp→Hp→Prop
  | refl (H1:Hp):Thw H H1 H1
  | step {H1 H2:Hp} {d:Addr} {o:Obj} {u:HO} (h:Thw H H1 H2) (nf:vP H d) (e:H2 d=some (.frz o u)):Thw H H1 (upd H2 d u)
open PySem PySem.Spec PyProof.Rows
open PySem PySem.Spec PyProof.Rows
section
variable {X:Cx} {tg:Expr}
end
open PySem PySem.Spec PyProof.Rows
section
variable {prog:Program} {w:World} {A:Around} {E:Value→Shared→Prop} {R:Result→Shared→Prop} {s:Shared}
end
section
variable {prog:Program} {w:World}
end
section
variable {X:Cx}
end
open PySem PySem.Spec PyProof.Rows
section
variable {M:Model} {A:Around} {E:Value→Shared→Prop} {s:Shared}
end
section
variable {X:Cx}
end
open PySem PySem.Spec PyProof.Rows
open PySem PySem.Spec PyProof.Rows
section
variable {X:Cx} {pins:List (Addr × Obj)} {σ:St} {H:Hp} {s:Shared}
end
end L2
namespace L2
open PySem
variable {X:Cx}
end L2
namespace L2
open PySem PyProof.Rows PySem.W
open PySem PySem.Spec PyProof.Rows
variable {X:Cx} {pins:List Value} {s:Shared} {σ:St} {H:Hp}
theorem qb (hg:X.A.guards=some []) (hu:X.A.units+64 < cLine):dE X (.type "str") (fun xs H Q=>∃ x d,xs=[x]∧Dat H d x∧((∃ i,d=.int i)∨∃ ds,d=.tuple ds)∧d.showable=true∧d.depth≤60∧d.shown.length≤sizeLine∧Q (.str d.shown) H):=by
  intro pins s σ H xs us Q I r h;obtain ⟨x,d,rfl,hd,hk,hs,hdp,hl,q⟩:=h;obtain ⟨u,rfl,ru⟩:=bU r;rcases hk with ⟨i,rfl⟩|⟨ds,rfl⟩
  · simp only [Dat] at hd;subst hd;obtain ⟨t,rfl⟩:=ru;rw [PyData.shown_int] at q;exact PySem.P.str_of_int (by simpa [abf] using hs) ⟨.str _,H,I.tok _,⟨_,rfl⟩,q⟩
  · have hd':=hd;simp only [Dat] at hd';obtain ⟨a,ys,rfl,_⟩:=hd';cases ru;obtain ⟨as,ra,na⟩:=Dat.reads I _ _ _ hd rfl;refine str_of_reads ra hs (fun _=>na) hg (by lia) (fun _ _ e=>e) (fun h' u tk hk=>?_) hl;exact ⟨.str _,H,I.kept hk,⟨u,rfl⟩,q⟩
open PySem PySem.Spec PyProof.Rows
theorem sO {X:Cx} {a:Expr} {ta:TE} {pos:Pos} (ha:PE X a ta):PE X (.UnaryOp .Not a pos) (fun σ H Q=>ta σ H fun x H'=>∃ k,vM X.K x H' k∧Q (.bl (!k)) H'):=by
  intro pins s σ H Q I h;refine UnaryOp_ (thn (ha pins s σ H _ I h) fun v s1 ⟨x,H1,I1,r1,k,tr,q1⟩=>?_);exact not_of (thn (qk pins s1 σ H1 x v _ I1 r1 ⟨k,tr,q1⟩) fun b s2 ⟨H2,I2,q2⟩=>⟨.bl (!b),H2,I2,rfl,q2⟩)
theorem Same.upd {H H1:Hp} {p:Addr} {o:HO} (a:Same H H1) (h:H p=none):Same H (L2.upd H1 p o):=fun b u q=>by
  rw [aB (aG q h)];exact a b u q
end L2
namespace Put
open PySem L2
def top (i:Nat):Stmt:=PySem.Challenge.pw_putsigns_k52_refused_to_be_written.main.body.getD i (.Pass ⟨0,0,0,0⟩)
inductive Sg where
  | plus|minus|times
  deriving DecidableEq
def Sg.str:Sg→Str
  | .plus=>"+"
  | .minus=>"-"
  | .times=>"*"
inductive Wy where
  | num (i:Int)
  | node (g:Sg) (l r:Wy)
  deriving DecidableEq
def Wy.size:Wy→Nat
  | .num _=>1
  | .node _ l r=>l.size+r.size
theorem Wy.size_pos:∀ w:Wy,1≤w.size
  | .num _=>aag _
  | .node _ l r=>by have:=l.size_pos;show 1≤l.size+r.size;lia
def WyIn (H:Hp):Wy→V→Prop
  | .num i,v=>v=.int i
  | .node g l r,v=>∃ a vl vr,v=.ref a∧H a=some (.tup [.str g.str,vl,vr])∧WyIn H l vl∧WyIn H r vr
def Tups (H H':Hp):Prop:=∀ b xs,H b=some (.tup xs)→H' b=some (.tup xs)
theorem Tups.of {H H':Hp} (a:Same H H'):Tups H H':=fun b xs h=>a b _ h
theorem Tups.but {H H':Hp} {w:Addr} {xs:List V} (a:But w H H') (h:H w=some (.lst xs)):Tups H H':=fun b ys q=>a b _ (fun e=>by rw [e,h] at q;cases q) q
theorem Tups.trans {H H1 H2:Hp} (a:Tups H H1) (b:Tups H1 H2):Tups H H2:=fun c xs h=>b c xs (a c xs h)
theorem WyIn.mono {H H':Hp} (t:Tups H H'):∀ {w:Wy} {v:V},WyIn H w v→WyIn H' w v
  | .num _,_,h=>h
  | .node g l r,v,h=>by
    obtain ⟨a,vl,vr,e,h1,h2,h3⟩:=h;exact ⟨a,vl,vr,e,t _ _ h1,WyIn.mono t h2,WyIn.mono t h3⟩
structure Bu (K:aaa) (mg:Str→Option Value):Prop where
  ilen:mg "len" = none
  iisinstance : mg "isinstance" = none
  iint:mg "int" = none
  ibool:mg "bool" = none
  istr:mg "str" = none
  ituple:mg "tuple" = none
  ilist:mg "list" = none
  isorted:mg "sorted" = none
  irange:mg "range" = none
  irepr:mg "repr" = none
  ienumerate:mg "enumerate" = none
  isum:mg "sum" = none
  iall:mg "all" = none
  imin:mg "min" = none
  imax:mg "max" = none
  iabs:mg "abs" = none
  idivmod:mg "divmod" = none
  idict:mg "dict" = none
  iset:mg "set" = none
  ireversed:mg "reversed" = none
  iany:mg "any" = none
  izip:mg "zip" = none
structure Co (K:aaa) (mg:Str→Option Value) (tk:Tok) (aS:Addr):Prop where
  gMOST_NUMBERS:mg "MOST_NUMBERS" = some (.int 9 tk)
  gSIGNS:mg "SIGNS" = some (.ref aS)
  sSIGNS:∀ H,SqT K H aS [.str "+",.str "-",.str "*"]
section
variable {P:Program} {w:World} {K:aaa} {mg:Str→Option Value} {base:Heap} {f:Addr} {fd:FuncData}
def c_ (K:aaa):Sp:=fun vs H Q _=>∃ x n,vs=[x]∧TyOf K H x (.type n)∧Q (.bl (decide (n = "int"))) H
abbrev fS:Stmt:=top 16
theorem lr:FnScope ["thing"] ["thing"] (ah fS):=⟨rfl,rfl,rfl,by decide +kernel,rfl,by decide +kernel,by decide +kernel⟩
theorem lI (F:Fun K "is_whole" "is_whole" fS f fd) (B:Bu K mg):FnOk P w K mg base CX0 1 f fd ["thing"] (c_ K):=by
  refine F.ok lr (fun vs H Q E h=>?_) (fun cdv A outer s H vs Q E hr h=>?_)
  · obtain ⟨x,n,rfl,_⟩:=h;rfl
  obtain ⟨x,n,rfl,ty,q⟩:=h;refine ⟨_,(@af _ _ _ (@ak _ _ _ _ (@eN _ _ _ _ _ _ _ (@am _ _ _ _ _ _ _ _ _ (@bp _ ("int")) rfl B.iisinstance aal (@aa _ _ _ _ _ (pv 0) (@aa _ _ _ _ _ (@cB _ _ (.ty "int") _ _ rfl B.iint abG rfl (by decide) (by decide)) ac (by rfl)) (by rfl)) (by decide) (by decide) (by rfl) (by rfl)) (@eL _ _ _ _ _ (@uO _ _ _ _ (@am _ _ _ _ _ _ _ _ _ (@bp _ ("bool")) rfl B.iisinstance aal (@aa _ _ _ _ _ (pv 0) (@aa _ _ _ _ _ (@cB _ _ (.ty "bool") _ _ rfl B.ibool PyProof.Rows.boot_bool rfl (by decide) (by decide)) ac (by rfl)) (by rfl)) (by decide) (by decide) (by rfl) (by rfl))))))),?_⟩;cases ty with
  | non=>exact ⟨_,rfl,_,_,false,rfl,.non,rfl,false,rfl,az q⟩
  | bl y=>exact ⟨_,rfl,_,_,true,rfl,.bl y,rfl,true,rfl,a8 ⟨_,rfl,_,_,true,rfl,.bl y,rfl,true,rfl,q⟩⟩
  | int i=>exact ⟨_,rfl,_,_,true,rfl,.int i,rfl,true,rfl,a8 ⟨_,rfl,_,_,false,rfl,.int i,rfl,false,rfl,q⟩⟩
  | str y=>exact ⟨_,rfl,_,_,false,rfl,.str y,rfl,false,rfl,az q⟩
  | flt y=>exact ⟨_,rfl,_,_,false,rfl,.flt y,rfl,false,rfl,az q⟩
  | lst e=>exact ⟨_,rfl,_,_,false,rfl,.lst e,rfl,false,rfl,az q⟩
  | frz e=>exact ⟨_,rfl,_,_,false,rfl,.frz e,rfl,false,rfl,az q⟩
  | tup e=>exact ⟨_,rfl,_,_,false,rfl,.tup e,rfl,false,rfl,az q⟩
  | dK e=>exact ⟨_,rfl,_,_,false,rfl,.dK e,rfl,false,rfl,az q⟩
  | dT e=>exact ⟨_,rfl,_,_,false,rfl,.dT e,rfl,false,rfl,az q⟩
def wL (z:Str):Bool:=inV (.str z) [.str "+",.str "-",.str "*"]
theorem rg (g:Sg):wL g.str=true:=by cases g <;> decide +kernel
open PySem L2
theorem tz {α:Type} (xs:List α) (x:α):(xs++[x])[(xs++[x]).length - 1]?=some x:=by simp
theorem vU (xs:List V) (x:V):(xs++[x]).dropLast=xs:=by simp
theorem av {n:Nat} (h:n≤1000):n≤sizeLine:=Nat.le_of_lt (aC h)
def gJ:Sp:=fun vs H Q _=>∃ w v,vs=[v]∧WyIn H w v∧w.size≤9∧∀ H',Same H H'→Q .non H'
def Wy.nums:Wy→List Int
  | .num i=>[i]
  | .node _ l r=>l.nums++r.nums
theorem Wy.nums_len:∀ w:Wy,w.nums.length=w.size
  | .num _=>rfl
  | .node _ l r=>by show (l.nums++r.nums).length=l.size+r.size;rw [aae,l.nums_len,r.nums_len]
def Wy.deep:Wy→Nat
  | .num _=>1
  | .node _ l r=>max l.deep r.deep+1
theorem Wy.deep_le:∀ w:Wy,w.deep≤w.size
  | .num _=>aag _
  | .node _ l r=>by have a:=l.deep_le;have b:=r.deep_le;have c:=l.size_pos;have d:=r.size_pos;show max l.deep r.deep+1≤l.size+r.size;lia
def j8 (n:Nat):Sp:=fun vs H Q _=>∃ w v,vs=[v]∧WyIn H w v∧w.size≤20∧w.deep≤n∧∀ p H',Same H H'→H p=none→H' p=some (.lst (w.nums.map V.int))→Q (.ref p) H'
abbrev du:Stmt:=top 25
theorem cg:FnScope ["way","sign","left","right"] ["way"] (ah du):=⟨rfl,rfl,rfl,by decide +kernel,rfl,by decide +kernel,by decide +kernel⟩
theorem im (F:Fun K "list_numbers" "list_numbers" du f fd) (bF:Binds K fd ["way"] []) (mF:mg "list_numbers" = some (.ref f)) (C_is_whole:Cal P w K mg base "is_whole" 1 ["thing"] (c_ K)) :
    ∀ n,FnOk P w K mg base CX0 (n+1) f fd ["way"] (j8 n):=by
  intro n
  induction n with
  | zero =>
    refine ⟨fun vs H Q E h=>?_,fun A outer s H args us vs Q E _ _ _ _ h=>?_⟩
    · obtain ⟨x,v,rfl,_⟩:=h;rfl
    · obtain ⟨wy,v,_,_,_,hd,_⟩:=h;cases wy <;> exact absurd hd (by simp [Wy.deep])
  | succ n ih =>
    have C_list_numbers:Cal P w K mg base "list_numbers" (n+1) ["way"] (j8 n):=⟨f,fd,ih,bF,F.kp,mF⟩
    refine F.ok cg (fun vs H Q E h=>?_) (fun cdv A outer s H vs Q E hr h=>?_)
    · obtain ⟨x,v,rfl,_⟩:=h;rfl
    obtain ⟨wy,v,rfl,hw,h20,hd,q⟩:=h;refine ⟨_,(@ae _ _ _ _ _ (@a9 _ _ _ _ _ _ _ _ (@bE _ _ _ (@ag _ _ _ _ _ _ _ _ _ _ _ C_is_whole hr (by lia) rfl (@aa _ _ _ _ _ (pv 0) ac (by rfl)) (by decide) (by rfl) (by rfl)) (by intro _;rfl)) (@af _ _ _ (@ak _ _ _ _ (@ar _ _ _ _ (@aa _ _ _ _ _ (pv 0) ac (by rfl))))) aE) (@ae _ _ _ _ _ (@fk _ _ _ _ _ _ (pv 0) (@eK _ _ _ _ _ _ rfl (@aV _ _ _ _ _ (@au _ _ (1) _ (cg).nd rfl (Or.inl rfl) (.inl rfl)) (@aV _ _ _ _ _ (@au _ _ (2) _ (cg).nd rfl (Or.inl rfl) (.inl rfl)) (@aV _ _ _ _ _ (@au _ _ (3) _ (cg).nd rfl (Or.inl rfl) (.inl rfl)) cJ (by rfl)) (by rfl)) (by rfl)) (by rfl) (by rfl)) (by rfl) (by rfl) (by rfl)) (@af _ _ _ (@ak _ _ _ _ (@al _ _ _ _ _ _ _ _ bj (@ag _ _ _ _ _ _ _ _ _ _ _ C_list_numbers hr (by lia) rfl (@aa _ _ _ _ _ (pv 2) ac (by rfl)) (by decide) (by rfl) (by rfl)) (@ag _ _ _ _ _ _ _ _ _ _ _ C_list_numbers hr (by lia) rfl (@aa _ _ _ _ _ (pv 3) ac (by rfl)) (by decide) (by rfl) (by rfl))))))),?_⟩;cases wy with
    | num i =>
      cases hw;refine ⟨_,rfl,_,"int",rfl,.int i,true,rfl,a8 ⟨_,rfl,(by show 1≤sizeLine;decide),fun p hp=>?_⟩⟩;exact q p _ (Same.new hp _) hp upd_same
    | node g l r =>
      obtain ⟨a,vl,vr,rfl,ha,hl,hr'⟩:=hw;refine ⟨_,rfl,_,"tuple",rfl,.tup ha,false,rfl,az ?_⟩;have d:max l.deep r.deep+1≤n+1:=hd;have z:l.size+r.size≤20:=h20;have zl:=l.size_pos;have zr:=r.size_pos;refine ⟨_,rfl,a,_,rfl,SqT.of ha,rfl,_,_,rfl,_,_,rfl,_,_,rfl,rfl,?_⟩;refine ⟨_,rfl,l,vl,rfl,hl,by lia,by lia,fun p H1 g1 n1 e1=>?_⟩;refine ⟨_,rfl,r,vr,rfl,hr'.mono (Tups.of g1),by lia,by lia,fun p2 H2 g2 n2 e2=>?_⟩;refine ⟨p,p2,_,_,rfl,rfl,g2 _ _ e1,e2,av (by rw [aak,aak,l.nums_len,r.nums_len];lia),fun p3 n3=>?_⟩;refine q p3 _ ((g1.trans g2).trans (Same.new n3 _)) ((g1.trans g2).free n3) ?_;rw [upd_same];show some (HO.lst (l.nums.map V.int++r.nums.map V.int))=some (HO.lst ((l.nums++r.nums).map V.int));rw [aaC]
def eU:Sp:=fun vs H Q _=>∃ w v,vs=[v]∧WyIn H w v∧w.size≤9∧∀ p H',Same H H'→H p=none→H' p=some (.lst (w.nums.map V.int))→Q (.ref p) H'
abbrev eD:Stmt:=top 24
theorem ju:FnScope ["way"] ["way"] (ah eD):=⟨rfl,rfl,rfl,by decide +kernel,rfl,by decide +kernel,by decide +kernel⟩
theorem jw (F:Fun K "numbers_of" "numbers_of" eD f fd) (C_need_way:Cal P w K mg base "need_way" 3 ["thing"] gJ) (C_list_numbers:Cal P w K mg base "list_numbers" 21 ["way"] (j8 20)) :
    FnOk P w K mg base CX0 22 f fd ["way"] eU:=by
  refine F.ok ju (fun vs H Q E h=>?_) (fun cdv A outer s H vs Q E hr h=>?_)
  · obtain ⟨x,v,rfl,_⟩:=h;rfl
  obtain ⟨wy,v,rfl,hw,h9,q⟩:=h;refine ⟨_,(@ae _ _ _ _ _ (@bC _ _ _ _ (@ag _ _ _ _ _ _ _ _ _ _ _ C_need_way hr (by lia) rfl (@aa _ _ _ _ _ (pv 0) ac (by rfl)) (by decide) (by rfl) (by rfl)) (by rfl)) (@af _ _ _ (@ak _ _ _ _ (@ag _ _ _ _ _ _ _ _ _ _ _ C_list_numbers hr (by lia) rfl (@aa _ _ _ _ _ (pv 0) ac (by rfl)) (by decide) (by rfl) (by rfl))))),?_⟩;refine ⟨_,rfl,wy,v,rfl,hw,h9,fun H1 g1=>?_⟩;have dl:=wy.deep_le;exact ⟨_,rfl,wy,v,rfl,hw.mono (Tups.of g1),by lia,by lia,fun p H2 g2 n2 e2=>q p H2 (g1.trans g2) (g1.free n2) e2⟩
theorem qA (g:Sg):g.str.length=1:=by cases g <;> rfl
theorem sE (x y:Str):(x++y).length=x.length+y.length:=by
  cases x;cases y;show (_++_:Array Nat).size=_;rw [Array.size_append];rfl
end
open PySem L2
def Wel (H:Hp) (w:Addr) (_M:Int):Prop:=∃ a b,H w=some (.lst [.int a,.int b])∧0≤b∧b < 2147483629
theorem Wel.keep {H H':Hp} {w:Addr} {M M':Int} (h:Wel H w M) (s:Same H H') (m:M≤M'):Wel H' w M':=by
  obtain ⟨a,b,e,h0,h1⟩:=h;exact ⟨a,b,s _ _ e,h0,h1⟩
theorem Wel.more {H:Hp} {w:Addr} {M M':Int} (h:Wel H w M) (m:M≤M'):Wel H w M':=h.keep (Same.refl H) m
theorem But.free {w p:Addr} {H H':Hp} {M:Int} (b:But w H H') (h:Wel H' w M) (n:H' p=none):H p=none:=by
  cases q:H p with
  | none=>rfl
  | some o =>
    by_cases e:p=w
    · subst e;obtain ⟨_,_,z,_⟩:=h;rw [z] at n;cases n
    · rw [b p o e q] at n;cases n
theorem Wel.ne {w p:Addr} {H:Hp} {M:Int} (h:Wel H w M) (n:H p=none):p≠w:=fun e=>by
  subst e;obtain ⟨_,_,z,_⟩:=h;rw [z] at n;cases n
theorem Wel.tups {w:Addr} {H H':Hp} {M:Int} (h:Wel H w M) (b:But w H H'):Tups H H':=by
  obtain ⟨_,_,z,_⟩:=h;exact Tups.but b z
section
variable {P:Program} {w:World} {K:aaa} {mg:Str→Option Value} {base:Heap} {f:Addr} {fd:FuncData}
theorem lM (x m:Int) (h:0 < m):0≤x % m∧x % m < m:=⟨Int.emod_nonneg x (by lia),Int.emod_lt_of_pos x h⟩
def my:Sp:=fun vs H Q _=>∃ cell,vs=[.int cell]∧∀ p H',Same H H'→H p=none→Wel H' p 0→Q (.ref p) H'
abbrev fb:Stmt:=top 56
theorem ki:FnScope ["cell"] ["cell"] (ah fb):=⟨rfl,rfl,rfl,by decide +kernel,rfl,by decide +kernel,by decide +kernel⟩
theorem sU (F:Fun K "_law_well" "_law_well" fb f fd) (B:Bu K mg):FnOk P w K mg base CX0 1 f fd ["cell"] my:=by
  refine F.ok ki (fun vs H Q E h=>?_) (fun cdv A outer s H vs Q E hr h=>?_)
  · obtain ⟨x,rfl,_⟩:=h;rfl
  obtain ⟨cell,rfl,q⟩:=h;refine ⟨_,(@ae _ _ _ _ _ (@a9 _ _ _ _ _ _ _ _ (@ap _ _ _ _ _ _ _ _ wE (pv 0) (@al _ _ _ _ _ _ _ _ dN ad ad) (aw _)) (@af _ _ _ (@ak _ _ _ _ (@ar _ _ _ _ (@aa _ _ _ _ _ (pv 0) (@aa _ _ _ _ _ (@al _ _ _ _ _ _ _ _ fo (pv 0) ad) ac (by rfl)) (by rfl))))) aE) (@af _ _ _ (@ak _ _ _ _ (@ar _ _ _ _ (@aa _ _ _ _ _ ad (@aa _ _ _ _ _ (@al _ _ _ _ _ _ _ _ fo (pv 0) ad) ac (by rfl)) (by rfl)))))),?_⟩;have z:=lM cell 2147483629 (by decide);refine ⟨_,rfl,_,_,rfl,rfl,⟨by decide,by decide,by decide⟩,_,_,rfl,rfl,_,rfl,fG (fun _=>?_) (fun _=>?_)⟩
  · exact ⟨_,rfl,_,rfl,_,_,rfl,rfl,(show (0:Int) < 2147483629 by decide),(by show 2≤sizeLine;decide),fun p hp=>q p _ (Same.new hp _) hp ⟨_,_,upd_same,z.1,z.2⟩⟩
  · exact ⟨_,rfl,_,_,rfl,rfl,(show (0:Int) < 2147483629 by decide),(by show 2≤sizeLine;decide),fun p hp=>q p _ (Same.new hp _) hp ⟨_,_,upd_same,z.1,z.2⟩⟩
def dn:Sp:=fun vs H Q _=>∃ w m M,vs=[.ref w,.int m]∧0 < m∧m < 2 ^ 63∧Wel H w M∧M < 1000000000∧∀ r H',0≤r→r < m→But w H H'→Wel H' w (M+1)→Q (.int r) H'
abbrev fe:Stmt:=top 57
theorem db:FnScope ["well","many","got","stirred"] ["well","many"] (ah fe):=⟨rfl,rfl,rfl,by decide +kernel,rfl,by decide +kernel,by decide +kernel⟩
theorem sX (F:Fun K "_law_draw" "_law_draw" fe f fd):FnOk P w K mg base CX0 2 f fd ["well","many"] dn:=by
  refine F.ok db (fun vs H Q E h=>?_) (fun cdv A outer s H vs Q E hr h=>?_)
  · obtain ⟨x,m,M,rfl,_⟩:=h;rfl
  obtain ⟨wl,m,M,rfl,h0,h1,⟨a,b,e,c0,c1⟩,hM,q⟩:=h;refine ⟨_,(@ae _ _ _ _ _ (@a9 _ _ _ _ _ _ _ _ (@ap _ _ _ _ _ _ _ _ jH (@bn _ _ _ _ _ _ _ ix_list (pv 0) ad (fun _ _=>rfl)) ad (aw _)) (@ae _ _ _ _ _ (@ao _ _ (2) _ _ _ _ (db).nd rfl (Or.inl rfl) (@al _ _ _ _ _ _ _ _ fo (@bn _ _ _ _ _ _ _ ix_list (pv 0) ad (fun _ _=>rfl)) (pv 1)) (by rfl) (by first|exact .inl rfl|exact .inr rfl|assumption)) (@ae _ _ _ _ _ (@fk _ _ _ _ _ _ (@al _ _ _ _ _ _ _ _ lE (@bn _ _ _ _ _ _ _ ix_list (pv 0) ad (fun _ _=>rfl)) (pv 1)) (@qJ _ _ _ _ _ _ _ (pv 0) ad lg (by intro _;rfl)) (by rfl) (by rfl) (by rfl)) (@af _ _ _ (@ak _ _ _ _ (pv 2))))) aE) (@ae _ _ _ _ _ (@ao _ _ (3) _ _ _ _ (db).nd rfl (Or.inl rfl) (@al _ _ _ _ _ _ _ _ fo (@al _ _ _ _ _ _ _ _ bX (@al _ _ _ _ _ _ _ _ fY (@bn _ _ _ _ _ _ _ ix_list (pv 0) ad (fun _ _=>rfl)) ad) ad) ad) (by rfl) (by first|exact .inl rfl|exact .inr rfl|assumption)) (@ae _ _ _ _ _ (@ao _ _ (3) _ _ _ _ (db).nd rfl (Or.inl rfl) (@al _ _ _ _ _ _ _ _ fo (@al _ _ _ _ _ _ _ _ fY (pv 3) (pv 3)) ad) (by rfl) (by first|exact .inl rfl|exact .inr rfl|assumption)) (@ae _ _ _ _ _ (@fk _ _ _ _ _ _ (@al _ _ _ _ _ _ _ _ fo (@al _ _ _ _ _ _ _ _ bX (@al _ _ _ _ _ _ _ _ fY (pv 3) ad) ad) ad) (@qJ _ _ _ _ _ _ _ (pv 0) ad lg (by intro _;rfl)) (by rfl) (by rfl) (by rfl)) (@af _ _ _ (@ak _ _ _ _ (@al _ _ _ _ _ _ _ _ fo (@al _ _ _ _ _ _ _ _ lE (@bn _ _ _ _ _ _ _ ix_list (pv 0) ad (fun _ _=>rfl)) ad) (pv 1)))))))),?_⟩;refine ⟨_,rfl,wl,_,_,_,rfl,rfl,SqL.of e,rfl,_,_,rfl,rfl,_,rfl,fG (fun _=>?_) (fun _=>?_)⟩
  · refine ⟨_,rfl,wl,_,_,_,rfl,rfl,SqL.of e,rfl,_,rfl,_,_,rfl,rfl,h0,?_⟩;refine ⟨_,rfl,wl,_,_,_,rfl,rfl,SqL.of e,rfl,_,rfl,_,_,rfl,rfl,⟨h0,by lia⟩,_,rfl,wl,_,_,0,rfl,rfl,e,rfl,?_⟩;refine ⟨_,rfl,?_⟩;have z:=lM a m h0;exact q _ _ z.1 z.2 But.put ⟨_,_,upd_same,c0,c1⟩
  · refine ⟨_,rfl,wl,_,_,_,rfl,rfl,SqL.of e,rfl,_,_,rfl,rfl,.inr ⟨by decide,by decide⟩,_,_,rfl,rfl,_,_,rfl,rfl,(show (0:Int) < 2147483647 by decide),?_⟩;refine ⟨_,rfl,_,rfl,_,_,rfl,rfl,.inl ⟨by lia,by lia⟩,_,_,rfl,rfl,(show (0:Int) < 2147483587 by decide),?_⟩;refine ⟨_,rfl,_,_,rfl,rfl,.inr ⟨by decide,by decide⟩,_,_,rfl,rfl,_,_,rfl,rfl,(show (0:Int) < 2147483629 by decide),_,rfl,wl,_,_,1,rfl,rfl,e,rfl,?_⟩;have hd:=lM ((b * 48271+11) % 2147483647 * ((b * 48271+11) % 2147483647) % 2147483587 * 69621+40692) 2147483629 (by decide);refine ⟨_,rfl,wl,_,_,_,rfl,rfl,SqL.of upd_same,rfl,_,_,rfl,rfl,⟨by decide,by decide⟩,_,rfl,_,_,rfl,rfl,h0,?_⟩;have z:=lM (((b * 48271+11) % 2147483647 * ((b * 48271+11) % 2147483647) % 2147483587 * 69621+40692) % 2147483629 / 8) m h0;exact q _ _ z.1 z.2 But.put ⟨_,_,upd_same,hd.1,hd.2⟩
open PySem L2
def Small (ns:List Int):Prop:=∀ i∈ns,-1000000000000 < i∧i < 1000000000000
def qx:Sp:=fun vs H Q _=>∃ w n M,vs=[.ref w,.int n]∧0≤n∧n≤20∧Wel H w M∧M < 999990000 ∧
  ∀ p ns H',But w H H'→Wel H' w (M+400)→H p=none→H' p=some (.lst (ns.map V.int))→(ns.length:Int)=n→Small ns→Q (.ref p) H'
theorem lB {xs:List Int} {r:Int} (h0:0≤r) (h1:r < xs.length):∃ u:Int,atI (xs.map V.int) r=some (.int u)∧u∈xs:=by
  obtain ⟨j,rfl⟩:∃ j:Nat,r=(j:Int):=⟨r.toNat,by lia⟩
  have hj:j < xs.length:=by lia
  exact ⟨xs[j],gB (by rw [aaJ,aar hj];rfl),List.getElem_mem hj⟩
theorem pm {k:Int} (h0:0≤k) (h1:k < 2):∃ z:Int,atI [V.int 1,.int (-1)] k=some (.int z)∧(z=1∨z=-1):=by
  have : k=0∨k=1:=by lia
  rcases this with rfl|rfl
  · exact ⟨1,rfl,.inl rfl⟩
  · exact ⟨-1,rfl,.inr rfl⟩
theorem p4 {k:Int} (h0:0≤k) (h1:k < 4):∃ z:Int,atI [V.int (10 ^ (4:Int).toNat),.int (10 ^ (6:Int).toNat),.int (10 ^ (9:Int).toNat),.int (10 ^ (12:Int).toNat)] k=some (.int z)∧0 < z∧z≤1000000000000:=by
  have : k=0∨k=1∨k=2∨k=3:=by lia
  rcases this with rfl|rfl|rfl|rfl <;> exact ⟨_,rfl,by decide,by decide⟩
abbrev fV:Stmt:=top 58
theorem bu:FnScope ["well","many","kind","found","k","some","wide","own"] ["well","many"] (ah fV):=⟨rfl,rfl,rfl,by decide +kernel,rfl,by decide +kernel,by decide +kernel⟩
theorem uY (F:Fun K "_law_row" "_law_row" fV f fd) (B:Bu K mg) (C__law_draw:Cal P w K mg base "_law_draw" 2 ["well","many"] dn):FnOk P w K mg base CX0 3 f fd ["well","many"] qx:=by
  refine F.ok bu (fun vs H Q E h=>?_) (fun cdv A outer s H vs Q E hr h=>?_)
  · obtain ⟨x,m,M,rfl,_⟩:=h;rfl
  obtain ⟨wl,n,M,rfl,h0,h1,hw,hM,q⟩:=h;refine ⟨_,(@ae _ _ _ _ _ (@ao _ _ (2) _ _ _ _ (bu).nd rfl (Or.inl rfl) (@ag _ _ _ _ _ _ _ _ _ _ _ C__law_draw hr (by lia) rfl (@aa _ _ _ _ _ (pv 0) (@aa _ _ _ _ _ ad ac (by rfl)) (by rfl)) (by decide) (by rfl) (by rfl)) (by rfl) (by first|exact .inl rfl|exact .inr rfl|assumption)) (@ae _ _ _ _ _ (@ao _ _ (3) _ _ _ _ (bu).nd rfl (Or.inl rfl) (@ar _ _ _ _ ac) (by rfl) (by first|exact .inl rfl|exact .inr rfl|assumption)) (@ae _ _ _ _ _ (@fj _ _ _ _ _ _ _ _ abe rfl (@df _ _ _ _ _ _ rfl B.irange (@aa _ _ _ _ _ (pv 1) ac (by rfl)) (by rfl)) (@au _ _ (4) _ (bu).nd rfl (Or.inl rfl) (.inl rfl)) (@ae _ _ _ _ _ (@ao _ _ (5) _ _ _ _ (bu).nd rfl (Or.inl rfl) (@ar _ _ _ _ (@aa _ _ _ _ _ (@ag _ _ _ _ _ _ _ _ _ _ _ C__law_draw hr (by lia) rfl (@aa _ _ _ _ _ (pv 0) (@aa _ _ _ _ _ ad ac (by rfl)) (by rfl)) (by decide) (by rfl) (by rfl)) (@aa _ _ _ _ _ (@al _ _ _ _ _ _ _ _ dD (@ag _ _ _ _ _ _ _ _ _ _ _ C__law_draw hr (by lia) rfl (@aa _ _ _ _ _ (pv 0) (@aa _ _ _ _ _ ad ac (by rfl)) (by rfl)) (by decide) (by rfl) (by rfl)) ad) (@aa _ _ _ _ _ (@al _ _ _ _ _ _ _ _ dD (@ag _ _ _ _ _ _ _ _ _ _ _ C__law_draw hr (by lia) rfl (@aa _ _ _ _ _ (pv 0) (@aa _ _ _ _ _ ad ac (by rfl)) (by rfl)) (by decide) (by rfl) (by rfl)) ad) (@aa _ _ _ _ _ (@al _ _ _ _ _ _ _ _ dD (@ag _ _ _ _ _ _ _ _ _ _ _ C__law_draw hr (by lia) rfl (@aa _ _ _ _ _ (pv 0) (@aa _ _ _ _ _ ad ac (by rfl)) (by rfl)) (by decide) (by rfl) (by rfl)) ad) ac (by rfl)) (by rfl)) (by rfl)) (by rfl))) (by rfl) (by first|exact .inl rfl|exact .inr rfl|assumption)) (@ae _ _ _ _ _ (@ao _ _ (5) _ _ _ _ (bu).nd rfl (Or.inl rfl) (@al _ _ _ _ _ _ _ _ bj (pv 5) (@ar _ _ _ _ (@aa _ _ _ _ _ (@al _ _ _ _ _ _ _ _ fY (@al _ _ _ _ _ _ _ _ dD (@al _ _ _ _ _ _ _ _ dD (@al _ _ _ _ _ _ _ _ dN ad ad) ad) (@ag _ _ _ _ _ _ _ _ _ _ _ C__law_draw hr (by lia) rfl (@aa _ _ _ _ _ (pv 0) (@aa _ _ _ _ _ ad ac (by rfl)) (by rfl)) (by decide) (by rfl) (by rfl))) (@bn _ _ _ _ _ _ _ ix_list (@ar _ _ _ _ (@aa _ _ _ _ _ ad (@aa _ _ _ _ _ (@lC _ _ _ _ _ _ iF ad) ac (by rfl)) (by rfl))) (@ag _ _ _ _ _ _ _ _ _ _ _ C__law_draw hr (by lia) rfl (@aa _ _ _ _ _ (pv 0) (@aa _ _ _ _ _ ad ac (by rfl)) (by rfl)) (by decide) (by rfl) (by rfl)) (fun _ _=>rfl))) (@aa _ _ _ _ _ (@al _ _ _ _ _ _ _ _ bX ad (@ag _ _ _ _ _ _ _ _ _ _ _ C__law_draw hr (by lia) rfl (@aa _ _ _ _ _ (pv 0) (@aa _ _ _ _ _ ad ac (by rfl)) (by rfl)) (by decide) (by rfl) (by rfl))) ac (by rfl)) (by rfl)))) (by rfl) (by first|exact .inl rfl|exact .inr rfl|assumption)) (@ae _ _ _ _ _ (@ao _ _ (6) _ _ _ _ (bu).nd rfl (Or.inl rfl) (@al _ _ _ _ _ _ _ _ bX (@al _ _ _ _ _ _ _ _ fY (@ag _ _ _ _ _ _ _ _ _ _ _ C__law_draw hr (by lia) rfl (@aa _ _ _ _ _ (pv 0) (@aa _ _ _ _ _ (@al _ _ _ _ _ _ _ _ dN ad ad) ac (by rfl)) (by rfl)) (by decide) (by rfl) (by rfl)) (@al _ _ _ _ _ _ _ _ dN ad ad)) (@ag _ _ _ _ _ _ _ _ _ _ _ C__law_draw hr (by lia) rfl (@aa _ _ _ _ _ (pv 0) (@aa _ _ _ _ _ (@al _ _ _ _ _ _ _ _ dN ad ad) ac (by rfl)) (by rfl)) (by decide) (by rfl) (by rfl))) (by rfl) (by first|exact .inl rfl|exact .inr rfl|assumption)) (@ae _ _ _ _ _ (@ao _ _ (6) _ _ _ _ (bu).nd rfl (Or.inl rfl) (@al _ _ _ _ _ _ _ _ fY (@al _ _ _ _ _ _ _ _ fo (pv 6) (@bn _ _ _ _ _ _ _ ix_list (@ar _ _ _ _ (@aa _ _ _ _ _ (@al _ _ _ _ _ _ _ _ dN ad ad) (@aa _ _ _ _ _ (@al _ _ _ _ _ _ _ _ dN ad ad) (@aa _ _ _ _ _ (@al _ _ _ _ _ _ _ _ dN ad ad) (@aa _ _ _ _ _ (@al _ _ _ _ _ _ _ _ dN ad ad) ac (by rfl)) (by rfl)) (by rfl)) (by rfl))) (@ag _ _ _ _ _ _ _ _ _ _ _ C__law_draw hr (by lia) rfl (@aa _ _ _ _ _ (pv 0) (@aa _ _ _ _ _ ad ac (by rfl)) (by rfl)) (by decide) (by rfl) (by rfl)) (fun _ _=>rfl))) (@bn _ _ _ _ _ _ _ ix_list (@ar _ _ _ _ (@aa _ _ _ _ _ ad (@aa _ _ _ _ _ (@lC _ _ _ _ _ _ iF ad) ac (by rfl)) (by rfl))) (@ag _ _ _ _ _ _ _ _ _ _ _ C__law_draw hr (by lia) rfl (@aa _ _ _ _ _ (pv 0) (@aa _ _ _ _ _ ad ac (by rfl)) (by rfl)) (by decide) (by rfl) (by rfl)) (fun _ _=>rfl))) (by rfl) (by first|exact .inl rfl|exact .inr rfl|assumption)) (@ae _ _ _ _ _ (@ao _ _ (7) _ _ _ _ (bu).nd rfl (Or.inl rfl) (@ag _ _ _ _ _ _ _ _ _ _ _ C__law_draw hr (by lia) rfl (@aa _ _ _ _ _ (pv 0) (@aa _ _ _ _ _ ad ac (by rfl)) (by rfl)) (by decide) (by rfl) (by rfl)) (by rfl) (by first|exact .inl rfl|exact .inr rfl|assumption)) (@af _ _ _ (@bC _ _ _ _ (@cA _ _ _ _ _ _ _ _ _ _ _ _ aaH aa1 aa2 cF (pv 3) (@aa _ _ _ _ _ (@bn _ _ _ _ _ _ _ ix_list (@al _ _ _ _ _ _ _ _ bj (pv 5) (@ar _ _ _ _ (@aa _ _ _ _ _ (@bn _ _ _ _ _ _ _ ix_list (@al _ _ _ _ _ _ _ _ bj (pv 3) (pv 5)) ad (fun _ _=>rfl)) (@aa _ _ _ _ _ (pv 6) ac (by rfl)) (by rfl)))) (@bn _ _ _ _ _ _ _ ix_list (@ar _ _ _ _ (@aa _ _ _ _ _ (pv 2) (@aa _ _ _ _ _ (pv 7) ac (by rfl)) (by rfl))) (@cE _ _ _ _ _ _ _ _ _ jQ rfl B.iint abG (@aa _ _ _ _ _ (@bM _ _ _ _ _ _ _ _ bV (pv 2) ad (aw _)) ac (by rfl)) (by decide) (by decide) (by rfl) (by rfl)) (fun _ _=>rfl)) (fun _ _=>rfl)) ac (by rfl)) (by rfl) (by rfl) (by rfl) (by rfl) (by rfl)) (by rfl)))))))) (by intro _;rfl)) (@af _ _ _ (@ak _ _ _ _ (pv 3)))))),?_⟩;have t1:(1:Nat)≤sizeLine:=by decide
  have t2:(2:Nat)≤sizeLine:=by decide
  have t4:(4:Nat)≤sizeLine:=by decide
  refine ⟨_,rfl,wl,9,_,rfl,by decide,by decide,hw,by lia,fun kd H1 kd0 kd1 g1 w1=>?_⟩;refine ⟨(by show 0≤sizeLine;decide),fun pf nf=>?_⟩;have nfw:=w1.ne nf;have hfree:H pf=none:=But.free g1 w1 nf;refine ⟨_,rfl,n,rfl,by lia,by lia,hJ (n:=n.toNat) (fun j σ H'=>∃ (ns:List Int) (c4 c5 c6 c7:Option V),σ=[some (.ref wl),some (.int n),some (.int kd),some (.ref pf),c4,c5,c6,c7]∧H' pf=some (.lst (ns.map V.int))∧ns.length=j∧Small ns∧But wl H1 H'∧Wel H' wl (M+1+15 * j)) ⟨[],_,_,_,_,rfl,upd_same,rfl,(fun _ z=>nomatch z),But.new nf _,(w1.keep (Same.new nf _) (aaA _)).more (by lia)⟩ ?_ ?_⟩
  · rintro j σ K0 hj ⟨ns,c4,c5,c6,c7,rfl,ef,hl,hs,bb,u0⟩;refine ⟨_,rfl,wl,10,_,rfl,by decide,by decide,u0,by lia,fun r1 K1 r1a r1b b0 u1=>?_⟩;refine ⟨_,rfl,wl,3,_,rfl,by decide,by decide,u1,by lia,fun r2 K2 r2a r2b b1 u2=>⟨_,_,rfl,rfl,?_⟩⟩;refine ⟨_,rfl,wl,13,_,rfl,by decide,by decide,u2,by lia,fun r3 K3 r3a r3b b2 u3=>⟨_,_,rfl,rfl,?_⟩⟩;refine ⟨_,rfl,wl,1999,_,rfl,by decide,by decide,u3,by lia,fun r4 K4 r4a r4b b3 u4=>⟨_,_,rfl,rfl,?_⟩⟩;refine ⟨t4,fun q1 m1=>?_⟩;have y4:=Same.new m1 (.lst [V.int r1,.int (r2 - 1),.int (r3 - 6),.int (r4 - 999)]);have nq_q1:=u4.ne m1;have u5:=u4.keep y4 (aaA _);have e_q1:=upd_same (H:=K4) (a:=q1) (o:=.lst [V.int r1,.int (r2 - 1),.int (r3 - 6),.int (r4 - 999)]);revert y4 u5 e_q1;generalize upd K4 q1 (.lst [V.int r1,.int (r2 - 1),.int (r3 - 6),.int (r4 - 999)])=K5;intro y4 u5 e_q1;have b4:But wl K4 K5:=But.of y4;refine ⟨_,rfl,10,12,rfl,rfl,⟨by decide,by decide,by decide⟩,_,_,rfl,rfl,?_⟩;refine ⟨_,rfl,wl,99,_,rfl,by decide,by decide,u5,by lia,fun r5 K6 r5a r5b b5 u6=>⟨_,_,rfl,rfl,?_⟩⟩;refine ⟨_,rfl,t2,fun q2 m2=>?_⟩;have y6:=Same.new m2 (.lst [V.int 1,.int (-1)]);have nq_q2:=u6.ne m2;have u7:=u6.keep y6 (aaA _);have e_q2:=upd_same (H:=K6) (a:=q2) (o:=.lst [V.int 1,.int (-1)]);revert y6 u7 e_q2;generalize upd K6 q2 (.lst [V.int 1,.int (-1)])=K7;intro y6 u7 e_q2;have b6:But wl K6 K7:=But.of y6;refine ⟨_,rfl,wl,2,_,rfl,by decide,by decide,u7,by lia,fun r6 K8 r6a r6b b7 u8=>?_⟩;obtain ⟨s1,hs1,vs1⟩:=pm r6a r6b;have p12:(10:Int) ^ (12:Int).toNat=1000000000000:=by decide
    rw [p12];refine ⟨q2,_,_,_,rfl,rfl,SqL.of (b7 _ _ nq_q2 e_q2),hs1,_,_,rfl,rfl,.inr ⟨by lia,by lia⟩,?_⟩;refine ⟨_,rfl,wl,9,_,rfl,by decide,by decide,u8,by lia,fun r7 K9 r7a r7b b8 u9=>⟨_,_,rfl,rfl,?_⟩⟩;refine ⟨t2,fun q3 m3=>?_⟩;have y9:=Same.new m3 (.lst [V.int ((1000000000000 - 1 - r5) * s1),.int (1+r7)]);have nq_q3:=u9.ne m3;have u10:=u9.keep y9 (aaA _);have e_q3:=upd_same (H:=K9) (a:=q3) (o:=.lst [V.int ((1000000000000 - 1 - r5) * s1),.int (1+r7)]);revert y9 u10 e_q3;generalize upd K9 q3 (.lst [V.int ((1000000000000 - 1 - r5) * s1),.int (1+r7)])=K10;intro y9 u10 e_q3;have b9:But wl K9 K10:=But.of y9;refine ⟨q1,q3,_,_,rfl,rfl,((b5.trans (b6.trans (b7.trans (b8.trans b9)))) _ _ nq_q1 e_q1),e_q3,av (by show 4+2≤1000;decide),fun q4 m4=>?_⟩;have y10:=Same.new m4 (.lst ([V.int r1,.int (r2 - 1),.int (r3 - 6),.int (r4 - 999)]++[V.int ((1000000000000 - 1 - r5) * s1),.int (1+r7)]));have nq_q4:=u10.ne m4;have u11:=u10.keep y10 (aaA _);have e_q4:=upd_same (H:=K10) (a:=q4) (o:=.lst ([V.int r1,.int (r2 - 1),.int (r3 - 6),.int (r4 - 999)]++[V.int ((1000000000000 - 1 - r5) * s1),.int (1+r7)]));revert y10 u11 e_q4;generalize upd K10 q4 (.lst ([V.int r1,.int (r2 - 1),.int (r3 - 6),.int (r4 - 999)]++[V.int ((1000000000000 - 1 - r5) * s1),.int (1+r7)]))=K11;intro y10 u11 e_q4;have b10:But wl K10 K11:=But.of y10;have p6:(10:Int) ^ (6:Int).toNat=1000000:=by decide
    refine ⟨_,rfl,10,6,rfl,rfl,⟨by decide,by decide,by decide⟩,wl,_,_,rfl,(by decide),(by decide),u11,by lia,fun r8 K12 r8a r8b b11 u12=>⟨10,6,rfl,rfl,⟨by decide,by decide,by decide⟩,_,_,rfl,rfl,.inr ⟨by decide,by decide⟩,?_⟩⟩;refine ⟨_,rfl,10,6,rfl,rfl,⟨by decide,by decide,by decide⟩,wl,_,_,rfl,(by decide),(by decide),u12,by lia,fun r9 K13 r9a r9b b12 u13=>⟨_,_,rfl,rfl,?_⟩⟩;refine ⟨_,rfl,10,4,rfl,rfl,⟨by decide,by decide,by decide⟩,10,6,rfl,rfl,⟨by decide,by decide,by decide⟩,10,9,rfl,rfl,⟨by decide,by decide,by decide⟩,10,12,rfl,rfl,⟨by decide,by decide,by decide⟩,t4,fun q5 m5=>?_⟩;have y13:=Same.new m5 (.lst [V.int (10 ^ (4:Int).toNat),.int (10 ^ (6:Int).toNat),.int (10 ^ (9:Int).toNat),.int (10 ^ (12:Int).toNat)]);have nq_q5:=u13.ne m5;have u14:=u13.keep y13 (aaA _);have e_q5:=upd_same (H:=K13) (a:=q5) (o:=.lst [V.int (10 ^ (4:Int).toNat),.int (10 ^ (6:Int).toNat),.int (10 ^ (9:Int).toNat),.int (10 ^ (12:Int).toNat)]);revert y13 u14 e_q5;generalize upd K13 q5 (.lst [V.int (10 ^ (4:Int).toNat),.int (10 ^ (6:Int).toNat),.int (10 ^ (9:Int).toNat),.int (10 ^ (12:Int).toNat)])=K14;intro y13 u14 e_q5;have b13:But wl K13 K14:=But.of y13;refine ⟨_,rfl,wl,4,_,rfl,by decide,by decide,u14,by lia,fun r10 K15 r10a r10b b14 u15=>?_⟩;obtain ⟨md,hmd,md0,md1⟩:=p4 r10a r10b;refine ⟨q5,_,_,_,rfl,rfl,SqL.of (b14 _ _ nq_q5 e_q5),hmd,_,_,rfl,rfl,md0,_,rfl,t2,fun q6 m6=>?_⟩;have y15:=Same.new m6 (.lst [V.int 1,.int (-1)]);have nq_q6:=u15.ne m6;have u16:=u15.keep y15 (aaA _);have e_q6:=upd_same (H:=K15) (a:=q6) (o:=.lst [V.int 1,.int (-1)]);revert y15 u16 e_q6;generalize upd K15 q6 (.lst [V.int 1,.int (-1)])=K16;intro y15 u16 e_q6;have b15:But wl K15 K16:=But.of y15;refine ⟨_,rfl,wl,2,_,rfl,by decide,by decide,u16,by lia,fun r11 K17 r11a r11b b16 u17=>?_⟩;obtain ⟨s2,hs2,vs2⟩:=pm r11a r11b;have hwd:=lM (r8 * 10 ^ (6:Int).toNat+r9) md md0;refine ⟨q6,_,_,_,rfl,rfl,SqL.of (b16 _ _ nq_q6 e_q6),hs2,_,_,rfl,rfl,.inr ⟨by lia,by lia⟩,?_⟩;refine ⟨_,rfl,wl,8,_,rfl,by decide,by decide,u17,by lia,fun r12 K18 r12a r12b b17 u18=>?_⟩;refine ⟨_,rfl,.inl ⟨rfl,_,SqL.of ((b0.trans (b1.trans (b2.trans (b3.trans (b4.trans (b5.trans (b6.trans (b7.trans (b8.trans (b9.trans (b10.trans (b11.trans (b12.trans (b13.trans (b14.trans (b15.trans (b16.trans b17))))))))))))))))) _ _ nfw ef)⟩,_,rfl,_,rfl,_,rfl,?_⟩;refine ⟨pf,q4,_,_,rfl,rfl,((b0.trans (b1.trans (b2.trans (b3.trans (b4.trans (b5.trans (b6.trans (b7.trans (b8.trans (b9.trans (b10.trans (b11.trans (b12.trans (b13.trans (b14.trans (b15.trans (b16.trans b17))))))))))))))))) _ _ nfw ef),((b11.trans (b12.trans (b13.trans (b14.trans (b15.trans (b16.trans b17)))))) _ _ nq_q4 e_q4),av (by rw [aak];show _+6≤1000;lia),fun q7 m7=>?_⟩;have eall:ns.map V.int++([V.int r1,.int (r2 - 1),.int (r3 - 6),.int (r4 - 999)]++[V.int ((1000000000000 - 1 - r5) * s1),.int (1+r7)])=(ns++[r1,r2 - 1,r3 - 6,r4 - 999,(1000000000000 - 1 - r5) * s1,1+r7]).map V.int:=by rw [aaC];rfl
    rw [eall];have y18:=Same.new m7 (.lst ((ns++[r1,r2 - 1,r3 - 6,r4 - 999,(1000000000000 - 1 - r5) * s1,1+r7]).map V.int));have nq_q7:=u18.ne m7;have u19:=u18.keep y18 (aaA _);have e_q7:=upd_same (H:=K18) (a:=q7) (o:=.lst ((ns++[r1,r2 - 1,r3 - 6,r4 - 999,(1000000000000 - 1 - r5) * s1,1+r7]).map V.int));revert y18 u19 e_q7;generalize upd K18 q7 (.lst ((ns++[r1,r2 - 1,r3 - 6,r4 - 999,(1000000000000 - 1 - r5) * s1,1+r7]).map V.int))=K19;intro y18 u19 e_q7;have b18:But wl K18 K19:=But.of y18;obtain ⟨x0,hx0,mx0⟩:=lB (xs:=(ns++[r1,r2 - 1,r3 - 6,r4 - 999,(1000000000000 - 1 - r5) * s1,1+r7])) (r:=0) (by decide) (by rw [aae];simp only [aaD,abr];lia);refine ⟨q7,_,_,_,rfl,rfl,SqL.of e_q7,hx0,_,rfl,t2,fun q8 m8=>?_⟩;have y19:=Same.new m8 (.lst [V.int x0,.int ((r8 * 10 ^ (6:Int).toNat+r9) % md * s2)]);have nq_q8:=u19.ne m8;have u20:=u19.keep y19 (aaA _);have e_q8:=upd_same (H:=K19) (a:=q8) (o:=.lst [V.int x0,.int ((r8 * 10 ^ (6:Int).toNat+r9) % md * s2)]);revert y19 u20 e_q8;generalize upd K19 q8 (.lst [V.int x0,.int ((r8 * 10 ^ (6:Int).toNat+r9) % md * s2)])=K20;intro y19 u20 e_q8;have b19:But wl K19 K20:=But.of y19;refine ⟨q4,q8,_,_,rfl,rfl,((b11.trans (b12.trans (b13.trans (b14.trans (b15.trans (b16.trans (b17.trans (b18.trans b19)))))))) _ _ nq_q4 e_q4),e_q8,av (by show 6+2≤1000;decide),fun q9 m9=>?_⟩;have e8:[V.int r1,.int (r2 - 1),.int (r3 - 6),.int (r4 - 999)]++[V.int ((1000000000000 - 1 - r5) * s1),.int (1+r7)]++[V.int x0,.int ((r8 * 10 ^ (6:Int).toNat+r9) % md * s2)]=([r1,r2 - 1,r3 - 6,r4 - 999,(1000000000000 - 1 - r5) * s1,1+r7,x0,(r8 * 10 ^ (6:Int).toNat+r9) % md * s2]:List Int).map V.int:=rfl;rw [e8];have y20:=Same.new m9 (.lst (([r1,r2 - 1,r3 - 6,r4 - 999,(1000000000000 - 1 - r5) * s1,1+r7,x0,(r8 * 10 ^ (6:Int).toNat+r9) % md * s2]:List Int).map V.int));have nq_q9:=u20.ne m9;have u21:=u20.keep y20 (aaA _);have e_q9:=upd_same (H:=K20) (a:=q9) (o:=.lst (([r1,r2 - 1,r3 - 6,r4 - 999,(1000000000000 - 1 - r5) * s1,1+r7,x0,(r8 * 10 ^ (6:Int).toNat+r9) % md * s2]:List Int).map V.int));revert y20 u21 e_q9;generalize upd K20 q9 (.lst (([r1,r2 - 1,r3 - 6,r4 - 999,(1000000000000 - 1 - r5) * s1,1+r7,x0,(r8 * 10 ^ (6:Int).toNat+r9) % md * s2]:List Int).map V.int))=K21;intro y20 u21 e_q9;have b20:But wl K20 K21:=But.of y20;refine ⟨_,rfl,_,rfl,t2,fun qa ma=>?_⟩;have y21:=Same.new ma (.lst [V.int kd,.int r12]);have nq_qa:=u21.ne ma;have u22:=u21.keep y21 (aaA _);have e_qa:=upd_same (H:=K21) (a:=qa) (o:=.lst [V.int kd,.int r12]);revert y21 u22 e_qa;generalize upd K21 qa (.lst [V.int kd,.int r12])=K22;intro y21 u22 e_qa;have b21:But wl K21 K22:=But.of y21;have ix:∃ z:Int,atI [V.int kd,.int r12] (if decide (V.int kd=V.int 8)=true then 1 else 0)=some (.int z)∧0≤z∧z < 8:=by
      by_cases c:kd=8
      · exact ⟨r12,by rw [decide_eq_true (by rw [c])];rfl,r12a,r12b⟩
      · exact ⟨kd,by rw [decide_eq_false (fun e=>c (by injection e))];rfl,kd0,by lia⟩
    obtain ⟨zi,hzi,zi0,zi1⟩:=ix;obtain ⟨el,hel,mel⟩:=lB (xs:=[r1,r2 - 1,r3 - 6,r4 - 999,(1000000000000 - 1 - r5) * s1,1+r7,x0,(r8 * 10 ^ (6:Int).toNat+r9) % md * s2]) zi0 zi1;refine ⟨_,rfl,rfl,.inr ⟨_,rfl,qa,_,_,_,rfl,rfl,SqL.of e_qa,hzi,q9,_,_,_,rfl,rfl,SqL.of (b21 _ _ nq_q9 e_q9),hel,pf,_,_,rfl,rfl,((b0.trans (b1.trans (b2.trans (b3.trans (b4.trans (b5.trans (b6.trans (b7.trans (b8.trans (b9.trans (b10.trans (b11.trans (b12.trans (b13.trans (b14.trans (b15.trans (b16.trans (b17.trans (b18.trans (b19.trans (b20.trans b21))))))))))))))))))))) _ _ nfw ef),aC (by rw [aak];lia),?_⟩⟩;have sm5:-1000000000000 < (1000000000000 - 1 - r5) * s1∧(1000000000000 - 1 - r5) * s1 < 1000000000000:=by rcases vs1 with rfl|rfl <;> lia
    have smw:-1000000000000 < (r8 * 10 ^ (6:Int).toNat+r9) % md * s2∧(r8 * 10 ^ (6:Int).toNat+r9) % md * s2 < 1000000000000:=by rcases vs2 with rfl|rfl <;> lia
    have sm1:∀ x∈[r1,r2 - 1,r3 - 6,r4 - 999,(1000000000000 - 1 - r5) * s1,1+r7],-1000000000000 < x∧x < 1000000000000:=fun x hx=>by
      simp only [aah,aaO,or_false] at hx;rcases hx with rfl|rfl|rfl|rfl|rfl|rfl <;> first|exact sm5|lia
    have sx0:-1000000000000 < x0∧x0 < 1000000000000:=(aao.mp mx0).elim (hs x0) (sm1 x0);have sel:-1000000000000 < el∧el < 1000000000000:=by
      simp only [aah,aaO,or_false] at mel;rcases mel with rfl|rfl|rfl|rfl|rfl|rfl|rfl|rfl <;> first|exact sm5|exact sx0|exact smw|lia
    refine ⟨ns++[el],_,_,_,_,rfl,by rw [upd_same,aaC];rfl,by rw [aae,hl];rfl,fun x hx=>(aao.mp hx).elim (hs x) fun z=>by rw [aaL.mp z];exact sel,?_,?_⟩
    · exact fun c o nc hc=>by
        by_cases z:c=pf
        · subst z;rw [nf] at hc;cases hc
        · rw [aB z];exact (bb.trans (b0.trans (b1.trans (b2.trans (b3.trans (b4.trans (b5.trans (b6.trans (b7.trans (b8.trans (b9.trans (b10.trans (b11.trans (b12.trans (b13.trans (b14.trans (b15.trans (b16.trans (b17.trans (b18.trans (b19.trans (b20.trans b21)))))))))))))))))))))) c o nc hc
    · obtain ⟨wa,wb,we,wf,wg⟩:=u22;exact ⟨wa,wb,by rw [aB (abo nfw)];exact we,wf,wg⟩
  · rintro σ K1 ⟨ns,c4,c5,c6,c7,rfl,ef,hl,hs,bb,u0⟩;exact ⟨_,rfl,q pf ns K1 (g1.trans bb) (u0.more (by lia)) hfree ef (by lia) hs⟩
end
open PySem L2
def mkS (l:List Nat):Str:=⟨l.toArray⟩
theorem bN (a b:List Nat):mkS a++mkS b=mkS (a++b):=by
  show Str.mk (a.toArray++b.toArray)=Str.mk (a++b).toArray;simp
theorem aU (l:List Nat):(mkS l).length=l.length:=by simp [mkS,Str.length]
theorem fB {a b:List Nat} (h:mkS a=mkS b):a=b:=by
  unfold mkS at h;have:=congrArg Str.cps h;simpa using this
theorem iZ (l:List Nat):(mkS l).cps.size=l.length:=by simp [mkS]
theorem kK (l:List Nat) (i:Nat):(mkS l).cps[i]?=l[i]?:=by simp [mkS]
theorem ft (l:List Nat):(mkS l).cps.toList=l:=by simp [mkS]
def Sg.code:Sg→Nat
  | .plus=>43
  | .minus=>45
  | .times=>42
theorem eV (g:Sg):g.str=mkS [g.code]:=by cases g <;> rfl
theorem nF (l:List Nat) (a:Nat):∀ n,a+n≤l.length→(((abz n).map fun (k:Nat)=>a+k).filterMap fun i=>l[i]?)=(l.drop a).take n:=by
  intro n
  induction n with
  | zero=>intro _;simp
  | succ n ih =>
    intro h;have hl:a+n < l.length:=by lia
    rw [List.range_succ,aaC,List.filterMap_append,ih (by lia)];have e:(l.drop a)[n]?=some l[a+n]:=by rw [List.getElem?_drop];exact aar hl
    rw [List.take_succ,e];simp [hl]
theorem iK (l:List Nat) (a b:Nat) (hab:a≤b) (hb:b≤l.length) (ix:List Nat) (hix:ix=(abz (b - a)).map fun (k:Nat)=>a+k):(if ix.length=(mkS l).length then mkS l else ⟨(ix.filterMap ((mkS l).cps[·]?)).toArray⟩:Str)=mkS ((l.drop a).take (b - a)):=by
  subst hix;have e2:(((abz (b - a)).map fun (k:Nat)=>a+k).filterMap ((mkS l).cps[·]?))=(l.drop a).take (b - a):=by
    have : (fun i:Nat=>(mkS l).cps[i]?)=fun i:Nat=>l[i]?:=by funext i;exact kK l i
    rw [this];exact nF l a (b - a) (by lia)
  rw [e2];split
  · rename_i h;rw [aak,List.length_range,aU] at h;have ha:a=0:=by lia
    have hb:b=l.length:=by lia
    subst ha hb;simp
  · rfl
theorem mM (a b:Nat) (hab:a≤b):abN (a:Int) (b:Int) 1=(abz (b - a)).map fun (k:Nat)=>a+k:=by
  unfold abN;simp only [show (1:Int) > 0 by decide,if_true];by_cases h:a < b
  · rw [if_pos (by lia)];have e:(((b:Int) - a+1 - 1) / 1).toNat=b - a:=by rw [Int.ediv_one];lia
    rw [e];refine abO fun k _=>?_;lia
  · rw [if_neg (by lia)];have : b - a=0:=by lia
    rw [this];rfl
theorem jM (l:List Nat) (k:Nat) (h:k≤l.length):jn (mkS l) none (some (k:Int))=mkS (l.take k):=by
  have e:aaG none (some (k:Int)) 1 (mkS l).length=abN ((0:Nat):Int) (k:Int) 1:=by
    unfold aaG;rw [aU];simp only [show (1:Int) > 0 by decide,if_true];congr 1;lia
  unfold jn;rw [e,iK l 0 k (aaM _) h _ (mM 0 k (aaM _))];simp
theorem jN (l:List Nat) (k:Nat) (h:k≤l.length):jn (mkS l) (some (k:Int)) none=mkS (l.drop k):=by
  have e:aaG (some (k:Int)) none 1 (mkS l).length=abN (k:Int) (l.length:Int) 1:=by
    unfold aaG;rw [aU];simp only [show (1:Int) > 0 by decide,if_true];congr 1;lia
  unfold jn;rw [e,iK l k l.length h (aag _) _ (mM k l.length h)];rw [aa0 (by rw [aaQ];exact aag _)]
theorem l5 (l:List Nat) (x y:Nat):jn (mkS (x :: l++[y])) (some 1) (some (-1))=mkS l:=by
  have hl:(x :: l++[y]).length=l.length+2:=by simp
  have e:aaG (some 1) (some (-1)) 1 (mkS (x :: l++[y])).length=abN ((1:Nat):Int) ((l.length+1:Nat):Int) 1:=by
    unfold aaG;rw [aU,hl];simp only [show (1:Int) > 0 by decide,if_true];congr 1 <;> (try lia)
    all_goals (split <;> lia)
  unfold jn;rw [e,iK _ 1 (l.length+1) (by lia) (by lia) _ (mM 1 (l.length+1) (by lia))];congr 1;have : l.length+1 - 1=l.length:=by lia
  rw [this];simp
theorem sF (l:List Nat) (c:Nat):Txt.startswith (mkS l) (mkS [c])=decide (l.head?=some c):=by
  unfold Txt.startswith Builtin.Str.subAt;rw [aU,aU];cases l with
  | nil=>simp [mkS]
  | cons a r=>simp [mkS];rw [abd];simp
theorem ue (l:List Nat) (c:Nat):Txt.endswith (mkS l) (mkS [c])=decide (l.getLast?=some c):=by
  unfold Txt.endswith Builtin.Str.subAt;rw [aU,aU];rcases List.eq_nil_or_concat l with h|⟨r,a,h⟩
  · subst h;simp [mkS]
  · subst h;simp [mkS];rw [abd];simp
theorem v8 (l:List Nat) (c:Nat):acd (mkS l) (mkS [c])=mkS (if l.head?=some c then l.tail else l):=by
  unfold acd Builtin.Str.subAt;rw [aU];cases l with
  | nil=>simp [mkS,Txt.affix]
  | cons a r =>
    by_cases h:a=c
    · subst h;simp [mkS,Txt.affix,Str.length,Builtin.Str.strSub]
    · simp [mkS,Txt.affix,h,List.head?]
theorem hW (x:Str) (c hi limit:Nat) (hx:hi=x.length):∀ (n a:Nat) (st:Array Nat × Nat),st.2≤a→a+n=hi+1→st.1.size+n≤limit →
    (forIn (List.range' a n) st (StrLaws.occBody x ⟨#[c]⟩ hi limit)).run.fst.size=st.1.size+(x.cps.toList.drop a).count c
  | 0,a,st,h1,h2,h3=>by
    have : x.cps.toList.drop a=[]:=abT (by simp [Str.length] at hx ⊢;lia);rw [this];rfl
  | n+1,a,st,h1,h2,h3=>by
    rw [List.range'_succ,List.forIn_cons];unfold StrLaws.occBody;have key:=StrLaws.subAt_one x c a;rw [← hx] at key;by_cases hc:x.cps.toList[a]?=some c
    · have k2:=key.mpr hc;rw [if_pos ⟨⟨⟨by lia,h1⟩,k2.1⟩,k2.2⟩];have ih:=hW x c hi limit hx n (a+1) (st.1.push a,a+1) (aag _) (by lia) (by simp;lia);refine Eq.trans ih ?_;obtain ⟨hlt,e⟩:=aaB.mp hc;rw [List.drop_eq_getElem_cons hlt,e];simp;lia
    · rw [if_neg (fun z=>hc (key.mp ⟨z.1.2,z.2⟩))];have ih:=hW x c hi limit hx n (a+1) st (by lia) (by lia) (by lia);refine Eq.trans ih ?_;by_cases hlt:a < x.cps.toList.length
      · rw [List.drop_eq_getElem_cons hlt,ab2];intro e;exact hc (by rw [aar hlt,e])
      · rw [abT (by lia),abT (by lia)]
theorem nO (l:List Nat) (c:Nat):Txt.count (mkS l) (mkS [c])=(l.count c:Nat):=by
  unfold Txt.count;rw [StrLaws.occ_eq,Array.length_toList];have:=hW (mkS l) c (mkS l).length ((mkS l).length+1) rfl ((mkS l).length+1) 0 (#[],0) (aag _) (by lia) (by simp);rw [ft] at this;refine congrArg Int.ofNat ?_;have e:mkS [c]=⟨#[c]⟩:=rfl;rw [e];simpa using this
def dg (n:Nat):List Nat:=if n < 10 then [48+n] else dg (n / 10)++[48+n % 10]
termination_by n
decreasing_by lia
theorem cR {n:Nat} (h:n < 10):dg n=[48+n]:=by rw [dg,if_pos h]
theorem hU {n:Nat} (h:¬ n < 10):dg n=dg (n / 10)++[48+n % 10]:=by rw [dg,if_neg h]
theorem nJ:∀ (k n:Nat),n < 10 ^ (k+1)→(dg n).length≤k+1
  | 0,n,h=>by rw [cR (by simpa using h)];simp
  | k+1,n,h=>by
    by_cases c:n < 10
    · rw [cR c];simp
    · rw [hU c,aae];have:=nJ k (n / 10) (by
        have e:10 ^ (k+1+1)=10 ^ (k+1) * 10:=by rw [Nat.pow_succ]
        rw [e] at h;exact Nat.div_lt_of_lt_mul (by rw [Nat.mul_comm];exact h))
      simp only [aaN];lia
theorem ug (n:Nat):dg n≠[]:=by
  by_cases c:n < 10
  · rw [cR c];simp
  · rw [hU c];simp
theorem jj (n:Nat):∀ c∈dg n,48≤c∧c≤57:=by
  induction n using Nat.strongRecOn with
  | ind n ih =>
    intro c hc;by_cases h:n < 10
    · rw [cR h] at hc;simp at hc;lia
    · rw [hU h] at hc;rcases aao.mp hc with hc|hc
      · exact ih (n / 10) (by lia) c hc
      · simp at hc;lia
def rd (l:List Nat):Nat:=l.foldl (fun a c=>a * 10+(c - 48)) 0
theorem rO (n:Nat):rd (dg n)=n:=by
  induction n using Nat.strongRecOn with
  | ind n ih =>
    by_cases h:n < 10
    · rw [cR h];simp [rd]
    · rw [hU h];have:=ih (n / 10) (by lia);unfold rd at this ⊢;rw [List.foldl_append,this];simp only [List.foldl_cons,List.foldl_nil];lia
theorem tN (n:Nat) (h:n≠0):(dg n).head?≠some 48:=by
  induction n using Nat.strongRecOn with
  | ind n ih =>
    by_cases c:n < 10
    · rw [cR c];simp;lia
    · rw [hU c];have hne:=ug (n / 10);have:=ih (n / 10) (by lia) (by lia);cases hd:dg (n / 10) with
      | nil=>exact absurd hd hne
      | cons a r=>rw [hd] at this;simpa using this
def wn (i:Int):List Nat:=(if i < 0 then [126] else [])++dg i.natAbs
theorem fJ (i:Int):∀ c∈wn i,c=126∨(48≤c∧c≤57):=by
  intro c hc;rcases aao.mp hc with h|h
  · split at h
    · simp at h;exact .inl h
    · cases h
  · exact .inr (jj _ c h)
theorem mj (i:Int) (h:-1000000000000 < i∧i < 1000000000000):(wn i).length≤13:=by
  have:=nJ 11 i.natAbs (by show _ < 1000000000000;lia);unfold wn;rw [aae];split <;> simp <;> lia
open PySem L2
structure Cf (K:aaa) (mg:Str→Option Value) (t1 t2:Tok):Prop where
  gFIGURES:mg "FIGURES" = some (.str "0123456789" t1)
  gBELOW:mg "BELOW" = some (.str "~" t2)
theorem oJ:("0123456789":Str)=mkS [48,49,50,51,52,53,54,55,56,57]:=by decide +kernel
theorem sk:("~":Str)=mkS [126]:=by decide +kernel
theorem vD:("":Str)=mkS []:=by decide +kernel
theorem fw (a l:List Nat):decide (V.str (mkS a)=V.str (mkS l))=decide (a=l):=by
  by_cases h:a=l
  · subst h;simp
  · rw [decide_eq_false h,decide_eq_false];intro z;injection z with z
    exact h (fB z)
theorem vB (d:Nat) (h:d < 10):atI ("0123456789":Str).cps.toList (d:Int)=some (48+d):=by
  rw [oJ,ft];refine gB ?_;have : d=0∨d=1∨d=2∨d=3∨d=4∨d=5∨d=6∨d=7∨d=8∨d=9:=by lia
  rcases this with rfl|rfl|rfl|rfl|rfl|rfl|rfl|rfl|rfl|rfl <;> rfl
theorem vA (c:Nat):(!(aa5 ("0123456789":Str) (mkS [c]) 0 ("0123456789":Str).length 1).isEmpty)=decide (48≤c∧c≤57):=by
  have:=StrLaws.found_one ("0123456789":Str) c;have e:mkS [c]=⟨#[c]⟩:=rfl;rw [e,this,oJ,ft];rw [abd,decide_eq_true_eq,decide_eq_true_eq];simp only [aah,aaO,or_false];omega
theorem tL (c:Nat) (h:48≤c∧c≤57):PySem.intText? (mkS [c])=some ((c - 48:Nat):Int):=by
  have : c=48∨c=49∨c=50∨c=51∨c=52∨c=53∨c=54∨c=55∨c=56∨c=57:=by lia
  rcases this with rfl|rfl|rfl|rfl|rfl|rfl|rfl|rfl|rfl|rfl <;> decide +kernel
theorem tF:∀ ls:List (List Nat),aci (mkS []) (ls.map mkS)=mkS ls.flatten:=by
  intro ls;show Builtin.Str.glued (mkS []) (ls.map mkS)=_;rw [aca]
  induction ls with
  | nil=>rfl
  | cons a r ih =>
    cases r with
    | nil=>show mkS a=mkS ([a].flatten);simp
    | cons b r =>
      show mkS a++mkS []++Str.join (mkS []) ((b :: r).map mkS)=_;rw [ih,bN,bN];simp
theorem tE (ls:List (List Nat)) (h:ls.flatten.length≤1000):JoinOk (mkS []) (ls.map mkS)=true:=by
  unfold JoinOk;have e:=StrLaws.joinTotal (mkS []) (ls.map mkS);rw [e];have e2:((ls.map mkS).map (·.length)).sum=ls.flatten.length:=by
    rw [abx,List.length_flatten];exact congrArg List.sum (abO fun x _=>aU x)
  rw [e2];have e3:(mkS []).length=0:=rfl;rw [e3,Nat.mul_zero,Nat.add_zero];unfold Builtin.Str.tooLong;rw [decide_eq_false (by have:=av h;lia)];rfl
theorem vT {A G:Prop} (h:A) (k:A→G):G:=k h
section
variable {P:Program} {w:World} {K:aaa} {mg:Str→Option Value} {base:Heap} {f:Addr} {fd:FuncData}
def InR (i:Int):Prop:=-1000000000000 < i∧i < 1000000000000
def ch (c:Nat):V:=.str (mkS [c])
def sG:Sp:=fun vs H Q _=>∃ i,vs=[.int i]∧InR i∧∀ H',Same H H'→Q (.str (mkS (wn i))) H'
def FigOk (n left:Nat) (fs:List Nat):Prop:=(fs=[]∧left=n)∨(fs≠[]∧left=0∧fs.reverse=dg n)∨(fs≠[]∧0 < left∧dg left++fs.reverse=dg n)
theorem FigOk.len {n left:Nat} {fs:List Nat} (h:FigOk n left fs):fs.length≤(dg n).length:=by
  rcases h with ⟨h,_⟩|⟨_,_,h⟩|⟨_,_,h⟩
  · rw [h];simp
  · rw [← h];simp
  · rw [← h];simp
theorem FigOk.step {n left:Nat} {fs:List Nat} (h:FigOk n left fs) (hc:0 < left∨fs=[]):FigOk n (left / 10) (fs++[48+left % 10]):=by
  have hd:dg left++fs.reverse=dg n:=by
    rcases h with ⟨h,e⟩|⟨h1,h2,_⟩|⟨_,_,h⟩
    · rw [h,e];simp
    · rcases hc with hc|hc
      · lia
      · exact absurd hc h1
    · exact h
  by_cases c:left < 10
  · refine .inr (.inl ⟨by simp,by lia,?_⟩);rw [← hd,cR c,List.reverse_append];have : left % 10=left:=by lia
    rw [this];rfl
  · refine .inr (.inr ⟨by simp,by lia,?_⟩);rw [← hd,hU c,List.reverse_append];simp
theorem oK {i:Int} {fs z:List Nat} (h:fs.reverse=dg i.natAbs) (hl:fs.length≤12) (hz:wn i=z++dg i.natAbs) (hz1:z.length≤1) :
    fs.map ch++[V.str (mkS z)]=(fs.map (fun c=>mkS [c])++[mkS z]).map V.str∧JoinOk (mkS []) (fs.map (fun c=>mkS [c])++[mkS z]).reverse=true∧aci (mkS []) (fs.map (fun c=>mkS [c])++[mkS z]).reverse=mkS (wn i):=by
  have e:(fs.map (fun c=>mkS [c])++[mkS z]).reverse=(z :: fs.reverse.map fun c=>[c]).map mkS:=by
    rw [List.reverse_append,aax,abx,← List.map_reverse];rfl
  have fl:(z :: fs.reverse.map fun c=>[c]).flatten=wn i:=by
    rw [hz,← h];show z++(fs.reverse.map fun c=>[c]).flatten=_;have : ∀ l:List Nat,(l.map fun c=>[c]).flatten=l:=fun l=>by
      induction l with
      | nil=>rfl
      | cons a r ih=>show [a]++(r.map fun c=>[c]).flatten=_;rw [ih];rfl
    rw [this]
  refine ⟨?_,?_,?_⟩
  · rw [aaC,abx];rfl
  · rw [e];refine tE _ ?_;rw [fl,hz,← h,aae,List.length_reverse];lia
  · rw [e,tF,fl]
abbrev dq:Stmt:=top 44
theorem bJ:FnScope ["number","left","figures","last"] ["number"] (ah dq):=⟨rfl,rfl,rfl,by decide +kernel,rfl,by decide +kernel,by decide +kernel⟩
theorem ik {t1 t2:Tok} (F:Fun K "write_number" "write_number" dq f fd) (B:Bu K mg) (B2:Cf K mg t1 t2):FnOk P w K mg base CX0 1 f fd ["number"] sG:=by
  refine F.ok bJ (fun vs H Q E h=>?_) (fun cdv A outer s H vs Q E hr h=>?_)
  · obtain ⟨x,rfl,_⟩:=h;rfl
  obtain ⟨i,rfl,hi,q⟩:=h;refine ⟨_,(@ae _ _ _ _ _ (@ao _ _ (1) _ _ _ _ (bJ).nd rfl (Or.inl rfl) (@am _ _ _ _ _ _ _ _ _ sh rfl B.iabs PyProof.Rows.boot_abs (@aa _ _ _ _ _ (pv 0) ac (by rfl)) (by decide) (by decide) (by rfl) (by rfl)) (by rfl) (by first|exact .inl rfl|exact .inr rfl|assumption)) (@ae _ _ _ _ _ (@ao _ _ (2) _ _ _ _ (bJ).nd rfl (Or.inl rfl) (@ar _ _ _ _ ac) (by rfl) (by first|exact .inl rfl|exact .inr rfl|assumption)) (@ae _ _ _ _ _ (@lv _ _ _ _ _ _ abe (@PW.pt _ _ _ (@cO _ _ _ _ _ _ _ (@ap _ _ _ _ _ _ _ _ jH (pv 1) ad (aw _)) (@cy _ _ _ _ (@cz _ _ _ _ (@gj _ _ _ (pv 2) (fun _=>rfl)))))) (@ae _ _ _ _ _ (@fk _ _ _ _ _ _ (@am _ _ _ _ _ _ _ _ _ me rfl B.idivmod PyProof.Rows.boot_divmod (@aa _ _ _ _ _ (pv 1) (@aa _ _ _ _ _ ad ac (by rfl)) (by rfl)) (by decide) (by decide) (by rfl) (by rfl)) (@eK _ _ _ _ _ _ rfl (@aV _ _ _ _ _ (@au _ _ (1) _ (bJ).nd rfl (Or.inl rfl) (.inl rfl)) (@aV _ _ _ _ _ (@au _ _ (3) _ (bJ).nd rfl (Or.inl rfl) (.inl rfl)) cJ (by rfl)) (by rfl)) (by rfl) (by rfl)) (by rfl) (by rfl) (by rfl)) (@af _ _ _ (@bC _ _ _ _ (@cA _ _ _ _ _ _ _ _ _ _ _ _ aaH aa1 aa2 cF (pv 2) (@aa _ _ _ _ _ (@bn _ _ _ _ _ _ _ jd (@aZ _ _ (.str "0123456789") _ _ rfl B2.gFIGURES ⟨_,rfl⟩ (by decide)) (pv 3) (fun _ _=>rfl)) ac (by rfl)) (by rfl) (by rfl) (by rfl) (by rfl) (by rfl)) (by rfl))))) (@ae _ _ _ _ _ (@bC _ _ _ _ (@cA _ _ _ _ _ _ _ _ _ _ _ _ aaH aa1 aa2 cF (pv 2) (@aa _ _ _ _ _ (@cP _ _ _ _ _ _ _ _ (@ap _ _ _ _ _ _ _ _ lD (pv 0) ad (aw _)) (@aZ _ _ (.str "~") _ _ rfl B2.gBELOW ⟨_,rfl⟩ (by decide)) aj) ac (by rfl)) (by rfl) (by rfl) (by rfl) (by rfl) (by rfl)) (by rfl)) (@af _ _ _ (@ak _ _ _ _ (@mQ _ _ _ _ _ _ _ _ _ _ rfl rfl B.ireversed (pv 2) (by rfl) (by rfl) (by rfl)))))))),?_⟩;have hl:(dg i.natAbs).length≤12:=nJ 11 i.natAbs (by have:=hi.1;have:=hi.2;show _ < 1000000000000;lia);have ea:(if i < 0 then -i else i)=(i.natAbs:Int):=by split <;> lia
  refine ⟨_,rfl,i,rfl,?_⟩;rw [ea];refine ⟨aaM _,fun pf nf=>?_⟩;refine ⟨fun m σ H'=>∃ (left:Nat) (fs:List Nat) (last:Option V),σ=[some (.int i),some (.int left),some (.ref pf),last]∧H' pf=some (.lst (fs.map ch))∧Same H H'∧FigOk i.natAbs left fs∧m=left+(if fs=[] then 1 else 0),?_,?_⟩
  · exact ⟨_,i.natAbs,[],_,rfl,upd_same,Same.new nf _,.inl ⟨rfl,rfl⟩,rfl⟩
  rintro m σ H' ⟨left,fs,last,rfl,ef,S,hF,rfl⟩;have hle:=hF.len;refine vT (A:=(0 < left∨fs=[])→_) ?body fun body=>vT (A:=(fs≠[]→left=0→_)) ?fin fun fin=>⟨_,rfl,_,_,rfl,rfl,_,rfl,fG (fun c=>a8 (body (.inl (by have:=of_decide_eq_true c;lia)))) (fun c=>⟨_,rfl,!fs.isEmpty,.inl ⟨_,SqL.of ef,by simp⟩,fG (fun d=>body (.inr (by simpa using d))) (fun d=>fin (by simpa using d) (by have : ¬ (0:Int) < left:=fun z=>c (decide_eq_true z);lia))⟩)⟩
  case body =>
    intro hc;refine ⟨fun σ' H'=>∃ m',m' < left+(if fs=[] then 1 else 0)∧_,fun σ' H' h=>h,?_⟩;refine ⟨_,rfl,left,10,rfl,⟨by decide,by decide⟩,fun p hp=>⟨p,_,rfl,SqT.of upd_same,rfl,_,_,rfl,_,_,rfl,rfl,?_⟩⟩;have s1:=Same.new hp (.tup [.int ((left:Int) / 10),.int ((left:Int) % 10)]);have ef1:=s1 _ _ ef;have e1:(left:Int) / 10=((left / 10:Nat):Int):=by lia
    have e2:(left:Int) % 10=((left % 10:Nat):Int):=by lia
    rw [e1,e2] at s1 ef1 ⊢;generalize upd H' p (.tup [.int ((left / 10:Nat):Int),.int ((left % 10:Nat):Int)])=H1 at s1 ef1 ⊢;refine ⟨_,rfl,.inl ⟨rfl,_,SqL.of ef1⟩,_,rfl,_,_,_,rfl,rfl,av (by decide),vB (left % 10) (by lia),pf,_,_,rfl,rfl,ef1,aC (by rw [aak];lia),?_⟩;refine ⟨left / 10+(if fs++[48+left % 10]=[] then 1 else 0),?_,left / 10,fs++[48+left % 10],_,rfl,?_,(S.trans s1).upd nf,hF.step hc,rfl⟩
    · rw [if_neg (by simp)];rcases hc with hc|hc
      · lia
      · rw [if_pos hc];lia
    · rw [upd_same,aaC];rfl
  case fin =>
    intro h1 h2;have hfs:fs.reverse=dg i.natAbs:=by
      rcases hF with ⟨h,_⟩|⟨_,_,h⟩|⟨_,h,_⟩
      · exact absurd h h1
      · exact h
      · lia
    refine ⟨_,rfl,.inl ⟨rfl,_,SqL.of ef⟩,_,rfl,_,_,rfl,rfl,_,rfl,fG (fun c=>?_) (fun c=>?_)⟩
    · have ci:i < 0:=of_decide_eq_true c;obtain ⟨e1,e2,e3⟩:=oK (i:=i) (z:=[126]) hfs (by lia) (by unfold wn;rw [if_pos ci]) (by decide);refine ⟨pf,_,_,rfl,rfl,ef,aC (by rw [aak];lia),_,rfl,pf,_,rfl,SqL.of (upd_same.trans (congrArg some (congrArg HO.lst e1))),e2,?_⟩;have e3':aci ("":Str) (fs.map (fun c=>mkS [c])++[mkS [126]]).reverse=mkS (wn i):=e3;rw [e3'];exact q _ (S.upd nf)
    · have ci:¬ i < 0:=fun z=>c (decide_eq_true z);obtain ⟨e1,e2,e3⟩:=oK (i:=i) (z:=[]) hfs (by lia) (by unfold wn;rw [if_neg ci]) (by decide);refine ⟨pf,_,_,rfl,rfl,ef,aC (by rw [aak];lia),_,rfl,pf,_,rfl,SqL.of (upd_same.trans (congrArg some (congrArg HO.lst e1))),e2,?_⟩;have e3':aci ("":Str) (fs.map (fun c=>mkS [c])++[mkS []]).reverse=mkS (wn i):=e3;rw [e3'];exact q _ (S.upd nf)
end
open PySem L2
def isD (c:Nat):Bool:=decide (48≤c∧c≤57)
def dI (l:List Nat):Bool:=if l=[]∨l.all isD=false then false else decide (l=[48]) || !decide (l.head?=some 48)
theorem se (c:Nat):(⟨#[c]⟩:Str)=mkS [c]:=rfl
theorem nW {l:List Nat} {i:Nat}:((l.take i).map isD |>.map V.bl).length≤l.length:=by
  rw [aak,aak,aaF];lia
section
variable {P:Program} {w:World} {K:aaa} {mg:Str→Option Value} {base:Heap} {f:Addr} {fd:FuncData}
def Asc (l:List Nat):Prop:=(mkS l).cps.all (· < 128)=true
def mH:Sp:=fun vs H Q _=>∃ l,vs=[.str (mkS l)]∧Asc l∧l.length≤200∧∀ H',Same H H'→Q (.bl (dI l)) H'
abbrev dM:Stmt:=top 46
theorem iL:FnScope ["text"] ["text"] (ah dM):=⟨rfl,rfl,rfl,by decide +kernel,rfl,by decide +kernel,by decide +kernel⟩
theorem iW {t1 t2:Tok} (F:Fun K "are_figures" "are_figures" dM f fd) (B:Bu K mg) (B2:Cf K mg t1 t2):FnOk P w K mg base CX0 1 f fd ["text"] mH:=by
  refine F.ok iL (fun vs H Q E h=>?_) (fun cdv A outer s H vs Q E hr h=>?_)
  · obtain ⟨x,rfl,_⟩:=h;rfl
  obtain ⟨l,rfl,ha,hl,q⟩:=h;refine ⟨_,(@ae _ _ _ _ _ (@a9 _ _ _ _ _ _ _ _ (@PW.pt _ _ _ (@cO _ _ _ _ _ _ _ (@ap _ _ _ _ _ _ _ _ bV (pv 0) aj (aw _)) (@cy _ _ _ _ (@cz _ _ _ _ (@bE _ _ _ (@am _ _ _ _ _ _ _ _ _ (@gA _ rfl) rfl B.iall abF (@aa _ _ _ _ _ (@eQ _ _ _ _ _ _ _ _ (["figure"]) ([none]) _ _ _ _ rfl (@qH _ _ _ _ (pv 0)) rfl trivial trivial (fun _ _ _ _=>⟨(@au _ _ (0) _ (show aa6 (["figure"]:List Str) by decide +kernel) rfl (Or.inl rfl) (.inr rfl)),bi,(@bM _ _ _ _ _ _ _ _ o_ (pv 0) (@aZ _ _ (.str "0123456789") _ _ rfl B2.gFIGURES ⟨_,rfl⟩ (by decide)) (by with_unfolding_all rfl))⟩) (by rfl) (by rfl) (by rfl) (by rfl) (by intro _;rfl)) ac (by rfl)) (by decide) (by decide) (by rfl) (by rfl)) (by intro _;rfl)))))) (@af _ _ _ (@ak _ _ _ _ cb)) aE) (@af _ _ _ (@ak _ _ _ _ (@tY _ _ _ _ _ _ _ (@bM _ _ _ _ _ _ _ _ bV (pv 0) aj (aw _)) (@eL _ _ _ _ _ (@bM _ _ _ _ _ _ _ _ ia (@bn _ _ _ _ _ _ _ jd (pv 0) ad (fun _ _=>rfl)) aj (aw _))))))),?_⟩;have e0:decide (V.str (mkS l)=V.str ("":Str))=decide (l=[]):=by rw [vD];exact fw l []
  refine ⟨_,rfl,rfl,_,rfl,?_⟩;rw [e0];by_cases c:l=[]
  · rw [decide_eq_true c];refine a8 (a8 ?_);have:=q H (Same.refl _);rw [show dI l=false by unfold dI;rw [if_pos (.inl c)]] at this;exact this
  rw [decide_eq_false c];refine az ⟨_,rfl,_,rfl,ha,?_⟩;refine vg (fun i ys H'=>H'=H∧ys=((l.take i).map isD).map V.bl) ⟨rfl,rfl⟩ (fun i ys H' hi p=>by rw [p.2];exact aC (by have:=nW (l:=l) (i:=i);lia)) (fun i cc ys H' hx p nx=>?_) (fun ys H' p p5 n5=>?_)
  · obtain ⟨rfl,rfl⟩:=p;rw [kK] at hx;refine ⟨_,rfl,_,_,rfl,rfl,?_⟩;rw [se,vA];refine nx ⟨rfl,?_⟩;rw [aaR,hx,aaC,aaC];rfl
  obtain ⟨rfl,rfl⟩:=p;rw [iZ,aa9] at *;refine ⟨p5,_,rfl,SqL.of upd_same,?_⟩;have ea:(l.map isD).all id=l.all isD:=by rw [ab1];rfl
  have S:=Same.new n5 (.lst ((l.map isD).map V.bl));generalize upd H' p5 (.lst ((l.map isD).map V.bl))=H1 at S ⊢;rw [ea];have q1:=q H1 S;cases hall:l.all isD with
  | false =>
    refine ⟨_,rfl,a8 ?_⟩;rw [show dI l=false by unfold dI;rw [if_pos (.inr hall)]] at q1;exact q1
  | true =>
    refine ⟨_,rfl,az ?_⟩;have e1:decide (V.str (mkS l)=V.str ("0":Str))=decide (l=[48]):=by rw [show ("0":Str)=mkS [48] by decide +kernel];exact fw l [48]
    refine ⟨_,rfl,rfl,_,rfl,?_⟩;rw [e1];have hf:dI l=(decide (l=[48]) || !decide (l.head?=some 48)):=by unfold dI;rw [if_neg];rw [hall];intro z;rcases z with z|z;exact c z;cases z
    rw [hf] at q1;by_cases c2:l=[48]
    · rw [decide_eq_true c2] at q1 ⊢;exact a8 q1
    · rw [decide_eq_false c2] at q1 ⊢;refine az ?_;cases l with
      | nil=>exact absurd rfl c
      | cons a r =>
        refine ⟨_,rfl,_,_,_,rfl,rfl,av (by rw [aU];lia),(by rw [ft];exact gB (j:=0) rfl),rfl,?_⟩;have e3:decide (V.str (⟨#[a]⟩:Str)=V.str ("0":Str))=decide (a=48):=by
          rw [show ("0":Str)=mkS [48] by decide +kernel,se,fw];simp
        rw [e3];have e4:decide ((a :: r).head?=some 48)=decide (a=48):=by simp
        rw [e4] at q1;exact q1
def nop (l:List Nat):List Nat:=if l.head?=some 126 then l.tail else l
def dW (l:List Nat):Option Int:=if dI (nop l)=false∨l=[126,48] then none else some (if l.head?=some 126 then -(rd (nop l):Int) else rd (nop l))
theorem dU (i:Int):dW (wn i)=some i:=by
  have hn:nop (wn i)=dg i.natAbs:=by
    unfold nop wn;by_cases c:i < 0
    · rw [if_pos c];simp
    · rw [if_neg c];have : (dg i.natAbs).head?≠some 126:=fun z=>by
        have:=jj _ _ (ab5 z);lia
      simp [this]
  have hf:dI (dg i.natAbs)=true:=by
    unfold dI;rw [if_neg]
    · by_cases c:i.natAbs=0
      · rw [c,cR (by decide)];rfl
      · have:=tN _ c;rw [decide_eq_false this];simp
    · intro z;rcases z with z|z
      · exact ug _ z
      · have : (dg i.natAbs).all isD=true:=by
          rw [aay];intro c hc;exact decide_eq_true (jj _ c hc)
        rw [this] at z;cases z
  have h0:wn i≠[126,48]:=fun z=>by
    unfold wn at z;by_cases c:i < 0
    · rw [if_pos c] at z;have z:dg i.natAbs=[48]:=by simpa using z
      have:=rO i.natAbs;rw [z] at this;have : (0:Nat)=i.natAbs:=this;lia
    · rw [if_neg c] at z;have:=jj i.natAbs 126 (by rw [show dg i.natAbs=[126,48] by simpa using z];simp);lia
  unfold dW;rw [hn,hf,if_neg (by simp [h0]),rO];unfold wn;by_cases c:i < 0
  · rw [if_pos c];simp;lia
  · rw [if_neg c];have : (dg i.natAbs).head?≠some 126:=fun z=>by
      have:=jj _ _ (ab5 z);lia
    simp [this];lia
theorem mO {l:List Nat} (c:Nat) (h:c∈l) (hc:c≠126∧¬ (48≤c∧c≤57)):dW l=none:=by
  have hm:c∈nop l:=by
    unfold nop;split
    · cases l with
      | nil=>cases h
      | cons a r =>
        rename_i z;have z:a=126:=by simpa using z
        rcases aah.mp h with e|e
        · lia
        · exact e
    · exact h
  have : (nop l).all isD=false:=by
    rw [List.all_eq_false];exact ⟨c,hm,by simpa [isD] using hc.2⟩
  unfold dW dI;rw [if_pos];left;rw [if_pos (.inr this)]
theorem tR {a b:List Nat} (h:Asc b) (s:∀ c∈a,c∈b):Asc a:=by
  unfold Asc mkS at *;rw [Array.all_eq_true'] at *;intro c hc;exact h c (by simpa using s c (by simpa using hc))
def xx:Option Int→V
  | none=>.non
  | some i=>.int i
def iq:Sp:=fun vs H Q _=>∃ l,vs=[.str (mkS l)]∧Asc l∧l.length≤200∧∀ H',Same H H'→Q (xx (dW l)) H'
abbrev dL:Stmt:=top 47
theorem bR:FnScope ["text","figures","number","figure"] ["text"] (ah dL):=⟨rfl,rfl,rfl,by decide +kernel,rfl,by decide +kernel,by decide +kernel⟩
theorem iT {t1 t2:Tok} (F:Fun K "read_number" "read_number" dL f fd) (B:Bu K mg) (B2:Cf K mg t1 t2) (C_are_figures:Cal P w K mg base "are_figures" 1 ["text"] mH):FnOk P w K mg base CX0 2 f fd ["text"] iq:=by
  refine F.ok bR (fun vs H Q E h=>?_) (fun cdv A outer s H vs Q E hr h=>?_)
  · obtain ⟨x,rfl,_⟩:=h;rfl
  obtain ⟨l,rfl,ha,hl,q⟩:=h;refine ⟨_,(@ae _ _ _ _ _ (@ao _ _ (1) _ _ _ _ (bR).nd rfl (Or.inl rfl) (@cA _ _ _ _ _ _ _ _ _ _ _ _ aaS PySem.F.slot_str_removeprefix PySem.F.type_str_removeprefix fF (pv 0) (@aa _ _ _ _ _ (@aZ _ _ (.str "~") _ _ rfl B2.gBELOW ⟨_,rfl⟩ (by decide)) ac (by rfl)) (by rfl) (by rfl) (by rfl) (by rfl) (by rfl)) (by rfl) (by first|exact .inl rfl|exact .inr rfl|assumption)) (@ae _ _ _ _ _ (@a9 _ _ _ _ _ _ _ _ (@PW.pt _ _ _ (@cO _ _ _ _ _ _ _ (@cz _ _ _ _ (@bE _ _ _ (@ag _ _ _ _ _ _ _ _ _ _ _ C_are_figures hr (by lia) rfl (@aa _ _ _ _ _ (pv 1) ac (by rfl)) (by decide) (by rfl) (by rfl)) (by intro _;rfl))) (@cy _ _ _ _ (@ap _ _ _ _ _ _ _ _ bV (pv 0) aj (aw _))))) (@af _ _ _ (@ak _ _ _ _ bg)) aE) (@ae _ _ _ _ _ (@ao _ _ (2) _ _ _ _ (bR).nd rfl (Or.inl rfl) ad (by rfl) (by first|exact .inl rfl|exact .inr rfl|assumption)) (@ae _ _ _ _ _ (@fj _ _ _ _ _ _ _ _ abe rfl (@qH _ _ _ _ (pv 1)) (@au _ _ (3) _ (bR).nd rfl (Or.inl rfl) (.inl rfl)) (@af _ _ _ (@ao _ _ (2) _ _ _ _ (bR).nd rfl (Or.inl rfl) (@al _ _ _ _ _ _ _ _ bX (@al _ _ _ _ _ _ _ _ fY (pv 2) ad) (@cE _ _ _ _ _ _ _ _ _ jA rfl B.iint abG (@aa _ _ _ _ _ (pv 3) ac (by rfl)) (by decide) (by decide) (by rfl) (by rfl))) (by rfl) (by first|exact .inl rfl|exact .inr rfl|assumption))) (by intro _;rfl)) (@af _ _ _ (@ak _ _ _ _ (@cP _ _ _ _ _ _ _ _ (@ap _ _ _ _ _ _ _ _ bV (pv 0) (pv 1) (aw _)) (pv 2) (@lC _ _ _ _ _ _ iF (pv 2))))))))),?_⟩;have hnl:(nop l).length≤200:=by unfold nop;split <;> (try rw [List.length_tail]) <;> lia
  have hna:Asc (nop l):=tR ha fun c hc=>by
    unfold nop at hc;split at hc
    · exact List.mem_of_mem_tail hc
    · exact hc
  have er:acd (mkS l) ("~":Str)=mkS (nop l):=by rw [sk];exact v8 l 126
  refine ⟨_,rfl,rfl,_,_,rfl,rfl,av (by rw [aU];lia),?_⟩;rw [er];refine ⟨_,rfl,nop l,rfl,hna,hnl,fun H1 s1=>?_⟩;have e1:decide (V.str (mkS l)=V.str ("~0":Str))=decide (l=[126,48]):=by rw [show ("~0":Str)=mkS [126,48] by decide +kernel];exact fw l _
  by_cases c1:dI (nop l)=false
  · refine ⟨_,rfl,?_⟩;rw [c1];refine a8 (a8 ?_);have:=q H1 s1;rw [show dW l=none by unfold dW;rw [if_pos (.inl c1)]] at this;exact this
  have c1:dI (nop l)=true:=by simpa using c1
  refine ⟨_,rfl,?_⟩;rw [c1];refine az ⟨_,rfl,rfl,_,rfl,?_⟩;rw [e1];by_cases c2:l=[126,48]
  · rw [decide_eq_true c2];refine a8 ?_;have:=q H1 s1;rw [show dW l=none by unfold dW;rw [if_pos (.inr c2)]] at this;exact this
  rw [decide_eq_false c2];refine az ?_;have hdig:∀ c∈nop l,48≤c∧c≤57:=fun c hc=>by
    unfold dI at c1;split at c1
    · cases c1
    · rename_i z;have : (nop l).all isD=true:=by
        cases h:(nop l).all isD with
        | true=>rfl
        | false=>exact absurd (.inr h) z
      exact of_decide_eq_true (aay.mp this c hc)
  refine ⟨_,rfl,_,rfl,hna,tK (fun i σ H'=>H'=H1∧∃ fg,σ=[some (.str (mkS l)),some (.str (mkS (nop l))),some (.int (rd ((nop l).take i))),fg]) ⟨rfl,_,rfl⟩ ?_ ?_⟩
  · rintro i c σ H' hc ⟨rfl,fg,rfl⟩;rw [kK] at hc;have hcd:=hdig c (aaK hc);refine ⟨_,rfl,_,_,rfl,rfl,.inr ⟨by decide,by decide⟩,_,rfl,_,_,rfl,tL c hcd,(by show 1≤640;decide),_,_,rfl,rfl,rfl,some (.str ⟨#[c]⟩),?_⟩;rw [aaR,hc];have : rd ((nop l).take i++[c])=rd ((nop l).take i) * 10+(c - 48):=by unfold rd;rw [List.foldl_append];rfl
    show _=[some _,some _,some (V.int ((rd ((nop l).take i++[c]):Nat):Int)),_]
    rw [this];rfl
  · rintro σ H' ⟨rfl,fg,rfl⟩;have q1:=q H' s1;rw [iZ,aa9];have e2:decide (V.str (mkS l)=V.str (mkS (nop l)))=!decide (l.head?=some 126):=by
      rw [fw];unfold nop;by_cases c:l.head?=some 126
      · rw [if_pos c,decide_eq_true c];cases l with
        | nil=>simp at c
        | cons a r=>simp
      · rw [if_neg c,decide_eq_false c];simp
    have hR:dW l=some (if l.head?=some 126 then -(rd (nop l):Int) else rd (nop l)):=by unfold dW;rw [if_neg];intro z;rcases z with z|z;rw [c1] at z;cases z;exact c2 z
    rw [hR] at q1;refine ⟨_,rfl,_,rfl,rfl,_,rfl,?_⟩;rw [e2];by_cases c:l.head?=some 126
    · rw [decide_eq_true c];rw [if_pos c] at q1;exact az ⟨_,rfl,_,rfl,q1⟩
    · rw [decide_eq_false c];rw [if_neg c] at q1;exact a8 ⟨_,rfl,q1⟩
end
open PySem L2
def jl:List (List Nat)→List Nat
  | []=>[]
  | [x]=>x
  | x :: y :: r=>x++32 :: jl (y :: r)
theorem kO:∀ ls:List (List Nat),aci (mkS [32]) (ls.map mkS)=mkS (jl ls):=by
  intro ls;show Builtin.Str.glued (mkS [32]) (ls.map mkS)=_;rw [aca]
  induction ls with
  | nil=>rfl
  | cons a r ih =>
    cases r with
    | nil=>rfl
    | cons b r =>
      show mkS a++mkS [32]++Str.join (mkS [32]) ((b :: r).map mkS)=mkS (a++32 :: jl (b :: r));rw [ih,bN,bN];simp
def szs (ls:List (List Nat)):Nat:=(ls.map acj).sum+ls.length
theorem nA:∀ ls:List (List Nat),(jl ls).length≤szs ls
  | []=>aaM _
  | [x]=>by simp [jl,szs]
  | x :: y :: r=>by
    have:=nA (y :: r);show (x++32 :: jl (y :: r)).length≤_;rw [aae,aaD];unfold szs at this ⊢;simp only [aax,List.sum_cons,aaD] at this ⊢;lia
theorem jc (ls:List (List Nat)) (h:szs ls≤1000):JoinOk (mkS [32]) (ls.map mkS)=true:=by
  unfold JoinOk;have e:=StrLaws.joinTotal (mkS [32]) (ls.map mkS);rw [e];have e2:((ls.map mkS).map (·.length)).sum=(ls.map acj).sum:=by
    rw [abx];exact congrArg List.sum (abO fun x _=>aU x)
  rw [e2,aak];have e3:(mkS [32]).length=1:=rfl;rw [e3,Nat.mul_one];unfold Builtin.Str.tooLong;unfold szs at h;rw [decide_eq_false (by have:=av h;lia)];rfl
theorem lZ {c:Nat}:∀ {x y A B:List Nat},c∉x→c∉y→x++c :: A=y++c :: B→x=y∧A=B
  | [],[],A,B,_,_,h=>by simp at h;exact ⟨rfl,h⟩
  | [],b :: y,A,B,_,hy,h=>by
    simp at h;exact absurd (by rw [h.1];exact aav) hy
  | a :: x,[],A,B,hx,_,h=>by
    simp at h;exact absurd (by rw [h.1];exact aav) hx
  | a :: x,b :: y,A,B,hx,hy,h=>by
    simp only [abh,List.cons.injEq] at h;obtain ⟨e,h⟩:=h;obtain ⟨e1,e2⟩:=lZ (fun z=>hx (aat _ z)) (fun z=>hy (aat _ z)) h;exact ⟨by rw [e,e1],e2⟩
theorem rf:∀ {ps ws:List (List Nat)},ps≠[]→ws≠[]→(∀ p∈ps,32∉p)→(∀ w∈ws,32∉w)→jl ps=jl ws→ps=ws
  | [],_,h,_,_,_,_=>absurd rfl h
  | _ :: _,[],_,h,_,_,_=>absurd rfl h
  | [x],[y],_,_,_,_,h=>by rw [show x=y from h]
  | [x],y :: z :: r,_,_,hp,_,h=>by
    have h:x=y++32 :: jl (z :: r):=h;exact absurd (by rw [h];exact aab _ aav) (hp x aav)
  | x :: y :: r,[z],_,_,_,hw,h=>by
    have h:x++32 :: jl (y :: r)=z:=h;exact absurd (by rw [← h];exact aab _ aav) (hw z aav)
  | x :: y :: r,z :: u :: t,_,_,hp,hw,h=>by
    have h:x++32 :: jl (y :: r)=z++32 :: jl (u :: t):=h;obtain ⟨e1,e2⟩:=lZ (hp x aav) (hw z aav) h;have:=rf (ps:=y :: r) (ws:=u :: t) (by simp) (by simp) (fun p h=>hp p (aat _ h)) (fun p h=>hw p (aat _ h)) e2;rw [e1,this]
theorem uB (z:Str):mkS z.cps.toList=z:=by
  cases z with|mk c=>show Str.mk c.toList.toArray=_;simp
theorem qq (x y:Str):abS x y≠[]:=by
  unfold abS;split
  · simp
  · split
    · simp
    · intro h;have:=congrArg acj h;rw [PySem.length_partsBetween] at this;simp at this
theorem la {ws:List (List Nat)} (hne:ws≠[]) (hf:∀ w∈ws,32∉w):abS (mkS (jl ws)) (mkS [32])=ws.map mkS:=by
  have h1:=StrLaws.join_split (mkS (jl ws)) (mkS [32]);have h2:=StrLaws.split_free (mkS (jl ws)) 32;have h3:=qq (mkS (jl ws)) (mkS [32]);have e32:(⟨#[32]⟩:Str)=mkS [32]:=rfl;rw [e32] at h2;revert h1 h2 h3;generalize abS (mkS (jl ws)) (mkS [32])=ps;intro h1 h2 h3;have eps:ps=(ps.map fun z=>z.cps.toList).map mkS:=by
    rw [abx]
    conv=>lhs;rw [← List.map_id ps]
    exact abO fun z _=>(uB z).symm
  have j1:=kO (ps.map fun z=>z.cps.toList);rw [← eps] at j1;have j2:aci (mkS [32]) ps=mkS (jl ws):=by
    show Builtin.Str.glued (mkS [32]) ps=_;rw [aca];exact h1
  have e:=fB (j1.symm.trans j2);have:=rf (ps:=ps.map fun z=>z.cps.toList) (ws:=ws) (fun z=>h3 (List.map_eq_nil_iff.mp z)) hne (fun p hp=>by
    obtain ⟨z,hz,rfl⟩:=abm.mp hp;exact h2 z hz) hf e
  rw [eps,this]
theorem jF (z:Str) (h:z.length≤900):(abu z (aa5 z (mkS [32]) 0 z.length (z.length+1)) (mkS [32]).length).length≤sizeLine:=by
  rw [PySem.length_partsBetween];have:=StrLaws.occ_length_le z (mkS [32]) 0 z.length (z.length+1);exact av (by lia)
theorem cT:(" ":Str)=mkS [32]:=by decide +kernel
structure Cq (K:aaa) (mg:Str→Option Value) (t1 t2:Tok):Prop where
  gMOST_NUMBERS:mg "MOST_NUMBERS" = some (.int 9 t1)
  gMOST_STRETCHES:mg "MOST_STRETCHES" = some (.int 40 t2)
section
variable {P:Program} {w:World} {K:aaa} {mg:Str→Option Value} {base:Heap} {f:Addr} {fd:FuncData}
def iO (ns:List Int):List Nat:=jl (ns.map wn)
theorem qo (ns:List Int) (h:Small ns):szs (ns.map wn)≤14 * ns.length:=by
  induction ns with
  | nil=>simp [szs]
  | cons i r ih =>
    have a:=ih fun j hj=>h j (aat _ hj);have b:=mj i (h i aav);unfold szs at a ⊢;simp only [aax,List.sum_cons,aaD] at a ⊢;lia
def wnV (i:Int):V:=.str (mkS (wn i))
theorem ss (ns:List Int):ns.map wnV=((ns.map wn).map mkS).map V.str:=by rw [abx,abx];rfl
def om:Sp:=fun vs H Q _=>∃ (a:Addr) (ns:List Int),vs=[.ref a]∧H a=some (.lst (ns.map V.int))∧ns.length≤9∧Small ns∧∀ H',Same H H'→Q (.str (mkS (iO ns))) H'
abbrev cW:Stmt:=top 45
theorem gN:FnScope ["numbers"] ["numbers"] (ah cW):=⟨rfl,rfl,rfl,by decide +kernel,rfl,by decide +kernel,by decide +kernel⟩
theorem gX (F:Fun K "write_numbers" "write_numbers" cW f fd) (B:Bu K mg) (C_write_number:Cal P w K mg base "write_number" 1 ["number"] sG):FnOk P w K mg base CX0 2 f fd ["numbers"] om:=by
  refine F.ok gN (fun vs H Q E h=>?_) (fun cdv A outer s H vs Q E hr h=>?_)
  · obtain ⟨x,v,rfl,_⟩:=h;rfl
  obtain ⟨a,ns,rfl,ea,h2,hs,q⟩:=h;refine ⟨_,(@af _ _ _ (@ak _ _ _ _ (@cA _ _ _ _ _ _ _ _ _ _ _ _ aaS ab8 ab9 ib aj (@aa _ _ _ _ _ (@eQ _ _ _ _ _ _ _ _ (["number"]) ([none]) _ _ _ _ rfl (@bT _ _ _ _ (pv 0)) rfl trivial trivial (fun _ _ _ _=>⟨(@au _ _ (0) _ (show aa6 (["number"]:List Str) by decide +kernel) rfl (Or.inl rfl) (.inr rfl)),bi,(@ag _ _ _ _ _ _ _ _ _ _ _ C_write_number hr (by lia) rfl (@aa _ _ _ _ _ (pv 0) ac (by rfl)) (by decide) (by rfl) (by rfl))⟩) (by rfl) (by rfl) (by rfl) (by rfl) (by intro _;rfl)) ac (by rfl)) (by rfl) (by rfl) (by rfl) (by rfl) (by rfl)))),?_⟩;have hz:=qo ns hs;refine ⟨rfl,_,rfl,a,rfl,⟨_,SqL.of ea⟩,?_⟩;refine eR (Trn.list (xs:=ns.map V.int)) (fun i ys H'=>Same H H'∧ys=(ns.take i).map wnV) ⟨Same.refl _,rfl⟩ (fun i ys H' hi p=>by rw [p.2];exact ⟨SqL.of (p.1 _ _ ea),aC (by simp;lia)⟩) (fun i x ys H1 H' hi hx p Nx nx=>?_) (fun ys H' p p5 n5=>?_)
  · obtain ⟨S,rfl⟩:=p;obtain ⟨rfl,hx⟩:=hx;rw [aaJ] at hx;obtain ⟨c,hc,rfl⟩:=abi.mp hx;refine ⟨_,rfl,c,rfl,hs c (aaK hc),fun H2 s2=>nx _ _ ⟨S.trans s2,?_⟩⟩;rw [aaR,hc,aaC];rfl
  obtain ⟨S,rfl⟩:=p;rw [aak,aa9,ss];refine ⟨_,p5,_,rfl,rfl,SqL.of upd_same,?_,?_⟩
  · rw [cT];exact jc _ (by lia)
  · rw [cT,kO];exact q _ (S.trans (Same.new n5 _))
def gG:Sp:=fun vs H Q _=>∃ (a:Addr) (ns:List Int),vs=[.ref a]∧H a=some (.lst (ns.map V.int))∧1≤ns.length∧ns.length≤9∧Small ns∧∀ H',Same H H'→Q (.str (mkS (iO ns))) H'
def dm:Sp:=fun vs H Q _=>∃ z,vs=[.str z]∧Q .non H
abbrev eZ:Stmt:=top 43
theorem kh:FnScope ["thing"] ["thing"] (ah eZ):=⟨rfl,rfl,rfl,by decide +kernel,rfl,by decide +kernel,by decide +kernel⟩
theorem ky (F:Fun K "need_text" "need_text" eZ f fd) (B:Bu K mg):FnOk P w K mg base CX0 1 f fd ["thing"] dm:=by
  refine F.ok kh (fun vs H Q E h=>?_) (fun cdv A outer s H vs Q E hr h=>?_)
  · obtain ⟨l,rfl,_⟩:=h;rfl
  obtain ⟨z,rfl,q⟩:=h;refine ⟨_,(@af _ _ _ (@a9 _ _ _ _ _ _ _ _ (@cz _ _ _ _ (@bE _ _ _ (@am _ _ _ _ _ _ _ _ _ (@bp _ ("str")) rfl B.iisinstance aal (@aa _ _ _ _ _ (pv 0) (@aa _ _ _ _ _ (@cB _ _ (.ty "str") _ _ rfl B.istr ab6 rfl (by decide) (by decide)) ac (by rfl)) (by rfl)) (by decide) (by decide) (by rfl) (by rfl)) (by intro _;rfl))) (@af _ _ _ fi) aE)),?_⟩;exact ⟨_,rfl,_,_,true,rfl,.str z,rfl,true,rfl,az q⟩
theorem um (i:Int):Asc (wn i):=by
  unfold Asc mkS;rw [Array.all_eq_true'];intro c hc;have:=fJ i c (by simpa using hc);simp;lia
theorem sr (i:Int):32∉wn i:=fun h=>by have:=fJ i 32 h;lia
theorem va (ns:List Int):inV .non (ns.map V.int)=false:=by
  unfold inV;rw [List.any_eq_false];intro x hx;obtain ⟨i,_,rfl⟩:=abm.mp hx;simp [eqV]
theorem pV (ns:List Int):(ns.map V.int).all dZ=true:=by
  rw [aay];intro x hx;obtain ⟨i,_,rfl⟩:=abm.mp hx;rfl
def gI:Sp:=fun vs H Q _=>∃ (ns:List Int),vs=[.str (mkS (iO ns))]∧1≤ns.length∧ns.length≤9∧Small ns∧∀ p H',Same H H'→H p=none→H' p=some (.lst (ns.map V.int))→Q (.ref p) H'
abbrev fP:Stmt:=top 40
theorem h_:FnScope ["text","row"] ["text"] (ah fP):=⟨rfl,rfl,rfl,by decide +kernel,rfl,by decide +kernel,by decide +kernel⟩
theorem lG {t3 t4:Tok} (F:Fun K "read_row" "read_row" fP f fd) (B:Bu K mg) (B3:Cq K mg t3 t4) (C_need_text:Cal P w K mg base "need_text" 1 ["thing"] dm) (C_read_number:Cal P w K mg base "read_number" 2 ["text"] iq):FnOk P w K mg base CX0 3 f fd ["text"] gI:=by
  refine F.ok h_ (fun vs H Q E h=>?_) (fun cdv A outer s H vs Q E hr h=>?_)
  · obtain ⟨l,rfl,_⟩:=h;rfl
  obtain ⟨ns,rfl,h1,h2,hs,q⟩:=h;refine ⟨_,(@ae _ _ _ _ _ (@bC _ _ _ _ (@ag _ _ _ _ _ _ _ _ _ _ _ C_need_text hr (by lia) rfl (@aa _ _ _ _ _ (pv 0) ac (by rfl)) (by decide) (by rfl) (by rfl)) (by rfl)) (@ae _ _ _ _ _ (@kj _ (1) _ _ _ _ _ _ _ _ _ _ (["word"]) ([none]) _ _ _ _ (h_).nd rfl (Or.inl rfl) rfl (@bT _ _ _ _ (@cA _ _ _ _ _ _ _ _ _ _ _ _ aaS PySem.F.slot_str_split PySem.F.type_str_split gv (pv 0) (@aa _ _ _ _ _ aj ac (by rfl)) (by rfl) (by rfl) (by rfl) (by rfl) (by rfl))) rfl trivial trivial (fun _ _ _ _=>⟨(@au _ _ (0) _ (show aa6 (["word"]:List Str) by decide +kernel) rfl (Or.inl rfl) (.inr rfl)),bi,(@ag _ _ _ _ _ _ _ _ _ _ _ C_read_number hr (by lia) rfl (@aa _ _ _ _ _ (pv 0) ac (by rfl)) (by decide) (by rfl) (by rfl))⟩) (by rfl) (by rfl) (by rfl) (by rfl) (by intro _;rfl) (by rfl) (by first|exact .inl rfl|exact .inr rfl|assumption)) (@ae _ _ _ _ _ (@a9 _ _ _ _ _ _ _ _ (@PW.pt _ _ _ (@cO _ _ _ _ _ _ _ (@ap _ _ _ _ _ _ _ _ jH (@am _ _ _ _ _ _ _ _ _ aQ rfl B.ilen aaY (@aa _ _ _ _ _ (pv 1) ac (by rfl)) (by decide) (by decide) (by rfl) (by rfl)) (@aZ _ _ (.int 9) _ _ rfl B3.gMOST_NUMBERS ⟨_,rfl⟩ (by decide)) (aw _)) (@cy _ _ _ _ (@ap _ _ _ _ _ _ _ _ dX bg (pv 1) (by with_unfolding_all rfl))))) (@af _ _ _ fi) aE) (@af _ _ _ (@ak _ _ _ _ (pv 1)))))),?_⟩;have hz:=qo ns hs;have hjl:=nA (ns.map wn);have hlen:(mkS (iO ns)).length≤900:=by rw [aU];unfold iO;lia
  have hsp:abS (mkS (iO ns)) (" ":Str)=(ns.map wn).map mkS:=by
    rw [cT];exact la (fun z=>by rw [List.map_eq_nil_iff] at z;rw [z] at h1;simp at h1) fun p hp=>by
      obtain ⟨i,_,rfl⟩:=abm.mp hp;exact sr i
  refine ⟨_,rfl,_,rfl,?_⟩;refine ⟨_,rfl,rfl,_,_,rfl,rfl,by decide,av (by lia),?_,?_,fun pw nw=>?_⟩
  · rw [hsp];exact av (by simp;lia)
  · rw [cT];exact jF _ hlen
  rw [hsp];have sw:=Same.new nw (.lst (((ns.map wn).map mkS).map V.str));have ew:upd H pw (.lst (((ns.map wn).map mkS).map V.str)) pw=_:=upd_same;generalize upd H pw (.lst (((ns.map wn).map mkS).map V.str))=H1 at sw ew ⊢;have ll:(((ns.map wn).map mkS).map V.str).length=ns.length:=by simp
  refine ⟨pw,rfl,⟨_,SqL.of ew⟩,?_⟩;refine eR (Trn.list (xs:=((ns.map wn).map mkS).map V.str)) (fun i ys H'=>Same H1 H'∧ys=(ns.take i).map V.int) ⟨Same.refl _,rfl⟩ (fun i ys H' hi p=>by rw [p.2];exact ⟨SqL.of (p.1 _ _ ew),aC (by simp;lia)⟩) (fun i x ys H1 H' hi hx p Nx nx=>?_) (fun ys H' p p5 n5=>?_)
  · obtain ⟨S,rfl⟩:=p;obtain ⟨rfl,hx⟩:=hx;rw [aaJ,aaJ,aaJ] at hx;obtain ⟨z,hz1,rfl⟩:=abi.mp hx;obtain ⟨l,hl1,rfl⟩:=abi.mp hz1;obtain ⟨c,hc,rfl⟩:=abi.mp hl1;have:=mj c (hs c (aaK hc));refine ⟨_,rfl,wn c,rfl,um c,by lia,fun H2 s2=>?_⟩;rw [dU];refine nx _ _ ⟨S.trans s2,?_⟩;rw [aaR,hc,aaC];rfl
  obtain ⟨S,rfl⟩:=p;rw [ll,aa9] at *;have s5:=Same.new n5 (.lst (ns.map V.int));have e5:upd H' p5 (.lst (ns.map V.int)) p5=some (.lst (ns.map V.int)):=upd_same;have n50:H p5=none:=(sw.trans S).free n5;generalize upd H' p5 (.lst (ns.map V.int))=H2 at s5 e5 ⊢;refine ⟨_,rfl,p5,_,rfl,.inl (SqL.of e5),_,_,rfl,rfl,_,rfl,?_⟩;rw [aak,decide_eq_false (by lia)];refine az ⟨_,rfl,p5,_,rfl,.inl (SqL.of e5),rfl,pV ns,_,rfl,?_⟩;show if inV .non (ns.map V.int)=true then _ else _
  rw [va];exact az ⟨_,rfl,q p5 H2 ((sw.trans S).trans s5) n50 e5⟩
end
open PySem L2
theorem PairsIn.mono {H H':Hp} (t:Tups H H'):∀ {ps:List (Int × Int)} {vs:List V},PairsIn H ps vs→PairsIn H' ps vs
  | _,_,.nil=>.nil
  | _,_,.cons ⟨a,e,h⟩ b=>.cons ⟨a,e,t _ _ h⟩ (PairsIn.mono t b)
theorem PairsIn.app {H:Hp} {ps qs:List (Int × Int)} {vs us:List V} (a:PairsIn H ps vs) (b:PairsIn H qs us):PairsIn H (ps++qs) (vs++us):=by
  induction a with
  | nil=>exact b
  | cons x _ ih=>exact .cons x ih
theorem PairsIn.snoc {H:Hp} {ps:List (Int × Int)} {vs:List V} {p:Int × Int} {v:V} (h:PairsIn H ps vs) (x:PairIn H p v):PairsIn H (ps++[p]) (vs++[v]):=PairsIn.app h (.cons x .nil)
def sfR (n m:Nat):List (Int × Int):=(abz (n - m)).map fun (f:Nat)=>((f:Int),((f+m:Nat):Int))
def sfl (n i:Nat):List (Int × Int):=(abz i).flatMap fun m=>sfR n m
theorem le (n i:Nat):sfl n (i+1)=sfl n i++sfR n i:=by
  unfold sfl;rw [List.range_succ,List.flatMap_append];simp
theorem oq (n i:Nat):(sfl n i).length≤i * n:=by
  induction i with
  | zero=>simp [sfl]
  | succ i ih =>
    rw [le,aae];have : (sfR n i).length≤n:=by simp [sfR]
    rw [Nat.succ_mul];lia
theorem sI (n:Nat) (a b:Nat) (h1:a≤b) (h2:b < n):((a:Int),(b:Int))∈sfl n n:=by
  unfold sfl sfR;rw [List.mem_flatMap];refine ⟨b - a,acl.mpr (by lia),?_⟩;rw [List.mem_map];refine ⟨a,acl.mpr (by lia),?_⟩;have : a+(b - a)=b:=by lia
  rw [this]
section
variable {P:Program} {w:World} {K:aaa} {mg:Str→Option Value} {base:Heap} {f:Addr} {fd:FuncData}
def uC:Sp:=fun vs H Q _=>∃ n:Nat,vs=[.int n]∧n≤9∧∀ p us H',Same H H'→H p=none→H' p=some (.lst us)→PairsIn H' (sfl n n) us→Q (.ref p) H'
abbrev cX:Stmt:=top 23
theorem gO:FnScope ["many"] ["many"] (ah cX):=⟨rfl,rfl,rfl,by decide +kernel,rfl,by decide +kernel,by decide +kernel⟩
theorem gY (F:Fun K "shorter_first" "shorter_first" cX f fd) (B:Bu K mg):FnOk P w K mg base CX0 1 f fd ["many"] uC:=by
  refine F.ok gO (fun vs H Q E h=>?_) (fun cdv A outer s H vs Q E hr h=>?_)
  · obtain ⟨l,rfl,_⟩:=h;rfl
  obtain ⟨n,rfl,h9,q⟩:=h;refine ⟨_,(@af _ _ _ (@ak _ _ _ _ (@uQ _ _ _ _ _ _ _ _ _ _ _ (["more","first","many"]) ([none,none,some 0]) _ _ _ _ _ _ _ rfl (@df _ _ _ _ _ _ rfl B.irange (@aa _ _ _ _ _ (pv 0) ac (by rfl)) (by rfl)) rfl ⟨rfl,trivial⟩ ⟨⟨rfl,Or.inl rfl,Or.inl rfl⟩,trivial⟩ (fun _ _ _ _=>⟨(@au _ _ (0) _ (show aa6 (["more","first","many"]:List Str) by decide +kernel) rfl (Or.inl rfl) (.inr rfl)),bi,(@df _ _ _ _ _ _ rfl B.irange (@aa _ _ _ _ _ (@al _ _ _ _ _ _ _ _ dD (pv 2) (pv 0)) ac (by rfl)) (by rfl)),(@au _ _ (1) _ (show aa6 (["more","first","many"]:List Str) by decide +kernel) rfl (Or.inl rfl) (.inr rfl)),bi,(@aq _ _ _ _ _ (@aa _ _ _ _ _ (pv 1) (@aa _ _ _ _ _ (@al _ _ _ _ _ _ _ _ bX (pv 1) (pv 0)) ac (by rfl)) (by rfl)))⟩) (by rfl) (by rfl) (by rfl) (by rfl) (by intro _;rfl) (by intro _ _;rfl)))),?_⟩;refine ⟨_,rfl,n,rfl,by lia,by lia,?_⟩;refine vi (Trn.range (lo:=0) (n:=(n:Int).toNat)) (fun i ys H'=>Same H H'∧PairsIn H' (sfl n i) ys) ⟨Same.refl _,.nil⟩ (fun i ys H' hi p=>trivial) (fun i x ys H1 H' hi hx p Nx nx=>?_) (fun ys H' p p5 n5=>?_)
  · obtain ⟨rfl,rfl⟩:=hx;obtain ⟨S,hp⟩:=p;have hl:=hp.length;have hb:=oq n i;have hn:(n:Int).toNat=n:=by lia
    have hin:i < n:=by lia
    have hb2:i * n≤9 * 9:=Nat.mul_le_mul (by lia) h9;have en:((n:Int) - (0+(i:Int))).toNat=n - i:=by lia
    refine ⟨_,rfl,_,rfl,_,_,rfl,rfl,(n:Int) - (0+(i:Int)),rfl,by lia,by lia,?_⟩;refine vc (Trn.range (lo:=0) (n:=((n:Int) - (0+(i:Int))).toNat)) (fun j zs σ H2=>Same H H2∧(∃ c,σ=[some (.int (0+(i:Int))),c,some (.int n)])∧PairsIn H2 (sfl n i++(sfR n i).take j) zs) ⟨S,⟨_,rfl⟩,by simpa using hp⟩ (fun j zs σ H2 hj p=>⟨trivial,aC (by have:=p.2.2.length;rw [← this,aae,aaF];lia)⟩) (fun j x zs σ H2 H3 hj hx p Ny ny=>?_) (fun zs σ H2 p=>?_)
    · obtain ⟨rfl,rfl⟩:=hx;obtain ⟨S2,⟨c,rfl⟩,hp2⟩:=p;refine ⟨_,rfl,_,rfl,_,rfl,_,_,rfl,rfl,(by show 2≤sizeLine;decide),fun t ht=>ny _ _ _ ⟨S2.trans (Same.new ht _),⟨_,rfl⟩,?_⟩⟩;have s3:=Same.new ht (.tup [.int (0+(j:Int)),.int (0+(j:Int)+(0+(i:Int)))]);have e:(sfR n i).take (j+1)=(sfR n i).take j++[(((j:Nat):Int),((j+i:Nat):Int))]:=by
        rw [aaR];have : (sfR n i)[j]?=some (((j:Nat):Int),((j+i:Nat):Int)):=by
          unfold sfR;rw [aaJ,List.getElem?_range (by lia)];rfl
        rw [this];rfl
      rw [e,← abI];refine PairsIn.snoc (PairsIn.mono (Tups.of s3) hp2) ⟨t,rfl,?_⟩;rw [upd_same];have e1:(0:Int)+(j:Int)=((j:Nat):Int):=by lia
      have e2:(0:Int)+(j:Int)+(0+(i:Int))=((j+i:Nat):Int):=by lia
      show some (HO.tup [V.int (0+(j:Int)),V.int (0+(j:Int)+(0+(i:Int)))])=some (HO.tup [V.int ((j:Nat):Int),V.int ((j+i:Nat):Int)]);rw [e2,e1]
    · obtain ⟨S2,⟨c,rfl⟩,hp2⟩:=p;refine nx _ _ ⟨S2,?_⟩;rw [en,aa0 (by simp [sfR]),← le] at hp2;exact hp2
  · obtain ⟨S,hp⟩:=p;have hn:(n:Int).toNat=n:=by lia
    rw [hn] at hp;have s5:=Same.new n5 (.lst ys);exact q p5 ys _ (S.trans s5) (S.free n5) upd_same (PairsIn.mono (Tups.of s5) hp)
def iJ:Sp:=fun vs H Q _=>∃ n:Int,vs=[.int n]∧1≤n∧n≤9∧Q (.bl true) H
abbrev gR:Stmt:=top 18
theorem mL:FnScope ["thing"] ["thing"] (ah gR):=⟨rfl,rfl,rfl,by decide +kernel,rfl,by decide +kernel,by decide +kernel⟩
theorem mZ {t3 t4:Tok} (F:Fun K "is_many" "is_many" gR f fd) (B:Bu K mg) (B3:Cq K mg t3 t4) (C_is_whole:Cal P w K mg base "is_whole" 1 ["thing"] (c_ K)):FnOk P w K mg base CX0 2 f fd ["thing"] iJ:=by
  refine F.ok mL (fun vs H Q E h=>?_) (fun cdv A outer s H vs Q E hr h=>?_)
  · obtain ⟨n,rfl,_⟩:=h;rfl
  obtain ⟨n,rfl,h1,h2,q⟩:=h;refine ⟨_,(@af _ _ _ (@ak _ _ _ _ (@eN _ _ _ _ _ _ _ (@ag _ _ _ _ _ _ _ _ _ _ _ C_is_whole hr (by lia) rfl (@aa _ _ _ _ _ (pv 0) ac (by rfl)) (by decide) (by rfl) (by rfl)) (@eL _ _ _ _ _ (@qL _ _ _ _ _ _ _ _ _ _ _ _ jG jG ad (pv 0) (@aZ _ _ (.int 9) _ _ rfl B3.gMOST_NUMBERS ⟨_,rfl⟩ (by decide)) (by with_unfolding_all rfl)))))),?_⟩;refine ⟨_,rfl,_,_,rfl,.int n,true,rfl,a8 ⟨_,rfl,_,_,rfl,rfl,true,congrArg V.bl (decide_eq_true (by lia)),a8 ⟨_,_,rfl,rfl,?_⟩⟩⟩;show Q (.bl (decide (n≤9))) H;rw [decide_eq_true (by lia)];exact q
def Gp (p:Int × Int):Prop:=0≤p.1∧p.1 < p.2∧p.2 < 9
def StIn (H:Hp) (ps:List (Int × Int)) (v:V):Prop:=∃ a us,v=.ref a∧H a=some (.lst us)∧PairsIn H ps us
theorem StIn.mono {H H':Hp} {ps:List (Int × Int)} {v:V} (g:Same H H') (h:StIn H ps v):StIn H' ps v:=by
  obtain ⟨a,us,e,h1,h2⟩:=h;exact ⟨a,us,e,g _ _ h1,PairsIn.mono (Tups.of g) h2⟩
def HdIn (H:Hp) (ps qs:List (Int × Int)) (v:V):Prop:=∃ a x y,v=.ref a∧H a=some (.tup [x,y])∧StIn H ps x∧StIn H qs y
theorem HdIn.mono {H H':Hp} {ps qs:List (Int × Int)} {v:V} (g:Same H H') (h:HdIn H ps qs v):HdIn H' ps qs v:=by
  obtain ⟨a,x,y,e,h1,h2,h3⟩:=h;exact ⟨a,x,y,e,g _ _ h1,h2.mono g,h3.mono g⟩
def Gs (ps:List (Int × Int)):Prop:=ps.length≤40∧∀ p∈ps,Gp p
def dig (i:Int):Nat:=48+i.toNat
def stx (p:Int × Int):List Nat:=[dig p.1,45,dig p.2]
theorem oO (i:Int) (h0:0≤i) (h1:i < 9):abq (toString i)=mkS [dig i]∧i.natAbs.log2 < 1920:=by
  have : i=0∨i=1∨i=2∨i=3∨i=4∨i=5∨i=6∨i=7∨i=8:=by lia
  rcases this with rfl|rfl|rfl|rfl|rfl|rfl|rfl|rfl|rfl <;> exact ⟨by decide +kernel,by decide +kernel⟩
def qv:Sp:=fun vs H Q _=>∃ p v,vs=[v]∧PairIn H p v∧(0≤p.1∧p.1 < 9∧0≤p.2∧p.2 < 9)∧Q (.str (mkS (stx p))) H
abbrev cV:Stmt:=top 53
theorem gL:FnScope ["stretch"] ["stretch"] (ah cV):=⟨rfl,rfl,rfl,by decide +kernel,rfl,by decide +kernel,by decide +kernel⟩
theorem gW (F:Fun K "write_stretch" "write_stretch" cV f fd):FnOk P w K mg base CX0 1 f fd ["stretch"] qv:=by
  refine F.ok gL (fun vs H Q E h=>?_) (fun cdv A outer s H vs Q E hr h=>?_)
  · obtain ⟨p,v,rfl,_⟩:=h;rfl
  obtain ⟨p,v,rfl,⟨a,rfl,ha⟩,⟨h1,h2,h3,h4⟩,q⟩:=h;refine ⟨_,(@af _ _ _ (@ak _ _ _ _ (@uR _ _ _ _ _ _ _ _ _ _ _ (@bn _ _ _ _ _ _ _ ix_tup (pv 0) ad (fun _ _=>rfl)) (@bn _ _ _ _ _ _ _ ix_tup (pv 0) ad (fun _ _=>rfl))))),?_⟩;obtain ⟨e1,l1⟩:=oO p.1 h1 h2;obtain ⟨e2,l2⟩:=oO p.2 h3 h4;have e3:("-":Str)=mkS [45]:=by decide +kernel
  refine ⟨_,rfl,a,_,_,_,rfl,rfl,SqT.of ha,rfl,p.1,rfl,l1,?_,?_,_,rfl,a,_,_,_,rfl,rfl,SqT.of ha,rfl,p.2,rfl,l2,?_,?_⟩
  · rw [e1,aU];exact av (by simp)
  · rw [e1,e3,bN,aU];exact av (by simp)
  · rw [e1,e2,e3,bN,bN,aU];exact av (by simp)
  · rw [e1,e2,e3,bN,bN];exact q
end
open PySem L2
def wds (ps qs:List (Int × Int)):List (List Nat):=ps.map stx++[[47]]++qs.map stx
def pT (ps qs:List (Int × Int)):List Nat:=jl (wds ps qs)
theorem oi (a b:List (List Nat)):szs (a++b)=szs a+szs b:=by
  unfold szs;simp only [aaC,List.sum_append,aae];lia
theorem oh (ps:List (Int × Int)):szs (ps.map stx)=4 * ps.length:=by
  induction ps with
  | nil=>rfl
  | cons p r ih =>
    unfold szs at ih ⊢;simp only [aax,List.sum_cons,aaD] at ih ⊢;have : (stx p).length=3:=rfl;lia
theorem og (ps qs:List (Int × Int)) (h1:ps.length≤40) (h2:qs.length≤40):szs (wds ps qs)≤400:=by
  unfold wds;rw [oi,oi,oh,oh];have : szs [[47]]=2:=rfl;lia
def stV (p:Int × Int):V:=.str (mkS (stx p))
theorem ol (ps:List (Int × Int)):ps.map stV=((ps.map stx).map mkS).map V.str:=by rw [abx,abx];rfl
theorem jE:("/":Str)=mkS [47]:=by decide +kernel
theorem qe (ps qs:List (Int × Int)):ps.map stV++[V.str (mkS [47])]++qs.map stV=((wds ps qs).map mkS).map V.str:=by
  unfold wds;rw [ol,ol];simp
theorem Gp.r {p:Int × Int} (h:Gp p):0≤p.1∧p.1 < 9∧0≤p.2∧p.2 < 9:=by
  obtain ⟨a,b,c⟩:=h;lia
section
variable {P:Program} {w:World} {K:aaa} {mg:Str→Option Value} {base:Heap} {f:Addr} {fd:FuncData}
def uF:Sp:=fun vs H Q _=>∃ ps qs v,vs=[v]∧HdIn H ps qs v∧Gs ps∧Gs qs∧∀ H',Same H H'→Q (.str (mkS (pT ps qs))) H'
theorem sC {p q:Int × Int} (hp:0≤p.1∧0≤p.2) (hq:0≤q.1∧0≤q.2) (h:mkS (stx p)=mkS (stx q)):p=q:=by
  have:=fB h;unfold stx dig at this;simp at this;obtain ⟨a,b⟩:=p;obtain ⟨c,d⟩:=q;simp only at *;have e1:a=c:=by lia
  have e2:b=d:=by lia
  rw [e1,e2]
theorem qB (n i:Nat):∀ p∈sfl n i,0≤p.1∧0≤p.2∧p.1 < n∧p.2 < n:=by
  intro p hp;unfold sfl sfR at hp;rw [List.mem_flatMap] at hp;obtain ⟨m,hm,hp⟩:=hp;rw [List.mem_map] at hp;obtain ⟨f,hf,rfl⟩:=hp;rw [List.mem_range] at hf;simp only;lia
def Kn (H:Hp) (kvs:List (Key × V)) (qs:List (Int × Int)):Prop:=∀ q∈qs,q.1 < q.2→∃ v,dj kvs (Sum.inr (mkS (stx q)))=some v∧PairIn H q v
theorem Kn.mono {H H':Hp} {kvs:List (Key × V)} {qs:List (Int × Int)} (t:Tups H H') (h:Kn H kvs qs):Kn H' kvs qs:=fun q hq hl=>by
  obtain ⟨v,h1,a,e,h2⟩:=h q hq hl;exact ⟨v,h1,a,e,t _ _ h2⟩
theorem Kn.put {H H':Hp} {kvs:List (Key × V)} {qs:List (Int × Int)} {q:Int × Int} {v:V} (t:Tups H H') (h:Kn H kvs qs) (hq:PairIn H' q v) (g:∀ x∈qs++[q],0≤x.1∧0≤x.2):Kn H' (eJ kvs (Sum.inr (mkS (stx q))) v) (qs++[q]):=fun x hx hl=>by
  rw [qg];by_cases c:(Sum.inr (mkS (stx x)):Key)=Sum.inr (mkS (stx q))
  · rw [if_pos c];injection c with c
    have:=sC (g x hx) (g q (by simp)) c;subst this;exact ⟨v,rfl,hq⟩
  · rw [if_neg c];rcases aao.mp hx with hx|hx
    · exact (h.mono t) x hx hl
    · exact absurd (by rw [aaL.mp hx]) c
def uD:Sp:=fun vs H Q _=>∃ (a:Addr) (ps:List (Int × Int)),vs=[.ref a]∧H a=some (.lst (ps.map stV))∧Gs ps∧∀ v H',Same H H'→StIn H' ps v→(∀ b,v=.ref b→H b=none)→Q v H'
abbrev cD:Stmt:=top 54
theorem cw:FnScope ["words","known","stretches"] ["words"] (ah cD):=⟨rfl,rfl,rfl,by decide +kernel,rfl,by decide +kernel,by decide +kernel⟩
theorem gm {t3 t4:Tok} (F:Fun K "read_stretches" "read_stretches" cD f fd) (B:Bu K mg) (B3:Cq K mg t3 t4) (C_shorter_first:Cal P w K mg base "shorter_first" 1 ["many"] uC) (C_write_stretch:Cal P w K mg base "write_stretch" 1 ["stretch"] qv):FnOk P w K mg base CX0 2 f fd ["words"] uD:=by
  refine F.ok cw (fun vs H Q E h=>?_) (fun cdv A outer s H vs Q E hr h=>?_)
  · obtain ⟨a,ps,rfl,_⟩:=h;rfl
  obtain ⟨a,ps,rfl,ea,⟨h40,hg⟩,q⟩:=h;refine ⟨_,(@ae _ _ _ _ _ (@ao _ _ (1) _ _ _ _ (cw).nd rfl (Or.inr rfl) (@ww _ (.dK []) _ _ _ _ _ _ _ _ (["first","last"]) ([none,none]) _ _ _ _ _ (Or.inl rfl) (u1 hr.units) rfl (@bT _ _ _ _ (@ag _ _ _ _ _ _ _ _ _ _ _ C_shorter_first hr (by lia) rfl (@aa _ _ _ _ _ (@aZ _ _ (.int 9) _ _ rfl B3.gMOST_NUMBERS ⟨_,rfl⟩ (by decide)) ac (by rfl)) (by decide) (by rfl) (by rfl))) rfl trivial trivial (fun _ _ _ _=>⟨(@ow _ _ _ _ _ _ (2) rfl rfl (@aV _ _ _ _ _ (@au _ _ (0) _ (show aa6 (["first","last"]:List Str) by decide +kernel) rfl (Or.inl rfl) (.inr rfl)) (@aV _ _ _ _ _ (@au _ _ (1) _ (show aa6 (["first","last"]:List Str) by decide +kernel) rfl (Or.inl rfl) (.inr rfl)) cJ (by rfl)) (by rfl)) (by rfl) (by rfl)),(@lA _ _ _ (@ap _ _ _ _ _ _ _ _ lD (pv 0) (pv 1) (aw _))),(@ag _ _ _ _ _ _ _ _ _ _ _ C_write_stretch hr (by lia) rfl (@aa _ _ _ _ _ (@aq _ _ _ _ _ (@aa _ _ _ _ _ (pv 0) (@aa _ _ _ _ _ (pv 1) ac (by rfl)) (by rfl))) ac (by rfl)) (by decide) (by rfl) (by rfl)),(@aq _ _ _ _ _ (@aa _ _ _ _ _ (pv 0) (@aa _ _ _ _ _ (pv 1) ac (by rfl)) (by rfl)))⟩) (by rfl) (by rfl) (by rfl) (by rfl) (by intro _;rfl)) (by rfl) (by first|exact .inl rfl|exact .inr rfl|assumption)) (@ae _ _ _ _ _ (@kj _ (2) _ _ _ _ _ _ _ _ _ _ (["word","known"]) ([none,some 1]) _ _ _ _ (cw).nd rfl (Or.inl rfl) rfl (@bT _ _ _ _ (pv 0)) rfl ⟨rfl,trivial⟩ ⟨⟨rfl,Or.inl rfl,Or.inl rfl⟩,trivial⟩ (fun _ _ _ _=>⟨(@au _ _ (0) _ (show aa6 (["word","known"]:List Str) by decide +kernel) rfl (Or.inl rfl) (.inr rfl)),bi,(@qK _ _ _ _ _ _ _ (u1 hr.units) (pv 1) (pv 0) ⟨rfl,rfl,rfl,rfl⟩)⟩) (by rfl) (by rfl) (by rfl) (by rfl) (by intro _;rfl) (by rfl) (by first|exact .inl rfl|exact .inr rfl|assumption)) (@ae _ _ _ _ _ (@a9 _ _ _ _ _ _ _ _ (@PW.pt _ _ _ (@cO _ _ _ _ _ _ _ (@ap _ _ _ _ _ _ _ _ jH (@am _ _ _ _ _ _ _ _ _ aQ rfl B.ilen aaY (@aa _ _ _ _ _ (pv 2) ac (by rfl)) (by decide) (by decide) (by rfl) (by rfl)) (@aZ _ _ (.int 40) _ _ rfl B3.gMOST_STRETCHES ⟨_,rfl⟩ (by decide)) (aw _)) (@cy _ _ _ _ (@ap _ _ _ _ _ _ _ _ (@mS _ hr.units) bg (pv 2) (by with_unfolding_all rfl))))) (@af _ _ _ fi) aE) (@af _ _ _ (@ak _ _ _ _ (pv 2)))))),?_⟩;refine ⟨9,rfl,by decide,fun pl us H1 s1 _ el hus=>?_⟩;refine ⟨pl,rfl,⟨_,SqL.of el⟩,?_⟩;have lus:=hus.length;have l81:=oq 9 9;have gd:=qB 9 9;refine wS (Trn.list (xs:=us)) (fun p i H'=>Same H1 H'∧∃ kvs,H' p=some (.dK kvs)∧kvs.length≤i∧Kn H' kvs ((sfl 9 9).take i)) (fun p hp=>⟨Same.new hp _,[],upd_same,aag _,fun x hx=>by simp at hx⟩) (fun p i H' hi z=>SqL.of (z.1 _ _ el)) (fun p i x H2 H' hp hi hx z Nx nx=>?_) (fun p H2 hp z=>?_)
  · obtain ⟨rfl,hx⟩:=hx;obtain ⟨S,kvs,ek,lk,hk⟩:=z;obtain ⟨r,hri,hrr⟩:=fm (PairsIn.mono (Tups.of S) hus) hx;obtain ⟨b,rfl,hb⟩:=hrr;have hr9:=gd r (aaK hri);have etake:(sfl 9 9).take (i+1)=(sfl 9 9).take i++[r]:=by rw [aaR,hri];rfl
    refine ⟨b,_,rfl,SqT.of hb,rfl,_,_,rfl,_,_,rfl,rfl,?_⟩;refine ⟨_,rfl,_,rfl,_,_,rfl,rfl,_,rfl,fG (fun c=>?_) (fun c=>?_)⟩
    · have c:r.1 < r.2:=of_decide_eq_true c;refine ⟨_,rfl,_,rfl,(by show 2≤sizeLine;decide),fun t ht=>?_⟩;refine ⟨r,.ref t,rfl,⟨t,rfl,upd_same⟩,⟨hr9.1,hr9.2.2.1,hr9.2.1,hr9.2.2.2⟩,?_⟩;have st:=Same.new ht (.tup [.int r.1,.int r.2]);refine ⟨_,rfl,_,rfl,(by show 2≤sizeLine;decide),fun u hu=>?_⟩;have su:=Same.new hu (.tup [.int r.1,.int r.2]);have ek2:=su _ _ (st _ _ ek);have S2:=S.trans (st.trans su);have eu:upd (upd H' t (.tup [.int r.1,.int r.2])) u (.tup [.int r.1,.int r.2]) u=some (.tup [.int r.1,.int r.2]):=upd_same;have T2:=Tups.of (st.trans su);generalize upd (upd H' t (.tup [.int r.1,.int r.2])) u (.tup [.int r.1,.int r.2])=H3 at ek2 S2 eu T2 ⊢;have T3:Tups H3 (upd H3 p (.dK (eJ kvs (Sum.inr (mkS (stx r))) (.ref u)))):=fun c xs hc=>by
        rw [aB (fun e=>by rw [e,ek2] at hc;cases hc)];exact hc
      refine ⟨_,DPut.k (k:=Sum.inr (mkS (stx r))) ek2 (aC (by lia)),nx _ ⟨S2.upd hp,_,upd_same,?_,?_⟩⟩
      · have:=dF kvs (Sum.inr (mkS (stx r))) (.ref u);lia
      · rw [etake];refine Kn.put (T2.trans T3) hk ⟨u,rfl,T3 _ _ eu⟩ fun x hx=>?_;rw [← etake] at hx;have:=gd x (abM hx);exact ⟨this.1,this.2.1⟩
    · have c:¬ r.1 < r.2:=fun z=>c (decide_eq_true z);refine nx _ ⟨S,kvs,ek,by lia,?_⟩;rw [etake];intro x hx hl;rcases aao.mp hx with hx|hx
      · exact hk x hx hl
      · rw [aaL.mp hx] at hl;exact absurd hl c
  obtain ⟨S,kvs,ek,lk,hk⟩:=z;rw [← lus,aa9] at hk;have ea2:=(s1.trans S) _ _ ea;refine ⟨_,rfl,a,rfl,⟨_,SqL.of ea2⟩,?_⟩;have ll:(ps.map stV).length=ps.length:=aak _;refine eR (Trn.list (xs:=ps.map stV)) (fun i ys H'=>H'=H2∧PairsIn H2 (ps.take i) ys) ⟨rfl,.nil⟩ (fun i ys H' hi z=>by rw [z.1];exact ⟨SqL.of ea2,aC (by have:=z.2.length;rw [← this,aaF];lia)⟩) (fun i x ys H0 H' hi hx z Nx nx=>?_) (fun ys H' z p5 n5=>?_)
  · obtain ⟨rfl,hx⟩:=hx;obtain ⟨rfl,hy⟩:=z;rw [aaJ] at hx;obtain ⟨r,hr2,rfl⟩:=abi.mp hx;have gr:=hg r (aaK hr2);obtain ⟨g1,g2,g3⟩:=gr;have hm:r∈sfl 9 9:=by
      have:=sI 9 r.1.toNat r.2.toNat (by lia) (by lia);have e:((r.1.toNat:Int),(r.2.toNat:Int))=r:=by
        obtain ⟨a,b⟩:=r;simp only at *;rw [show (a.toNat:Int)=a by lia,show (b.toNat:Int)=b by lia]
      rw [e] at this;exact this
    obtain ⟨v,hv1,hv2⟩:=hk r hm g2;refine ⟨_,rfl,p,rfl,.inl ⟨kvs,.inl ek⟩,_,rfl,some v,?_,nx _ _ ⟨rfl,?_⟩⟩
    · rw [← hv1];exact DGet.k (k:=Sum.inr (mkS (stx r))) ek
    · rw [aaR,hr2];exact PairsIn.snoc hy hv2
  obtain ⟨rfl,hy⟩:=z;rw [ll,aa9] at hy;have s5:=Same.new n5 (.lst ys);have e5:upd H' p5 (.lst ys) p5=some (.lst ys):=upd_same;have n50:H p5=none:=(s1.trans S).free n5;have hy5:=PairsIn.mono (Tups.of s5) hy;have ly:=hy.length;generalize upd H' p5 (.lst ys)=H3 at s5 e5 hy5 ⊢;refine ⟨_,rfl,p5,_,rfl,.inl (SqL.of e5),_,_,rfl,rfl,_,rfl,?_⟩;rw [decide_eq_false (by lia)];refine az ⟨_,rfl,p5,_,rfl,rfl,SqL.of e5,?_,_,rfl,az ⟨_,rfl,q _ H3 ((s1.trans S).trans s5) ⟨p5,ys,rfl,e5,hy5⟩ (fun b e=>by cases e;exact n50)⟩⟩;intro v hv;obtain ⟨j,hj,rfl⟩:=List.getElem_of_mem hv;obtain ⟨_,_,b,e,hb⟩:=fm hy5 (aar hj);exact ⟨b,_,e,hb⟩
end
open PySem L2
theorem nK {H:Hp}:∀ {ds:List PyData} {vs:List V},DatAll H ds vs→∀ {i:Nat} {x:V},vs[i]?=some x→∃ d,ds[i]?=some d∧Dat H d x
  | [],vs,h,i,x,e=>by simp only [DatAll] at h;subst h;simp at e
  | d :: ds,vs,h,i,x,e=>by
    simp only [DatAll] at h;obtain ⟨v,r,rfl,h1,h2⟩:=h;cases i with
    | zero=>simp at e;subst e;exact ⟨d,rfl,h1⟩
    | succ i=>exact nK h2 (by simpa using e)
mutual
def gdD:PyData→Bool
  | .int _=>true
  | .str _=>true
  | .list ds=>gdA ds && decide (ds.length≤100)
  | .tuple ds=>gdA ds && decide (ds.length≤100)
  | _=>false
def gdA:List PyData→Bool
  | []=>true
  | d :: ds=>gdD d && gdA ds
end
section
variable {P:Program} {w:World} {K:aaa} {mg:Str→Option Value} {base:Heap} {f:Addr} {fd:FuncData}
end
open PySem L2
theorem d9 (xs:List V) (c:Nat) (h:c≤xs.length):cZ xs none (some (c:Int))=xs.take c:=by
  have e0:HT.sIx xs.length 0 none=0:=by simp [HT.sIx]
  have e1:HT.sIx xs.length xs.length (some (c:Int))=c:=by
    simp only [HT.sIx];split <;> lia
  unfold cZ;rw [e0,e1,List.drop_zero];rfl
theorem jm (xs:List V) (c:Nat):cZ xs none (some (c:Int))=xs.take c:=by
  by_cases h:c≤xs.length
  · exact d9 xs c h
  · have e0:HT.sIx xs.length 0 none=0:=by simp [HT.sIx]
    have e1:HT.sIx xs.length xs.length (some (c:Int))=xs.length:=by
      simp only [HT.sIx];split <;> lia
    unfold cZ;rw [e0,e1,List.drop_zero,Nat.sub_zero,aa9,aa0 (by lia)]
theorem di (xs:List V) (c:Nat) (h:c≤xs.length):cZ xs (some (c:Int)) none=xs.drop c:=by
  have e0:HT.sIx xs.length xs.length none=xs.length:=by simp [HT.sIx]
  have e1:HT.sIx xs.length 0 (some (c:Int))=c:=by
    simp only [HT.sIx];split <;> lia
  unfold cZ;rw [e0,e1,aa0 (by rw [aaQ];exact aag _)]
theorem Paired.app {α β:Type} {F:α→β→Prop} {as bs:List α} {us vs:List β} (a:Paired F as us) (b:Paired F bs vs):Paired F (as++bs) (us++vs):=by
  induction a with
  | nil=>exact b
  | cons x _ ih=>exact .cons x ih
theorem qp (p:Int × Int):mkS (stx p)≠mkS [47]:=fun h=>by
  have:=congrArg acj (fB h);simp [stx] at this
theorem qd (ps qs:List (Int × Int)):∀ x∈wds ps qs,32∉x:=by
  intro x hx h;have st:∀ p:Int × Int,32∉stx p:=fun p h=>by
    simp only [stx,dig,aah,aaO,or_false] at h;lia
  rcases aao.mp hx with hx|hx
  · rcases aao.mp hx with hx|hx
    · obtain ⟨p,_,rfl⟩:=abm.mp hx;exact st p h
    · rw [aaL.mp hx] at h;simp at h
  · obtain ⟨p,_,rfl⟩:=abm.mp hx;exact st p h
theorem nY (ps qs:List (Int × Int)):(wds ps qs).length=ps.length+1+qs.length:=by simp [wds];lia
theorem oW (ps qs:List (Int × Int)):((wds ps qs).map mkS).countP (fun z=>decide (z=mkS [47]))=1:=by
  have h:∀ l:List (Int × Int),((l.map stx).map mkS).countP (fun z=>decide (z=mkS [47]))=0:=fun l=>by
    rw [List.countP_eq_zero];intro z hz;obtain ⟨x,hx,rfl⟩:=abm.mp hz;obtain ⟨p,_,rfl⟩:=abm.mp hx;simp [qp p]
  unfold wds;rw [aaC,aaC,List.countP_append,List.countP_append,h,h];simp
theorem uo (ps qs:List (Int × Int)):((wds ps qs).map mkS)[ps.length]?=some (mkS [47]):=by
  unfold wds;rw [aaJ,abI,abK (by simp)];simp
theorem ml (ps qs:List (Int × Int)):∀ m,m < ps.length→((wds ps qs).map mkS)[m]?≠some (mkS [47]):=by
  intro m hm;unfold wds;rw [aaJ,abI,List.getElem?_append_left (by simpa using hm),aaJ,aar hm];intro z;simp at z;exact qp _ z
section
variable {P:Program} {w:World} {K:aaa} {mg:Str→Option Value} {base:Heap} {f:Addr} {fd:FuncData}
def wY (H H':Hp) (ps qs:List (Int × Int)) (t:Addr):Prop:=∃ a b us vs,H' t=some (.tup [.ref a,.ref b])∧a≠b∧H a=none∧H b=none∧H' a=some (.lst us)∧H' b=some (.lst vs)∧PairsIn H' ps us∧PairsIn H' qs vs
def uE:Sp:=fun vs H Q _=>∃ ps qs,vs=[.str (mkS (pT ps qs))]∧Gs ps∧Gs qs∧∀ t H',Same H H'→wY H H' ps qs t→Q (.ref t) H'
abbrev eC:Stmt:=top 42
theorem dJ:FnScope ["text","words","middle"] ["text"] (ah eC):=⟨rfl,rfl,rfl,by decide +kernel,rfl,by decide +kernel,by decide +kernel⟩
theorem jv (F:Fun K "read_holds" "read_holds" eC f fd) (B:Bu K mg) (C_need_text:Cal P w K mg base "need_text" 1 ["thing"] dm) (C_read_stretches:Cal P w K mg base "read_stretches" 2 ["words"] uD):FnOk P w K mg base CX0 3 f fd ["text"] uE:=by
  refine F.ok dJ (fun vs H Q E h=>?_) (fun cdv A outer s H vs Q E hr h=>?_)
  · obtain ⟨ps,qs,rfl,_⟩:=h;rfl
  obtain ⟨ps,qs,rfl,g1,g2,q⟩:=h;refine ⟨_,(@ae _ _ _ _ _ (@bC _ _ _ _ (@ag _ _ _ _ _ _ _ _ _ _ _ C_need_text hr (by lia) rfl (@aa _ _ _ _ _ (pv 0) ac (by rfl)) (by decide) (by rfl) (by rfl)) (by rfl)) (@ae _ _ _ _ _ (@ao _ _ (1) _ _ _ _ (dJ).nd rfl (Or.inl rfl) (@cA _ _ _ _ _ _ _ _ _ _ _ _ aaS PySem.F.slot_str_split PySem.F.type_str_split gv (pv 0) (@aa _ _ _ _ _ aj ac (by rfl)) (by rfl) (by rfl) (by rfl) (by rfl) (by rfl)) (by rfl) (by first|exact .inl rfl|exact .inr rfl|assumption)) (@ae _ _ _ _ _ (@a9 _ _ _ _ _ _ _ _ (@ap _ _ _ _ _ _ _ _ ia (@cA _ _ _ _ _ _ _ _ _ _ _ _ aaH PySem.F.slot_list_count PySem.F.type_list_count pF (pv 1) (@aa _ _ _ _ _ aj ac (by rfl)) (by rfl) (by rfl) (by rfl) (by rfl) (by rfl)) ad (aw _)) (@af _ _ _ fi) aE) (@ae _ _ _ _ _ (@ao _ _ (2) _ _ _ _ (dJ).nd rfl (Or.inl rfl) (@cA _ _ _ _ _ _ _ _ _ _ _ _ aaH PySem.F.slot_list_index PySem.F.type_list_index pA (pv 1) (@aa _ _ _ _ _ aj ac (by rfl)) (by rfl) (by rfl) (by rfl) (by rfl) (by rfl)) (by rfl) (by first|exact .inl rfl|exact .inr rfl|assumption)) (@af _ _ _ (@ak _ _ _ _ (@aq _ _ _ _ _ (@aa _ _ _ _ _ (@ag _ _ _ _ _ _ _ _ _ _ _ C_read_stretches hr (by lia) rfl (@aa _ _ _ _ _ (@bq _ _ _ _ _ _ _ _ _ _ cu (pv 1) bL (@bD _ _ _ (pv 2))) ac (by rfl)) (by decide) (by rfl) (by rfl)) (@aa _ _ _ _ _ (@ag _ _ _ _ _ _ _ _ _ _ _ C_read_stretches hr (by lia) rfl (@aa _ _ _ _ _ (@bq _ _ _ _ _ _ _ _ _ _ cu (pv 1) (@bD _ _ _ (@al _ _ _ _ _ _ _ _ bX (pv 2) ad)) bL) ac (by rfl)) (by decide) (by rfl) (by rfl)) ac (by rfl)) (by rfl))))))))),?_⟩;have c1:=g1.1;have c2:=g2.1;have hz:=og ps qs c1 c2;have hjl:=nA (wds ps qs);have hlen:(mkS (pT ps qs)).length≤900:=by rw [aU];unfold pT;lia
  have hsp:abS (mkS (pT ps qs)) (" ":Str)=(wds ps qs).map mkS:=by
    rw [cT];exact la (fun z=>by have:=congrArg acj z;rw [nY] at this;simp at this) (qd ps qs)
  have wl:=nY ps qs;refine ⟨_,rfl,_,rfl,?_⟩;refine ⟨_,rfl,rfl,_,_,rfl,rfl,by decide,av (by lia),?_,?_,fun pw nw=>?_⟩
  · rw [hsp];exact av (by simp;lia)
  · rw [cT];exact jF _ hlen
  rw [hsp];have sw:=Same.new nw (.lst (((wds ps qs).map mkS).map V.str));have ew:upd H pw (.lst (((wds ps qs).map mkS).map V.str)) pw=some (.lst (((wds ps qs).map mkS).map V.str)):=upd_same;generalize upd H pw (.lst (((wds ps qs).map mkS).map V.str))=H1 at sw ew ⊢;refine ⟨_,rfl,.inl ⟨rfl,_,SqL.of ew⟩,pw,_,_,rfl,rfl,SqL.of ew,?_⟩;rw [jE,oW];refine ⟨rfl,false,rfl,az ?_⟩;refine ⟨_,rfl,.inl ⟨rfl,_,SqL.of ew⟩,pw,(wds ps qs).map mkS,mkS [47],ps.length,rfl,rfl,SqL.of ew,uo ps qs,ml ps qs,by rw [aak];lia,?_⟩;refine ⟨_,rfl,_,rfl,(ps.length:Nat),rfl,pw,_,rfl,SqL.of ew,fun p2 n2=>?_⟩;have ll:(((wds ps qs).map mkS).map V.str).length=ps.length+1+qs.length:=by rw [aak,aak,wl]
  rw [d9 _ _ (by lia)];have e1:(((wds ps qs).map mkS).map V.str).take ps.length=ps.map stV:=by
    rw [← qe,abI,List.take_left' (by simp)]
  have e2:(((wds ps qs).map mkS).map V.str).drop (ps.length+1)=qs.map stV:=by
    rw [← qe,List.drop_left' (by simp)]
  rw [e1];have s2:=Same.new n2 (.lst (ps.map stV));refine ⟨p2,ps,rfl,upd_same,g1,fun v1 H3 s3 h1 f1=>?_⟩;have S3:=s2.trans s3;refine ⟨_,rfl,_,rfl,_,_,rfl,rfl,(ps.length:Int)+1,rfl,pw,_,rfl,SqL.of (S3 _ _ ew),fun p4 n4=>?_⟩;have e3:(ps.length:Int)+1=((ps.length+1:Nat):Int):=by lia
  rw [e3,di _ _ (by lia),e2];have s4:=Same.new n4 (.lst (qs.map stV));refine ⟨p4,qs,rfl,upd_same,g2,fun v2 H5 s5 h2 f2=>⟨(by show 2≤sizeLine;decide),fun t ht=>?_⟩⟩;have st:=Same.new ht (.tup [v1,v2]);have S5:=s4.trans s5;obtain ⟨a,us,rfl,ea,pa⟩:=h1;obtain ⟨b,vs,rfl,eb,pb⟩:=h2;have hb3:H3 b=none:=s4.free (f2 b rfl);have ha1:H1 a=none:=s2.free (f1 a rfl);have hb1:H1 b=none:=S3.free hb3;refine q t _ ((((sw.trans S3).trans S5)).trans st) ⟨a,b,us,vs,upd_same,(fun e=>by rw [← e,ea] at hb3;cases hb3),sw.free ha1,sw.free hb1,st _ _ (S5 _ _ ea),st _ _ eb,PairsIn.mono (Tups.of (S5.trans st)) pa,PairsIn.mono (Tups.of st) pb⟩
def qw:Sp:=fun vs H Q _=>∃ w M,vs=[.ref w,.int 9]∧Wel H w M∧M < 999990000∧∀ p v H',But w H H'→Wel H' w (M+2)→Gp p→PairIn H' p v→Q v H'
abbrev dv:Stmt:=top 60
theorem eP:FnScope ["well","many","i"] ["well","many"] (ah dv):=⟨rfl,rfl,rfl,by decide +kernel,rfl,by decide +kernel,by decide +kernel⟩
theorem mU (F:Fun K "_law_stretch" "_law_stretch" dv f fd) (C__law_draw:Cal P w K mg base "_law_draw" 2 ["well","many"] dn):FnOk P w K mg base CX0 3 f fd ["well","many"] qw:=by
  refine F.ok eP (fun vs H Q E h=>?_) (fun cdv A outer s H vs Q E hr h=>?_)
  · obtain ⟨x,M,rfl,_⟩:=h;rfl
  obtain ⟨wl,M,rfl,hw,hM,q⟩:=h;refine ⟨_,(@ae _ _ _ _ _ (@ao _ _ (2) _ _ _ _ (eP).nd rfl (Or.inl rfl) (@ag _ _ _ _ _ _ _ _ _ _ _ C__law_draw hr (by lia) rfl (@aa _ _ _ _ _ (pv 0) (@aa _ _ _ _ _ (@al _ _ _ _ _ _ _ _ dD (pv 1) ad) ac (by rfl)) (by rfl)) (by decide) (by rfl) (by rfl)) (by rfl) (by first|exact .inl rfl|exact .inr rfl|assumption)) (@af _ _ _ (@ak _ _ _ _ (@aq _ _ _ _ _ (@aa _ _ _ _ _ (pv 2) (@aa _ _ _ _ _ (@al _ _ _ _ _ _ _ _ bX (@al _ _ _ _ _ _ _ _ bX (pv 2) ad) (@ag _ _ _ _ _ _ _ _ _ _ _ C__law_draw hr (by lia) rfl (@aa _ _ _ _ _ (pv 0) (@aa _ _ _ _ _ (@al _ _ _ _ _ _ _ _ dD (@al _ _ _ _ _ _ _ _ dD (pv 1) ad) (pv 2)) ac (by rfl)) (by rfl)) (by decide) (by rfl) (by rfl))) ac (by rfl)) (by rfl)))))),?_⟩;refine ⟨_,rfl,_,rfl,_,_,rfl,rfl,wl,9 - 1,M,rfl,by decide,by decide,hw,by lia,fun r1 H1 a1 b1 k1 w1=>?_⟩;refine ⟨_,rfl,_,rfl,_,_,rfl,rfl,_,rfl,_,rfl,_,_,rfl,rfl,_,rfl,_,_,rfl,rfl,wl,9 - 1 - r1,_,rfl,by lia,by lia,w1,by lia,fun r2 H2 a2 b2 k2 w2=>⟨_,_,rfl,rfl,(by show 2≤sizeLine;decide),fun t ht=>?_⟩⟩;exact q (r1,r1+1+r2) _ _ ((k1.trans k2).trans (But.new ht _)) ((w2.keep (Same.new ht _) (aaA _)).more (by lia)) ⟨a1,by show r1 < r1+1+r2;lia,by show r1+1+r2 < 9;lia⟩ ⟨t,rfl,upd_same⟩
theorem PairsIn.but {w:Addr} {H H':Hp} {M:Int} {ps:List (Int × Int)} {us:List V} (hw:Wel H w M) (b:But w H H') (h:PairsIn H ps us):PairsIn H' ps us:=PairsIn.mono (hw.tups b) h
def ka:Sp:=fun vs H Q _=>∃ w M,vs=[.ref w,.int 9]∧Wel H w M∧M < 999900000∧∀ ps qs v H',But w H H'→Wel H' w (M+1000)→Gs ps→Gs qs→HdIn (off w H') ps qs v→Q v H'
theorem xE {a b c d:Int} {k:Int} (h0:0≤k) (h1:k < 4) (P:Int→Prop) (pa:P a) (pb:P b) (pc:P c) (pd:P d):∃ z,atI [V.int a,.int b,.int c,.int d] k=some (.int z)∧P z:=by
  have : k=0∨k=1∨k=2∨k=3:=by lia
  rcases this with rfl|rfl|rfl|rfl
  · exact ⟨a,rfl,pa⟩
  · exact ⟨b,rfl,pb⟩
  · exact ⟨c,rfl,pc⟩
  · exact ⟨d,rfl,pd⟩
theorem iQ {H:Hp}:∀ {ps:List (Int × Int)} {us:List V} (n:Nat),PairsIn H ps us→PairsIn H (ps.take n) (us.take n)
  | _,_,0,_=>by simpa using (Paired.nil:PairsIn H [] [])
  | _,_,n+1,.nil=>by simpa using (Paired.nil:PairsIn H [] [])
  | _,_,n+1,.cons a b=>by
    rw [List.take_succ_cons,List.take_succ_cons];exact .cons a (iQ n b)
def gZ (wl pf:Addr) (H:Hp):Hp:=off pf (off wl H)
theorem qQ {wl pf:Addr} {H H':Hp} (b:But wl H H'):Same (gZ wl pf H) (gZ wl pf H'):=a_ (But.of (a_ b))
theorem qO {wl pf:Addr} {H:Hp} {o:HO}:Same (gZ wl pf H) (gZ wl pf (upd H pf o)):=a_ fun b u ne h=>by
  by_cases c:b=wl
  · subst c;have : off b H b=none:=by simp [off]
    rw [this] at h;cases h
  · rw [bY c] at h ⊢;rw [aB ne];exact h
theorem qP {wl pf p:Addr} {H:Hp} {o:HO} (h1:p≠wl) (h2:p≠pf):gZ wl pf (upd H p o) p=some o:=by
  unfold gZ;rw [bY h2,bY h1,upd_same]
abbrev eI:Stmt:=top 61
theorem b_:FnScope ["well","many","found","k","some"] ["well","many"] (ah eI):=⟨rfl,rfl,rfl,by decide +kernel,rfl,by decide +kernel,by decide +kernel⟩
theorem kG (F:Fun K "_law_holds" "_law_holds" eI f fd) (B:Bu K mg) (C__law_draw:Cal P w K mg base "_law_draw" 2 ["well","many"] dn) (C__law_stretch:Cal P w K mg base "_law_stretch" 3 ["well","many"] qw):FnOk P w K mg base CX0 4 f fd ["well","many"] ka:=by
  refine F.ok b_ (fun vs H Q E h=>?_) (fun cdv A outer s H vs Q E hr h=>?_)
  · obtain ⟨x,M,rfl,_⟩:=h;rfl
  obtain ⟨wl,M,rfl,hw,hM,q⟩:=h;refine ⟨_,(@ae _ _ _ _ _ (@ao _ _ (2) _ _ _ _ (b_).nd rfl (Or.inl rfl) (@ar _ _ _ _ ac) (by rfl) (by first|exact .inl rfl|exact .inr rfl|assumption)) (@ae _ _ _ _ _ (@fj _ _ _ _ _ _ _ _ abe rfl (@df _ _ _ _ _ _ rfl B.irange (@aa _ _ _ _ _ ad ac (by rfl)) (by rfl)) (@au _ _ (3) _ (b_).nd rfl (Or.inl rfl) (.inl rfl)) (@ae _ _ _ _ _ (@ao _ _ (4) _ _ _ _ (b_).nd rfl (Or.inl rfl) (@ar _ _ _ _ ac) (by rfl) (by first|exact .inl rfl|exact .inr rfl|assumption)) (@ae _ _ _ _ _ (@a9 _ _ _ _ _ _ _ _ (@ap _ _ _ _ _ _ _ _ jH (pv 1) ad (aw _)) (@af _ _ _ (@kj _ (4) _ _ _ _ _ _ _ _ _ _ (["turn","well","many"]) ([none,some 0,some 1]) _ _ _ _ (b_).nd rfl (Or.inl rfl) rfl (@df _ _ _ _ _ _ rfl B.irange (@aa _ _ _ _ _ (@bn _ _ _ _ _ _ _ ix_list (@ar _ _ _ _ (@aa _ _ _ _ _ ad (@aa _ _ _ _ _ ad (@aa _ _ _ _ _ ad (@aa _ _ _ _ _ (@ag _ _ _ _ _ _ _ _ _ _ _ C__law_draw hr (by lia) rfl (@aa _ _ _ _ _ (pv 0) (@aa _ _ _ _ _ ad ac (by rfl)) (by rfl)) (by decide) (by rfl) (by rfl)) ac (by rfl)) (by rfl)) (by rfl)) (by rfl))) (@ag _ _ _ _ _ _ _ _ _ _ _ C__law_draw hr (by lia) rfl (@aa _ _ _ _ _ (pv 0) (@aa _ _ _ _ _ ad ac (by rfl)) (by rfl)) (by decide) (by rfl) (by rfl)) (fun _ _=>rfl)) ac (by rfl)) (by rfl)) rfl ⟨rfl,⟨rfl,trivial⟩⟩ ⟨⟨rfl,Or.inl rfl,Or.inl rfl⟩,⟨⟨rfl,Or.inl rfl,Or.inl rfl⟩,trivial⟩⟩ (fun _ _ _ _=>⟨(@au _ _ (0) _ (show aa6 (["turn","well","many"]:List Str) by decide +kernel) rfl (Or.inl rfl) (.inr rfl)),bi,(@ag _ _ _ _ _ _ _ _ _ _ _ C__law_stretch hr (by lia) rfl (@aa _ _ _ _ _ (pv 1) (@aa _ _ _ _ _ (pv 2) ac (by rfl)) (by rfl)) (by decide) (by rfl) (by rfl))⟩) (by rfl) (by rfl) (by rfl) (by rfl) (by intro _;rfl) (by rfl) (by first|exact .inl rfl|exact .inr rfl|assumption))) aE) (@af _ _ _ (@bC _ _ _ _ (@cA _ _ _ _ _ _ _ _ _ _ _ _ aaH aa1 aa2 cF (pv 2) (@aa _ _ _ _ _ (@al _ _ _ _ _ _ _ _ bj (pv 4) (@bq _ _ _ _ _ _ _ _ _ _ cu (pv 4) bL (@bD _ _ _ (@cE _ _ _ _ _ _ _ _ _ jQ rfl B.iint abG (@aa _ _ _ _ _ (@bM _ _ _ _ _ _ _ _ bV (@ag _ _ _ _ _ _ _ _ _ _ _ C__law_draw hr (by lia) rfl (@aa _ _ _ _ _ (pv 0) (@aa _ _ _ _ _ ad ac (by rfl)) (by rfl)) (by decide) (by rfl) (by rfl)) ad (aw _)) ac (by rfl)) (by decide) (by decide) (by rfl) (by rfl))))) ac (by rfl)) (by rfl) (by rfl) (by rfl) (by rfl) (by rfl)) (by rfl))))) (by intro _;rfl)) (@af _ _ _ (@ak _ _ _ _ (@aq _ _ _ _ _ (@aa _ _ _ _ _ (@bn _ _ _ _ _ _ _ ix_list (pv 2) ad (fun _ _=>rfl)) (@aa _ _ _ _ _ (@bn _ _ _ _ _ _ _ ix_list (pv 2) ad (fun _ _=>rfl)) ac (by rfl)) (by rfl))))))),?_⟩;refine ⟨aaM _,fun pf nf=>?_⟩;have nfw:=hw.ne nf;refine ⟨2,rfl,by decide,by decide,hJ (n:=2) (fun k σ H'=>∃ (l:List (List (Int × Int))) (us:List V) (c4 c5:Option V),σ=[some (.ref wl),some (.int 9),some (.ref pf),c4,c5]∧H' pf=some (.lst us)∧l.length=k∧Paired (fun ps v=>Gs ps∧StIn (gZ wl pf H') ps v) l us∧But wl H H'∧Wel H' wl (M+100 * k)) ⟨[],[],_,_,rfl,upd_same,rfl,.nil,But.new nf _,(hw.keep (Same.new nf _) (aaA _)).more (by lia)⟩ ?_ ?_⟩
  · rintro k σ K0 hk ⟨l,us,c4,c5,rfl,ef,hl,hp,bb,w0⟩;refine ⟨aaM _,fun ps0 ns0=>?_⟩;have w1:=w0.keep (Same.new ns0 (.lst [])) (aaA _);have b1:But wl K0 (upd K0 ps0 (.lst [])):=But.new ns0 _;generalize upd K0 ps0 (.lst [])=K1 at w1 b1 ⊢;refine ⟨_,rfl,_,_,rfl,rfl,true,rfl,a8 ?_⟩;refine ⟨_,rfl,wl,7,_,rfl,by decide,by decide,w1,by lia,fun r1 K2 a1 c1 b2 w2=>⟨(by show 4≤sizeLine;decide),fun p3 n3=>?_⟩⟩;have n3w:=w2.ne n3;have w3:=w2.keep (Same.new n3 (.lst [.int 0,.int 1,.int 2,.int r1])) (aaA _);have b3:But wl K2 (upd K2 p3 (.lst [.int 0,.int 1,.int 2,.int r1])):=But.new n3 _;have e3:upd K2 p3 (.lst [.int 0,.int 1,.int 2,.int r1]) p3=some (.lst [.int 0,.int 1,.int 2,.int r1]):=upd_same;generalize upd K2 p3 (.lst [.int 0,.int 1,.int 2,.int r1])=K3 at w3 b3 e3 ⊢;refine ⟨_,rfl,wl,4,_,rfl,by decide,by decide,w3,by lia,fun r2 K4 a2 c2 b4 w4=>?_⟩;obtain ⟨m,hm1,hm2,hm3⟩:=xE (a:=0) (b:=1) (c:=2) (d:=r1) a2 c2 (fun z=>0≤z∧z≤6) (by lia) (by lia) (by lia) (by lia);refine ⟨p3,_,_,_,rfl,rfl,SqL.of (b4 _ _ n3w e3),hm1,m,rfl,by lia,by lia,?_⟩;refine eR (Trn.range (lo:=0) (n:=m.toNat)) (fun i ys H'=>But wl K4 H'∧Wel H' wl (M+100 * k+2+2 * i)∧∃ ps,ps.length=i∧(∀ p∈ps,Gp p)∧PairsIn H' ps ys) ⟨But.refl,w4.more (by lia),[],rfl,(fun p z=>by simp at z),.nil⟩ (fun i ys H' hi p=>by obtain ⟨_,_,ps,h1,_,h2⟩:=p;exact ⟨trivial,aC (by have:=h2.length;lia)⟩) (fun i x ys H0 H' hi hx p Nx nx=>?_) (fun ys K5 p p6 n6=>?_)
    · obtain ⟨rfl,rfl⟩:=hx;obtain ⟨bx,wx,ps,h1,h2,h3⟩:=p;refine ⟨_,rfl,_,rfl,wl,_,rfl,wx,by lia,fun p v H5 b5 w5 gp pp=>nx _ _ ⟨bx.trans b5,w5.more (by lia),ps++[p],by simp [h1],fun y hy=>?_,PairsIn.snoc (PairsIn.but wx b5 h3) pp⟩⟩;rcases aao.mp hy with hy|hy
      · exact h2 y hy
      · rw [aaL.mp hy];exact gp
    obtain ⟨b5,w5,ps,h1,h2,h3⟩:=p;have n6w:=w5.ne n6;have b6:But wl K5 (upd K5 p6 (.lst ys)):=But.new n6 _;have w6:=w5.keep (Same.new n6 (.lst ys)) (aaA _);have e6:upd K5 p6 (.lst ys) p6=some (.lst ys):=upd_same;have h6:=PairsIn.mono (Tups.of (Same.new n6 (.lst ys))) h3;have ef5:=((((b1.trans b2).trans b3).trans b4).trans b5) _ _ nfw ef;have npf6:p6≠pf:=fun e=>by rw [e,ef5] at n6;cases n6
    generalize upd K5 p6 (.lst ys)=K6 at b6 w6 e6 h6 ⊢;have B6:=((((b1.trans b2).trans b3).trans b4).trans b5).trans b6;have ef6:=B6 _ _ nfw ef;refine ⟨_,rfl,.inl ⟨rfl,_,SqL.of ef6⟩,_,rfl,_,rfl,_,rfl,wl,4,_,rfl,by decide,by decide,w6,by lia,fun r7 K7 a7 c7 b7 w7=>?_⟩;refine ⟨rfl,.inr ⟨_,rfl,_,rfl,p6,_,rfl,SqL.of (b7 _ _ n6w e6),fun p8 n8=>?_⟩⟩;have ec:∃ c:Nat,c≤1∧(if decide (V.int r7=V.int 0)=true then (1:Int) else 0)=(c:Int):=by
      split
      · exact ⟨1,aag _,rfl⟩
      · exact ⟨0,by decide,rfl⟩
    obtain ⟨c,hc1,hc2⟩:=ec;rw [hc2,jm];have h7:=PairsIn.but w6 b7 h6;have lys:=h6.length;have b8:But wl K7 (upd K7 p8 (.lst (ys.take c))):=But.new n8 _;have w8:=w7.keep (Same.new n8 (.lst (ys.take c))) (aaA _);have e8:upd K7 p8 (.lst (ys.take c)) p8=some (.lst (ys.take c)):=upd_same;have h8:=PairsIn.mono (Tups.of (Same.new n8 (.lst (ys.take c)))) h7;generalize upd K7 p8 (.lst (ys.take c))=K8 at b8 w8 e8 h8 ⊢;refine ⟨p6,p8,_,_,rfl,rfl,(b7.trans b8) _ _ n6w e6,e8,av (by rw [aaF];lia),fun p9 n9=>?_⟩;have n9w:=w8.ne n9;have ef8:=((B6.trans b7).trans b8) _ _ nfw ef;have npf9:p9≠pf:=fun e=>by rw [e,ef8] at n9;cases n9
    have b9:But wl K8 (upd K8 p9 (.lst (ys++ys.take c))):=But.new n9 _;have w9:=w8.keep (Same.new n9 (.lst (ys++ys.take c))) (aaA _);have e9:gZ wl pf (upd K8 p9 (.lst (ys++ys.take c))) p9=some (.lst (ys++ys.take c)):=qP n9w npf9;have h9:=PairsIn.mono (Tups.of (Same.new n9 (.lst (ys++ys.take c)))) (PairsIn.app h8 (iQ c h8));generalize upd K8 p9 (.lst (ys++ys.take c))=K9 at b9 w9 e9 h9 ⊢;have B9:=((B6.trans b7).trans b8).trans b9;have ef9:=B9 _ _ nfw ef;have lus:=hp.length;have T9:∀ c xs,K9 c=some (.tup xs)→gZ wl pf K9 c=some (.tup xs):=fun c xs hc=>by
      unfold gZ;rw [bY (fun e=>by rw [e,ef9] at hc;cases hc),bY (fun e=>by obtain ⟨_,_,z,_⟩:=w9;rw [e,z] at hc;cases hc)];exact hc
    refine ⟨pf,_,_,rfl,rfl,ef9,aC (by lia),?_⟩;have o9:Same (gZ wl pf K9) (gZ wl pf (upd K9 pf (.lst (us++[.ref p9])))):=qO;refine ⟨l++[ps++ps.take c],us++[.ref p9],_,_,rfl,upd_same,by simp [hl],?_,?_,?_⟩
    · refine Paired.app (Paired.mapP hp fun a b h=>⟨h.1,h.2.mono ((qQ B9).trans o9)⟩) (.cons ⟨⟨by rw [aae,aaF];lia,fun x hx=>?_⟩,StIn.mono o9 ⟨p9,_,rfl,e9,PairsIn.mono T9 h9⟩⟩ .nil);rcases aao.mp hx with hx|hx
      · exact h2 x hx
      · exact h2 x (abM hx)
    · exact fun c o nc hc=>by
        by_cases z:c=pf
        · subst z;rw [nf] at hc;cases hc
        · rw [aB z];exact (bb.trans B9) c o nc hc
    · obtain ⟨wa,wb,we,wf,wg⟩:=w9;exact ⟨wa,wb,by rw [aB (abo nfw)];exact we,wf,wg⟩
  · rintro σ K1 ⟨l,us,c4,c5,rfl,ef,hl,hp,bb,w1⟩
    match l,us,hl,hp with
    | [ps,qs],[x,y],_,.cons ⟨g1,h1⟩ (.cons ⟨g2,h2⟩ .nil) =>
      refine ⟨_,rfl,pf,_,_,_,rfl,rfl,SqL.of ef,rfl,_,rfl,pf,_,_,_,rfl,rfl,SqL.of ef,rfl,(by show 2≤sizeLine;decide),fun t ht=>?_⟩;have st:=Same.new ht (.tup [x,y]);have tw:=w1.ne ht;have S:Same (gZ wl pf K1) (off wl (upd K1 t (.tup [x,y]))):=off_le.trans (a_ (But.of st));refine q ps qs (.ref t) _ (bb.trans (But.new ht _)) ((w1.keep st (aaA _)).more (by lia)) g1 g2 ⟨t,x,y,rfl,?_,h1.mono S,h2.mono S⟩;rw [bY tw,upd_same]
end
open PySem L2
def Wy.os:Wy→Option Sg
  | .num _=>none
  | .node g _ _=>some g
def qR:Option Sg→Str
  | none=>""
  | some g=>g.str
def aJ:Sg→Option Sg→Bool
  | .times,some .plus=>true
  | .times,some .minus=>true
  | _,_=>false
def bd:Sg→Option Sg→Bool
  | _,some .plus=>true
  | _,some .minus=>true
  | .times,some .times=>true
  | _,_=>false
def b1 (b:Bool):Int:=if b then 1 else 0
def Wy.brk:Wy→Int
  | .num _=>0
  | .node g l r=>b1 (aJ g l.os)+b1 (bd g r.os)+l.brk+r.brk
theorem ua (o:Option Sg):inV (.str (qR o)) [.str "+",.str "-"]=aJ .times o:=by
  cases o with
  | none=>decide +kernel
  | some g=>cases g <;> decide +kernel
theorem lU (g:Sg):decide (V.str g.str=V.str "*")=decide (g=.times):=by cases g <;> decide +kernel
theorem pP (o:Option Sg):decide (V.str (qR o)=V.str "*")=decide (o=some .times):=by
  cases o with
  | none=>decide +kernel
  | some g=>cases g <;> decide +kernel
section
variable {P:Program} {w:World} {K:aaa} {mg:Str→Option Value} {base:Heap} {f:Addr} {fd:FuncData}
def mG:Sp:=fun vs H Q _=>∃ g o,vs=[.str (Sg.str g),.str (qR o)]∧∀ H',Same H H'→Q (.bl (aJ g o)) H'
abbrev cr:Stmt:=top 28
theorem fD:FnScope ["sign","left_sign"] ["sign","left_sign"] (ah cr):=⟨rfl,rfl,rfl,by decide +kernel,rfl,by decide +kernel,by decide +kernel⟩
theorem sW (F:Fun K "left_in_brackets" "left_in_brackets" cr f fd):FnOk P w K mg base CX0 1 f fd ["sign","left_sign"] mG:=by
  refine F.ok fD (fun vs H Q E h=>?_) (fun cdv A outer s H vs Q E hr h=>?_)
  · obtain ⟨g,o,rfl,_⟩:=h;rfl
  obtain ⟨g,o,rfl,q⟩:=h;refine ⟨_,(@af _ _ _ (@ak _ _ _ _ (@eN _ _ _ _ _ _ _ (@bM _ _ _ _ _ _ _ _ bV (pv 0) aj (aw _)) (@eL _ _ _ _ _ (@bM _ _ _ _ _ _ _ _ dX (pv 1) (@aq _ _ _ _ _ (@aa _ _ _ _ _ aj (@aa _ _ _ _ _ aj ac (by rfl)) (by rfl))) (by with_unfolding_all rfl)))))),?_⟩;by_cases c:g=.times
  · subst c;refine ⟨_,rfl,rfl,true,rfl,a8 ⟨_,rfl,(by show 2≤sizeLine;decide),fun p n=>⟨p,_,rfl,.inr (SqT.of upd_same),rfl,rfl,?_⟩⟩⟩;have:=q _ (Same.new n (.tup [.str "+",.str "-"]));rw [← ua] at this;exact this
  · refine ⟨_,rfl,rfl,false,?_,az ?_⟩
    · rw [lU,decide_eq_false c]
    · have:=q H (Same.refl _);have e:aJ g o=false:=by cases g <;> first|rfl|exact absurd rfl c
      rw [e] at this;exact this
def iI:Sp:=fun vs H Q _=>∃ g o,vs=[.str (Sg.str g),.str (qR o)]∧∀ H',Same H H'→Q (.bl (bd g o)) H'
abbrev bW:Stmt:=top 29
theorem eW:FnScope ["sign","right_sign"] ["sign","right_sign"] (ah bW):=⟨rfl,rfl,rfl,by decide +kernel,rfl,by decide +kernel,by decide +kernel⟩
theorem ph (F:Fun K "right_in_brackets" "right_in_brackets" bW f fd):FnOk P w K mg base CX0 1 f fd ["sign","right_sign"] iI:=by
  refine F.ok eW (fun vs H Q E h=>?_) (fun cdv A outer s H vs Q E hr h=>?_)
  · obtain ⟨g,o,rfl,_⟩:=h;rfl
  obtain ⟨g,o,rfl,q⟩:=h;refine ⟨_,(@af _ _ _ (@ak _ _ _ _ (@tY _ _ _ _ _ _ _ (@bM _ _ _ _ _ _ _ _ dX (pv 1) (@aq _ _ _ _ _ (@aa _ _ _ _ _ aj (@aa _ _ _ _ _ aj ac (by rfl)) (by rfl))) (by with_unfolding_all rfl)) (@eL _ _ _ _ _ (@eN _ _ _ _ _ _ _ (@bM _ _ _ _ _ _ _ _ bV (pv 0) aj (aw _)) (@eL _ _ _ _ _ (@bM _ _ _ _ _ _ _ _ bV (pv 1) aj (aw _)))))))),?_⟩;refine ⟨_,rfl,(by show 2≤sizeLine;decide),fun p n=>⟨p,_,rfl,.inr (SqT.of upd_same),rfl,rfl,?_⟩⟩;have q':=q _ (Same.new n (.tup [.str "+",.str "-"]));have e0:=ua o;cases hb:aJ .times o with
  | true =>
    rw [hb] at e0;refine ⟨true,congrArg V.bl e0,a8 ?_⟩;have e:bd g o=true:=by
      cases o with
      | none=>cases hb
      | some x=>cases x <;> first|(cases g <;> rfl)|exact absurd hb (by decide)
    rw [e] at q';exact q'
  | false =>
    rw [hb] at e0;refine ⟨false,congrArg V.bl e0,az ?_⟩;by_cases c:g=.times
    · subst c;refine ⟨_,rfl,rfl,true,rfl,a8 ⟨_,rfl,rfl,?_⟩⟩;have e:bd .times o=decide (o=some .times):=by
        cases o with
        | none=>rfl
        | some x=>cases x <;> first|rfl|exact absurd hb (by decide)
      rw [e,← pP] at q';exact q'
    · refine ⟨_,rfl,rfl,false,?_,az ?_⟩
      · rw [lU,decide_eq_false c]
      · have e:bd g o=false:=by
          cases o with
          | none=>cases g <;> rfl
          | some x=>cases x <;> cases g <;> first|rfl|exact absurd rfl c|exact absurd hb (by decide)
        rw [e] at q';exact q'
def qy:Sp:=fun vs H Q _=>∃ w v,vs=[v]∧WyIn H w v∧Q (.str (qR w.os)) H
abbrev fQ:Stmt:=top 27
theorem lm:FnScope ["way"] ["way"] (ah fQ):=⟨rfl,rfl,rfl,by decide +kernel,rfl,by decide +kernel,by decide +kernel⟩
theorem uZ (F:Fun K "own_sign" "own_sign" fQ f fd) (C_is_whole:Cal P w K mg base "is_whole" 1 ["thing"] (c_ K)):FnOk P w K mg base CX0 2 f fd ["way"] qy:=by
  refine F.ok lm (fun vs H Q E h=>?_) (fun cdv A outer s H vs Q E hr h=>?_)
  · obtain ⟨wy,v,rfl,_⟩:=h;rfl
  obtain ⟨wy,v,rfl,hw,q⟩:=h;refine ⟨_,(@af _ _ _ (@ak _ _ _ _ (@cP _ _ _ _ _ _ _ _ (@bE _ _ _ (@ag _ _ _ _ _ _ _ _ _ _ _ C_is_whole hr (by lia) rfl (@aa _ _ _ _ _ (pv 0) ac (by rfl)) (by decide) (by rfl) (by rfl)) (by intro _;rfl)) aj (@bn _ _ _ _ _ _ _ ix_tup (pv 0) ad (fun _ _=>rfl))))),?_⟩;cases wy with
  | num i =>
    cases hw;exact ⟨_,rfl,_,"int",rfl,.int i,true,rfl,a8 q⟩
  | node g l r =>
    obtain ⟨a,vl,vr,rfl,ha,hl,hr'⟩:=hw;exact ⟨_,rfl,_,"tuple",rfl,.tup ha,false,rfl,az ⟨_,rfl,a,_,_,_,rfl,rfl,SqT.of ha,rfl,q⟩⟩
end
open PySem L2
def br (b:Bool) (l:List Nat):List Nat:=if b then 40 :: l++[41] else l
def Wy.tx:Wy→List Nat
  | .num i=>wn i
  | .node g l r=>br (aJ g l.os) l.tx++g.code :: br (bd g r.os) r.tx
theorem kW (b:Bool) (l:List Nat):(br b l).length≤l.length+2:=by cases b <;> simp [br]
theorem fL:∀ w:Wy,Small w.nums→w.tx.length+5≤18 * w.size
  | .num i,h=>by have:=mj i (h i (by simp [Wy.nums]));show (wn i).length+5≤18 * 1;lia
  | .node g l r,h=>by
    have a:=fL l fun i hi=>h i (aa8 _ hi);have b:=fL r fun i hi=>h i (aab _ hi);have c:=kW (aJ g l.os) l.tx;have d:=kW (bd g r.os) r.tx;show (br (aJ g l.os) l.tx++g.code :: br (bd g r.os) r.tx).length+5≤18 * (l.size+r.size);rw [aae,aaD];lia
def okc (c:Nat):Prop:=c=126∨(48≤c∧c≤57)∨c=40∨c=41∨c=42∨c=43∨c=45
theorem nV {b:Bool} {l:List Nat} {c:Nat} (h:c∈br b l):c∈l∨c=40∨c=41:=by
  cases b with
  | false=>exact .inl h
  | true =>
    rcases aao.mp h with h|h
    · rcases aah.mp h with h|h
      · exact .inr (.inl h)
      · exact .inl h
    · exact .inr (.inr (by simpa using h))
theorem jZ:∀ (w:Wy),∀ c∈w.tx,okc c
  | .num i,c,h=>(fJ i c h).elim .inl fun z=>.inr (.inl z)
  | .node g l r,c,h=>by
    rcases aao.mp h with h|h
    · rcases nV h with h|h|h
      · exact jZ l c h
      · exact .inr (.inr (.inl h))
      · exact .inr (.inr (.inr (.inl h)))
    · rcases aah.mp h with h|h
      · subst h;cases g <;> simp [okc,Sg.code]
      · rcases nV h with h|h|h
        · exact jZ r c h
        · exact .inr (.inr (.inl h))
        · exact .inr (.inr (.inr (.inl h)))
theorem jI {l:List Nat} (h:∀ c∈l,okc c):(mkS l).cps.all (· < 128)=true:=by
  unfold mkS;rw [Array.all_eq_true'];intro c hc;have:=h c (by simpa using hc);rcases this with h|h|h|h|h|h|h <;> simp <;> lia
abbrev LS:=Int × Option Nat × Option Nat
def lj1 (i c:Nat) (s:LS):LS :=
  if c=40 then (s.1+1,s.2) else if c=41 then (s.1 - 1,s.2) else if s.1=0∧(c=43∨c=45) then (s.1,some i,s.2.2) else if s.1=0∧c=42 then (s.1,s.2.1,some i) else s
def lj:Nat→List Nat→LS→LS
  | _,[],s=>s
  | i,c :: r,s=>lj (i+1) r (lj1 i c s)
theorem i3:∀ (a b:List Nat) (i:Nat) (s:LS),lj i (a++b) s=lj (i+a.length) b (lj i a s)
  | [],b,i,s=>rfl
  | c :: r,b,i,s=>by
    show lj (i+1) (r++b) (lj1 i c s)=_;rw [i3 r b (i+1)];show lj (i+1+r.length) b _=lj (i+(r.length+1)) b _;rw [show i+1+r.length=i+(r.length+1) by lia];rfl
def ie (l:List Nat):Option Nat:=match (lj 0 l (0,none,none)).2.1 with|none=>(lj 0 l (0,none,none)).2.2|some k=>some k
theorem i0:∀ (l:List Nat) (i:Nat) (s:LS),(∀ c∈l,c=126∨(48≤c∧c≤57))→lj i l s=s
  | [],_,_,_=>rfl
  | c :: r,i,s,h=>by
    have hc:=h c (by simp);have e:lj1 i c s=s:=by
      unfold lj1;rw [if_neg (by lia),if_neg (by lia),if_neg (by lia),if_neg (by lia)]
    show lj (i+1) r (lj1 i c s)=s;rw [e];exact i0 r (i+1) s fun d hd=>h d (aat _ hd)
theorem qV (i:Nat) (l:List Nat) (d:Int) (x:Option Nat × Option Nat) (h:lj (i+1) l (d+1,x)=(d+1,x)):lj i (40 :: l++[41]) (d,x)=(d,x):=by
  show lj (i+1) (l++[41]) (lj1 i 40 (d,x))=_;have e:lj1 i 40 (d,x)=(d+1,x):=rfl;rw [e,i3,h];show lj1 (i+1+l.length) 41 (d+1,x)=_;unfold lj1;rw [if_neg (by decide),if_pos rfl];show (d+1 - 1,x)=_;rw [Int.add_sub_cancel]
theorem j0:∀ (w:Wy) (i:Nat) (d:Int) (x:Option Nat × Option Nat),0 < d→lj i w.tx (d,x)=(d,x)
  | .num n,i,d,x,_=>i0 _ _ _ (fJ n)
  | .node g l r,i,d,x,hd=>by
    have hbr:∀ (b:Bool) (w:Wy) (i:Nat),(∀ (i:Nat) (d:Int),0 < d→lj i w.tx (d,x)=(d,x))→lj i (br b w.tx) (d,x)=(d,x):=fun b w i ih=>by
      cases b with
      | false=>exact ih i d hd
      | true=>exact qV i w.tx d x (ih (i+1) (d+1) (by lia))
    show lj i (br (aJ g l.os) l.tx++g.code :: br (bd g r.os) r.tx) (d,x)=_;rw [i3,hbr _ l i (fun i d h=>j0 l i d x h)];have e:lj1 (i+(br (aJ g l.os) l.tx).length) g.code (d,x)=(d,x):=by
      unfold lj1;rw [if_neg (by cases g <;> decide),if_neg (by cases g <;> decide),if_neg (fun z=>by have:=z.1;simp at this;lia),if_neg (fun z=>by have:=z.1;simp at this;lia)]
    show lj _ _ (lj1 _ g.code (d,x))=_;rw [e];exact hbr _ r _ (fun i d h=>j0 r i d x h)
theorem nU (w:Wy) (i:Nat) (x:Option Nat × Option Nat):lj i (40 :: w.tx++[41]) (0,x)=(0,x):=qV i w.tx 0 x (j0 w (i+1) (0+1) x (by decide))
def Wy.ll:Wy→Nat
  | .num _=>0
  | .node g l _=>(br (aJ g l.os) l.tx).length
theorem mo:∀ (w:Wy) (i:Nat) (s p:Option Nat),∃ s' p',lj i w.tx (0,s,p)=(0,s',p')∧(w.os=none→s'=s∧p'=p)∧(w.os=some .times→s'=s∧p'=some (i+w.ll))∧((w.os=some .plus∨w.os=some .minus)→s'=some (i+w.ll))
  | .num n,i,s,p=>⟨s,p,i0 _ _ _ (fJ n),fun _=>⟨rfl,rfl⟩,fun z=>by simp [Wy.os] at z,fun z=>by simp [Wy.os] at z⟩
  | .node g l r,i,s,p=>by
    have e:lj i (Wy.node g l r).tx (0,s,p)=lj (i+(br (aJ g l.os) l.tx).length+1) (br (bd g r.os) r.tx) (lj1 (i+(br (aJ g l.os) l.tx).length) g.code (lj i (br (aJ g l.os) l.tx) (0,s,p))):=by
      show lj i (br (aJ g l.os) l.tx++g.code :: br (bd g r.os) r.tx) (0,s,p)=_;rw [i3];rfl
    rw [e];have hl:∃ s1 p1,lj i (br (aJ g l.os) l.tx) (0,s,p)=(0,s1,p1)∧(g=.times→s1=s):=by
      obtain ⟨s1,p1,h1,h2,h3,h4⟩:=mo l i s p;cases hb:aJ g l.os with
      | true=>exact ⟨s,p,nU l i (s,p),fun _=>rfl⟩
      | false =>
        refine ⟨s1,p1,h1,fun hg=>?_⟩;subst hg;cases ho:l.os with
        | none=>exact (h2 ho).1
        | some x =>
          rw [ho] at hb;cases x with
          | times=>exact (h3 ho).1
          | plus=>simp [aJ] at hb
          | minus=>simp [aJ] at hb
    obtain ⟨s1,p1,h1,h2⟩:=hl;rw [h1];have hr:∀ k s p,∃ p',lj k (br (bd g r.os) r.tx) (0,s,p)=(0,s,p')∧(g=.times→p'=p):=fun k s p=>by
      cases hb:bd g r.os with
      | true=>exact ⟨p,nU r k (s,p),fun _=>rfl⟩
      | false =>
        obtain ⟨s2,p2,q1,q2,q3,q4⟩:=mo r k s p;cases ho:r.os with
        | none=>obtain ⟨z1,z2⟩:=q2 ho;subst z1 z2;exact ⟨_,q1,fun _=>rfl⟩
        | some x =>
          rw [ho] at hb;cases x with
          | times =>
            obtain ⟨z1,z2⟩:=q3 ho;subst z1;exact ⟨_,q1,fun hg=>by subst hg;simp [bd] at hb⟩
          | plus=>cases g <;> simp [bd] at hb
          | minus=>cases g <;> simp [bd] at hb
    cases g with
    | times =>
      have e1:lj1 (i+(br (aJ .times l.os) l.tx).length) Sg.times.code (0,s1,p1)=(0,s1,some (i+(br (aJ .times l.os) l.tx).length)):=rfl;rw [e1];obtain ⟨p',k1,k2⟩:=hr (i+(br (aJ .times l.os) l.tx).length+1) s1 (some (i+(br (aJ .times l.os) l.tx).length));have k2:=k2 rfl;have h2:=h2 rfl;subst k2 h2;exact ⟨_,_,k1,fun z=>by simp [Wy.os] at z,fun _=>⟨rfl,rfl⟩,fun z=>by simp [Wy.os] at z⟩
    | plus =>
      have e1:lj1 (i+(br (aJ .plus l.os) l.tx).length) Sg.plus.code (0,s1,p1)=(0,some (i+(br (aJ .plus l.os) l.tx).length),p1):=rfl;rw [e1];obtain ⟨p',k1,k2⟩:=hr (i+(br (aJ .plus l.os) l.tx).length+1) (some (i+(br (aJ .plus l.os) l.tx).length)) p1;exact ⟨_,_,k1,fun z=>by simp [Wy.os] at z,fun z=>by simp [Wy.os] at z,fun _=>rfl⟩
    | minus =>
      have e1:lj1 (i+(br (aJ .minus l.os) l.tx).length) Sg.minus.code (0,s1,p1)=(0,some (i+(br (aJ .minus l.os) l.tx).length),p1):=rfl;rw [e1];obtain ⟨p',k1,k2⟩:=hr (i+(br (aJ .minus l.os) l.tx).length+1) (some (i+(br (aJ .minus l.os) l.tx).length)) p1;exact ⟨_,_,k1,fun z=>by simp [Wy.os] at z,fun z=>by simp [Wy.os] at z,fun _=>rfl⟩
theorem cG (g:Sg) (l r:Wy):ie (Wy.node g l r).tx=some (br (aJ g l.os) l.tx).length:=by
  obtain ⟨s',p',h1,h2,h3,h4⟩:=mo (.node g l r) 0 none none;unfold ie;rw [h1];cases g with
  | times=>obtain ⟨a,b⟩:=h3 rfl;subst a b;simp [Wy.ll]
  | plus=>have:=h4 (.inl rfl);subst this;simp [Wy.ll]
  | minus=>have:=h4 (.inr rfl);subst this;simp [Wy.ll]
theorem i_ (w:Wy):ie (40 :: w.tx++[41])=none:=by
  unfold ie;rw [nU]
theorem eT (i:Int):(wn i).head?≠some 40:=by
  intro h;have:=fJ i 40 (ab5 h);lia
open PySem L2
section
variable {P:Program} {w:World} {K:aaa} {mg:Str→Option Value} {base:Heap} {f:Addr} {fd:FuncData}
theorem fW (g:Sg) (l r:Wy):dW (Wy.node g l r).tx=none :=
  mO g.code (aab _ aav) (by cases g <;> decide)
end
open PySem L2
theorem ui (l:List Nat):("(":Str)++mkS l++(")":Str)=mkS (40 :: l++[41]):=by
  rw [show ("(":Str)=mkS [40] by decide +kernel,show (")":Str)=mkS [41] by decide +kernel,bN,bN];rfl
theorem sj {b:Bool} {w:Wy}:Asc (br b w.tx):=jI fun c hc=>by
  rcases nV hc with h|h|h
  · exact jZ w c h
  · exact .inr (.inr (.inl h))
  · exact .inr (.inr (.inr (.inl h)))
theorem qi (w:Wy):Asc w.tx:=jI (jZ w)
theorem iw {g:Sg} {l r:Wy} (h:Small (Wy.node g l r).nums):Small l.nums:=fun i hi=>h i (aa8 _ hi)
theorem iu {g:Sg} {l r:Wy} (h:Small (Wy.node g l r).nums):Small r.nums:=fun i hi=>h i (aab _ hi)
section
variable {P:Program} {w:World} {K:aaa} {mg:Str→Option Value} {base:Heap} {f:Addr} {fd:FuncData}
def mB:Sp:=fun vs H Q _=>∃ l b,vs=[.str (mkS l),.bl b]∧l.length≤900∧Q (.str (mkS (br b l))) H
abbrev dr:Stmt:=top 49
theorem ij:FnScope ["text","is_due"] ["text","is_due"] (ah dr):=⟨rfl,rfl,rfl,by decide +kernel,rfl,by decide +kernel,by decide +kernel⟩
theorem il (F:Fun K "put_brackets" "put_brackets" dr f fd):FnOk P w K mg base CX0 1 f fd ["text","is_due"] mB:=by
  refine F.ok ij (fun vs H Q E h=>?_) (fun cdv A outer s H vs Q E hr h=>?_)
  · obtain ⟨l,b,rfl,_⟩:=h;rfl
  obtain ⟨l,b,rfl,hl,q⟩:=h;refine ⟨_,(@af _ _ _ (@ak _ _ _ _ (@cP _ _ _ _ _ _ _ _ (@gj _ _ _ (pv 1) (fun _=>rfl)) (@wu _ _ _ _ _ _ _ _ _ _ _ (pv 0) (by decide)) (pv 0)))),?_⟩;cases b with
  | false=>exact ⟨_,rfl,false,rfl,az ⟨_,rfl,q⟩⟩
  | true =>
    refine ⟨_,rfl,true,rfl,a8 ⟨_,rfl,_,rfl,av (by rw [aU];lia),?_,?_,?_⟩⟩
    · rw [show ("(":Str)=mkS [40] by decide +kernel,bN,aU];exact av (by simp;lia)
    · rw [ui,aU];exact av (by simp;lia)
    · rw [ui];exact q
def o3 (n:Nat):Sp:=fun vs H Q _=>∃ w v,vs=[v]∧WyIn H w v∧w.size≤9∧w.deep≤n∧Small w.nums∧∀ H',Same H H'→Q (.str (mkS w.tx)) H'
abbrev eY:Stmt:=top 48
theorem bS:FnScope ["way","sign","left","right","left_text","right_text"] ["way"] (ah eY):=⟨rfl,rfl,rfl,by decide +kernel,rfl,by decide +kernel,by decide +kernel⟩
theorem km (F:Fun K "write_way" "write_way" eY f fd) (bF:Binds K fd ["way"] []) (mF:mg "write_way" = some (.ref f)) (C_is_whole:Cal P w K mg base "is_whole" 1 ["thing"] (c_ K)) (C_write_number:Cal P w K mg base "write_number" 1 ["number"] sG) (C_own_sign:Cal P w K mg base "own_sign" 2 ["way"] qy)
    (C_left_in_brackets:Cal P w K mg base "left_in_brackets" 1 ["sign","left_sign"] mG) (C_right_in_brackets:Cal P w K mg base "right_in_brackets" 1 ["sign","right_sign"] iI) (C_put_brackets:Cal P w K mg base "put_brackets" 1 ["text","is_due"] mB) :
    ∀ n,FnOk P w K mg base CX0 (n+3) f fd ["way"] (o3 n):=by
  intro n
  induction n with
  | zero =>
    refine ⟨fun vs H Q E h=>?_,fun A outer s H args us vs Q E _ _ _ _ h=>?_⟩
    · obtain ⟨x,v,rfl,_⟩:=h;rfl
    · obtain ⟨wy,v,_,_,_,hd,_⟩:=h;cases wy <;> exact absurd hd (by simp [Wy.deep])
  | succ n ih =>
    have C_write_way:Cal P w K mg base "write_way" (n+3) ["way"] (o3 n):=⟨f,fd,ih,bF,F.kp,mF⟩
    refine F.ok bS (fun vs H Q E h=>?_) (fun cdv A outer s H vs Q E hr h=>?_)
    · obtain ⟨x,v,rfl,_⟩:=h;rfl
    obtain ⟨wy,v,rfl,hw,h9,hd,hs,q⟩:=h;refine ⟨_,(@ae _ _ _ _ _ (@a9 _ _ _ _ _ _ _ _ (@bE _ _ _ (@ag _ _ _ _ _ _ _ _ _ _ _ C_is_whole hr (by lia) rfl (@aa _ _ _ _ _ (pv 0) ac (by rfl)) (by decide) (by rfl) (by rfl)) (by intro _;rfl)) (@af _ _ _ (@ak _ _ _ _ (@ag _ _ _ _ _ _ _ _ _ _ _ C_write_number hr (by lia) rfl (@aa _ _ _ _ _ (pv 0) ac (by rfl)) (by decide) (by rfl) (by rfl)))) aE) (@ae _ _ _ _ _ (@fk _ _ _ _ _ _ (pv 0) (@eK _ _ _ _ _ _ rfl (@aV _ _ _ _ _ (@au _ _ (1) _ (bS).nd rfl (Or.inl rfl) (.inl rfl)) (@aV _ _ _ _ _ (@au _ _ (2) _ (bS).nd rfl (Or.inl rfl) (.inl rfl)) (@aV _ _ _ _ _ (@au _ _ (3) _ (bS).nd rfl (Or.inl rfl) (.inl rfl)) cJ (by rfl)) (by rfl)) (by rfl)) (by rfl) (by rfl)) (by rfl) (by rfl) (by rfl)) (@ae _ _ _ _ _ (@ao _ _ (4) _ _ _ _ (bS).nd rfl (Or.inl rfl) (@ag _ _ _ _ _ _ _ _ _ _ _ C_put_brackets hr (by lia) rfl (@aa _ _ _ _ _ (@ag _ _ _ _ _ _ _ _ _ _ _ C_write_way hr (by lia) rfl (@aa _ _ _ _ _ (pv 2) ac (by rfl)) (by decide) (by rfl) (by rfl)) (@aa _ _ _ _ _ (@ag _ _ _ _ _ _ _ _ _ _ _ C_left_in_brackets hr (by lia) rfl (@aa _ _ _ _ _ (pv 1) (@aa _ _ _ _ _ (@ag _ _ _ _ _ _ _ _ _ _ _ C_own_sign hr (by lia) rfl (@aa _ _ _ _ _ (pv 2) ac (by rfl)) (by decide) (by rfl) (by rfl)) ac (by rfl)) (by rfl)) (by decide) (by rfl) (by rfl)) ac (by rfl)) (by rfl)) (by decide) (by rfl) (by rfl)) (by rfl) (by first|exact .inl rfl|exact .inr rfl|assumption)) (@ae _ _ _ _ _ (@ao _ _ (5) _ _ _ _ (bS).nd rfl (Or.inl rfl) (@ag _ _ _ _ _ _ _ _ _ _ _ C_put_brackets hr (by lia) rfl (@aa _ _ _ _ _ (@ag _ _ _ _ _ _ _ _ _ _ _ C_write_way hr (by lia) rfl (@aa _ _ _ _ _ (pv 3) ac (by rfl)) (by decide) (by rfl) (by rfl)) (@aa _ _ _ _ _ (@ag _ _ _ _ _ _ _ _ _ _ _ C_right_in_brackets hr (by lia) rfl (@aa _ _ _ _ _ (pv 1) (@aa _ _ _ _ _ (@ag _ _ _ _ _ _ _ _ _ _ _ C_own_sign hr (by lia) rfl (@aa _ _ _ _ _ (pv 3) ac (by rfl)) (by decide) (by rfl) (by rfl)) ac (by rfl)) (by rfl)) (by decide) (by rfl) (by rfl)) ac (by rfl)) (by rfl)) (by decide) (by rfl) (by rfl)) (by rfl) (by first|exact .inl rfl|exact .inr rfl|assumption)) (@af _ _ _ (@ak _ _ _ _ (@al _ _ _ _ _ _ _ _ iS (@al _ _ _ _ _ _ _ _ iS (pv 4) (pv 1)) (pv 5)))))))),?_⟩;cases wy with
    | num i =>
      cases hw;exact ⟨_,rfl,_,"int",rfl,.int i,true,rfl,a8 ⟨_,rfl,i,rfl,hs i (by simp [Wy.nums]),fun H1 s1=>q H1 s1⟩⟩
    | node g l r =>
      have hw0:=hw;obtain ⟨a,vl,vr,rfl,ha,hl,hr'⟩:=hw;have d:max l.deep r.deep+1≤n+1:=hd;have z:l.size+r.size≤9:=h9;have lp:=l.size_pos;have rp:=r.size_pos;have tl:=fL l (iw hs);have tr:=fL r (iu hs);have tb:=kW (aJ g l.os) l.tx;have tb2:=kW (bd g r.os) r.tx;refine ⟨_,rfl,_,"tuple",rfl,.tup ha,false,rfl,az ?_⟩;refine ⟨_,rfl,a,_,rfl,SqT.of ha,rfl,_,_,rfl,_,_,rfl,_,_,rfl,rfl,?_⟩;refine ⟨_,rfl,l,vl,rfl,hl,by lia,by lia,iw hs,fun H1 g1=>?_⟩;refine ⟨_,rfl,_,rfl,l,vl,rfl,hl.mono (Tups.of g1),g,l.os,rfl,fun H2 g2=>⟨l.tx,_,rfl,by lia,?_⟩⟩;have g12:=g1.trans g2;refine ⟨_,rfl,r,vr,rfl,hr'.mono (Tups.of g12),by lia,by lia,iu hs,fun H3 g3=>?_⟩;refine ⟨_,rfl,_,rfl,r,vr,rfl,hr'.mono (Tups.of (g12.trans g3)),g,r.os,rfl,fun H4 g4=>⟨r.tx,_,rfl,by lia,?_⟩⟩;refine ⟨_,rfl,_,rfl,_,_,rfl,rfl,av (by rw [aU,qA];lia),_,rfl,_,_,rfl,rfl,av (by rw [sE,aU,qA,aU];lia),?_⟩;have e:mkS (br (aJ g l.os) l.tx)++g.str++mkS (br (bd g r.os) r.tx)=mkS (Wy.node g l r).tx:=by
        rw [eV,bN,bN];show mkS _=mkS (br (aJ g l.os) l.tx++g.code :: br (bd g r.os) r.tx);simp
      rw [e];exact q H4 ((g12.trans g3).trans g4)
def uU:Option Nat→V
  | none=>.non
  | some k=>.int k
def ir:Sp:=fun vs H Q _=>∃ l,vs=[.str (mkS l)]∧Asc l∧∀ H',Same H H'→Q (uU (ie l)) H'
theorem wt (c:Nat):inV (.str (mkS [c])) [.str "+",.str "-"]=decide (c=43∨c=45):=by
  rw [show ("+":Str)=mkS [43] by decide +kernel,show ("-":Str)=mkS [45] by decide +kernel];have e:∀ k,eqV (V.str (mkS [k])) (V.str (mkS [c]))=decide (c=k):=fun k=>by
    by_cases h:c=k
    · subst h;simp [eqV]
    · rw [decide_eq_false h];have : mkS [k]≠mkS [c]:=fun z=>h (by have:=fB z;simp at this;exact this.symm);simp [eqV,this]
  show ([V.str (mkS [43]),V.str (mkS [45])].any fun y=>eqV y (V.str (mkS [c])))=_;simp only [abR,List.any_nil,e,Bool.or_false];rw [abd];simp
theorem vK (c k:Nat):decide (V.str (⟨#[c]⟩:Str)=V.str (mkS [k]))=decide (c=k):=by
  rw [se,fw];simp
theorem tq (l:List Nat) (i c:Nat) (h:l[i]?=some c):lj 0 (l.take (i+1)) (0,none,none)=lj1 i c (lj 0 (l.take i) (0,none,none)):=by
  have hi:i < l.length:=by
    have:=(aaB.mp h);exact this.1
  rw [aaR,h,Option.toList_some,i3,aaF,Nat.min_eq_left (by lia),Nat.zero_add];rfl
abbrev eF:Stmt:=top 52
theorem bc:FnScope ["text","depth","sums","products","at","character"] ["text"] (ah eF):=⟨rfl,rfl,rfl,by decide +kernel,rfl,by decide +kernel,by decide +kernel⟩
theorem jx (F:Fun K "last_joint" "last_joint" eF f fd) (B:Bu K mg):FnOk P w K mg base CX0 1 f fd ["text"] ir:=by
  refine F.ok bc (fun vs H Q E h=>?_) (fun cdv A outer s H vs Q E hr h=>?_)
  · obtain ⟨l,rfl,_⟩:=h;rfl
  obtain ⟨l,rfl,ha,q⟩:=h;refine ⟨_,(@ae _ _ _ _ _ (@ao _ _ (1) _ _ _ _ (bc).nd rfl (Or.inl rfl) ad (by rfl) (by first|exact .inl rfl|exact .inr rfl|assumption)) (@ae _ _ _ _ _ (@sM _ (2) (3) _ _ _ _ _ _ _ (bc).nd rfl rfl (Or.inl rfl) (Or.inl rfl) bg (by rfl) (by rfl) (by first|exact .inl rfl|exact .inr rfl|assumption) (by first|exact .inl rfl|exact .inr rfl|assumption)) (@ae _ _ _ _ _ (@fj _ _ _ _ _ _ _ _ abe rfl (@qI _ _ _ _ _ _ _ _ rfl B.ienumerate (@aa _ _ _ _ _ (pv 0) ac (by rfl)) (by rfl)) (@eK _ _ _ _ _ _ rfl (@aV _ _ _ _ _ (@au _ _ (4) _ (bc).nd rfl (Or.inl rfl) (.inl rfl)) (@aV _ _ _ _ _ (@au _ _ (5) _ (bc).nd rfl (Or.inl rfl) (.inl rfl)) cJ (by rfl)) (by rfl)) (by rfl) (by rfl)) (@af _ _ _ (@a9 _ _ _ _ _ _ _ _ (@ap _ _ _ _ _ _ _ _ bV (pv 5) aj (aw _)) (@af _ _ _ (@mP _ _ (1) _ _ _ _ _ _ (bc).nd rfl (Or.inl rfl) ad rh (by first|exact .inl rfl|exact .inr rfl|assumption))) (@af _ _ _ (@a9 _ _ _ _ _ _ _ _ (@ap _ _ _ _ _ _ _ _ bV (pv 5) aj (aw _)) (@af _ _ _ (@mP _ _ (1) _ _ _ _ _ _ (bc).nd rfl (Or.inl rfl) ad vt (by first|exact .inl rfl|exact .inr rfl|assumption))) (@af _ _ _ (@a9 _ _ _ _ _ _ _ _ (@PW.pt _ _ _ (@fX _ _ _ _ _ _ _ (@ap _ _ _ _ _ _ _ _ bV (pv 1) ad (aw _)) (@gi _ _ _ _ (@ap _ _ _ _ _ _ _ _ dX (pv 5) (@aq _ _ _ _ _ (@aa _ _ _ _ _ aj (@aa _ _ _ _ _ aj ac (by rfl)) (by rfl))) (by with_unfolding_all rfl))))) (@af _ _ _ (@ao _ _ (2) _ _ _ _ (bc).nd rfl (Or.inl rfl) (pv 4) (by rfl) (by first|exact .inl rfl|exact .inr rfl|assumption))) (@af _ _ _ (@a9 _ _ _ _ _ _ _ _ (@PW.pt _ _ _ (@fX _ _ _ _ _ _ _ (@ap _ _ _ _ _ _ _ _ bV (pv 1) ad (aw _)) (@gi _ _ _ _ (@ap _ _ _ _ _ _ _ _ bV (pv 5) aj (aw _))))) (@af _ _ _ (@ao _ _ (3) _ _ _ _ (bc).nd rfl (Or.inl rfl) (pv 4) (by rfl) (by first|exact .inl rfl|exact .inr rfl|assumption))) aE)))))))) (by intro _;rfl)) (@af _ _ _ (@ak _ _ _ _ (@cP _ _ _ _ _ _ _ _ (@ap _ _ _ _ _ _ _ _ fZ (pv 2) bg (aw _)) (pv 3) (pv 2))))))),?_⟩;refine ⟨_,rfl,_,rfl,ha,pU (fun i σ H'=>Same H H'∧∃ at' ch',σ=[some (.str (mkS l)),some (.int (lj 0 (l.take i) (0,none,none)).1),some (uU (lj 0 (l.take i) (0,none,none)).2.1),some (uU (lj 0 (l.take i) (0,none,none)).2.2),at',ch']) ⟨Same.refl _,_,_,rfl⟩ ?_ ?_⟩
  · rintro i c p σ H' hc ⟨S,a',c',rfl⟩ hp;rw [kK] at hc;rw [tq l i c hc];generalize lj 0 (l.take i) (0,none,none)=st;obtain ⟨d,x,y⟩:=st;have S1:=S.trans (Same.new hp (.tup [.int i,.str ⟨#[c]⟩]));have hp1:upd H' p (.tup [.int i,.str ⟨#[c]⟩]) p=some (.tup [.int i,.str ⟨#[c]⟩]):=upd_same;generalize upd H' p (.tup [.int i,.str ⟨#[c]⟩])=H1 at S1 hp1 ⊢;refine ⟨p,_,rfl,SqT.of hp1,rfl,_,_,rfl,_,_,rfl,rfl,?_⟩;refine ⟨_,rfl,rfl,_,rfl,?_⟩;rw [show ("(":Str)=mkS [40] by decide +kernel,vK];by_cases c1:c=40
    · have e1:lj1 i c (d,x,y)=(d+1,x,y):=by unfold lj1;rw [if_pos c1]
      rw [decide_eq_true c1,e1];exact a8 ⟨_,rfl,_,_,rfl,rfl,S1,_,_,rfl⟩
    rw [decide_eq_false c1];refine az ⟨_,rfl,rfl,_,rfl,?_⟩;rw [show (")":Str)=mkS [41] by decide +kernel,vK];by_cases c2:c=41
    · have e1:lj1 i c (d,x,y)=(d - 1,x,y):=by unfold lj1;rw [if_neg c1,if_pos c2]
      rw [decide_eq_true c2,e1];exact a8 ⟨_,rfl,_,_,rfl,rfl,S1,_,_,rfl⟩
    rw [decide_eq_false c2];refine az ?_;have dz:decide (V.int d=V.int 0)=decide (d=0):=by
      by_cases h:d=0
      · subst h;rfl
      · rw [decide_eq_false h,decide_eq_false];intro z;injection z with z;exact h z
    refine ⟨_,rfl,rfl,_,rfl,?_⟩;show if decide (V.int d=V.int 0)=true then _ else _
    rw [dz];by_cases c3:d=0
    · rw [decide_eq_true c3];refine a8 ⟨_,rfl,(by show 2≤sizeLine;decide),fun t ht=>⟨t,_,rfl,.inr (SqT.of upd_same),rfl,rfl,_,rfl,?_⟩⟩;have S2:=S1.trans (Same.new ht (.tup [.str "+",.str "-"]));generalize upd H1 t (.tup [.str "+",.str "-"])=H2 at S2 ⊢;show if inV (.str (mkS [c])) [.str "+",.str "-"]=true then _ else _
      rw [wt];by_cases c4:c=43∨c=45
      · have e1:lj1 i c (d,x,y)=(d,some i,y):=by unfold lj1;rw [if_neg c1,if_neg c2,if_pos ⟨c3,c4⟩]
        rw [decide_eq_true c4,e1];exact a8 ⟨_,rfl,S2,_,_,rfl⟩
      rw [decide_eq_false c4];refine az ⟨_,rfl,rfl,_,rfl,?_⟩;show if decide (V.int d=V.int 0)=true then _ else _
      rw [dz,decide_eq_true c3];refine a8 ⟨_,rfl,rfl,_,rfl,?_⟩;rw [show ("*":Str)=mkS [42] by decide +kernel,vK];by_cases c5:c=42
      · have e1:lj1 i c (d,x,y)=(d,x,some i):=by unfold lj1;rw [if_neg c1,if_neg c2,if_neg (fun z=>c4 z.2),if_pos ⟨c3,c5⟩]
        rw [decide_eq_true c5,e1];exact a8 ⟨_,rfl,S2,_,_,rfl⟩
      · have e1:lj1 i c (d,x,y)=(d,x,y):=by unfold lj1;rw [if_neg c1,if_neg c2,if_neg (fun z=>c4 z.2),if_neg (fun z=>c5 z.2)]
        rw [decide_eq_false c5,e1];exact az ⟨S2,_,_,rfl⟩
    · have e1:lj1 i c (d,x,y)=(d,x,y):=by unfold lj1;rw [if_neg c1,if_neg c2,if_neg (fun z=>c3 z.1),if_neg (fun z=>c3 z.1)]
      rw [decide_eq_false c3,e1];refine az (az ⟨_,rfl,rfl,_,rfl,?_⟩);show if decide (V.int d=V.int 0)=true then _ else _
      rw [dz,decide_eq_false c3];exact az (az ⟨S1,_,_,rfl⟩)
  · rintro σ H' ⟨S,a',c',rfl⟩;rw [iZ,aa9];have q1:=q H' S;unfold ie at q1;generalize lj 0 l (0,none,none)=st at q1 ⊢;obtain ⟨d,x,y⟩:=st;cases x with
    | none=>exact ⟨_,rfl,rfl,_,rfl,a8 ⟨_,rfl,q1⟩⟩
    | some k=>exact ⟨_,rfl,rfl,_,rfl,az ⟨_,rfl,q1⟩⟩
end
open PySem L2
theorem hZ (b:Bool) (l:List Nat) (c:Nat) (h:c≠40∧c≠41):(br b l).count c=l.count c:=by
  cases b with
  | false=>rfl
  | true =>
    show (40 :: l++[41]).count c=_;rw [abh,ab2 (abo h.1),List.count_append,ab2 (abo h.2)];simp
theorem nT (i:Int) (c:Nat) (h:c≠126∧¬ (48≤c∧c≤57)):(wn i).count c=0:=by
  rw [List.count_eq_zero];intro z;have:=fJ i c z;lia
theorem hX:∀ w:Wy,w.tx.count 43+w.tx.count 45+w.tx.count 42+1=w.size
  | .num i=>by
    show (wn i).count 43+(wn i).count 45+(wn i).count 42+1=1;rw [nT i 43 (by decide),nT i 45 (by decide),nT i 42 (by decide)]
  | .node g l r=>by
    have a:=hX l;have b:=hX r;show (br (aJ g l.os) l.tx++g.code :: br (bd g r.os) r.tx).count 43+(br (aJ g l.os) l.tx++g.code :: br (bd g r.os) r.tx).count 45+(br (aJ g l.os) l.tx++g.code :: br (bd g r.os) r.tx).count 42+1=l.size+r.size;simp only [List.count_append,List.count_cons];rw [hZ _ _ 43 (by decide),hZ _ _ 45 (by decide),hZ _ _ 42 (by decide),hZ _ _ 43 (by decide),hZ _ _ 45 (by decide),hZ _ _ 42 (by decide)];cases g <;> simp [Sg.code] <;> lia
section
variable {P:Program} {w:World} {K:aaa} {mg:Str→Option Value} {base:Heap} {f:Addr} {fd:FuncData}
def qu:Sp:=fun vs H Q _=>∃ (b:Bool) (w:Wy),vs=[.str (mkS (br b w.tx))]∧w.tx.length≤900∧∀ H',Same H H'→Q (.str (mkS w.tx)) H'
theorem uV:("(":Str)=mkS [40]:=by decide +kernel
theorem rY:(")":Str)=mkS [41]:=by decide +kernel
abbrev cq:Stmt:=top 51
theorem fC:FnScope ["text"] ["text"] (ah cq):=⟨rfl,rfl,rfl,by decide +kernel,rfl,by decide +kernel,by decide +kernel⟩
theorem fE (F:Fun K "without_brackets" "without_brackets" cq f fd) (C_last_joint:Cal P w K mg base "last_joint" 1 ["text"] ir):FnOk P w K mg base CX0 2 f fd ["text"] qu:=by
  refine F.ok fC (fun vs H Q E h=>?_) (fun cdv A outer s H vs Q E hr h=>?_)
  · obtain ⟨b,wy,rfl,_⟩:=h;rfl
  obtain ⟨b,wy,rfl,hl,q⟩:=h;refine ⟨_,(@ae _ _ _ _ _ (@a9 _ _ _ _ _ _ _ _ (@PW.pt _ _ _ (@fX _ _ _ _ _ _ _ (@bE _ _ _ (@cA _ _ _ _ _ _ _ _ _ _ _ _ aaS PySem.F.slot_str_startswith PySem.F.type_str_startswith gu (pv 0) (@aa _ _ _ _ _ aj ac (by rfl)) (by rfl) (by rfl) (by rfl) (by rfl) (by rfl)) (by intro _;rfl)) (@fX _ _ _ _ _ _ _ (@bE _ _ _ (@cA _ _ _ _ _ _ _ _ _ _ _ _ aaS PySem.F.slot_str_endswith PySem.F.type_str_endswith io (pv 0) (@aa _ _ _ _ _ aj ac (by rfl)) (by rfl) (by rfl) (by rfl) (by rfl) (by rfl)) (by intro _;rfl)) (@gi _ _ _ _ (@ap _ _ _ _ _ _ _ _ fZ (@ag _ _ _ _ _ _ _ _ _ _ _ C_last_joint hr (by lia) rfl (@aa _ _ _ _ _ (pv 0) ac (by rfl)) (by decide) (by rfl) (by rfl)) bg (aw _)))))) (@af _ _ _ (@ak _ _ _ _ (@bq _ _ _ _ _ _ _ _ _ _ mI (pv 0) (@bD _ _ _ ad) (@bD _ _ _ (@lC _ _ _ _ _ _ iF ad))))) aE) (@af _ _ _ (@ak _ _ _ _ (pv 0)))),?_⟩;refine ⟨_,rfl,rfl,_,_,rfl,rfl,?_⟩;rw [uV,sF];cases b with
  | true =>
    refine ⟨true,rfl,a8 ⟨_,rfl,rfl,_,_,rfl,rfl,?_⟩⟩;rw [rY,ue];have e1:(br true wy.tx).getLast?=some 41:=List.getLast?_concat (l:=40 :: wy.tx);rw [decide_eq_true e1];refine ⟨true,rfl,a8 ⟨_,rfl,_,rfl,sj,fun H1 s1=>?_⟩⟩;have e2:ie (br true wy.tx)=none:=i_ wy;rw [e2];refine ⟨rfl,_,rfl,a8 ⟨_,rfl,1,rfl,_,rfl,-1,rfl,_,rfl,?_,?_⟩⟩
    · show (jn (mkS (40 :: wy.tx++[41])) (some 1) (some (-1))).length≤sizeLine;rw [l5,aU];exact av (by lia)
    · show Q (.str (jn (mkS (40 :: wy.tx++[41])) (some 1) (some (-1)))) H1;rw [l5];exact q H1 s1
  | false =>
    have q0:∀ H',Same H H'→_:=q;cases h1:decide ((br false wy.tx).head?=some 40) with
    | false=>exact ⟨false,rfl,az (az ⟨_,rfl,q H (Same.refl _)⟩)⟩
    | true =>
      refine ⟨true,rfl,a8 ⟨_,rfl,rfl,_,_,rfl,rfl,?_⟩⟩;rw [rY,ue];cases h2:decide ((br false wy.tx).getLast?=some 41) with
      | false=>exact ⟨false,rfl,az (az ⟨_,rfl,q H (Same.refl _)⟩)⟩
      | true =>
        refine ⟨true,rfl,a8 ⟨_,rfl,_,rfl,sj,fun H1 s1=>?_⟩⟩;cases wy with
        | num i=>exact absurd (of_decide_eq_true h1) (eT i)
        | node g l r =>
          have e2:ie (br false (Wy.node g l r).tx)=some (br (aJ g l.os) l.tx).length:=cG g l r;rw [e2];exact ⟨rfl,_,rfl,az ⟨_,rfl,q H1 s1⟩⟩
theorem mi {H:Hp} {w:Wy} {v:V} (h:WyIn H w v):decide (v=.non)=false:=by
  refine decide_eq_false fun z=>?_;cases w with
  | num i=>rw [show v=.int i from h] at z;cases z
  | node g l r=>obtain ⟨a,_,_,e,_⟩:=h;rw [e] at z;cases z
def kc (n:Nat):Sp:=fun vs H Q _=>∃ w:Wy,vs=[.str (mkS w.tx)]∧w.size≤9∧w.deep≤n∧Small w.nums∧∀ v H',Same H H'→WyIn H' w v→Q v H'
abbrev fU:Stmt:=top 50
theorem cN:FnScope ["text","number","at","left","right"] ["text"] (ah fU):=⟨rfl,rfl,rfl,by decide +kernel,rfl,by decide +kernel,by decide +kernel⟩
theorem lL (F:Fun K "find_way" "find_way" fU f fd) (bF:Binds K fd ["text"] []) (mF:mg "find_way" = some (.ref f)) (C_read_number:Cal P w K mg base "read_number" 2 ["text"] iq) (C_last_joint:Cal P w K mg base "last_joint" 1 ["text"] ir) (C_without_brackets:Cal P w K mg base "without_brackets" 2 ["text"] qu) :
    ∀ n,FnOk P w K mg base CX0 (n+3) f fd ["text"] (kc n):=by
  intro n
  induction n with
  | zero =>
    refine ⟨fun vs H Q E h=>?_,fun A outer s H args us vs Q E _ _ _ _ h=>?_⟩
    · obtain ⟨x,rfl,_⟩:=h;rfl
    · obtain ⟨wy,_,_,hd,_⟩:=h;cases wy <;> exact absurd hd (by simp [Wy.deep])
  | succ n ih =>
    have C_find_way:Cal P w K mg base "find_way" (n+3) ["text"] (kc n):=⟨f,fd,ih,bF,F.kp,mF⟩
    refine F.ok cN (fun vs H Q E h=>?_) (fun cdv A outer s H vs Q E hr h=>?_)
    · obtain ⟨x,rfl,_⟩:=h;rfl
    obtain ⟨wy,rfl,h9,hd,hs,q⟩:=h;refine ⟨_,(@ae _ _ _ _ _ (@ao _ _ (1) _ _ _ _ (cN).nd rfl (Or.inl rfl) (@ag _ _ _ _ _ _ _ _ _ _ _ C_read_number hr (by lia) rfl (@aa _ _ _ _ _ (pv 0) ac (by rfl)) (by decide) (by rfl) (by rfl)) (by rfl) (by first|exact .inl rfl|exact .inr rfl|assumption)) (@ae _ _ _ _ _ (@a9 _ _ _ _ _ _ _ _ (@ap _ _ _ _ _ _ _ _ sR (pv 1) bg (aw _)) (@af _ _ _ (@ak _ _ _ _ (pv 1))) aE) (@ae _ _ _ _ _ (@ao _ _ (2) _ _ _ _ (cN).nd rfl (Or.inl rfl) (@ag _ _ _ _ _ _ _ _ _ _ _ C_last_joint hr (by lia) rfl (@aa _ _ _ _ _ (pv 0) ac (by rfl)) (by decide) (by rfl) (by rfl)) (by rfl) (by first|exact .inl rfl|exact .inr rfl|assumption)) (@ae _ _ _ _ _ (@a9 _ _ _ _ _ _ _ _ (@ap _ _ _ _ _ _ _ _ fZ (pv 2) bg (aw _)) (@af _ _ _ (@ak _ _ _ _ bg)) aE) (@ae _ _ _ _ _ (@ao _ _ (3) _ _ _ _ (cN).nd rfl (Or.inl rfl) (@ag _ _ _ _ _ _ _ _ _ _ _ C_find_way hr (by lia) rfl (@aa _ _ _ _ _ (@ag _ _ _ _ _ _ _ _ _ _ _ C_without_brackets hr (by lia) rfl (@aa _ _ _ _ _ (@bq _ _ _ _ _ _ _ _ _ _ mI (pv 0) bL (@bD _ _ _ (pv 2))) ac (by rfl)) (by decide) (by rfl) (by rfl)) ac (by rfl)) (by decide) (by rfl) (by rfl)) (by rfl) (by first|exact .inl rfl|exact .inr rfl|assumption)) (@ae _ _ _ _ _ (@ao _ _ (4) _ _ _ _ (cN).nd rfl (Or.inl rfl) (@ag _ _ _ _ _ _ _ _ _ _ _ C_find_way hr (by lia) rfl (@aa _ _ _ _ _ (@ag _ _ _ _ _ _ _ _ _ _ _ C_without_brackets hr (by lia) rfl (@aa _ _ _ _ _ (@bq _ _ _ _ _ _ _ _ _ _ mI (pv 0) (@bD _ _ _ (@al _ _ _ _ _ _ _ _ bX (pv 2) ad)) bL) ac (by rfl)) (by decide) (by rfl) (by rfl)) ac (by rfl)) (by decide) (by rfl) (by rfl)) (by rfl) (by first|exact .inl rfl|exact .inr rfl|assumption)) (@af _ _ _ (@ak _ _ _ _ (@cP _ _ _ _ _ _ _ _ (@PW.pt _ _ _ (@cO _ _ _ _ _ _ _ (@ap _ _ _ _ _ _ _ _ fZ (pv 3) bg (aw _)) (@cy _ _ _ _ (@ap _ _ _ _ _ _ _ _ fZ (pv 4) bg (aw _))))) bg (@aq _ _ _ _ _ (@aa _ _ _ _ _ (@bn _ _ _ _ _ _ _ jd (pv 0) (pv 2) (fun _ _=>rfl)) (@aa _ _ _ _ _ (pv 3) (@aa _ _ _ _ _ (pv 4) ac (by rfl)) (by rfl)) (by rfl)))))))))))),?_⟩;have tl:=fL wy hs;refine ⟨_,rfl,wy.tx,rfl,qi wy,by lia,fun H1 s1=>?_⟩;cases wy with
    | num i =>
      have e:dW (Wy.num i).tx=some i:=dU i;rw [e];exact ⟨_,rfl,rfl,_,rfl,a8 ⟨_,rfl,q _ H1 s1 rfl⟩⟩
    | node g l r =>
      rw [fW];refine ⟨_,rfl,rfl,_,rfl,az ⟨_,rfl,_,rfl,qi _,fun H2 s2=>?_⟩⟩;rw [cG];have d:max l.deep r.deep+1≤n+1:=hd;have z:l.size+r.size≤9:=h9;have lp:=l.size_pos;have rp:=r.size_pos;have tl1:=fL l (iw hs);have tr1:=fL r (iu hs);have etx:(Wy.node g l r).tx=br (aJ g l.os) l.tx++g.code :: br (bd g r.os) r.tx:=rfl;have ell:(br (aJ g l.os) l.tx).length≤(Wy.node g l r).tx.length:=by rw [etx,aae];lia
      refine ⟨_,rfl,rfl,_,rfl,az ?_⟩;refine ⟨_,rfl,_,rfl,_,rfl,_,rfl,?_,?_⟩
      · rw [jM _ _ ell,aU,aaF];exact av (by lia)
      rw [jM _ _ ell];have e1:(Wy.node g l r).tx.take (br (aJ g l.os) l.tx).length=br (aJ g l.os) l.tx:=by rw [etx,List.take_left]
      rw [e1];refine ⟨_,l,rfl,by lia,fun H3 s3=>⟨l,rfl,by lia,by lia,iw hs,fun vl H4 s4 hl=>?_⟩⟩;have ell2:(br (aJ g l.os) l.tx).length+1≤(Wy.node g l r).tx.length:=by rw [etx,aae,aaD];lia
      refine ⟨_,rfl,_,rfl,_,_,rfl,rfl,_,rfl,_,rfl,?_,?_⟩
      · have e2:(((br (aJ g l.os) l.tx).length:Nat):Int)+1=(((br (aJ g l.os) l.tx).length+1:Nat):Int):=by lia
        rw [e2,jN _ _ ell2,aU,aaQ];exact av (by lia)
      have e2:(((br (aJ g l.os) l.tx).length:Nat):Int)+1=(((br (aJ g l.os) l.tx).length+1:Nat):Int):=by lia
      rw [e2,jN _ _ ell2];have e3:(Wy.node g l r).tx.drop ((br (aJ g l.os) l.tx).length+1)=br (bd g r.os) r.tx:=by rw [etx,← List.drop_drop,List.drop_left];rfl
      rw [e3];refine ⟨_,r,rfl,by lia,fun H5 s5=>⟨r,rfl,by lia,by lia,iu hs,fun vr H6 s6 hr'=>?_⟩⟩;have hl6:=hl.mono (Tups.of (s5.trans s6));refine ⟨_,rfl,rfl,_,rfl,?_⟩;rw [mi hl];refine az ⟨_,rfl,rfl,_,rfl,?_⟩;rw [mi hr'];refine az ⟨_,rfl,_,rfl,_,_,g.code,rfl,rfl,av (by rw [aU];lia),?_,_,rfl,_,rfl,(by show 3≤sizeLine;decide),fun t ht=>?_⟩
      · rw [ft];refine gB ?_;rw [etx,abK (aag _)];simp
      have s7:=Same.new ht (.tup [.str ⟨#[g.code]⟩,vl,vr]);refine q _ _ ((((((s1.trans s2).trans s3).trans s4).trans s5).trans s6).trans s7) ⟨t,vl,vr,rfl,?_,hl6.mono (Tups.of s7),hr'.mono (Tups.of s7)⟩;rw [upd_same,eV];rfl
def gF:Sp:=fun vs H Q _=>∃ w v,vs=[v]∧WyIn H w v∧w.size≤9∧Small w.nums∧∀ H',Same H H'→Q (.str (mkS w.tx)) H'
def gH:Sp:=fun vs H Q _=>∃ w:Wy,vs=[.str (mkS w.tx)]∧w.size≤9∧Small w.nums∧∀ v H',Same H H'→WyIn H' w v→Q v H'
abbrev fO:Stmt:=top 41
theorem eX:FnScope ["text","signs","way"] ["text"] (ah fO):=⟨rfl,rfl,rfl,by decide +kernel,rfl,by decide +kernel,by decide +kernel⟩
theorem lF {tk:Tok} {aS:Addr} (F:Fun K "read_way" "read_way" fO f fd) (B:Bu K mg) (B':Co K mg tk aS) (C_need_text:Cal P w K mg base "need_text" 1 ["thing"] dm) (C_find_way:Cal P w K mg base "find_way" 12 ["text"] (kc 9)) (C_write_way:Cal P w K mg base "write_way" 12 ["way"] (o3 9)):FnOk P w K mg base CX0 13 f fd ["text"] gH:=by
  refine F.ok eX (fun vs H Q E h=>?_) (fun cdv A outer s H vs Q E hr h=>?_)
  · obtain ⟨l,rfl,_⟩:=h;rfl
  obtain ⟨wy,rfl,h9,hs,q⟩:=h;refine ⟨_,(@ae _ _ _ _ _ (@bC _ _ _ _ (@ag _ _ _ _ _ _ _ _ _ _ _ C_need_text hr (by lia) rfl (@aa _ _ _ _ _ (pv 0) ac (by rfl)) (by decide) (by rfl) (by rfl)) (by rfl)) (@ae _ _ _ _ _ (@ao _ _ (1) _ _ _ _ (eX).nd rfl (Or.inl rfl) (@am _ _ _ _ _ _ _ _ _ (@sg _ rfl) rfl B.isum PyProof.Rows.boot_sum (@aa _ _ _ _ _ (@eQ _ _ _ _ _ _ _ _ (["sign","text"]) ([none,some 0]) _ _ _ _ rfl (@qG _ _ _ _ (@aZ _ _ (.ref aS) _ _ rfl B'.gSIGNS rfl (by decide))) rfl ⟨rfl,trivial⟩ ⟨⟨rfl,Or.inl rfl,Or.inl rfl⟩,trivial⟩ (fun _ _ _ _=>⟨(@au _ _ (0) _ (show aa6 (["sign","text"]:List Str) by decide +kernel) rfl (Or.inl rfl) (.inr rfl)),bi,(@uS _ _ _ _ _ _ _ _ _ _ _ _ _ rfl aaS PySem.F.slot_str_count PySem.F.type_str_count kJ (pv 1) (@aa _ _ _ _ _ (pv 0) ac (by rfl)) (by rfl) (by rfl) (by rfl) (by rfl) (by rfl))⟩) (by rfl) (by rfl) (by rfl) (by rfl) (by intro _;rfl)) ac (by rfl)) (by decide) (by decide) (by rfl) (by rfl)) (by rfl) (by first|exact .inl rfl|exact .inr rfl|assumption)) (@ae _ _ _ _ _ (@ao _ _ (2) _ _ _ _ (eX).nd rfl (Or.inl rfl) (@cP _ _ _ _ _ _ _ _ (@ap _ _ _ _ _ _ _ _ lD (pv 1) (@aZ _ _ (.int 9) _ _ rfl B'.gMOST_NUMBERS ⟨_,rfl⟩ (by decide)) (aw _)) (@ag _ _ _ _ _ _ _ _ _ _ _ C_find_way hr (by lia) rfl (@aa _ _ _ _ _ (pv 0) ac (by rfl)) (by decide) (by rfl) (by rfl)) bg) (by rfl) (by first|exact .inl rfl|exact .inr rfl|assumption)) (@ae _ _ _ _ _ (@a9 _ _ _ _ _ _ _ _ (@PW.pt _ _ _ (@cO _ _ _ _ _ _ _ (@ap _ _ _ _ _ _ _ _ fZ (pv 2) bg (aw _)) (@cy _ _ _ _ (@ap _ _ _ _ _ _ _ _ ia (@ag _ _ _ _ _ _ _ _ _ _ _ C_write_way hr (by lia) rfl (@aa _ _ _ _ _ (pv 2) ac (by rfl)) (by decide) (by rfl) (by rfl)) (pv 0) (aw _))))) (@af _ _ _ fi) aE) (@af _ _ _ (@ak _ _ _ _ (pv 2))))))),?_⟩;have dl:=wy.deep_le;have cs:=hX wy;refine ⟨_,rfl,_,rfl,?_⟩;refine ⟨aS,rfl,⟨_,B'.sSIGNS H⟩,?_⟩;refine vf (xs:=[.str "+",.str "-",.str "*"]) (fun i ys H'=>H'=H∧ys=(([(wy.tx.count 43:Nat),(wy.tx.count 45:Nat),(wy.tx.count 42:Nat)]:List Int).take i).map V.int) ⟨rfl,rfl⟩ (fun i ys H' hi p=>by obtain ⟨rfl,rfl⟩:=p;exact ⟨B'.sSIGNS _,aC (by simp;lia)⟩) (fun i x ys H' hx p nx=>?_) (fun ys H' p p5 n5=>?_)
  · obtain ⟨rfl,rfl⟩:=p;have hi:i=0∨i=1∨i=2:=by
      have:=(aaB.mp hx).1;simp at this;lia
    have e43:Txt.count (mkS wy.tx) ("+":Str)=(wy.tx.count 43:Nat):=by rw [show ("+":Str)=mkS [43] by decide +kernel];exact nO _ _
    have e45:Txt.count (mkS wy.tx) ("-":Str)=(wy.tx.count 45:Nat):=by rw [show ("-":Str)=mkS [45] by decide +kernel];exact nO _ _
    have e42:Txt.count (mkS wy.tx) ("*":Str)=(wy.tx.count 42:Nat):=by rw [show ("*":Str)=mkS [42] by decide +kernel];exact nO _ _
    rcases hi with rfl|rfl|rfl
    · simp at hx;subst hx;refine ⟨_,rfl,rfl,_,rfl,_,_,rfl,rfl,nx ⟨rfl,?_⟩⟩;rw [e43];rfl
    · simp at hx;subst hx;refine ⟨_,rfl,rfl,_,rfl,_,_,rfl,rfl,nx ⟨rfl,?_⟩⟩;rw [e45];rfl
    · simp at hx;subst hx;refine ⟨_,rfl,rfl,_,rfl,_,_,rfl,rfl,nx ⟨rfl,?_⟩⟩;rw [e42];rfl
  obtain ⟨rfl,rfl⟩:=p;refine ⟨p5,_,rfl,SqL.of upd_same,?_⟩;have S:=Same.new n5 (.lst (([(wy.tx.count 43:Nat),(wy.tx.count 45:Nat),(wy.tx.count 42:Nat)]:List Int).map V.int));refine ⟨_,rfl,_,_,rfl,rfl,true,congrArg V.bl (decide_eq_true (by simp;lia)),a8 ⟨_,rfl,wy,rfl,h9,by lia,hs,fun v H2 s2 hv=>?_⟩⟩;refine ⟨_,rfl,rfl,_,rfl,?_⟩;rw [mi hv];refine az ⟨_,rfl,wy,v,rfl,hv,h9,by lia,hs,fun H3 s3=>⟨_,rfl,rfl,_,rfl,?_⟩⟩;rw [decide_eq_true rfl];exact az ⟨_,rfl,q v H3 ((S.trans s2).trans s3) (hv.mono (Tups.of s3))⟩
end
open PySem L2
theorem rR (ns:List Int) (c:Nat) (h:c≤ns.length):cZ (ns.map V.int) none (some (c:Int))=(ns.take c).map V.int:=by
  have hl:(ns.map V.int).length=ns.length:=aak _;have e0:HT.sIx ns.length 0 none=0:=by simp [HT.sIx]
  have e1:HT.sIx ns.length ns.length (some (c:Int))=c:=by
    simp only [HT.sIx];split <;> lia
  unfold cZ;rw [hl,e0,e1,List.drop_zero,acf];rfl
theorem rT (ns:List Int) (c:Nat) (h:c≤ns.length):cZ (ns.map V.int) (some (c:Int)) none=(ns.drop c).map V.int:=by
  have hl:(ns.map V.int).length=ns.length:=aak _;have e0:HT.sIx ns.length ns.length none=ns.length:=by simp [HT.sIx]
  have e1:HT.sIx ns.length 0 (some (c:Int))=c:=by
    simp only [HT.sIx];split <;> lia
  unfold cZ;rw [hl,e0,e1,ace,aa0 (by rw [aaQ,hl];exact aag _)]
theorem tQ {k:Int} (h0:0≤k) (h1:k < 3):∃ g:Sg,atI ("+-*":Str).cps.toList k=some g.code:=by
  have : k=0∨k=1∨k=2:=by lia
  rcases this with rfl|rfl|rfl
  · exact ⟨.plus,rfl⟩
  · exact ⟨.minus,rfl⟩
  · exact ⟨.times,rfl⟩
section
variable {P:Program} {w:World} {K:aaa} {mg:Str→Option Value} {base:Heap} {f:Addr} {fd:FuncData}
def oo (n:Nat):Sp:=fun vs H Q _=>∃ w r ns M,vs=[.ref w,.ref r]∧H r=some (.lst (ns.map V.int))∧r≠w∧1≤ns.length∧ns.length≤n∧n≤20∧Wel H w M∧M+4 * ns.length - 4 < 999999000 ∧
  ∀ v wy H',WyIn H' wy v→wy.nums=ns→But w H H'→Wel H' w (M+4 * ns.length - 4)→Q v H'
abbrev dB:Stmt:=top 62
theorem cU:FnScope ["well","row","cut","sign"] ["well","row"] (ah dB):=⟨rfl,rfl,rfl,by decide +kernel,rfl,by decide +kernel,by decide +kernel⟩
theorem m_ (F:Fun K "_law_any_way" "_law_any_way" dB f fd) (bF:Binds K fd ["well","row"] []) (mF:mg "_law_any_way" = some (.ref f)) (B:Bu K mg) (C__law_draw:Cal P w K mg base "_law_draw" 2 ["well","many"] dn) :
    ∀ n,FnOk P w K mg base CX0 (n+2) f fd ["well","row"] (oo n):=by
  intro n
  induction n with
  | zero =>
    refine ⟨fun vs H Q E h=>?_,fun A outer s H args us vs Q E _ _ _ _ h=>?_⟩
    · obtain ⟨x,r,ns,M,rfl,_⟩:=h;rfl
    · obtain ⟨x,r,ns,M,_,_,_,h1,h2,_⟩:=h;lia
  | succ n ih =>
    have C__law_any_way:Cal P w K mg base "_law_any_way" (n+2) ["well","row"] (oo n):=⟨f,fd,ih,bF,F.kp,mF⟩
    refine F.ok cU (fun vs H Q E h=>?_) (fun cdv A outer s H vs Q E hr h=>?_)
    · obtain ⟨x,r,ns,M,rfl,_⟩:=h;rfl
    obtain ⟨wl,r,ns,M,rfl,er,nr,h1,h2,h20,hw,hM,q⟩:=h;refine ⟨_,(@ae _ _ _ _ _ (@a9 _ _ _ _ _ _ _ _ (@ap _ _ _ _ _ _ _ _ bV (@am _ _ _ _ _ _ _ _ _ aQ rfl B.ilen aaY (@aa _ _ _ _ _ (pv 1) ac (by rfl)) (by decide) (by decide) (by rfl) (by rfl)) ad (aw _)) (@af _ _ _ (@ak _ _ _ _ (@bn _ _ _ _ _ _ _ ix_list (pv 1) ad (fun _ _=>rfl)))) aE) (@ae _ _ _ _ _ (@ao _ _ (2) _ _ _ _ (cU).nd rfl (Or.inl rfl) (@al _ _ _ _ _ _ _ _ bX ad (@ag _ _ _ _ _ _ _ _ _ _ _ C__law_draw hr (by lia) rfl (@aa _ _ _ _ _ (pv 0) (@aa _ _ _ _ _ (@al _ _ _ _ _ _ _ _ dD (@am _ _ _ _ _ _ _ _ _ aQ rfl B.ilen aaY (@aa _ _ _ _ _ (pv 1) ac (by rfl)) (by decide) (by decide) (by rfl) (by rfl)) ad) ac (by rfl)) (by rfl)) (by decide) (by rfl) (by rfl))) (by rfl) (by first|exact .inl rfl|exact .inr rfl|assumption)) (@ae _ _ _ _ _ (@ao _ _ (3) _ _ _ _ (cU).nd rfl (Or.inl rfl) (@bn _ _ _ _ _ _ _ jd aj (@ag _ _ _ _ _ _ _ _ _ _ _ C__law_draw hr (by lia) rfl (@aa _ _ _ _ _ (pv 0) (@aa _ _ _ _ _ ad ac (by rfl)) (by rfl)) (by decide) (by rfl) (by rfl)) (fun _ _=>rfl)) (by rfl) (by first|exact .inl rfl|exact .inr rfl|assumption)) (@af _ _ _ (@ak _ _ _ _ (@aq _ _ _ _ _ (@aa _ _ _ _ _ (pv 3) (@aa _ _ _ _ _ (@ag _ _ _ _ _ _ _ _ _ _ _ C__law_any_way hr (by lia) rfl (@aa _ _ _ _ _ (pv 0) (@aa _ _ _ _ _ (@bq _ _ _ _ _ _ _ _ _ _ cu (pv 1) bL (@bD _ _ _ (pv 2))) ac (by rfl)) (by rfl)) (by decide) (by rfl) (by rfl)) (@aa _ _ _ _ _ (@ag _ _ _ _ _ _ _ _ _ _ _ C__law_any_way hr (by lia) rfl (@aa _ _ _ _ _ (pv 0) (@aa _ _ _ _ _ (@bq _ _ _ _ _ _ _ _ _ _ cu (pv 1) (@bD _ _ _ (pv 2)) bL) ac (by rfl)) (by rfl)) (by decide) (by rfl) (by rfl)) ac (by rfl)) (by rfl)) (by rfl)))))))),?_⟩;have hl:(ns.map V.int).length=ns.length:=aak _;refine ⟨_,rfl,r,_,rfl,.inl (SqL.of er),rfl,_,rfl,fG (fun c=>?_) (fun c=>?_)⟩
    · have c':V.int (((ns.map V.int).length:Nat):Int)=V.int 1:=of_decide_eq_true c;have c2:(((ns.map V.int).length:Nat):Int)=1:=by injection c'
      rw [hl] at c2
      match ns,c2,er,q with
      | [i],_,er,q =>
        exact ⟨_,rfl,r,_,_,_,rfl,rfl,SqL.of er,rfl,q _ (.num i) H rfl rfl But.refl (hw.more (by show M≤M+4 * ((1:Nat):Int) - 4;lia))⟩
    have c2:ns.length≠1:=fun e=>c (by rw [hl,e];rfl);refine ⟨_,rfl,_,rfl,r,_,rfl,.inl (SqL.of er),_,_,rfl,rfl,wl,((ns.map V.int).length:Int) - 1,M,rfl,by rw [hl];lia,by rw [hl];lia,hw,by lia,fun r1 H1 a1 b1 k1 w1=>?_⟩;rw [hl] at b1;have er1:=k1 _ _ nr er;refine ⟨_,_,rfl,rfl,_,rfl,wl,3,_,rfl,by decide,by decide,w1,by lia,fun r3 H3 a3 b3 k3 w3=>?_⟩;obtain ⟨g,hg⟩:=tQ a3 b3;refine ⟨_,_,_,rfl,rfl,av (by decide),hg,?_⟩;obtain ⟨rn,rfl⟩:=aby a1;obtain ⟨cn,hcn⟩:∃ cn,cn=1+rn:=⟨_,rfl⟩
    have ecn:(1:Int)+(rn:Int)=(cn:Int):=by lia
    have hcl:cn≤ns.length:=by lia
    have kk:But wl H H3:=k1.trans k3;have er3:=kk _ _ nr er;refine ⟨_,rfl,_,rfl,_,rfl,_,rfl,1+(rn:Int),rfl,r,_,rfl,SqL.of er3,fun p2 n2=>?_⟩;rw [ecn,rR ns cn hcl];have lt:(ns.take cn).length=cn:=by rw [aaF];lia
    have ld:(ns.drop cn).length=ns.length - cn:=by rw [aaQ]
    have w4:=w3.keep (Same.new n2 (.lst ((ns.take cn).map V.int))) (aaA _);refine ⟨wl,p2,ns.take cn,_,rfl,upd_same,w3.ne n2,by lia,by lia,by lia,w4,by lia,fun vl wyl H4 i4 e4 k4 w5=>?_⟩;have kk4:But wl H H4:=(kk.trans (But.new n2 _)).trans k4;have er4:=kk4 _ _ nr er;refine ⟨_,rfl,_,rfl,_,rfl,1+(rn:Int),rfl,r,_,rfl,SqL.of er4,fun p3 n3=>?_⟩;rw [ecn,rT ns cn hcl];have w6:=w5.keep (Same.new n3 (.lst ((ns.drop cn).map V.int))) (aaA _);refine ⟨wl,p3,ns.drop cn,_,rfl,upd_same,w5.ne n3,by lia,by lia,by lia,w6,by lia,fun vr wyr H5 i5 e5 k5 w7=>?_⟩;refine ⟨(by show 3≤sizeLine;decide),fun p4 n4=>?_⟩;have T45:Tups H4 H5:=(Tups.of (Same.new n3 _)).trans (w6.tups k5);have T5:Tups H5 (upd H5 p4 (.tup [.str ⟨#[g.code]⟩,vl,vr])):=Tups.of (Same.new n4 _);refine q _ (.node g wyl wyr) _ ⟨p4,vl,vr,rfl,?_,i4.mono (T45.trans T5),i5.mono T5⟩ ?_ (((kk4.trans (But.new n3 _)).trans k5).trans (But.new n4 _)) ?_
    · rw [upd_same,eV];rfl
    · show wyl.nums++wyr.nums=ns;rw [e4,e5,List.take_append_drop]
    · refine (w7.keep (Same.new n4 _) (aaA _)).more ?_;lia
end
open PySem L2
mutual
def szD:PyData→Nat
  | .list ds=>szAll ds+1
  | .tuple ds=>szAll ds+1
  | .none=>1
  | .bool _=>1
  | .int _=>1
  | .str _=>1
  | .dict _=>1
def szAll:List PyData→Nat
  | []=>0
  | d :: ds=>szD d+szAll ds
end
mutual
def OkD:PyData→Prop
  | .none=>True
  | .bool _=>True
  | .int i=>i.natAbs < 10 ^ 40
  | .str x=>(reprText x).length≤20
  | .list ds=>OkAll ds
  | .tuple ds=>OkAll ds
  | .dict kvs=>kvs=[]
def OkAll:List PyData→Prop
  | []=>True
  | d :: ds=>OkD d∧OkAll ds
end
mutual
theorem oz : ∀ d:PyData,OkD d→d.showable=true
  | .none,h=>by simp [abf]
  | .bool _,h=>by simp [abf]
  | .int i,h=>by
    simp only [OkD] at h;have z:(10:Nat) ^ 13 < 2 ^ 140:=by decide
    have : i.natAbs.log2 < 140:=by
      by_cases c:i.natAbs=0
      · rw [c];decide
      · exact (Nat.log2_lt c).mpr (by lia)
    simp only [abf];exact decide_eq_true (by lia)
  | .str _,h=>by simp [abf]
  | .list ds,h=>by simp only [OkD] at h;simp only [abf];exact ok_showAll ds h
  | .tuple ds,h=>by simp only [OkD] at h;simp only [abf];exact ok_showAll ds h
  | .dict kvs,h=>by simp only [OkD] at h;subst h;simp [abf,PyData.showableKv]
theorem ok_showAll:∀ ds:List PyData,OkAll ds→PyData.showableAll ds=true
  | [],h=>by simp [PyData.showableAll]
  | d :: ds,h=>by
    simp only [OkAll] at h;simp only [PyData.showableAll,oz d h.1,ok_showAll ds h.2,Bool.and_self]
end
mutual
theorem mX:∀ d:PyData,OkD d→d.shown.length+5≤60 * szD d
  | .none,h=>by show 4+5≤60 * szD .none;simp [szD]
  | .bool b,h=>by cases b <;> (simp only [szD];decide)
  | .int i,h=>by
    simp only [OkD] at h;have e:=int_text_length_le10 (a:=i) (k:=40) (by decide) h;simp only [szD];show (abq (toString i)).length+5≤60;rw [ofString_length];lia
  | .str x,h=>by
    simp only [OkD] at h;simp only [szD,PyData.shown];lia
  | .list ds,h=>by
    simp only [OkD] at h;have a:=ok_lenAll ds h;have b:=listText_len_le (abE ds);have c:=PyData.shownAll_length ds;simp only [szD,PyData.shown];lia
  | .tuple ds,h=>by
    simp only [OkD] at h;have a:=ok_lenAll ds h;have b:=tupleText_len_le (abE ds);have c:=PyData.shownAll_length ds;simp only [szD,PyData.shown];lia
  | .dict kvs,h=>by
    simp only [OkD] at h;subst h;simp only [szD];show (PyData.shown (.dict [])).length+5≤60;decide +kernel
theorem ok_lenAll:∀ ds:List PyData,OkAll ds→((abE ds).map (·.length)).sum+5 * ds.length≤60 * szAll ds
  | [],h=>by simp [abE,szAll]
  | d :: ds,h=>by
    simp only [OkAll] at h;have a:=mX d h.1;have b:=ok_lenAll ds h.2;simp only [abE,szAll,aax,List.sum_cons,aaD];lia
end
mutual
theorem oj:∀ d:PyData,1≤szD d
  | .none=>by simp [szD]
  | .bool _=>by simp [szD]
  | .int _=>by simp [szD]
  | .str _=>by simp [szD]
  | .list _=>by simp [szD]
  | .tuple _=>by simp [szD]
  | .dict _=>by simp [szD]
end
def bA:PyData→Bool
  | .int _=>true
  | _=>false
def bZ:PyData→Bool
  | .list ds=>decide (1≤ds.length) && decide (ds.length≤9) && ds.all bA
  | _=>false
theorem je (d:PyData):decide (mn d = "int")=bA d:=by cases d <;> rfl
def sgD:PyData→Bool
  | .str z=>wL z
  | _=>false
mutual
def aX:PyData→Option Nat
  | .int _=>some 1
  | .tuple ds=>cntT ds
  | .none=>none
  | .bool _=>none
  | .str _=>none
  | .list _=>none
  | .dict _=>none
def cntT:List PyData→Option Nat
  | []=>none
  | [_]=>none
  | [_,_]=>none
  | [s,l,r]=>if sgD s then (match aX l,aX r with|some a,some b=>some (a+b)|_,_=>none) else none
  | _ :: _ :: _ :: _ :: _=>none
end
def bz (d:PyData):Bool:=match aX d with
  | some n=>decide (n≤9)
  | none=>false
def tot:List PyData→Option Nat
  | []=>some 0
  | d :: ds=>match aX d,tot ds with|some a,some b=>some (a+b)|_,_=>none
def szL (ds:List PyData):Nat:=(ds.map szD).sum
theorem dQ:∀ (ds:List PyData) (d:PyData),tot (ds++[d])=(match tot ds,aX d with|some a,some b=>some (a+b)|_,_=>none)
  | [],d=>by
    show (match aX d,some 0 with|some a,some b=>some (a+b)|_,_=>none)=_;cases aX d <;> simp [tot]
  | e :: ds,d=>by
    show (match aX e,tot (ds++[d]) with|some a,some b=>some (a+b)|_,_=>none)=(match (match aX e,tot ds with|some a,some b=>some (a+b)|_,_=>none),aX d with|some a,some b=>some (a+b)|_,_=>none)
    rw [dQ ds d];cases aX e <;> cases tot ds <;> cases aX d <;> simp [Nat.add_assoc]
theorem l7:∀ (d:PyData) (n:Nat),aX d=some n→1≤n
  | .int _,n,h=>by simp only [aX] at h;injection h with h;lia
  | .tuple ds,n,h=>by
    simp only [aX] at h
    match ds,h with
    | [],h=>simp [cntT] at h
    | [_],h=>simp [cntT] at h
    | [_,_],h=>simp [cntT] at h
    | [s,l,r],h =>
      simp only [cntT] at h;split at h
      · cases e1:aX l with
        | none=>rw [e1] at h;cases h
        | some a =>
          cases e2:aX r with
          | none=>rw [e1,e2] at h;cases h
          | some b =>
            rw [e1,e2] at h;have:=l7 l a e1;injection h with h;lia
      · cases h
    | _ :: _ :: _ :: _ :: _,h=>simp [cntT] at h
  | .none,n,h=>by simp [aX] at h
  | .bool _,n,h=>by simp [aX] at h
  | .str _,n,h=>by simp [aX] at h
  | .list _,n,h=>by simp [aX] at h
  | .dict _,n,h=>by simp [aX] at h
theorem oa:∀ (ds:List PyData) (t:Nat),tot ds=some t→ds.length≤t
  | [],t,h=>aaM _
  | d :: ds,t,h=>by
    have h':(match aX d,tot ds with|some a,some b=>some (a+b)|_,_=>none)=some t:=h;cases e1:aX d with
    | none=>rw [e1] at h';cases h'
    | some a =>
      cases e2:tot ds with
      | none=>rw [e1,e2] at h';cases h'
      | some b =>
        rw [e1,e2] at h';have:=l7 d a e1;have:=oa ds b e2;injection h' with h'
        rw [aaD];lia
theorem iH (ds:List PyData) (d:PyData):szL (ds++[d])=szL ds+szD d:=by simp [szL]
def Left (n:Nat) (ds:List PyData) (d0:PyData):Prop:=aX d0=(tot ds).map (·+n)
theorem Left.bad {n:Nat} {ds:List PyData} {d d0:PyData} (h:Left n (ds++[d]) d0) (e:aX d=none):bz d0=false:=by
  unfold Left at h;rw [dQ,e] at h;have h2:aX d0=none:=by rw [h];cases tot ds <;> rfl
  unfold bz;rw [h2]
theorem Left.num {n:Nat} {ds:List PyData} {i:Int} {d0:PyData} (h:Left n (ds++[.int i]) d0):Left (n+1) ds d0:=by
  unfold Left at h ⊢;rw [h,dQ];have e:aX (.int i)=some 1:=by simp only [aX]
  rw [e];cases tot ds with
  | none=>rfl
  | some a=>show some (a+1+n)=some (a+(n+1));congr 1;lia
theorem Left.node {n:Nat} {ds:List PyData} {s l r d0:PyData} (h:Left n (ds++[.tuple [s,l,r]]) d0) (hs:sgD s=true):Left n (ds++[l]++[r]) d0:=by
  unfold Left at h ⊢;have e:aX (.tuple [s,l,r])=(match aX l,aX r with|some a,some b=>some (a+b)|_,_=>none):=by
    simp only [aX,cntT];rw [if_pos hs] <;> (cases aX l <;> cases aX r <;> rfl)
  rw [h,dQ,dQ,dQ,e];cases tot ds <;> cases aX l <;> cases aX r <;> simp [Nat.add_assoc]
theorem Left.full {n:Nat} {ds:List PyData} {d0:PyData} (h:Left n ds d0) (h2:9 < n+ds.length):bz d0=false:=by
  unfold Left at h;unfold bz;rw [h];cases e:tot ds with
  | none=>rfl
  | some t =>
    have:=oa ds t e;show decide (t+n≤9)=false;exact decide_eq_false (by lia)
theorem Left.done {n:Nat} {d0:PyData} (h:Left n [] d0):bz d0=decide (n≤9):=by
  unfold Left at h;unfold bz;rw [h];show decide (0+n≤9)=decide (n≤9);rw [Nat.zero_add]
section
variable {P:Program} {w:World} {K:aaa} {mg:Str→Option Value} {base:Heap} {f:Addr} {fd:FuncData}
def j6:Sp:=fun vs H Q _=>∃ d v,vs=[v]∧Dat H d v∧Q (.bl (sgD d)) H
abbrev gP:Stmt:=top 19
theorem mJ:FnScope ["thing"] ["thing"] (ah gP):=⟨rfl,rfl,rfl,by decide +kernel,rfl,by decide +kernel,by decide +kernel⟩
theorem lJ {tk:Tok} {aS:Addr} (F:Fun K "is_sign" "is_sign" gP f fd) (B:Bu K mg) (B':Co K mg tk aS):FnOk P w K mg base CX0 1 f fd ["thing"] j6:=by
  refine F.ok mJ (fun vs H Q E h=>?_) (fun cdv A outer s H vs Q E hr h=>?_)
  · obtain ⟨d,x,rfl,_⟩:=h;rfl
  obtain ⟨d,v,rfl,hd,q⟩:=h;refine ⟨_,(@af _ _ _ (@ak _ _ _ _ (@eN _ _ _ _ _ _ _ (@am _ _ _ _ _ _ _ _ _ (@bp _ ("str")) rfl B.iisinstance aal (@aa _ _ _ _ _ (pv 0) (@aa _ _ _ _ _ (@cB _ _ (.ty "str") _ _ rfl B.istr ab6 rfl (by decide) (by decide)) ac (by rfl)) (by rfl)) (by decide) (by decide) (by rfl) (by rfl)) (@eL _ _ _ _ _ (@bM _ _ _ _ _ _ _ _ dX (pv 0) (@aZ _ _ (.ref aS) _ _ rfl B'.gSIGNS rfl (by decide)) (by with_unfolding_all rfl)))))),?_⟩;cases d with
  | str z =>
    simp only [Dat] at hd;subst hd;exact ⟨_,rfl,_,_,true,rfl,.str z,rfl,true,rfl,a8 ⟨_,rfl,aS,_,rfl,.inr (B'.sSIGNS H),rfl,rfl,q⟩⟩
  | none=>exact ⟨_,rfl,_,_,false,rfl,hd.ty,rfl,false,rfl,az q⟩
  | bool b=>exact ⟨_,rfl,_,_,false,rfl,hd.ty,rfl,false,rfl,az q⟩
  | int i=>exact ⟨_,rfl,_,_,false,rfl,hd.ty,rfl,false,rfl,az q⟩
  | list ds=>exact ⟨_,rfl,_,_,false,rfl,hd.ty,rfl,false,rfl,az q⟩
  | tuple ds=>exact ⟨_,rfl,_,_,false,rfl,hd.ty,rfl,false,rfl,az q⟩
  | dict ds=>exact ⟨_,rfl,_,_,false,rfl,hd.ty,rfl,false,rfl,az q⟩
def gg:Sp:=fun vs H Q _=>∃ d v,vs=[v]∧Dat H d v∧∀ H',Same H H'→Q (.bl (bz d)) H'
theorem xD {H:Hp} {ds:List PyData} {xs:List V} (h:DatAll H ds xs) (h3:xs.length=3):∃ s l r x y z,ds=[s,l,r]∧xs=[x,y,z]∧Dat H s x∧Dat H l y∧Dat H r z:=by
  have hl:=h.len;obtain ⟨x,y,z,rfl⟩:=wI h3;obtain ⟨s,l,r,rfl⟩:=wI (hl.trans h3);simp only [DatAll] at h;obtain ⟨_,_,e1,h1,_,_,e2,h2,_,_,e3,h3,_⟩:=h;injection e1 with e1 t1;subst t1
  injection e2 with e2 t2;subst t2
  injection e3 with e3 t3
  subst e1 e2 e3;exact ⟨s,l,r,x,y,z,rfl,rfl,h1,h2,h3⟩
theorem tO {ds:List PyData} (h:ds.length≠3):aX (.tuple ds)=none:=by
  simp only [aX]
  match ds,h with
  | [],_=>simp [cntT]
  | [_],_=>simp [cntT]
  | [_,_],_=>simp [cntT]
  | [_,_,_],h=>exact absurd rfl h
  | _ :: _ :: _ :: _ :: _,_=>simp [cntT]
theorem vH {s l r:PyData} (h:sgD s=false):aX (.tuple [s,l,r])=none:=by
  simp only [aX,cntT,h];rfl
abbrev iM:Stmt:=top 20
theorem dR:FnScope ["thing","waiting","numbers","part"] ["thing"] (ah iM):=⟨rfl,rfl,rfl,by decide +kernel,rfl,by decide +kernel,by decide +kernel⟩
theorem mY {tk:Tok} {aS:Addr} (F:Fun K "is_way" "is_way" iM f fd) (B:Bu K mg) (B':Co K mg tk aS) (C_is_whole:Cal P w K mg base "is_whole" 1 ["thing"] (c_ K)) (C_is_sign:Cal P w K mg base "is_sign" 1 ["thing"] j6) :
    FnOk P w K mg base CX0 2 f fd ["thing"] gg:=by
  refine F.ok dR (fun vs H Q E h=>?_) (fun cdv A outer s H vs Q E hr h=>?_)
  · obtain ⟨x,v,rfl,_⟩:=h;rfl
  obtain ⟨d0,v,rfl,hd0,q⟩:=h;refine ⟨_,(@ae _ _ _ _ _ (@ao _ _ (1) _ _ _ _ (dR).nd rfl (Or.inl rfl) (@ar _ _ _ _ (@aa _ _ _ _ _ (pv 0) ac (by rfl))) (by rfl) (by first|exact .inl rfl|exact .inr rfl|assumption)) (@ae _ _ _ _ _ (@ao _ _ (2) _ _ _ _ (dR).nd rfl (Or.inl rfl) ad (by rfl) (by first|exact .inl rfl|exact .inr rfl|assumption)) (@ae _ _ _ _ _ (@lv _ _ _ _ _ _ abe (@PW.pt _ _ _ (@fX _ _ _ _ _ _ _ (@gj _ _ _ (pv 1) (fun _=>rfl)) (@gi _ _ _ _ (@ap _ _ _ _ _ _ _ _ jG (@al _ _ _ _ _ _ _ _ bX (pv 2) (@am _ _ _ _ _ _ _ _ _ aQ rfl B.ilen aaY (@aa _ _ _ _ _ (pv 1) ac (by rfl)) (by decide) (by decide) (by rfl) (by rfl))) (@aZ _ _ (.int 9) _ _ rfl B'.gMOST_NUMBERS ⟨_,rfl⟩ (by decide)) (aw _))))) (@ae _ _ _ _ _ (@ao _ _ (3) _ _ _ _ (dR).nd rfl (Or.inl rfl) (@uT _ _ _ _ _ _ _ _ _ aaH PySem.F.slot_list_pop PySem.F.type_list_pop vb (pv 1) (by rfl) (by rfl)) (by rfl) (by first|exact .inl rfl|exact .inr rfl|assumption)) (@af _ _ _ (@a9 _ _ _ _ _ _ _ _ (@bE _ _ _ (@ag _ _ _ _ _ _ _ _ _ _ _ C_is_whole hr (by lia) rfl (@aa _ _ _ _ _ (pv 3) ac (by rfl)) (by decide) (by rfl) (by rfl)) (by intro _;rfl)) (@af _ _ _ (@mP _ _ (2) _ _ _ _ _ _ (dR).nd rfl (Or.inl rfl) ad rh (by first|exact .inl rfl|exact .inr rfl|assumption))) (@af _ _ _ (@a9 _ _ _ _ _ _ _ _ (@PW.pt _ _ _ (@fX _ _ _ _ _ _ _ (@bE _ _ _ (@am _ _ _ _ _ _ _ _ _ (@bp _ ("tuple")) rfl B.iisinstance aal (@aa _ _ _ _ _ (pv 3) (@aa _ _ _ _ _ (@cB _ _ (.ty "tuple") _ _ rfl B.ituple aa7 rfl (by decide) (by decide)) ac (by rfl)) (by rfl)) (by decide) (by decide) (by rfl) (by rfl)) (by intro _;rfl)) (@fX _ _ _ _ _ _ _ (@ap _ _ _ _ _ _ _ _ bV (@am _ _ _ _ _ _ _ _ _ aQ rfl B.ilen aaY (@aa _ _ _ _ _ (pv 3) ac (by rfl)) (by decide) (by decide) (by rfl) (by rfl)) ad (aw _)) (@gi _ _ _ _ (@bE _ _ _ (@ag _ _ _ _ _ _ _ _ _ _ _ C_is_sign hr (by lia) rfl (@aa _ _ _ _ _ (@bn _ _ _ _ _ _ _ ix_tup (pv 3) ad (fun _ _=>rfl)) ac (by rfl)) (by decide) (by rfl) (by rfl)) (by intro _;rfl)))))) (@ae _ _ _ _ _ (@bC _ _ _ _ (@cA _ _ _ _ _ _ _ _ _ _ _ _ aaH aa1 aa2 cF (pv 1) (@aa _ _ _ _ _ (@bn _ _ _ _ _ _ _ ix_tup (pv 3) ad (fun _ _=>rfl)) ac (by rfl)) (by rfl) (by rfl) (by rfl) (by rfl) (by rfl)) (by rfl)) (@af _ _ _ (@bC _ _ _ _ (@cA _ _ _ _ _ _ _ _ _ _ _ _ aaH aa1 aa2 cF (pv 1) (@aa _ _ _ _ _ (@bn _ _ _ _ _ _ _ ix_tup (pv 3) ad (fun _ _=>rfl)) ac (by rfl)) (by rfl) (by rfl) (by rfl) (by rfl) (by rfl)) (by rfl)))) (@af _ _ _ (@ak _ _ _ _ cb)))))))) (@af _ _ _ (@ak _ _ _ _ (sO (pv 1))))))),?_⟩;refine ⟨_,rfl,(by show 1≤sizeLine;decide),fun p hp=>?_⟩;refine ⟨fun m σ H'=>∃ (n:Nat) (ds:List PyData) (vs:List V) (part:Option V),σ=[some v,some (.ref p),some (.int n),part]∧H' p=some (.lst vs)∧DatAll H ds vs∧Same H H'∧n≤9∧vs.length≤100∧Left n ds d0∧m=szL ds,?_,?_⟩
  · refine ⟨_,0,[d0],[v],_,rfl,upd_same,DatAll.one hd0,Same.new hp _,by lia,by simp,?_,rfl⟩;unfold Left;have e:tot [d0]=(match aX d0,some 0 with|some a,some b=>some (a+b)|_,_=>none):=rfl;rw [e];cases aX d0 <;> simp
  rintro m σ H' ⟨n,ds,vs,part,rfl,hH,hall,hS,hn,hvl,hL,rfl⟩;have hlen:=hall.len;by_cases ne:vs=[]
  · subst ne;have e:ds=[]:=List.length_eq_zero_iff.mp hlen;subst e;refine ⟨_,rfl,false,.inl ⟨[],SqL.of hH,rfl⟩,az (az ?_)⟩;have z:=q H' hS;rw [hL.done,decide_eq_true hn] at z;exact ⟨_,rfl,false,.inl ⟨[],SqL.of hH,rfl⟩,z⟩
  refine ⟨_,rfl,true,.inl ⟨_,SqL.of hH,by simpa using ne⟩,a8 ⟨_,rfl,_,rfl,p,_,rfl,.inl (SqL.of hH),_,_,rfl,rfl,_,_,rfl,rfl,decide ((n:Int)+(vs.length:Nat)≤9),rfl,?_⟩⟩;by_cases c9:(n:Int)+(vs.length:Nat)≤9
  · refine ig c9 ⟨fun σ' H'=>∃ m',m' < szL ds∧_,fun _ _ h=>h,?_⟩;obtain ⟨ds',d,vs',v',rfl,rfl,hall',hd⟩:=hall.last ne;refine ⟨_,rfl,.inl ⟨rfl,_,SqL.of hH⟩,p,_,v',rfl,rfl,hH,tz _ _,?_⟩;rw [vU];have hp0:H p=none:=hp;have hS2:Same H (upd H' p (.lst vs')):=hS.upd hp0;rw [iH];have zp:=oj d;have hd2:=Dat.mono hS2 d v' hd;rw [aae,aaN] at c9;have bad:aX d=none→Q (.bl false) (upd H' p (.lst vs')):=fun e=>by
      have z:=q _ hS2;rw [hL.bad e] at z;exact z
    cases d with
    | int i =>
      simp only [Dat] at hd2;subst hd2;refine ⟨_,rfl,_,"int",rfl,.int i,true,rfl,a8 ⟨_,rfl,_,_,rfl,rfl,?_⟩⟩;exact ⟨szL ds',by simp only [szD];lia,n+1,ds',vs',_,rfl,upd_same,hall',hS2,by lia,by lia,hL.num,rfl⟩
    | tuple xs =>
      have ty:=hd2.ty (K:=K);simp only [Dat] at hd2 hd;obtain ⟨a,us,rfl,ha,hxs⟩:=hd;have ha2:upd H' p (.lst vs') a=some (.tup us):=hS2 _ _ ha;refine ⟨_,rfl,_,"tuple",rfl,ty,false,rfl,az ?_⟩;refine ⟨_,rfl,_,_,true,rfl,ty,rfl,true,rfl,a8 ⟨_,rfl,a,_,rfl,.inr (SqT.of ha2),rfl,decide (V.int (us.length:Nat)=V.int 3),rfl,?_⟩⟩;have lx:=hxs.len;by_cases c3:us.length=3
      · obtain ⟨s,l,r,x,y,z,rfl,rfl,h1,h2,h3⟩:=xD hxs c3;refine ig rfl ?_;refine ⟨_,rfl,a,_,_,_,rfl,rfl,SqT.of ha2,rfl,s,x,rfl,Dat.mono hS2 s x h1,sgD s,rfl,?_⟩;cases hs:sgD s with
        | true =>
          refine a8 ?_;refine ⟨_,rfl,.inl ⟨rfl,_,SqL.of upd_same⟩,_,rfl,a,_,_,_,rfl,rfl,SqT.of ha2,rfl,p,_,_,rfl,rfl,upd_same,aC (by lia),?_⟩;have k1:Same H (upd (upd H' p (.lst vs')) p (.lst (vs'++[y]))):=hS2.upd hp0;refine ⟨_,rfl,.inl ⟨rfl,_,SqL.of upd_same⟩,_,rfl,a,_,_,_,rfl,rfl,SqT.of (k1 _ _ ha),rfl,p,_,_,rfl,rfl,upd_same,aC (by rw [aae,aaN];lia),?_⟩;refine ⟨szL (ds'++[l]++[r]),?_,n,ds'++[l]++[r],vs'++[y]++[z],_,rfl,upd_same,(hall'.app (DatAll.one h2)).app (DatAll.one h3),k1.upd hp0,hn,by rw [aae,aae];simp;lia,hL.node hs,rfl⟩;rw [iH,iH];simp only [szD,szAll];have:=oj s;lia
        | false=>exact az (bad (vH hs))
      · refine ii (fun e=>c3 (by injection e with e;lia)) (bad (tO (by lia)))
    | none=>exact ⟨_,rfl,_,_,rfl,hd2.ty,false,rfl,az ⟨_,rfl,_,_,false,rfl,hd2.ty,rfl,false,rfl,az (bad (by simp only [aX]))⟩⟩
    | bool b=>exact ⟨_,rfl,_,_,rfl,hd2.ty,false,rfl,az ⟨_,rfl,_,_,false,rfl,hd2.ty,rfl,false,rfl,az (bad (by simp only [aX]))⟩⟩
    | str b=>exact ⟨_,rfl,_,_,rfl,hd2.ty,false,rfl,az ⟨_,rfl,_,_,false,rfl,hd2.ty,rfl,false,rfl,az (bad (by simp only [aX]))⟩⟩
    | list b=>exact ⟨_,rfl,_,_,rfl,hd2.ty,false,rfl,az ⟨_,rfl,_,_,false,rfl,hd2.ty,rfl,false,rfl,az (bad (by simp only [aX]))⟩⟩
    | dict b=>exact ⟨_,rfl,_,_,rfl,hd2.ty,false,rfl,az ⟨_,rfl,_,_,false,rfl,hd2.ty,rfl,false,rfl,az (bad (by simp only [aX]))⟩⟩
  · refine ii c9 ?_;have z:=q H' hS;rw [hL.full (by lia)] at z;exact ⟨_,rfl,true,.inl ⟨_,SqL.of hH,by simpa using ne⟩,z⟩
def cK:PyData→Bool
  | .list _=>true
  | _=>false
theorem wG {d:PyData} (h:cK d=false):bZ d=false:=by cases d <;> first|rfl|simp [cK] at h
theorem lT {d:PyData} {K:aaa}:aaE K (.type (mn d)) (.type "list")=some (cK d):=by cases d <;> rfl
def j9:Sp:=fun vs H Q _=>∃ d v,vs=[v]∧Dat H d v∧∀ H',Same H H'→Q (.bl (bZ d)) H'
abbrev iN:Stmt:=top 17
theorem o5:FnScope ["thing"] ["thing"] (ah iN):=⟨rfl,rfl,rfl,by decide +kernel,rfl,by decide +kernel,by decide +kernel⟩
theorem pi {t3 t4:Tok} (F:Fun K "is_row" "is_row" iN f fd) (B:Bu K mg) (B3:Cq K mg t3 t4) (C_is_whole:Cal P w K mg base "is_whole" 1 ["thing"] (c_ K)):FnOk P w K mg base CX0 2 f fd ["thing"] j9:=by
  refine F.ok o5 (fun vs H Q E h=>?_) (fun cdv A outer s H vs Q E hr h=>?_)
  · obtain ⟨x,v,rfl,_⟩:=h;rfl
  obtain ⟨d,v,rfl,hd,q⟩:=h;refine ⟨_,(@ae _ _ _ _ _ (@a9 _ _ _ _ _ _ _ _ (@PW.pt _ _ _ (@cO _ _ _ _ _ _ _ (@cz _ _ _ _ (@bE _ _ _ (@am _ _ _ _ _ _ _ _ _ (@bp _ ("list")) rfl B.iisinstance aal (@aa _ _ _ _ _ (pv 0) (@aa _ _ _ _ _ (@cB _ _ (.ty "list") _ _ rfl B.ilist PyProof.Rows.boot_list rfl (by decide) (by decide)) ac (by rfl)) (by rfl)) (by decide) (by decide) (by rfl) (by rfl)) (by intro _;rfl))) (@cy _ _ _ _ (@cz _ _ _ _ (@qE _ _ _ _ _ _ _ _ _ _ _ _ jG jG ad (@am _ _ _ _ _ _ _ _ _ aQ rfl B.ilen aaY (@aa _ _ _ _ _ (pv 0) ac (by rfl)) (by decide) (by decide) (by rfl) (by rfl)) (@aZ _ _ (.int 9) _ _ rfl B3.gMOST_NUMBERS ⟨_,rfl⟩ (by decide)) (by with_unfolding_all rfl)))))) (@af _ _ _ (@ak _ _ _ _ cb)) aE) (@af _ _ _ (@ak _ _ _ _ (@am _ _ _ _ _ _ _ _ _ (@gA _ rfl) rfl B.iall abF (@aa _ _ _ _ _ (@eQ _ _ _ _ _ _ _ _ (["number"]) ([none]) _ _ _ _ rfl (@bT _ _ _ _ (pv 0)) rfl trivial trivial (fun _ _ _ _=>⟨(@au _ _ (0) _ (show aa6 (["number"]:List Str) by decide +kernel) rfl (Or.inl rfl) (.inr rfl)),bi,(@ag _ _ _ _ _ _ _ _ _ _ _ C_is_whole hr (by lia) rfl (@aa _ _ _ _ _ (pv 0) ac (by rfl)) (by decide) (by rfl) (by rfl))⟩) (by rfl) (by rfl) (by rfl) (by rfl) (by intro _;rfl)) ac (by rfl)) (by decide) (by decide) (by rfl) (by rfl))))),?_⟩;by_cases hl:cK d=true
  · cases d with
    | list ds =>
      have hd0:=hd;simp only [Dat] at hd;obtain ⟨a,xs,rfl,ea,hall⟩:=hd;have hlen:=hall.len;refine ⟨_,rfl,_,_,true,rfl,.lst ea,rfl,true,rfl,az ?_⟩;by_cases c1:1≤xs.length
      · refine ⟨_,rfl,a,_,rfl,.inl (SqL.of ea),_,_,rfl,rfl,true,congrArg V.bl (decide_eq_true (by lia)),a8 ?_⟩;by_cases c2:xs.length≤9
        · refine ⟨_,_,rfl,rfl,true,congrArg V.bl (decide_eq_true (by lia)),az ?_⟩;refine ⟨_,rfl,a,rfl,⟨_,SqL.of ea⟩,?_⟩;refine tu (xs:=xs) (fun i ys H'=>H'=H∧ys=((ds.take i).map bA).map V.bl) ⟨rfl,rfl⟩ (fun i ys H' hi p=>⟨by rw [p.1];exact SqL.of ea,by rw [p.2,aak,aak,aaF];exact aC (by lia)⟩) (fun i x ys H' hx p nx=>?_) (fun ys H' p p5 n5=>?_)
          · obtain ⟨rfl,rfl⟩:=p;obtain ⟨dd,h1,h2⟩:=nK hall hx;refine ⟨_,rfl,x,_,rfl,h2.ty,nx ⟨rfl,?_⟩⟩;rw [je,aaR,h1,aaC,aaC];rfl
          obtain ⟨rfl,rfl⟩:=p;rw [aa0 (by lia)];refine ⟨p5,_,rfl,SqL.of upd_same,?_⟩;have e:((ds.map bA).all id)=bZ (.list ds):=by
            show _=(decide (1≤ds.length) && decide (ds.length≤9) && ds.all bA)
            rw [decide_eq_true (show 1≤ds.length by lia),decide_eq_true (show ds.length≤9 by lia),ab1];rfl
          rw [e];exact q _ (Same.new n5 _)
        · refine ⟨_,_,rfl,rfl,false,congrArg V.bl (decide_eq_false (by lia)),a8 ?_⟩;have z:=q H (Same.refl _);rw [show bZ (.list ds)=false by
            show (decide (1≤ds.length) && decide (ds.length≤9) && ds.all bA)=false;rw [decide_eq_false (show ¬ ds.length≤9 by lia)];simp] at z
          exact z
      · refine ⟨_,rfl,a,_,rfl,.inl (SqL.of ea),_,_,rfl,rfl,false,congrArg V.bl (decide_eq_false (by lia)),az ⟨false,rfl,a8 ?_⟩⟩;have z:=q H (Same.refl _);rw [show bZ (.list ds)=false by
          show (decide (1≤ds.length) && decide (ds.length≤9) && ds.all bA)=false;rw [decide_eq_false (show ¬ 1≤ds.length by lia)];simp] at z
        exact z
    | _=>simp [cK] at hl
  · have hl':cK d=false:=by simpa using hl
    refine ⟨_,rfl,_,_,false,rfl,hd.ty,by rw [lT,hl'],false,rfl,a8 ?_⟩;have z:=q H (Same.refl _);rw [wG hl'] at z;exact z
end
open PySem L2
structure Xc (K:aaa) (mg:Str→Option Value) (aP aR aW aH:Addr):Prop where
  mPutError:mg "PutError" = some (.ref aP)
  mNoRow:mg "NoRow" = some (.ref aR)
  mNoWay:mg "NoWay" = some (.ref aW)
  mNoHolds:mg "NoHolds" = some (.ref aH)
  eNoRow:EC K aR
  eNoWay:EC K aW
  eNoHolds:EC K aH
  uNoRow:Und K aR aP
  uNoWay:Und K aW aP
  uNoHolds:Und K aH aP
def ck:PyData→Bool
  | .tuple [a,b]=>bA a && bA b
  | _=>false
def bB:PyData→Bool
  | .tuple [.int a,.int b]=>decide (0≤a∧a < b∧b < 9)
  | _=>false
def cf:PyData→Bool
  | .list ds=>decide (ds.length≤40) && ds.all bB
  | _=>false
def eS:PyData→Bool
  | .tuple [a,b]=>cf a && cf b
  | _=>false
theorem wT {H:Hp} {ds:List PyData} {xs:List V} (h:DatAll H ds xs) (h2:xs.length=2):∃ l r y z,ds=[l,r]∧xs=[y,z]∧Dat H l y∧Dat H r z:=by
  have e:=h.len
  match ds,xs,h,e,h2 with
  | [l,r],[y,z],h,_,_ =>
    simp only [DatAll] at h;obtain ⟨_,_,e1,h1,_,_,e2,h2,e3⟩:=h;simp only [List.cons.injEq] at e1 e2;obtain ⟨rfl,e1⟩:=e1;subst e1;simp only [List.cons.injEq] at e2;obtain ⟨rfl,_⟩:=e2;exact ⟨l,r,_,_,rfl,rfl,h1,h2⟩
theorem sQ {d:PyData} (h:ck d=false):bB d=false:=by
  cases d with
  | tuple ds =>
    match ds with
    | []=>simp [bB]
    | [_]=>simp [bB]
    | [a,b]=>cases a <;> cases b <;> first|rfl|simp [ck,bA] at h
    | _ :: _ :: _ :: _=>simp [bB]
  | _=>rfl
def aI:Wy→PyData
  | .num i=>.int i
  | .node g l r=>.tuple [.str g.str,aI l,aI r]
theorem WyIn.dat {H:Hp}:∀ {w:Wy} {v:V},WyIn H w v→Dat H (aI w) v
  | .num i,v,h=>by
    simp only [aI,Dat];exact h
  | .node g l r,v,h=>by
    obtain ⟨a,vl,vr,rfl,ha,hl,hr⟩:=h;simp only [aI,Dat,DatAll];exact ⟨a,_,rfl,ha,_,_,rfl,rfl,_,_,rfl,WyIn.dat hl,_,_,rfl,WyIn.dat hr,rfl⟩
theorem jW:∀ w:Wy,aX (aI w)=some w.size
  | .num i=>by simp only [aI,aX,Wy.size]
  | .node g l r=>by
    have e:sgD (.str g.str)=true:=rg g;simp only [aI,aX,cntT,e,if_true,jW l,jW r,Wy.size]
theorem mh {w:Wy} (h:w.size≤9):bz (aI w)=true:=by
  unfold bz;rw [jW];exact decide_eq_true h
def pD (p:Int × Int):PyData:=.tuple [.int p.1,.int p.2]
theorem PairIn.dat {H:Hp} {p:Int × Int} {v:V} (h:PairIn H p v):Dat H (pD p) v:=by
  obtain ⟨a,rfl,ha⟩:=h;simp only [pD,Dat,DatAll];exact ⟨a,_,rfl,ha,_,_,rfl,rfl,_,_,rfl,rfl,rfl⟩
theorem PairsIn.dat {H:Hp} {ps:List (Int × Int)} {us:List V} (h:PairsIn H ps us):DatAll H (ps.map pD) us:=by
  induction h with
  | nil=>simp only [abl,DatAll]
  | cons a _ ih=>simp only [aax,DatAll];exact ⟨_,_,rfl,PairIn.dat a,ih⟩
def sD (ps:List (Int × Int)):PyData:=.list (ps.map pD)
theorem StIn.dat {H:Hp} {ps:List (Int × Int)} {v:V} (h:StIn H ps v):Dat H (sD ps) v:=by
  obtain ⟨a,us,rfl,e,hp⟩:=h;simp only [sD,Dat];exact ⟨a,us,rfl,e,PairsIn.dat hp⟩
theorem tV {ps:List (Int × Int)} (h:Gs ps):cf (sD ps)=true:=by
  show (decide ((ps.map pD).length≤40) && (ps.map pD).all bB)=true;rw [aak,decide_eq_true h.1,Bool.true_and,ab1];exact List.all_eq_true.mpr fun p hp=>decide_eq_true (h.2 p hp)
def hD (ps qs:List (Int × Int)):PyData:=.tuple [sD ps,sD qs]
theorem HdIn.dat {H:Hp} {ps qs:List (Int × Int)} {v:V} (h:HdIn H ps qs v):Dat H (hD ps qs) v:=by
  obtain ⟨a,x,y,rfl,ha,hx,hy⟩:=h;simp only [hD,Dat,DatAll];exact ⟨a,_,rfl,ha,_,_,rfl,hx.dat,_,_,rfl,hy.dat,rfl⟩
theorem ub {ps qs:List (Int × Int)} (h:Gs ps) (k:Gs qs):eS (hD ps qs)=true:=by
  show (cf (sD ps) && cf (sD qs))=true;rw [tV h,tV k];rfl
theorem bv {H:Hp}:∀ ns:List Int,DatAll H (ns.map PyData.int) (ns.map V.int)
  | []=>by simp only [abl,DatAll]
  | i :: ns=>by
    simp only [aax,DatAll];exact ⟨_,_,rfl,by simp only [Dat],bv ns⟩
def rD (ns:List Int):PyData:=.list (ns.map PyData.int)
theorem fz {H:Hp} {a:Addr} {ns:List Int} (h:H a=some (.lst (ns.map V.int))):Dat H (rD ns) (.ref a):=by
  simp only [rD,Dat];exact ⟨a,_,rfl,h,bv ns⟩
theorem qC {ns:List Int} (h1:1≤ns.length) (h9:ns.length≤9):bZ (rD ns)=true:=by
  show (decide (1≤(ns.map PyData.int).length) && decide ((ns.map PyData.int).length≤9) && (ns.map PyData.int).all bA)=true;rw [aak,decide_eq_true h1,decide_eq_true h9,ab1];simp [bA]
theorem tf {b:Bool} (h:b=true):¬ b=false:=fun z=>by rw [h] at z;cases z
section
variable {P:Program} {w:World} {K:aaa} {mg:Str→Option Value} {base:Heap} {f:Addr} {fd:FuncData}
def gK:Sp:=fun vs H Q _=>∃ d v,vs=[v]∧Dat H d v∧Q (.bl (ck d)) H
abbrev gQ:Stmt:=top 26
theorem mK:FnScope ["thing"] ["thing"] (ah gQ):=⟨rfl,rfl,rfl,by decide +kernel,rfl,by decide +kernel,by decide +kernel⟩
theorem lK (F:Fun K "is_pair" "is_pair" gQ f fd) (B:Bu K mg) (C_is_whole:Cal P w K mg base "is_whole" 1 ["thing"] (c_ K)):FnOk P w K mg base CX0 2 f fd ["thing"] gK:=by
  refine F.ok mK (fun vs H Q E h=>?_) (fun cdv A outer s H vs Q E hr h=>?_)
  · obtain ⟨p,v,rfl,_⟩:=h;rfl
  obtain ⟨d,v,rfl,hd,q⟩:=h;refine ⟨_,(@af _ _ _ (@ak _ _ _ _ (@eN _ _ _ _ _ _ _ (@am _ _ _ _ _ _ _ _ _ (@bp _ ("tuple")) rfl B.iisinstance aal (@aa _ _ _ _ _ (pv 0) (@aa _ _ _ _ _ (@cB _ _ (.ty "tuple") _ _ rfl B.ituple aa7 rfl (by decide) (by decide)) ac (by rfl)) (by rfl)) (by decide) (by decide) (by rfl) (by rfl)) (@eN _ _ _ _ _ _ _ (@bM _ _ _ _ _ _ _ _ bV (@am _ _ _ _ _ _ _ _ _ aQ rfl B.ilen aaY (@aa _ _ _ _ _ (pv 0) ac (by rfl)) (by decide) (by decide) (by rfl) (by rfl)) ad (aw _)) (@eN _ _ _ _ _ _ _ (@ag _ _ _ _ _ _ _ _ _ _ _ C_is_whole hr (by lia) rfl (@aa _ _ _ _ _ (@bn _ _ _ _ _ _ _ ix_tup (pv 0) ad (fun _ _=>rfl)) ac (by rfl)) (by decide) (by rfl) (by rfl)) (@eL _ _ _ _ _ (@ag _ _ _ _ _ _ _ _ _ _ _ C_is_whole hr (by lia) rfl (@aa _ _ _ _ _ (@bn _ _ _ _ _ _ _ ix_tup (pv 0) ad (fun _ _=>rfl)) ac (by rfl)) (by decide) (by rfl) (by rfl)))))))),?_⟩;cases d with
  | tuple ds =>
    have ty:=hd.ty (K:=K);simp only [Dat] at hd;obtain ⟨a,xs,rfl,ha,hxs⟩:=hd;refine ⟨_,rfl,_,_,true,rfl,ty,rfl,true,rfl,a8 ⟨_,rfl,a,_,rfl,.inr (SqT.of ha),rfl,decide (V.int (xs.length:Nat)=V.int 2),rfl,?_⟩⟩;have lx:=hxs.len;by_cases c:xs.length=2
    · obtain ⟨l,r,y,z,rfl,rfl,h1,h2⟩:=wT hxs c;refine ig rfl ⟨_,rfl,a,_,_,_,rfl,rfl,SqT.of ha,rfl,_,_,rfl,h1.ty,_,rfl,?_⟩;have e:ck (.tuple [l,r])=(bA l && bA r):=rfl;rw [je];rw [e] at q;cases c1:bA l with
      | true =>
        rw [c1,Bool.true_and] at q;refine a8 ⟨_,rfl,a,_,_,_,rfl,rfl,SqT.of ha,rfl,_,_,rfl,h2.ty,?_⟩;rw [je];exact q
      | false =>
        rw [c1,Bool.false_and] at q;exact az q
    · refine ii (fun e=>c (by injection e with e;lia)) ?_;have e:ck (.tuple ds)=false:=by
        match ds,lx with
        | [],_=>rfl
        | [_],_=>rfl
        | [_,_],lx=>exact absurd lx.symm (by intro z;exact c z)
        | _ :: _ :: _ :: _,_=>rfl
      rw [e] at q;exact q
  | none=>exact ⟨_,rfl,_,_,false,rfl,hd.ty,rfl,false,rfl,az q⟩
  | bool b=>exact ⟨_,rfl,_,_,false,rfl,hd.ty,rfl,false,rfl,az q⟩
  | int i=>exact ⟨_,rfl,_,_,false,rfl,hd.ty,rfl,false,rfl,az q⟩
  | str i=>exact ⟨_,rfl,_,_,false,rfl,hd.ty,rfl,false,rfl,az q⟩
  | list ds=>exact ⟨_,rfl,_,_,false,rfl,hd.ty,rfl,false,rfl,az q⟩
  | dict ds=>exact ⟨_,rfl,_,_,false,rfl,hd.ty,rfl,false,rfl,az q⟩
def j_:Sp:=fun vs H Q _=>∃ d v,vs=[v,.int 9]∧Dat H d v∧∀ H',Same H H'→Q (.bl (cf d)) H'
abbrev bI:Stmt:=top 33
theorem dS:FnScope ["thing","many"] ["thing","many"] (ah bI):=⟨rfl,rfl,rfl,by decide +kernel,rfl,by decide +kernel,by decide +kernel⟩
theorem qN {t3 t4:Tok} (F:Fun K "is_list_of_stretches" "is_list_of_stretches" bI f fd) (B:Bu K mg) (B3:Cq K mg t3 t4) (C_is_pair:Cal P w K mg base "is_pair" 2 ["thing"] gK):FnOk P w K mg base CX0 3 f fd ["thing","many"] j_:=by
  refine F.ok dS (fun vs H Q E h=>?_) (fun cdv A outer s H vs Q E hr h=>?_)
  · obtain ⟨d,v,rfl,_⟩:=h;rfl
  obtain ⟨d,v,rfl,hd,q⟩:=h;refine ⟨_,(@ae _ _ _ _ _ (@a9 _ _ _ _ _ _ _ _ (@PW.pt _ _ _ (@cO _ _ _ _ _ _ _ (@cz _ _ _ _ (@bE _ _ _ (@am _ _ _ _ _ _ _ _ _ (@bp _ ("list")) rfl B.iisinstance aal (@aa _ _ _ _ _ (pv 0) (@aa _ _ _ _ _ (@cB _ _ (.ty "list") _ _ rfl B.ilist PyProof.Rows.boot_list rfl (by decide) (by decide)) ac (by rfl)) (by rfl)) (by decide) (by decide) (by rfl) (by rfl)) (by intro _;rfl))) (@cy _ _ _ _ (@ap _ _ _ _ _ _ _ _ jH (@am _ _ _ _ _ _ _ _ _ aQ rfl B.ilen aaY (@aa _ _ _ _ _ (pv 0) ac (by rfl)) (by decide) (by decide) (by rfl) (by rfl)) (@aZ _ _ (.int 40) _ _ rfl B3.gMOST_STRETCHES ⟨_,rfl⟩ (by decide)) (aw _))))) (@af _ _ _ (@ak _ _ _ _ cb)) aE) (@af _ _ _ (@ak _ _ _ _ (@am _ _ _ _ _ _ _ _ _ (@gA _ rfl) rfl B.iall abF (@aa _ _ _ _ _ (@eQ _ _ _ _ _ _ _ _ (["pair","many"]) ([none,some 1]) _ _ _ _ rfl (@bT _ _ _ _ (pv 0)) rfl ⟨rfl,trivial⟩ ⟨⟨rfl,Or.inl rfl,Or.inl rfl⟩,trivial⟩ (fun _ _ _ _=>⟨(@au _ _ (0) _ (show aa6 (["pair","many"]:List Str) by decide +kernel) rfl (Or.inl rfl) (.inr rfl)),bi,(@eN _ _ _ _ _ _ _ (@ag _ _ _ _ _ _ _ _ _ _ _ C_is_pair hr (by lia) rfl (@aa _ _ _ _ _ (pv 0) ac (by rfl)) (by decide) (by rfl) (by rfl)) (@eL _ _ _ _ _ (@o7 _ _ _ _ _ _ _ _ _ _ _ _ _ _ _ _ jG lD lD ad (@bn _ _ _ _ _ _ _ (@oF _ _ rfl) (pv 0) ad (fun _ _=>rfl)) (@bn _ _ _ _ _ _ _ (@oF _ _ rfl) (pv 0) ad (fun _ _=>rfl)) (pv 1) (by with_unfolding_all rfl))))⟩) (by rfl) (by rfl) (by rfl) (by rfl) (by intro _;rfl)) ac (by rfl)) (by decide) (by decide) (by rfl) (by rfl))))),?_⟩;by_cases hl:cK d=true
  · cases d with
    | list ds =>
      simp only [Dat] at hd;obtain ⟨a,us,rfl,ea,hall⟩:=hd;have hlen:=hall.len;refine ⟨_,rfl,_,_,true,rfl,.lst ea,rfl,true,rfl,az ⟨_,rfl,a,_,rfl,.inl (SqL.of ea),_,_,rfl,rfl,_,rfl,?_⟩⟩;have e0:cf (.list ds)=(decide (ds.length≤40) && ds.all bB):=rfl;rw [e0] at q;by_cases c:us.length≤40
      · rw [decide_eq_false (by lia)];refine az ⟨_,rfl,a,rfl,⟨_,SqL.of ea⟩,?_⟩;refine eR (Trn.list (xs:=us)) (fun i ys H'=>H'=H∧ys=((ds.take i).map bB).map V.bl) ⟨rfl,rfl⟩ (fun i ys H' hi p=>by rw [p.1,p.2];exact ⟨SqL.of ea,aC (by simp;lia)⟩) (fun i x ys H1 H' hi hx p Nx nx=>?_) (fun ys H' p p5 n5=>?_)
        · obtain ⟨rfl,rfl⟩:=p;obtain ⟨rfl,hx⟩:=hx;obtain ⟨dd,h1,h2⟩:=nK hall hx;have step:∀ b,b=bB dd→Nx ((ds.take i).map bB |>.map V.bl |>.append [V.bl b]) H':=fun b e=>nx _ _ ⟨rfl,by rw [e,aaR,h1,aaC,aaC];rfl⟩;refine ⟨_,rfl,dd,_,rfl,h2,ck dd,rfl,?_⟩;cases c1:ck dd with
          | false=>exact az (step _ (sQ c1).symm)
          | true =>
            have key:∃ i j,dd=.tuple [.int i,.int j]:=by
              cases dd with
              | tuple l =>
                match l with
                | [a,b] =>
                  cases a <;> cases b <;> first|exact ⟨_,_,rfl⟩|simp [ck,bA] at c1
                | []=>simp [ck] at c1
                | [_]=>simp [ck] at c1
                | _ :: _ :: _ :: _=>simp [ck] at c1
              | _=>simp [ck] at c1
            obtain ⟨i1,j1,rfl⟩:=key;simp only [Dat,DatAll] at h2;obtain ⟨b,_,rfl,hb,_,_,rfl,rfl,_,_,rfl,rfl,rfl⟩:=h2;have es:bB (.tuple [.int i1,.int j1])=decide (0≤i1∧i1 < j1∧j1 < 9):=rfl;refine a8 ⟨_,rfl,b,_,_,_,rfl,rfl,SqT.of hb,rfl,_,_,rfl,rfl,decide (0≤i1),rfl,?_⟩;by_cases k1:0≤i1
            · refine ig k1 ⟨_,rfl,b,_,_,_,rfl,rfl,SqT.of hb,rfl,_,_,rfl,rfl,decide (i1 < j1),rfl,?_⟩;by_cases k2:i1 < j1
              · refine ig k2 ⟨_,rfl,_,_,rfl,rfl,step _ ?_⟩;rw [es];by_cases k3:j1 < 9
                · rw [decide_eq_true k3,decide_eq_true ⟨k1,k2,k3⟩]
                · rw [decide_eq_false k3,decide_eq_false (fun z=>k3 z.2.2)]
              · exact ii k2 (step _ (by rw [es,decide_eq_false (fun z=>k2 z.2.1)]))
            · exact ii k1 (step _ (by rw [es,decide_eq_false (fun z=>k1 z.1)]))
        obtain ⟨rfl,rfl⟩:=p;rw [aa0 (by lia)];refine ⟨p5,_,rfl,SqL.of upd_same,?_⟩;rw [ab1];rw [decide_eq_true (show ds.length≤40 by lia),Bool.true_and] at q;exact q _ (Same.new n5 _)
      · rw [decide_eq_true (by lia)];rw [decide_eq_false (show ¬ ds.length≤40 by lia),Bool.false_and] at q;exact a8 (q H (Same.refl _))
    | _=>simp [cK] at hl
  · have hl':cK d=false:=by simpa using hl
    refine ⟨_,rfl,_,_,false,rfl,hd.ty,by rw [lT,hl'],false,rfl,a8 ?_⟩;have z:=q H (Same.refl _);have e:cf d=false:=by cases d <;> first|rfl|simp [cK] at hl'
    rw [e] at z;exact z
def eh:Sp:=fun vs H Q _=>∃ d v,vs=[v,.int 9]∧Dat H d v∧∀ H',Same H H'→Q (.bl (eS d)) H'
abbrev fT:Stmt:=top 32
theorem lu:FnScope ["thing","many"] ["thing","many"] (ah fT):=⟨rfl,rfl,rfl,by decide +kernel,rfl,by decide +kernel,by decide +kernel⟩
theorem kH {t3 t4:Tok} (F:Fun K "is_holds" "is_holds" fT f fd) (B:Bu K mg) (B3:Cq K mg t3 t4) (C_is_many:Cal P w K mg base "is_many" 2 ["thing"] iJ) (C_is_list_of_stretches:Cal P w K mg base "is_list_of_stretches" 3 ["thing","many"] j_):FnOk P w K mg base CX0 4 f fd ["thing","many"] eh:=by
  refine F.ok lu (fun vs H Q E h=>?_) (fun cdv A outer s H vs Q E hr h=>?_)
  · obtain ⟨d,v,rfl,_⟩:=h;rfl
  obtain ⟨d,v,rfl,hd,q⟩:=h;refine ⟨_,(@ae _ _ _ _ _ (@a9 _ _ _ _ _ _ _ _ (@PW.pt _ _ _ (@cO _ _ _ _ _ _ _ (@cz _ _ _ _ (@bE _ _ _ (@ag _ _ _ _ _ _ _ _ _ _ _ C_is_many hr (by lia) rfl (@aa _ _ _ _ _ (pv 1) ac (by rfl)) (by decide) (by rfl) (by rfl)) (by intro _;rfl))) (@cO _ _ _ _ _ _ _ (@cz _ _ _ _ (@bE _ _ _ (@am _ _ _ _ _ _ _ _ _ (@bp _ ("tuple")) rfl B.iisinstance aal (@aa _ _ _ _ _ (pv 0) (@aa _ _ _ _ _ (@cB _ _ (.ty "tuple") _ _ rfl B.ituple aa7 rfl (by decide) (by decide)) ac (by rfl)) (by rfl)) (by decide) (by decide) (by rfl) (by rfl)) (by intro _;rfl))) (@cy _ _ _ _ (@ap _ _ _ _ _ _ _ _ ia (@am _ _ _ _ _ _ _ _ _ aQ rfl B.ilen aaY (@aa _ _ _ _ _ (pv 0) ac (by rfl)) (by decide) (by decide) (by rfl) (by rfl)) ad (aw _)))))) (@af _ _ _ (@ak _ _ _ _ cb)) aE) (@af _ _ _ (@ak _ _ _ _ (@am _ _ _ _ _ _ _ _ _ (@gA _ rfl) rfl B.iall abF (@aa _ _ _ _ _ (@eQ _ _ _ _ _ _ _ _ (["part","many"]) ([none,some 1]) _ _ _ _ rfl (@qG _ _ _ _ (pv 0)) rfl ⟨rfl,trivial⟩ ⟨⟨rfl,Or.inl rfl,Or.inl rfl⟩,trivial⟩ (fun _ _ _ _=>⟨(@au _ _ (0) _ (show aa6 (["part","many"]:List Str) by decide +kernel) rfl (Or.inl rfl) (.inr rfl)),bi,(@ag _ _ _ _ _ _ _ _ _ _ _ C_is_list_of_stretches hr (by lia) rfl (@aa _ _ _ _ _ (pv 0) (@aa _ _ _ _ _ (pv 1) ac (by rfl)) (by rfl)) (by decide) (by rfl) (by rfl))⟩) (by rfl) (by rfl) (by rfl) (by rfl) (by intro _;rfl)) ac (by rfl)) (by decide) (by decide) (by rfl) (by rfl))))),?_⟩;refine ⟨_,rfl,9,rfl,by decide,by decide,true,rfl,az ?_⟩;have bad:eS d=false→Q (.bl false) H:=fun e=>by have z:=q H (Same.refl _);rw [e] at z;exact z
  cases d with
  | tuple ds =>
    have ty:=hd.ty (K:=K);simp only [Dat] at hd;obtain ⟨a,xs,rfl,ha,hxs⟩:=hd;refine ⟨_,rfl,_,_,true,rfl,ty,rfl,true,rfl,az ⟨_,rfl,a,_,rfl,.inr (SqT.of ha),rfl,(!decide (V.int (xs.length:Nat)=V.int 2)),rfl,?_⟩⟩;have lx:=hxs.len;by_cases c:xs.length=2
    · obtain ⟨l,r,y,z,rfl,rfl,h1,h2⟩:=wT hxs c;refine az ?_;refine ⟨_,rfl,a,rfl,⟨_,SqT.of ha⟩,?_⟩;refine eR (Trn.tup (xs:=[y,z])) (fun i ys H'=>Same H H'∧ys=(([l,r].take i).map cf).map V.bl) ⟨Same.refl _,rfl⟩ (fun i ys H' hi p=>by rw [p.2];exact ⟨SqT.of (p.1 _ _ ha),aC (by simp at hi;simp;lia)⟩) (fun i z' ys H1 H' hi hx' p Nx nx=>?_) (fun ys H' p p5 n5=>?_)
      · obtain ⟨S,rfl⟩:=p;obtain ⟨rfl,hz⟩:=hx';have key:∃ dd,Dat H' dd z'∧[l,r][i]?=some dd:=by
          have : i=0∨i=1:=by simp at hi;lia
          rcases this with rfl|rfl
          · simp at hz;subst hz;exact ⟨l,Dat.mono S _ _ h1,rfl⟩
          · simp at hz;subst hz;exact ⟨r,Dat.mono S _ _ h2,rfl⟩
        obtain ⟨dd,k1,k2⟩:=key;refine ⟨_,rfl,_,rfl,dd,z',rfl,k1,fun H2 s2=>nx _ _ ⟨S.trans s2,?_⟩⟩;rw [aaR,k2,aaC,aaC];rfl
      obtain ⟨S,rfl⟩:=p;refine ⟨p5,_,rfl,SqL.of upd_same,?_⟩;have e:((([l,r].take [y,z].length).map cf).all id)=eS (.tuple [l,r]):=by
        show (cf l && (cf r && true))=(cf l && cf r)
        rw [abH]
      rw [e];exact q _ (S.trans (Same.new n5 _))
    · rw [decide_eq_false (fun e=>c (by injection e with e;lia))];refine a8 (bad ?_)
      match ds,lx with
      | [],_=>rfl
      | [_],_=>rfl
      | [_,_],lx=>exact absurd lx.symm (by intro z;exact c z)
      | _ :: _ :: _ :: _,_=>rfl
  | none=>exact ⟨_,rfl,_,_,false,rfl,hd.ty,rfl,false,rfl,a8 (bad rfl)⟩
  | bool b=>exact ⟨_,rfl,_,_,false,rfl,hd.ty,rfl,false,rfl,a8 (bad rfl)⟩
  | int i=>exact ⟨_,rfl,_,_,false,rfl,hd.ty,rfl,false,rfl,a8 (bad rfl)⟩
  | str i=>exact ⟨_,rfl,_,_,false,rfl,hd.ty,rfl,false,rfl,a8 (bad rfl)⟩
  | list ds=>exact ⟨_,rfl,_,_,false,rfl,hd.ty,rfl,false,rfl,a8 (bad rfl)⟩
  | dict ds=>exact ⟨_,rfl,_,_,false,rfl,hd.ty,rfl,false,rfl,a8 (bad rfl)⟩
def eg (aR:Addr):Sp:=fun vs H Q E=>∃ d v,vs=[v]∧Dat H d v∧(bZ d=true→∀ H',Same H H'→Q .non H')∧(bZ d=false→∀ H',Same H H'→E (.ref aR) none H')
abbrev fR:Stmt:=top 21
theorem lq:FnScope ["thing"] ["thing"] (ah fR):=⟨rfl,rfl,rfl,by decide +kernel,rfl,by decide +kernel,by decide +kernel⟩
theorem kF {aP aR aW aH:Addr} (F:Fun K "need_row" "need_row" fR f fd) (XC:Xc K mg aP aR aW aH) (C_is_row:Cal P w K mg base "is_row" 2 ["thing"] j9):FnOk P w K mg base (CX1 P w) 3 f fd ["thing"] (eg aR):=by
  refine Fun.ok1 F lq (fun vs H Q E h=>?_) (fun cdv A outer s H vs Q E hr h=>?_)
  · obtain ⟨d,v,rfl,_⟩:=h;rfl
  obtain ⟨d,v,rfl,hd,q1,q2⟩:=h;refine ⟨_,(@af _ _ _ (@a9 _ _ _ _ _ _ _ _ (@cz _ _ _ _ (@bE _ _ _ (@ag _ _ _ _ _ _ _ _ _ _ _ C_is_row hr (by lia) rfl (@aa _ _ _ _ _ (pv 0) ac (by rfl)) (by decide) (by rfl) (by rfl)) (by intro _;rfl))) (@af _ _ _ (@iP _ _ _ _ _ _ _ _ _ _ rz1 XC.eNoRow rfl rfl XC.mNoRow (by rfl) (by decide))) aE)),?_⟩;refine ⟨_,rfl,d,v,rfl,hd,fun H1 g1=>?_⟩;cases c:bZ d with
  | true=>exact ⟨true,rfl,az (q1 c H1 g1)⟩
  | false=>exact ⟨false,rfl,a8 (q2 c H1 g1)⟩
def d_ (aW:Addr):Sp:=fun vs H Q E=>∃ d v,vs=[v]∧Dat H d v∧(bz d=true→∀ H',Same H H'→Q .non H')∧(bz d=false→∀ H',Same H H'→E (.ref aW) none H')
abbrev eE:Stmt:=top 22
theorem ln:FnScope ["thing"] ["thing"] (ah eE):=⟨rfl,rfl,rfl,by decide +kernel,rfl,by decide +kernel,by decide +kernel⟩
theorem gn {aP aR aW aH:Addr} (F:Fun K "need_way" "need_way" eE f fd) (XC:Xc K mg aP aR aW aH) (C_is_way:Cal P w K mg base "is_way" 2 ["thing"] gg):FnOk P w K mg base (CX1 P w) 3 f fd ["thing"] (d_ aW):=by
  refine Fun.ok1 F ln (fun vs H Q E h=>?_) (fun cdv A outer s H vs Q E hr h=>?_)
  · obtain ⟨d,v,rfl,_⟩:=h;rfl
  obtain ⟨d,v,rfl,hd,q1,q2⟩:=h;refine ⟨_,(@af _ _ _ (@a9 _ _ _ _ _ _ _ _ (@cz _ _ _ _ (@bE _ _ _ (@ag _ _ _ _ _ _ _ _ _ _ _ C_is_way hr (by lia) rfl (@aa _ _ _ _ _ (pv 0) ac (by rfl)) (by decide) (by rfl) (by rfl)) (by intro _;rfl))) (@af _ _ _ (@iP _ _ _ _ _ _ _ _ _ _ rz1 XC.eNoWay rfl rfl XC.mNoWay (by rfl) (by decide))) aE)),?_⟩;refine ⟨_,rfl,d,v,rfl,hd,fun H1 g1=>?_⟩;cases c:bz d with
  | true=>exact ⟨true,rfl,az (q1 c H1 g1)⟩
  | false=>exact ⟨false,rfl,a8 (q2 c H1 g1)⟩
theorem kw {aP aR aW aH:Addr} (F:Fun K "need_way" "need_way" eE f fd) (XC:Xc K mg aP aR aW aH) (C_is_way:Cal P w K mg base "is_way" 2 ["thing"] gg):FnOk P w K mg base CX0 3 f fd ["thing"] gJ:=by
  exact (gn F XC C_is_way).down.imp fun vs H Q E ⟨wy,v,e,h,h9,q⟩=>⟨aI wy,v,e,h.dat,fun _=>q,fun z=>absurd z (tf (mh h9))⟩
def fN (aR:Addr):Sp:=fun vs H Q E=>∃ d v,vs=[v]∧Dat H d v∧(bZ d=true→∃ (a:Addr) (ns:List Int),v=.ref a∧H a=some (.lst (ns.map V.int))∧1≤ns.length∧ns.length≤9∧Small ns∧∀ H',Same H H'→Q (.str (mkS (iO ns))) H')∧(bZ d=false→∀ H',Same H H'→E (.ref aR) none H')
abbrev eA:Stmt:=top 37
theorem li:FnScope ["row"] ["row"] (ah eA):=⟨rfl,rfl,rfl,by decide +kernel,rfl,by decide +kernel,by decide +kernel⟩
theorem gl {aR:Addr} (F:Fun K "row_text" "row_text" eA f fd) (C_need_row:gD P w K mg base "need_row" 3 ["thing"] (eg aR)) (C_write_numbers:Cal P w K mg base "write_numbers" 2 ["numbers"] om):FnOk P w K mg base (CX1 P w) 4 f fd ["row"] (fN aR):=by
  refine Fun.ok1 F li (fun vs H Q E h=>?_) (fun cdv A outer s H vs Q E hr h=>?_)
  · obtain ⟨d,v,rfl,_⟩:=h;rfl
  obtain ⟨d,v,rfl,hd,q1,q2⟩:=h;refine ⟨_,(@ae _ _ _ _ _ (@bC _ _ _ _ (@oy _ _ _ _ _ _ _ _ _ _ _ _ C_need_row tZ hr (by lia) rfl (@aa _ _ _ _ _ (pv 0) ac (by rfl)) (by decide) (by rfl) (by rfl)) (by rfl)) (@af _ _ _ (@ak _ _ _ _ (@ag _ _ _ _ _ _ _ _ _ _ _ C_write_numbers hr (by lia) rfl (@aa _ _ _ _ _ (pv 0) ac (by rfl)) (by decide) (by rfl) (by rfl))))),?_⟩;refine ⟨_,rfl,d,v,rfl,hd,fun c H1 s1=>?_,q2⟩;obtain ⟨a,ns,rfl,e,h1,h9,sm,q⟩:=q1 c;exact ⟨_,rfl,a,ns,rfl,s1 _ _ e,h9,sm,fun H2 s2=>q H2 (s1.trans s2)⟩
theorem ku {aR:Addr} (F:Fun K "row_text" "row_text" eA f fd) (C_need_row:gD P w K mg base "need_row" 3 ["thing"] (eg aR)) (C_write_numbers:Cal P w K mg base "write_numbers" 2 ["numbers"] om):FnOk P w K mg base CX0 4 f fd ["row"] gG:=by
  exact (gl F C_need_row C_write_numbers).down.imp fun vs H Q E ⟨a,ns,e,ea,h1,h9,sm,q⟩=>⟨rD ns,.ref a,e,fz ea,fun _=>⟨a,ns,rfl,ea,h1,h9,sm,q⟩,fun z=>absurd z (tf (qC h1 h9))⟩
def fM (aW:Addr):Sp:=fun vs H Q E=>∃ d v,vs=[v]∧Dat H d v∧(bz d=true→∃ w,WyIn H w v∧w.size≤9∧Small w.nums∧∀ H',Same H H'→Q (.str (mkS w.tx)) H')∧(bz d=false→∀ H',Same H H'→E (.ref aW) none H')
abbrev et:Stmt:=top 38
theorem lh:FnScope ["way"] ["way"] (ah et):=⟨rfl,rfl,rfl,by decide +kernel,rfl,by decide +kernel,by decide +kernel⟩
theorem gk {aW:Addr} (F:Fun K "way_text" "way_text" et f fd) (C_need_way:gD P w K mg base "need_way" 3 ["thing"] (d_ aW)) (C_write_way:Cal P w K mg base "write_way" 12 ["way"] (o3 9)):FnOk P w K mg base (CX1 P w) 13 f fd ["way"] (fM aW):=by
  refine Fun.ok1 F lh (fun vs H Q E h=>?_) (fun cdv A outer s H vs Q E hr h=>?_)
  · obtain ⟨d,v,rfl,_⟩:=h;rfl
  obtain ⟨d,v,rfl,hd,q1,q2⟩:=h;refine ⟨_,(@ae _ _ _ _ _ (@bC _ _ _ _ (@oy _ _ _ _ _ _ _ _ _ _ _ _ C_need_way tZ hr (by lia) rfl (@aa _ _ _ _ _ (pv 0) ac (by rfl)) (by decide) (by rfl) (by rfl)) (by rfl)) (@af _ _ _ (@ak _ _ _ _ (@ag _ _ _ _ _ _ _ _ _ _ _ C_write_way hr (by lia) rfl (@aa _ _ _ _ _ (pv 0) ac (by rfl)) (by decide) (by rfl) (by rfl))))),?_⟩;refine ⟨_,rfl,d,v,rfl,hd,fun c H1 s1=>?_,q2⟩;obtain ⟨wy,hw,h9,hs,q⟩:=q1 c;have dl:=wy.deep_le;exact ⟨_,rfl,wy,v,rfl,hw.mono (Tups.of s1),h9,by lia,hs,fun H2 s2=>q H2 (s1.trans s2)⟩
theorem kn {aW:Addr} (F:Fun K "way_text" "way_text" et f fd) (C_need_way:gD P w K mg base "need_way" 3 ["thing"] (d_ aW)) (C_write_way:Cal P w K mg base "write_way" 12 ["way"] (o3 9)):FnOk P w K mg base CX0 13 f fd ["way"] gF:=by
  exact (gk F C_need_way C_write_way).down.imp fun vs H Q E ⟨wy,v,e,hw,h9,sm,q⟩=>⟨aI wy,v,e,hw.dat,fun _=>⟨wy,hw,h9,sm,q⟩,fun z=>absurd z (tf (mh h9))⟩
def qz (aH:Addr):Sp:=fun vs H Q E=>∃ d v,vs=[v]∧Dat H d v∧(eS d=true→∃ ps qs,HdIn H ps qs v∧Gs ps∧Gs qs∧∀ H',Same H H'→Q (.str (mkS (pT ps qs))) H')∧(eS d=false→∀ H',Same H H'→E (.ref aH) none H')
abbrev de:Stmt:=top 39
theorem cI:FnScope ["holds","held","barred","words"] ["holds"] (ah de):=⟨rfl,rfl,rfl,by decide +kernel,rfl,by decide +kernel,by decide +kernel⟩
theorem fq {t3 t4:Tok} {aP aR aW aH:Addr} (F:Fun K "holds_text" "holds_text" de f fd) (B:Bu K mg) (B3:Cq K mg t3 t4) (XC:Xc K mg aP aR aW aH) (C_is_holds:Cal P w K mg base "is_holds" 4 ["thing","many"] eh) (C_write_stretch:Cal P w K mg base "write_stretch" 1 ["stretch"] qv):FnOk P w K mg base (CX1 P w) 5 f fd ["holds"] (qz aH):=by
  refine Fun.ok1 F cI (fun vs H Q E h=>?_) (fun cdv A outer s H vs Q E hr h=>?_)
  · obtain ⟨d,v,rfl,_⟩:=h;rfl
  obtain ⟨d,v,rfl,hd,q1,q2⟩:=h;refine ⟨_,(@ae _ _ _ _ _ (@a9 _ _ _ _ _ _ _ _ (@cz _ _ _ _ (@bE _ _ _ (@ag _ _ _ _ _ _ _ _ _ _ _ C_is_holds hr (by lia) rfl (@aa _ _ _ _ _ (pv 0) (@aa _ _ _ _ _ (@aZ _ _ (.int 9) _ _ rfl B3.gMOST_NUMBERS ⟨_,rfl⟩ (by decide)) ac (by rfl)) (by rfl)) (by decide) (by rfl) (by rfl)) (by intro _;rfl))) (@af _ _ _ (@iP _ _ _ _ _ _ _ _ _ _ rz1 XC.eNoHolds rfl rfl XC.mNoHolds (by rfl) (by decide))) aE) (PSs.nox (ae (fk (pv 0) (eK rfl (aV (au (i:=1) (hf:=.inl rfl) (cI).nd rfl (Or.inl rfl)) (aV (au (i:=2) (hf:=.inl rfl) (cI).nd rfl (Or.inl rfl)) cJ)))) (ae (ao (i:=3) (cI).nd rfl (Or.inl rfl) (al bj (al bj (eQ (NY:=["stretch"]) (cap:=[none]) rfl (bT (pv 1)) rfl trivial trivial (fun _ _ _ _=>⟨(au (i:=0) (hf:=.inr rfl) (show aa6 (["stretch"]:List Str) by decide +kernel) rfl (Or.inl rfl)),bi,(ag C_write_stretch hr (by lia) rfl (aa (pv 0) ac))⟩)) (ar (aa aj ac))) (eQ (NY:=["stretch"]) (cap:=[none]) rfl (bT (pv 2)) rfl trivial trivial (fun _ _ _ _=>⟨(au (i:=0) (hf:=.inr rfl) (show aa6 (["stretch"]:List Str) by decide +kernel) rfl (Or.inl rfl)),bi,(ag C_write_stretch hr (by lia) rfl (aa (pv 0) ac))⟩)))) (af (ak (cA aaS ab8 ab9 ib aj (aa (pv 3) ac)))))))),?_⟩;refine ⟨_,rfl,d,v,rfl,hd,fun H1 s1=>?_⟩;cases c:eS d with
  | false=>exact ⟨false,rfl,a8 (q2 c H1 s1)⟩
  | true =>
  refine ⟨true,rfl,az ?_⟩;obtain ⟨ps,qs,hd',g1,g2,q⟩:=q1 c;obtain ⟨a,x,y,rfl,ha,⟨ax,ux,rfl,eax,px⟩,⟨ay,uy,rfl,eay,py⟩⟩:=hd'.mono s1;refine ⟨_,rfl,a,_,rfl,SqT.of ha,rfl,_,_,rfl,_,_,rfl,rfl,?_⟩;have hz:=og ps qs g1.1 g2.1;have lx:=px.length;have ly:=py.length;have c1:=g1.1;have c2:=g2.1;refine ⟨_,rfl,ax,rfl,⟨_,SqL.of eax⟩,?_⟩;refine eR (Trn.list (xs:=ux)) (fun i ys H'=>H'=H1∧ys=(ps.take i).map stV) ⟨rfl,rfl⟩ (fun i ys H' hi p=>by rw [p.1,p.2];exact ⟨SqL.of eax,aC (by simp;lia)⟩) (fun i z ys H0 H' hi hx p Nx nx=>?_) (fun ys H' p p5 n5=>?_)
  · obtain ⟨rfl,rfl⟩:=p;obtain ⟨rfl,hx⟩:=hx;obtain ⟨p,hpi,hpp⟩:=fm px hx;refine ⟨_,rfl,p,_,rfl,hpp,(g1.2 p (aaK hpi)).r,nx _ _ ⟨rfl,?_⟩⟩;rw [aaR,hpi,aaC];rfl
  obtain ⟨rfl,rfl⟩:=p;rw [← lx,aa9];have s5:=Same.new n5 (.lst (ps.map stV));have e5:upd H' p5 (.lst (ps.map stV)) p5=some (.lst (ps.map stV)):=upd_same;generalize upd H' p5 (.lst (ps.map stV))=H2 at s5 e5 ⊢;refine ⟨(by show 1≤sizeLine;decide),fun p6 n6=>?_⟩;have s6:=Same.new n6 (.lst [V.str "/"]);refine ⟨p5,p6,_,_,rfl,rfl,s6 _ _ e5,upd_same,av (by show _+1≤1000;rw [aak];lia),fun p7 n7=>?_⟩;have s7:=Same.new n7 (.lst (ps.map stV++[V.str "/"]));have e7:upd (upd H2 p6 (.lst [V.str "/"])) p7 (.lst (ps.map stV++[V.str "/"])) p7=some (.lst (ps.map stV++[V.str "/"])):=upd_same;have S7:=(s5.trans s6).trans s7;generalize upd (upd H2 p6 (.lst [V.str "/"])) p7 (.lst (ps.map stV++[V.str "/"]))=H3 at S7 e7 ⊢;have eay3:=S7 _ _ eay;have py3:=PairsIn.mono (Tups.of S7) py;refine ⟨_,rfl,ay,rfl,⟨_,SqL.of eay3⟩,?_⟩;refine eR (Trn.list (xs:=uy)) (fun i ys H'=>H'=H3∧ys=(qs.take i).map stV) ⟨rfl,rfl⟩ (fun i ys H' hi p=>by rw [p.1,p.2];exact ⟨SqL.of eay3,aC (by simp;lia)⟩) (fun i z ys H0 H' hi hx p Nx nx=>?_) (fun ys H' p p8 n8=>?_)
  · obtain ⟨rfl,rfl⟩:=p;obtain ⟨rfl,hx⟩:=hx;obtain ⟨p,hpi,hpp⟩:=fm py3 hx;refine ⟨_,rfl,p,_,rfl,hpp,(g2.2 p (aaK hpi)).r,nx _ _ ⟨rfl,?_⟩⟩;rw [aaR,hpi,aaC];rfl
  obtain ⟨rfl,rfl⟩:=p;rw [← ly,aa9];have s8:=Same.new n8 (.lst (qs.map stV));refine ⟨p7,p8,_,_,rfl,rfl,s8 _ _ e7,upd_same,av (by rw [aae,aak,aak];show _+1+_≤1000;lia),fun p9 n9=>?_⟩;have s9:=Same.new n9 (.lst (ps.map stV++[V.str "/"]++qs.map stV));have ew:ps.map stV++[V.str "/"]++qs.map stV=((wds ps qs).map mkS).map V.str:=by rw [jE];exact qe ps qs
  refine ⟨rfl,_,rfl,_,p9,_,rfl,rfl,SqL.of (upd_same.trans (congrArg some (congrArg HO.lst ew))),?_,?_⟩
  · rw [cT];exact jc _ (by lia)
  · rw [cT,kO];exact q _ ((s1.trans S7).trans (s8.trans s9))
theorem iV {t3 t4:Tok} {aP aR aW aH:Addr} (F:Fun K "holds_text" "holds_text" de f fd) (B:Bu K mg) (B3:Cq K mg t3 t4) (XC:Xc K mg aP aR aW aH) (C_is_holds:Cal P w K mg base "is_holds" 4 ["thing","many"] eh) (C_write_stretch:Cal P w K mg base "write_stretch" 1 ["stretch"] qv):FnOk P w K mg base CX0 5 f fd ["holds"] uF:=by
  exact (fq F B B3 XC C_is_holds C_write_stretch).down.imp fun vs H Q E ⟨ps,qs,v,e,hh,g1,g2,q⟩=>⟨hD ps qs,v,e,hh.dat,fun _=>⟨ps,qs,hh,g1,g2,q⟩,fun z=>absurd z (tf (ub g1 g2))⟩
end
open PySem L2
structure Xk (mg:Str→Option Value) (aR aS aW aN aL aF aO aA aH aT aM:Addr):Prop where
  mNoRow:mg "NoRow" = some (.ref aR)
  mNoSigns:mg "NoSigns" = some (.ref aS)
  mNoWay:mg "NoWay" = some (.ref aW)
  mNoNumber:mg "NoNumber" = some (.ref aN)
  mNoPlace:mg "NoPlace" = some (.ref aL)
  mNoFit:mg "NoFit" = some (.ref aF)
  mNoForm:mg "NoForm" = some (.ref aO)
  mNoAsk:mg "NoAsk" = some (.ref aA)
  mNoHolds:mg "NoHolds" = some (.ref aH)
  mNoText:mg "NoText" = some (.ref aT)
  mTooMany:mg "TooMany" = some (.ref aM)
  iValueError:mg "ValueError" = none
structure Kx (K:aaa) (C:Addr):Prop where
  ex:ExC K C
  kv:aaE K (.ref C) (.type "ValueError")=some true
structure Kg (K:aaa) (aR aS aW aN aL aF aO aA aH aT aM:Addr) (t:Value) (j:Nat):Prop where
  k0:aaE K t (.ref aR)=some (decide (j=0))
  k1:aaE K t (.ref aS)=some (decide (j=1))
  k2:aaE K t (.ref aW)=some (decide (j=2))
  k3:aaE K t (.ref aN)=some (decide (j=3))
  k4:aaE K t (.ref aH)=some (decide (j=4))
  k5:aaE K t (.ref aM)=some (decide (j=5))
  k6:aaE K t (.ref aT)=some (decide (j=6))
  ko:PySem.W.kitAny K t [.ref aA,.ref aF,.ref aO,.ref aL]=some false
def nZ:List V:=[.str "NoRow",.str "NoSigns",.str "NoWay",.str "NoNumber",.str "NoHolds",.str "TooMany",.str "NoText"]
def oZ (j:Nat):List Bool:=[decide (j=0),decide (j=1),decide (j=2),decide (j=3),decide (j=4),decide (j=5),decide (j=6)]
theorem qf:∀ j,j < 7→(oZ j).countP id=1:=by decide
theorem vS:∀ j,j < 7→(oZ j)[j]?=some true∧∀ m,m < j→(oZ j)[m]?=some false:=by decide
theorem uq {a b c d:Addr} {us:List Value} (r:Vals [.ref a,.ref b,.ref c,.ref d] us):us=[.ref a,.ref b,.ref c,.ref d]:=by
  cases r with
  | cons p r=>cases r with
    | cons p' r=>cases r with
      | cons p'' r=>cases r with
        | cons p3 r=>cases r;cases p;cases p';cases p'';cases p3;rfl
def qt (K:aaa) (aR aS aW aN aL aF aO aA aH aT aM:Addr):Sp:=fun vs H Q _=>∃ (x:V) (t:Value) (j:Nat) (nm:Str),vs=[x]∧CauT K H x t∧Kg K aR aS aW aN aL aF aO aA aH aT aM t j∧j < 7∧aaE K t (.type "ValueError")=some true∧nZ[j]?=some (.str nm)∧∀ H',Same H H'→Q (.str nm) H'
def PrD (d:PyData):Prop:=d.showable=true∧d.depth≤50∧d.shown.length≤100000
theorem lw {d:PyData} (h:OkD d) (hs:szD d≤900) (hd:d.depth≤50):PrD d:=by
  have:=mX d h;exact ⟨oz d h,hd,by lia⟩
def nmK (k:Int):Str:=if k=0 then "NoRow" else if k=1 then "NoWay" else "NoHolds"
def isK (k:Int) (d:PyData):Bool:=if k=0 then bZ d else if k=1 then bz d else eS d
def OkR (H:Hp) (d:PyData) (v:V):Prop:=bZ d=true→∃ (a:Addr) (ns:List Int),v=.ref a∧H a=some (.lst (ns.map V.int))∧1≤ns.length∧ns.length≤9∧Small ns
def OkW (H:Hp) (d:PyData) (v:V):Prop:=bz d=true→∃ w,WyIn H w v∧w.size≤9∧Small w.nums
def OkH (H:Hp) (d:PyData) (v:V):Prop:=eS d=true→∃ ps qs,HdIn H ps qs v∧Gs ps∧Gs qs
def OkK (k:Int) (H:Hp) (d:PyData) (v:V):Prop:=(k=0∧OkR H d v)∨(k=1∧OkW H d v)∨(k=2∧OkH H d v)
def mz:Sp:=fun vs H Q _=>∃ k d v,vs=[.int k,v]∧Dat H d v∧PrD d∧OkK k H d v∧∀ H',Same H H'→Q (.str (if isK k d=true then "told" else nmK k)) H'
section
variable {P:Program} {w:World} {K:aaa} {mg:Str→Option Value} {base:Heap} {f:Addr} {fd:FuncData}
abbrev e_:Stmt:=top 63
theorem da:FnScope ["caught","kinds","odd"] ["caught"] (ah e_):=⟨rfl,rfl,rfl,by decide +kernel,rfl,by decide +kernel,by decide +kernel⟩
theorem sT {aR aS aW aN aL aF aO aA aH aT aM:Addr} (F:Fun K "_law_word" "_law_word" e_ f fd) (B:Bu K mg) (XK:Xk mg aR aS aW aN aL aF aO aA aH aT aM):FnOk P w K mg base CX0 1 f fd ["caught"] (qt K aR aS aW aN aL aF aO aA aH aT aM):=by
  refine F.ok da (fun vs H Q E h=>?_) (fun cdv A outer s H vs Q E hr h=>?_)
  · obtain ⟨x,t,j,nm,rfl,_⟩:=h;rfl
  obtain ⟨x,t,j,nm,rfl,hx,kf,j7,kv,hn,q⟩:=h;refine ⟨_,(@ae _ _ _ _ _ (@ao _ _ (1) _ _ _ _ (da).nd rfl (Or.inl rfl) (@ar _ _ _ _ (@aa _ _ _ _ _ (@am _ _ _ _ _ _ _ _ _ bw rfl B.iisinstance aal (@aa _ _ _ _ _ (pv 0) (@aa _ _ _ _ _ (@aZ _ _ (.ref aR) _ _ rfl XK.mNoRow rfl (by decide)) ac (by rfl)) (by rfl)) (by decide) (by decide) (by rfl) (by rfl)) (@aa _ _ _ _ _ (@am _ _ _ _ _ _ _ _ _ bw rfl B.iisinstance aal (@aa _ _ _ _ _ (pv 0) (@aa _ _ _ _ _ (@aZ _ _ (.ref aS) _ _ rfl XK.mNoSigns rfl (by decide)) ac (by rfl)) (by rfl)) (by decide) (by decide) (by rfl) (by rfl)) (@aa _ _ _ _ _ (@am _ _ _ _ _ _ _ _ _ bw rfl B.iisinstance aal (@aa _ _ _ _ _ (pv 0) (@aa _ _ _ _ _ (@aZ _ _ (.ref aW) _ _ rfl XK.mNoWay rfl (by decide)) ac (by rfl)) (by rfl)) (by decide) (by decide) (by rfl) (by rfl)) ac (by rfl)) (by rfl)) (by rfl))) (by rfl) (by first|exact .inl rfl|exact .inr rfl|assumption)) (@ae _ _ _ _ _ (@ao _ _ (1) _ _ _ _ (da).nd rfl (Or.inl rfl) (@al _ _ _ _ _ _ _ _ bj (pv 1) (@ar _ _ _ _ (@aa _ _ _ _ _ (@am _ _ _ _ _ _ _ _ _ bw rfl B.iisinstance aal (@aa _ _ _ _ _ (pv 0) (@aa _ _ _ _ _ (@aZ _ _ (.ref aN) _ _ rfl XK.mNoNumber rfl (by decide)) ac (by rfl)) (by rfl)) (by decide) (by decide) (by rfl) (by rfl)) (@aa _ _ _ _ _ (@am _ _ _ _ _ _ _ _ _ bw rfl B.iisinstance aal (@aa _ _ _ _ _ (pv 0) (@aa _ _ _ _ _ (@aZ _ _ (.ref aH) _ _ rfl XK.mNoHolds rfl (by decide)) ac (by rfl)) (by rfl)) (by decide) (by decide) (by rfl) (by rfl)) (@aa _ _ _ _ _ (@am _ _ _ _ _ _ _ _ _ bw rfl B.iisinstance aal (@aa _ _ _ _ _ (pv 0) (@aa _ _ _ _ _ (@aZ _ _ (.ref aM) _ _ rfl XK.mTooMany rfl (by decide)) ac (by rfl)) (by rfl)) (by decide) (by decide) (by rfl) (by rfl)) ac (by rfl)) (by rfl)) (by rfl)))) (by rfl) (by first|exact .inl rfl|exact .inr rfl|assumption)) (@ae _ _ _ _ _ (@bC _ _ _ _ (@cA _ _ _ _ _ _ _ _ _ _ _ _ aaH aa1 aa2 cF (pv 1) (@aa _ _ _ _ _ (@am _ _ _ _ _ _ _ _ _ bw rfl B.iisinstance aal (@aa _ _ _ _ _ (pv 0) (@aa _ _ _ _ _ (@aZ _ _ (.ref aT) _ _ rfl XK.mNoText rfl (by decide)) ac (by rfl)) (by rfl)) (by decide) (by decide) (by rfl) (by rfl)) ac (by rfl)) (by rfl) (by rfl) (by rfl) (by rfl) (by rfl)) (by rfl)) (@ae _ _ _ _ _ (@ao _ _ (2) _ _ _ _ (da).nd rfl (Or.inl rfl) (@am _ _ _ _ _ _ _ _ _ jz rfl B.iisinstance aal (@aa _ _ _ _ _ (pv 0) (@aa _ _ _ _ _ (@aq _ _ _ _ _ (@aa _ _ _ _ _ (@aZ _ _ (.ref aA) _ _ rfl XK.mNoAsk rfl (by decide)) (@aa _ _ _ _ _ (@aZ _ _ (.ref aF) _ _ rfl XK.mNoFit rfl (by decide)) (@aa _ _ _ _ _ (@aZ _ _ (.ref aO) _ _ rfl XK.mNoForm rfl (by decide)) (@aa _ _ _ _ _ (@aZ _ _ (.ref aL) _ _ rfl XK.mNoPlace rfl (by decide)) ac (by rfl)) (by rfl)) (by rfl)) (by rfl))) ac (by rfl)) (by rfl)) (by decide) (by decide) (by rfl) (by rfl)) (by rfl) (by first|exact .inl rfl|exact .inr rfl|assumption)) (@ae _ _ _ _ _ (@a9 _ _ _ _ _ _ _ _ (@PW.pt _ _ _ (@cO _ _ _ _ _ _ _ (@gj _ _ _ (pv 2) (fun _=>rfl)) (@cO _ _ _ _ _ _ _ (@ap _ _ _ _ _ _ _ _ ia (@cA _ _ _ _ _ _ _ _ _ _ _ _ aaH PySem.F.slot_list_count PySem.F.type_list_count (@pG _ hr.units) (pv 1) (@aa _ _ _ _ _ cb ac (by rfl)) (by rfl) (by rfl) (by rfl) (by rfl) (by rfl)) ad (aw _)) (@cy _ _ _ _ (@cz _ _ _ _ (@bE _ _ _ (@am _ _ _ _ _ _ _ _ _ bw rfl B.iisinstance aal (@aa _ _ _ _ _ (pv 0) (@aa _ _ _ _ _ (@cB _ _ (.ty "ValueError") _ _ rfl XK.iValueError (by decide +kernel) rfl (by decide) (by decide)) ac (by rfl)) (by rfl)) (by decide) (by decide) (by rfl) (by rfl)) (by intro _;rfl))))))) (@af _ _ _ (@ak _ _ _ _ aj)) aE) (@af _ _ _ (@ak _ _ _ _ (@bn _ _ _ _ _ _ _ ix_list (@ar _ _ _ _ (@aa _ _ _ _ _ aj (@aa _ _ _ _ _ aj (@aa _ _ _ _ _ aj (@aa _ _ _ _ _ aj (@aa _ _ _ _ _ aj (@aa _ _ _ _ _ aj (@aa _ _ _ _ _ aj ac (by rfl)) (by rfl)) (by rfl)) (by rfl)) (by rfl)) (by rfl)) (by rfl))) (@cA _ _ _ _ _ _ _ _ _ _ _ _ aaH PySem.F.slot_list_index PySem.F.type_list_index (@pE _ hr.units) (pv 1) (@aa _ _ _ _ _ cb ac (by rfl)) (by rfl) (by rfl) (by rfl) (by rfl) (by rfl)) (fun _ _=>rfl))))))))),?_⟩;refine ⟨_,rfl,x,_,t,_,_,rfl,hx,fun _ z=>z,kf.k0,_,rfl,x,_,t,_,_,rfl,hx,fun _ z=>z,kf.k1,_,rfl,x,_,t,_,_,rfl,hx,fun _ z=>z,kf.k2,(by show 3≤sizeLine;decide),fun pk nk=>?_⟩;have g1:=Same.new nk (.lst [.bl (decide (j=0)),.bl (decide (j=1)),.bl (decide (j=2))]);have ek1:upd H pk (.lst [.bl (decide (j=0)),.bl (decide (j=1)),.bl (decide (j=2))]) pk=_:=upd_same;generalize upd H pk (.lst [.bl (decide (j=0)),.bl (decide (j=1)),.bl (decide (j=2))])=H1 at g1 ek1 ⊢;have hx1:=hx.mono g1;refine ⟨_,rfl,_,rfl,x,_,t,_,_,rfl,hx1,fun _ z=>z,kf.k3,_,rfl,x,_,t,_,_,rfl,hx1,fun _ z=>z,kf.k4,_,rfl,x,_,t,_,_,rfl,hx1,fun _ z=>z,kf.k5,(by show 3≤sizeLine;decide),fun pl nl=>?_⟩;have g2:=Same.new nl (.lst [.bl (decide (j=3)),.bl (decide (j=4)),.bl (decide (j=5))]);have ek2:upd H1 pl (.lst [.bl (decide (j=3)),.bl (decide (j=4)),.bl (decide (j=5))]) pl=_:=upd_same;have ek1':=g2 _ _ ek1;generalize upd H1 pl (.lst [.bl (decide (j=3)),.bl (decide (j=4)),.bl (decide (j=5))])=H2 at g2 ek2 ek1' ⊢;refine ⟨pk,pl,_,_,rfl,rfl,ek1',ek2,(by show 6≤sizeLine;decide),fun pm nm'=>?_⟩;have g3:=Same.new nm' (.lst ([.bl (decide (j=0)),.bl (decide (j=1)),.bl (decide (j=2))]++[.bl (decide (j=3)),.bl (decide (j=4)),.bl (decide (j=5))]));have ek:upd H2 pm (.lst ([.bl (decide (j=0)),.bl (decide (j=1)),.bl (decide (j=2))]++[.bl (decide (j=3)),.bl (decide (j=4)),.bl (decide (j=5))])) pm=some (.lst [.bl (decide (j=0)),.bl (decide (j=1)),.bl (decide (j=2)),.bl (decide (j=3)),.bl (decide (j=4)),.bl (decide (j=5))]):=upd_same;have G2:=g1.trans g2;have nm0:H pm=none:=G2.free nm';have G3:=G2.trans g3;generalize upd H2 pm (.lst ([.bl (decide (j=0)),.bl (decide (j=1)),.bl (decide (j=2))]++[.bl (decide (j=3)),.bl (decide (j=4)),.bl (decide (j=5))]))=H3 at g3 ek G3 ⊢;refine ⟨_,rfl,.inl ⟨rfl,_,SqL.of ek⟩,_,rfl,x,_,t,_,_,rfl,(hx.mono G3),fun _ z=>z,kf.k6,pm,_,_,rfl,rfl,ek,(by show 6 < sizeLine;decide),?_⟩;have G4:=G3.upd (o:=.lst ([.bl (decide (j=0)),.bl (decide (j=1)),.bl (decide (j=2)),.bl (decide (j=3)),.bl (decide (j=4)),.bl (decide (j=5))]++[.bl (decide (j=6))])) nm0;have ek4:upd H3 pm (.lst ([.bl (decide (j=0)),.bl (decide (j=1)),.bl (decide (j=2)),.bl (decide (j=3)),.bl (decide (j=4)),.bl (decide (j=5))]++[.bl (decide (j=6))])) pm=some (.lst ((oZ j).map V.bl)):=upd_same;generalize upd H3 pm (.lst ([.bl (decide (j=0)),.bl (decide (j=1)),.bl (decide (j=2)),.bl (decide (j=3)),.bl (decide (j=4)),.bl (decide (j=5))]++[.bl (decide (j=6))]))=H4 at G4 ek4 ⊢;refine ⟨_,rfl,(by show 4≤sizeLine;decide),fun p1 n1=>⟨x,p1,_,t,_,false,rfl,(hx.mono G4).mono (Same.new n1 _),upd_same,fun _ r=>uq r,kf.ko,?_⟩⟩;have G5:=G4.trans (Same.new n1 (.tup [.ref aA,.ref aF,.ref aO,.ref aL]));have ek5:=(Same.new n1 (.tup [.ref aA,.ref aF,.ref aO,.ref aL])) _ _ ek4;generalize upd H4 p1 (.tup [.ref aA,.ref aF,.ref aO,.ref aL])=H5 at G5 ek5 ⊢;have hx5:=hx.mono G5;refine ⟨_,rfl,false,rfl,az ?_⟩;refine ⟨_,rfl,.inl ⟨rfl,_,SqL.of ek5⟩,pm,oZ j,rfl,rfl,SqL.of ek5,?_⟩;rw [qf j j7];refine ⟨rfl,_,rfl,wK rfl ?_⟩;refine ⟨_,rfl,x,_,t,_,_,rfl,hx5,fun _ z=>z,kv,true,rfl,az ?_⟩;refine ⟨(by show 7≤sizeLine;decide),fun pn nn=>?_⟩;have g7:=Same.new nn (.lst nZ);obtain ⟨k1,k2⟩:=vS j j7;refine ⟨_,rfl,.inl ⟨rfl,_,SqL.of (g7 _ _ ek5)⟩,pm,oZ j,j,rfl,rfl,SqL.of (g7 _ _ ek5),k1,k2,(by show 7≤1000;decide),?_⟩;exact ⟨pn,_,_,_,rfl,rfl,SqL.of upd_same,gB hn,q _ (G5.trans g7)⟩
abbrev fc:Stmt:=top 68
theorem cx:FnScope ["kind","thing","caught","kept","e"] ["kind","thing"] (ah fc):=⟨rfl,rfl,rfl,by decide +kernel,rfl,by decide +kernel,by decide +kernel⟩
theorem sV {aP aR aS aW aN aL aF aO aA aH aT aM:Addr} (F:Fun K "_law_said" "_law_said" fc f fd) (B:Bu K mg) (XC:Xc K mg aP aR aW aH) (E0:Kg K aR aS aW aN aL aF aO aA aH aT aM (.ref aR) 0) (E2:Kg K aR aS aW aN aL aF aO aA aH aT aM (.ref aW) 2) (E4:Kg K aR aS aW aN aL aF aO aA aH aT aM (.ref aH) 4) (X0:Kx K aR) (X2:Kx K aW) (X4:Kx K aH)
    (C_row_text:gD P w K mg base "row_text" 4 ["row"] (fN aR)) (C_way_text:gD P w K mg base "way_text" 13 ["way"] (fM aW)) (C_holds_text:gD P w K mg base "holds_text" 5 ["holds"] (qz aH)) (C__law_word:Cal P w K mg base "_law_word" 1 ["caught"] (qt K aR aS aW aN aL aF aO aA aH aT aM)):FnOk P w K mg base CX0 14 f fd ["kind","thing"] mz:=by
  refine F.ok cx (fun vs H Q E h=>?_) (fun cdv A outer s H vs Q E hr h=>?_)
  · obtain ⟨k,d,v,rfl,_⟩:=h;rfl
  obtain ⟨k,d,v,rfl,hd,⟨s1,s2',s3'⟩,ok,q⟩:=h;refine ⟨_,(@ae _ _ _ _ _ (@ao _ _ (2) _ _ _ _ (cx).nd rfl (Or.inl rfl) bg (by rfl) (by first|exact .inl rfl|exact .inr rfl|assumption)) (@ae _ _ _ _ _ (@ao _ _ (3) _ _ _ _ (cx).nd rfl (Or.inl rfl) (@am _ _ _ _ _ _ _ _ _ (@jP _ hr.gd hr.units) rfl B.irepr PyProof.Rows.boot_repr (@aa _ _ _ _ _ (pv 1) ac (by rfl)) (by decide) (by decide) (by rfl) (by rfl)) (by rfl) (by first|exact .inl rfl|exact .inr rfl|assumption)) (@ae _ _ _ _ _ (@uL _ _ _ _ (4) _ _ _ _ _ _ _ _ rfl rfl rfl rfl XC.mPutError (cx).nd rfl rfl (fun _ _=>(af (a9 (ap bV (pv 0) ad (aw _)) (af (bC (kl C_row_text rfl hr (by lia) rfl (aa (pv 1) ac)))) (af (a9 (ap bV (pv 0) ad (aw _)) (af (bC (kl C_way_text rfl hr (by lia) rfl (aa (pv 1) ac)))) (af (bC (kl C_holds_text rfl hr (by lia) rfl (aa (pv 1) ac))))))))) (fun _=>(af (ao (i:=2) (cx).nd rfl (Or.inl rfl) (pv 4)))) (by decide)) (@ae _ _ _ _ _ (@a9 _ _ _ _ _ _ _ _ (@ap _ _ _ _ _ _ _ _ ia (@am _ _ _ _ _ _ _ _ _ (@jP _ hr.gd hr.units) rfl B.irepr PyProof.Rows.boot_repr (@aa _ _ _ _ _ (pv 1) ac (by rfl)) (by decide) (by decide) (by rfl) (by rfl)) (pv 3) (aw _)) (@af _ _ _ (@ak _ _ _ _ aj)) aE) (@af _ _ _ (@ak _ _ _ _ (@cP _ _ _ _ _ _ _ _ (@ap _ _ _ _ _ _ _ _ fZ (pv 2) bg (aw _)) aj (@ag _ _ _ _ _ _ _ _ _ _ _ C__law_word hr (by lia) rfl (@aa _ _ _ _ _ (pv 2) ac (by rfl)) (by decide) (by rfl) (by rfl))))))))),?_⟩;have s2:d.depth≤60:=by lia
  have s3:d.shown.length≤sizeLine:=aaZ s3' (by rw [sizeLine_eq];decide);obtain ⟨kt,hkt⟩:∃ kt,d.shown=kt:=⟨_,rfl⟩
  refine ⟨_,rfl,_,_,rfl,hd,s1,s2,s3,?_⟩;rw [hkt];rcases ok with ⟨rfl,ok⟩|⟨rfl,ok⟩|⟨rfl,ok⟩
  · refine ⟨_,rfl,rfl,true,rfl,a8 ⟨_,rfl,d,v,rfl,hd,fun c=>?_,fun c H1 g1 C hC=>by
    cases hC;refine ⟨XC.uNoRow,fun ea ne=>?_⟩;refine ⟨_,rfl,?_⟩;have ee:upd H1 ea (cH ea aR) ea=some (cH ea aR):=upd_same;have g2:=g1.trans (Same.new ne (cH ea aR));generalize upd H1 ea (cH ea aR)=H2 at g2 ee ⊢;refine ⟨_,rfl,_,_,rfl,Dat.mono g2 _ _ hd,s1,s2,s3,?_⟩;rw [hkt];refine ⟨_,rfl,rfl,_,rfl,fG (fun zz=>absurd zz (by simp)) (fun _=>?_)⟩;refine ⟨_,rfl,rfl,_,rfl,ii (fun z=>nomatch z) ?_⟩;refine ⟨_,rfl,.ref ea,.ref aR,0,"NoRow",rfl,.inr ⟨ea,aR,rfl,ee,X0.ex,rfl⟩,E0,by decide,X0.kv,rfl,fun H5 g5=>?_⟩;have z:=q H5 (g2.trans g5);rw [if_neg (show ¬ isK 0 d=true from fun zz=>by rw [show isK 0 d=bZ d from rfl,c] at zz;cases zz)] at z;exact z⟩⟩
    obtain ⟨a,ns,e,h1,h2,h3,h4⟩:=ok c;exact ⟨a,ns,e,h1,h2,h3,h4,fun H2 g2=>by
    refine ⟨_,rfl,_,_,rfl,Dat.mono g2 _ _ hd,s1,s2,s3,?_⟩;rw [hkt];refine ⟨_,rfl,rfl,_,rfl,fG (fun zz=>absurd zz (by simp)) (fun _=>?_)⟩;refine ⟨_,rfl,rfl,_,rfl,ig rfl ?_⟩;have z:=q H2 g2;rw [if_pos (show isK 0 d=true from c)] at z;exact z⟩
  · refine ⟨_,rfl,rfl,false,rfl,az ⟨_,rfl,rfl,true,rfl,a8 ⟨_,rfl,d,v,rfl,hd,fun c=>?_,fun c H1 g1 C hC=>by
    cases hC;refine ⟨XC.uNoWay,fun ea ne=>?_⟩;refine ⟨_,rfl,?_⟩;have ee:upd H1 ea (cH ea aW) ea=some (cH ea aW):=upd_same;have g2:=g1.trans (Same.new ne (cH ea aW));generalize upd H1 ea (cH ea aW)=H2 at g2 ee ⊢;refine ⟨_,rfl,_,_,rfl,Dat.mono g2 _ _ hd,s1,s2,s3,?_⟩;rw [hkt];refine ⟨_,rfl,rfl,_,rfl,fG (fun zz=>absurd zz (by simp)) (fun _=>?_)⟩;refine ⟨_,rfl,rfl,_,rfl,ii (fun z=>nomatch z) ?_⟩;refine ⟨_,rfl,.ref ea,.ref aW,2,"NoWay",rfl,.inr ⟨ea,aW,rfl,ee,X2.ex,rfl⟩,E2,by decide,X2.kv,rfl,fun H5 g5=>?_⟩;have z:=q H5 (g2.trans g5);rw [if_neg (show ¬ isK 1 d=true from fun zz=>by rw [show isK 1 d=bz d from rfl,c] at zz;cases zz)] at z;exact z⟩⟩⟩
    obtain ⟨wy,h1,h2,h3⟩:=ok c;exact ⟨wy,h1,h2,h3,fun H2 g2=>by
    refine ⟨_,rfl,_,_,rfl,Dat.mono g2 _ _ hd,s1,s2,s3,?_⟩;rw [hkt];refine ⟨_,rfl,rfl,_,rfl,fG (fun zz=>absurd zz (by simp)) (fun _=>?_)⟩;refine ⟨_,rfl,rfl,_,rfl,ig rfl ?_⟩;have z:=q H2 g2;rw [if_pos (show isK 1 d=true from c)] at z;exact z⟩
  · refine ⟨_,rfl,rfl,false,rfl,az ⟨_,rfl,rfl,false,rfl,az ⟨_,rfl,d,v,rfl,hd,fun c=>?_,fun c H1 g1 C hC=>by
    cases hC;refine ⟨XC.uNoHolds,fun ea ne=>?_⟩;refine ⟨_,rfl,?_⟩;have ee:upd H1 ea (cH ea aH) ea=some (cH ea aH):=upd_same;have g2:=g1.trans (Same.new ne (cH ea aH));generalize upd H1 ea (cH ea aH)=H2 at g2 ee ⊢;refine ⟨_,rfl,_,_,rfl,Dat.mono g2 _ _ hd,s1,s2,s3,?_⟩;rw [hkt];refine ⟨_,rfl,rfl,_,rfl,fG (fun zz=>absurd zz (by simp)) (fun _=>?_)⟩;refine ⟨_,rfl,rfl,_,rfl,ii (fun z=>nomatch z) ?_⟩;refine ⟨_,rfl,.ref ea,.ref aH,4,"NoHolds",rfl,.inr ⟨ea,aH,rfl,ee,X4.ex,rfl⟩,E4,by decide,X4.kv,rfl,fun H5 g5=>?_⟩;have z:=q H5 (g2.trans g5);rw [if_neg (show ¬ isK 2 d=true from fun zz=>by rw [show isK 2 d=eS d from rfl,c] at zz;cases zz)] at z;exact z⟩⟩⟩
    obtain ⟨ps,qs,h1,h2,h3⟩:=ok c;exact ⟨ps,qs,h1,h2,h3,fun H2 g2=>by
    refine ⟨_,rfl,_,_,rfl,Dat.mono g2 _ _ hd,s1,s2,s3,?_⟩;rw [hkt];refine ⟨_,rfl,rfl,_,rfl,fG (fun zz=>absurd zz (by simp)) (fun _=>?_)⟩;refine ⟨_,rfl,rfl,_,rfl,ig rfl ?_⟩;have z:=q H2 g2;rw [if_pos (show isK 2 d=true from c)] at z;exact z⟩
end
open PySem L2
theorem bG:∀ {ns:List Int},Small ns→OkAll (ns.map PyData.int)
  | [],_=>by simp only [abl,OkAll]
  | i :: ns,h=>by
    simp only [aax,OkAll,OkD];have:=h i aav;have z:(10:Nat) ^ 13=10000000000000:=by decide
    exact ⟨by lia,bG fun j hj=>h j (aat _ hj)⟩
theorem bQ:∀ ns:List Int,szAll (ns.map PyData.int)=ns.length
  | []=>rfl
  | i :: ns=>by simp only [aax,szAll,szD,bQ ns,aaD];lia
theorem bH:∀ ns:List Int,aac (ns.map PyData.int)=0
  | []=>rfl
  | i :: ns=>by simp only [aax,aac,aad,bH ns];rfl
theorem iX:∀ {a b:List PyData},OkAll a→OkAll b→OkAll (a++b)
  | [],_,_,h=>h
  | x :: a,b,h,k=>by
    simp only [abh,OkAll] at h ⊢;exact ⟨h.1,iX h.2 k⟩
theorem j5:∀ a b:List PyData,szAll (a++b)=szAll a+szAll b
  | [],b=>by simp [szAll]
  | x :: a,b=>by simp only [abh,szAll,j5 a b];lia
theorem kS:∀ a b:List PyData,aac (a++b)=max (aac a) (aac b)
  | [],b=>by simp [aac]
  | x :: a,b=>by simp only [abh,aac,kS a b];lia
theorem Small.take {ns:List Int} (h:Small ns) (k:Nat):Small (ns.take k):=fun i hi=>h i (abM hi)
theorem Small.drop {ns:List Int} (h:Small ns) (k:Nat):Small (ns.drop k):=fun i hi=>h i (List.mem_of_mem_drop hi)
def Gq (p:PyData→Bool) (H:Hp) (u:V):Prop:=∃ d,Dat H d u∧PrD d∧p d=true
theorem Gq.mono {p:PyData→Bool} {H H':Hp} {u:V} (g:Same H H') (h:Gq p H u):Gq p H' u:=by obtain ⟨d,a,b⟩:=h;exact ⟨d,Dat.mono g d u a,b⟩
section
variable {p:PyData→Bool} {H:Hp}
theorem fI {d:PyData} {u:V} (hd:Dat H d u) (ok:OkD d) (hs:szD d≤900) (hp:d.depth≤50) (h:p d=true):Gq p H u:=⟨d,hd,lw ok hs hp,h⟩
theorem rm (h:p .none=true):Gq p H .non:=fI (d:=.none) (by simp only [Dat]) (by simp only [OkD]) (by simp [szD]) (by simp [aad]) h
theorem uc (b:Bool) (h:p (.bool b)=true):Gq p H (.bl b):=fI (d:=.bool b) (by simp only [Dat]) (by simp only [OkD]) (by simp [szD]) (by simp [aad]) h
theorem kQ (x:Str) (hx:(reprText x).length≤20) (h:p (.str x)=true):Gq p H (.str x):=fI (d:=.str x) (by simp only [Dat]) (by simp only [OkD];exact hx) (by simp [szD]) (by simp [aad]) h
theorem dH {a:Addr} {xs:List V} {ds:List PyData} (e:H a=some (.lst xs)) (hd:DatAll H ds xs) (ok:OkAll ds) (sz:szAll ds≤800) (dp:aac ds≤40) (h:p (.list ds)=true):Gq p H (.ref a) :=
  fI (d:=.list ds) (by simp only [Dat];exact ⟨a,xs,rfl,e,hd⟩) (by simp only [OkD];exact ok) (by simp only [szD];lia) (by simp only [aad];lia) h
theorem g_ {a:Addr} {xs:List V} {ds:List PyData} (e:H a=some (.tup xs)) (hd:DatAll H ds xs) (ok:OkAll ds) (sz:szAll ds≤800) (dp:aac ds≤40) (h:p (.tuple ds)=true):Gq p H (.ref a) :=
  fI (d:=.tuple ds) (by simp only [Dat];exact ⟨a,xs,rfl,e,hd⟩) (by simp only [OkD];exact ok) (by simp only [szD];lia) (by simp only [aad];lia) h
theorem oH {a:Addr} (e:H a=some (.dK [])) (h:p (.dict [])=true):Gq p H (.ref a):=fI (d:=.dict []) (by simp only [Dat,DatKv];exact ⟨a,_,rfl,e,rfl⟩) (by simp only [OkD]) (by simp [szD]) (by simp [aad,abY]) h
theorem uh (k:Int):DatAll H [.int k] [.int k]:=by simp only [DatAll,Dat];exact ⟨_,_,rfl,rfl,rfl⟩
theorem oS:DatAll H [] []:=by simp only [DatAll]
theorem rq (i:Int) (hi:i.natAbs < 10 ^ 40) (h:p (.int i)=true):Gq p H (.int i):=fI (d:=.int i) (by simp only [Dat]) (by simp only [OkD];exact hi) (by simp [szD]) (by simp [aad]) h
end
def o8 (d:PyData):Bool:=!bZ d
def mR (d:PyData):Bool:=!bz d
def pHd (d:PyData):Bool:=!eS d
theorem sK {A B:List PyData} {d:PyData} (h:bA d=false):o8 (.list (A++[d]++B))=true:=by
  show (!(decide (1≤(A++[d]++B).length) && decide ((A++[d]++B).length≤9) && (A++[d]++B).all bA))=true;have : (A++[d]++B).all bA=false:=by
    rw [List.all_append,List.all_append];simp [h]
  rw [this];simp
def GsB (H:Hp) (u:V):Prop:=∃ d,Dat H d u∧OkD d∧szD d≤10∧d.depth≤3∧bA d=false
theorem iy {wl p:Addr} {H:Hp} {o:HO} (h:p≠wl):off wl (upd H p o) p=some o:=(bY h).trans upd_same
theorem s_ {wl p:Addr} {H:Hp} (_:H p=none) (h:p≠wl) (o:HO):off wl (upd H p o) p=some o:=iy h
theorem gt {wl p:Addr} {H:Hp} {o:HO} (h:H p=none):Same (off wl H) (off wl (upd H p o)):=a_ (But.new h o)
theorem bK {p:Addr} {H H':Hp} (g:Same H H'):Same (off p H) (off p H'):=a_ (But.of g)
structure Al (wl:Addr) (H0 H:Hp) (L:List (Addr × HO)):Prop where
  same:Same H0 H
  well:∃ o,H0 wl=some o
  has:∀ x∈L,off wl H x.1=some x.2
theorem Al.ne {wl:Addr} {H0 H:Hp} {L:List (Addr × HO)} (A:Al wl H0 H L) {p:Addr} (n:H p=none):p≠wl:=by
  obtain ⟨o,e⟩:=A.well;exact abo (aG (A.same _ _ e) n)
theorem Al.new {wl:Addr} {H0 H:Hp} {L:List (Addr × HO)} (A:Al wl H0 H L) {p:Addr} (n:H p=none) (o:HO):Al wl H0 (upd H p o) ((p,o) :: L) :=
  ⟨A.same.trans (Same.new n o),A.well,fun x hx=>by
    rcases aah.mp hx with rfl|hx
    · exact iy (A.ne n)
    · exact gt n _ _ (A.has x hx)⟩
theorem Al.more {wl:Addr} {H0 H H':Hp} {L:List (Addr × HO)} (A:Al wl H0 H L) (s:Same H H'):Al wl H0 H' L:=⟨A.same.trans s,A.well,fun x hx=>bK s _ _ (A.has x hx)⟩
theorem Al.at {wl:Addr} {H0 H:Hp} {L:List (Addr × HO)} (A:Al wl H0 H L) (i:Nat) {x:Addr × HO} (h:L[i]?=some x):off wl H x.1=some x.2:=A.has x (aaK h)
theorem Al.up {wl:Addr} {H0 H:Hp} {L:List (Addr × HO)} (A:Al wl H0 H L) (i:Nat) {x:Addr × HO} (h:L[i]?=some x):H x.1=some x.2:=off_le _ _ (A.at i h)
def mD:Sp:=fun vs H Q _=>∃ wl r ns M,vs=[.ref wl,.ref r]∧Wel H wl M∧M < 999990000∧H r=some (.lst (ns.map V.int))∧r≠wl∧1≤ns.length∧ns.length≤9∧Small ns∧∀ p xs H',But wl H H'→Wel H' wl (M+1)→H p=none→H' p=some (.lst xs)→xs.length≤200→(∀ x∈xs,Gq o8 (off wl H') x)→Q (.ref p) H'
theorem wq:PrD (.dict [(.int 1,.int 2)]):=by unfold PrD;decide +kernel
theorem tm {ds:List PyData} (h:ds.length=10):o8 (.list ds)=true:=by
  show (!(decide (1≤ds.length) && decide (ds.length≤9) && ds.all bA))=true;rw [h];rfl
section
variable {P:Program} {w:World} {K:aaa} {mg:Str→Option Value} {base:Heap} {f:Addr} {fd:FuncData}
abbrev dA:Stmt:=top 64
theorem cj:FnScope ["well","row","at","odd","some"] ["well","row"] (ah dA):=⟨rfl,rfl,rfl,by decide +kernel,rfl,by decide +kernel,by decide +kernel⟩
theorem mW (F:Fun K "_law_no_rows" "_law_no_rows" dA f fd) (B:Bu K mg) (C__law_draw:Cal P w K mg base "_law_draw" 2 ["well","many"] dn):FnOk P w K mg base CX0 3 f fd ["well","row"] mD:=by
  refine F.ok cj (fun vs H Q E h=>?_) (fun cdv A outer s H vs Q E hr h=>?_)
  · obtain ⟨wl,r,ns,M,rfl,_⟩:=h;rfl
  obtain ⟨wl,r,ns,M,rfl,hw,hM,er,nrw,h1,h9,sm,q⟩:=h;refine ⟨_,(@ae _ _ _ _ _ (@ao _ _ (2) _ _ _ _ (cj).nd rfl (Or.inr rfl) (@ag _ _ _ _ _ _ _ _ _ _ _ C__law_draw hr (by lia) rfl (@aa _ _ _ _ _ (pv 0) (@aa _ _ _ _ _ (@am _ _ _ _ _ _ _ _ _ aQ rfl B.ilen aaY (@aa _ _ _ _ _ (pv 1) ac (by rfl)) (by decide) (by decide) (by rfl) (by rfl)) ac (by rfl)) (by rfl)) (by decide) (by rfl) (by rfl)) (by rfl) (by first|exact .inl rfl|exact .inr rfl|assumption)) (@ae _ _ _ _ _ (@ao _ _ (3) _ _ _ _ (cj).nd rfl (Or.inl rfl) (@ar _ _ _ _ (@aa _ _ _ _ _ bg (@aa _ _ _ _ _ cb (@aa _ _ _ _ _ cb (@aa _ _ _ _ _ aj (@aa _ _ _ _ _ (@ar _ _ _ _ (@aa _ _ _ _ _ ad ac (by rfl))) (@aa _ _ _ _ _ (@aq _ _ _ _ _ (@aa _ _ _ _ _ ad ac (by rfl))) (@aa _ _ _ _ _ dC (@aa _ _ _ _ _ aj (@aa _ _ _ _ _ (@aq _ _ _ _ _ (@aa _ _ _ _ _ aj (@aa _ _ _ _ _ ad (@aa _ _ _ _ _ ad ac (by rfl)) (by rfl)) (by rfl))) (@aa _ _ _ _ _ aj ac (by rfl)) (by rfl)) (by rfl)) (by rfl)) (by rfl)) (by rfl)) (by rfl)) (by rfl)) (by rfl)) (by rfl))) (by rfl) (by first|exact .inl rfl|exact .inr rfl|assumption)) (@ae _ _ _ _ _ (@ao _ _ (4) _ _ _ _ (cj).nd rfl (Or.inl rfl) (@ar _ _ _ _ (@aa _ _ _ _ _ bg (@aa _ _ _ _ _ ad (@aa _ _ _ _ _ cb (@aa _ _ _ _ _ aj (@aa _ _ _ _ _ aj (@aa _ _ _ _ _ (@aq _ _ _ _ _ ac) (@aa _ _ _ _ _ (@ar _ _ _ _ ac) (@aa _ _ _ _ _ dC (@aa _ _ _ _ _ (@cE _ _ _ _ _ _ _ _ _ dO rfl B.ituple aa7 (@aa _ _ _ _ _ (pv 1) ac (by rfl)) (by decide) (by decide) (by rfl) (by rfl)) (@aa _ _ _ _ _ (@ar _ _ _ _ (@aa _ _ _ _ _ (pv 1) ac (by rfl))) (@aa _ _ _ _ _ (@al _ _ _ _ _ _ _ _ iR (@ar _ _ _ _ (@aa _ _ _ _ _ ad ac (by rfl))) ad) (@aa _ _ _ _ _ (@al _ _ _ _ _ _ _ _ bj (pv 1) (@al _ _ _ _ _ _ _ _ iR (@ar _ _ _ _ (@aa _ _ _ _ _ ad ac (by rfl))) (@al _ _ _ _ _ _ _ _ dD ad (@am _ _ _ _ _ _ _ _ _ aQ rfl B.ilen aaY (@aa _ _ _ _ _ (pv 1) ac (by rfl)) (by decide) (by decide) (by rfl) (by rfl))))) (@aa _ _ _ _ _ (@sP _ _ _ _ _ (@qF _ _ _ _ _ _ _ _ _ ad ad sN) rfl rfl (by simp) (by decide)) ac (by rfl)) (by rfl)) (by rfl)) (by rfl)) (by rfl)) (by rfl)) (by rfl)) (by rfl)) (by rfl)) (by rfl)) (by rfl)) (by rfl)) (by rfl))) (by rfl) (by first|exact .inl rfl|exact .inr rfl|assumption)) (@af _ _ _ (@ak _ _ _ _ (@al _ _ _ _ _ _ _ _ bj (pv 4) (@eQ _ _ _ _ _ _ _ _ (["thing","row","at"]) ([none,some 1,some 2]) _ _ _ _ rfl (@bT _ _ _ _ (pv 3)) rfl ⟨rfl,⟨rfl,trivial⟩⟩ ⟨⟨rfl,Or.inl rfl,Or.inl rfl⟩,⟨⟨rfl,Or.inl rfl,Or.inl rfl⟩,trivial⟩⟩ (fun _ _ _ _=>⟨(@au _ _ (0) _ (show aa6 (["thing","row","at"]:List Str) by decide +kernel) rfl (Or.inl rfl) (.inr rfl)),bi,(@al _ _ _ _ _ _ _ _ bj (@al _ _ _ _ _ _ _ _ bj (@bq _ _ _ _ _ _ _ _ _ _ (@lc _ _ rfl) (pv 1) bL (@bD _ _ _ (pv 2))) (@ar _ _ _ _ (@aa _ _ _ _ _ (pv 0) ac (by rfl)))) (@bq _ _ _ _ _ _ _ _ _ _ (@lc _ _ rfl) (pv 1) (@bD _ _ _ (@al _ _ _ _ _ _ _ _ bX (pv 2) ad)) bL))⟩) (by rfl) (by rfl) (by rfl) (by rfl) (by intro _;rfl)))))))),?_⟩;have hl:(ns.map V.int).length=ns.length:=aak _;refine ⟨_,rfl,_,rfl,r,_,rfl,.inl (SqL.of er),wl,((ns.map V.int).length:Nat),M,rfl,by lia,by rw [hl];lia,hw,by lia,fun at' H1 a1 b1 g1 hw1=>?_⟩;rw [hl] at b1;have er1:=g1 _ _ nrw er;have A:Al wl H1 H1 [(r,.lst (ns.map V.int))]:=⟨Same.refl _,by obtain ⟨_,_,e,_⟩:=hw1;exact ⟨_,e⟩,fun x hx=>by rw [aaL.mp hx];exact (bY nrw).trans er1⟩
  refine ⟨(by show 1≤sizeLine;decide),fun p1 n_p1=>?_⟩
  replace A:=A.new n_p1 (.lst [.int 1])
  generalize upd H1 p1 (.lst [.int 1])=h_p1 at A ⊢;refine ⟨(by show 1≤sizeLine;decide),fun p2 n_p2=>?_⟩
  replace A:=A.new n_p2 (.tup [.int 1])
  generalize upd h_p1 p2 (.tup [.int 1])=h_p2 at A ⊢;refine fun p3 n_p3=>?_
  replace A:=A.new n_p3 (.dK [])
  generalize upd h_p2 p3 (.dK [])=h_p3 at A ⊢;refine ⟨(by show 3≤sizeLine;decide),fun p4 n_p4=>?_⟩
  replace A:=A.new n_p4 (.tup [.str "+",.int 1,.int 2])
  generalize upd h_p3 p4 (.tup [.str "+",.int 1,.int 2])=h_p4 at A ⊢;refine ⟨(by show 10≤sizeLine;decide),fun p5 n_p5=>?_⟩
  replace A:=A.new n_p5 (.lst [.non,.bl true,.bl false,.str "1",.ref p1,.ref p2,.ref p3,.str "",.ref p4,.str "a"])
  generalize upd h_p4 p5 (.lst [.non,.bl true,.bl false,.str "1",.ref p1,.ref p2,.ref p3,.str "",.ref p4,.str "a"])=h_p5 at A ⊢;refine ⟨(by show 0≤sizeLine;decide),fun q1 n_q1=>?_⟩
  replace A:=A.new n_q1 (.tup [])
  generalize upd h_p5 q1 (.tup [])=h_q1 at A ⊢;refine ⟨(by show 0≤sizeLine;decide),fun q2 n_q2=>?_⟩
  replace A:=A.new n_q2 (.lst [])
  generalize upd h_q1 q2 (.lst [])=h_q2 at A ⊢;refine fun q3 n_q3=>?_
  replace A:=A.new n_q3 (.dK [])
  generalize upd h_q2 q3 (.dK [])=h_q3 at A ⊢;refine ⟨_,rfl,r,_,rfl,.inl ⟨SqL.of (A.up 8 rfl),fun q4 n_q4=>?_⟩⟩
  replace A:=A.new n_q4 (.tup (ns.map V.int))
  generalize upd h_q3 q4 (.tup (ns.map V.int))=h_q4 at A ⊢;refine ⟨_,rfl,(by show 1≤sizeLine;decide),fun q5 n_q5=>?_⟩
  replace A:=A.new n_q5 (.lst [.ref r])
  generalize upd h_q4 q5 (.lst [.ref r])=h_q5 at A ⊢;refine ⟨(by show 1≤sizeLine;decide),fun q6 n_q6=>?_⟩
  replace A:=A.new n_q6 (.lst [.int 1])
  generalize upd h_q5 q6 (.lst [.int 1])=h_q6 at A ⊢;refine ⟨q6,10,_,rfl,rfl,A.up 0 rfl,by decide,by decide,(by decide),fun q7 n_q7=>?_⟩
  replace A:=A.new n_q7 (.lst (aap (10:Int).toNat [V.int 1]).flatten)
  generalize upd h_q6 q7 (.lst (aap (10:Int).toNat [V.int 1]).flatten)=h_q7 at A ⊢;refine ⟨_,rfl,(by show 1≤sizeLine;decide),fun s1 n_s1=>?_⟩
  replace A:=A.new n_s1 (.lst [.int 1])
  generalize upd h_q7 s1 (.lst [.int 1])=h_s1 at A ⊢;refine ⟨_,rfl,r,_,rfl,.inl (SqL.of (A.up 13 rfl)),_,_,rfl,rfl,s1,_,_,rfl,rfl,A.up 0 rfl,by rw [hl];lia,by rw [hl];lia,av (by simp only [aaD,abr];lia),fun s2 n_s2=>?_⟩;rw [hl]
  replace A:=A.new n_s2 (.lst (aap (10 - (ns.length:Int)).toNat [V.int 1]).flatten)
  generalize upd h_s1 s2 (.lst (aap (10 - (ns.length:Int)).toNat [V.int 1]).flatten)=h_s2 at A ⊢;refine ⟨r,s2,_,_,rfl,rfl,A.up 14 rfl,A.up 0 rfl,av (by rw [hl,oA];simp only [aaD,abr];lia),fun s3 n_s3=>?_⟩
  replace A:=A.new n_s3 (.lst (ns.map V.int++(aap (10 - (ns.length:Int)).toNat [V.int 1]).flatten))
  generalize upd h_s2 s3 (.lst (ns.map V.int++(aap (10 - (ns.length:Int)).toNat [V.int 1]).flatten))=h_s3 at A ⊢;refine fun q8 n_q8=>⟨upd_same,[(.inl 1,.int 2)],rfl,(by show 1≤15;decide),?_⟩
  have em:g6 [] [((.inl 1:Key),V.int 2)]=[(.inl 1,.int 2)]:=rfl;rw [em,show upd (upd h_s3 q8 (.dK [])) q8 (.dK [(.inl 1,.int 2)])=upd h_s3 q8 (.dK [(.inl 1,.int 2)]) from sv]
  replace A:=A.new n_q8 (.dK [(.inl 1,.int 2)])
  generalize upd h_s3 q8 (.dK [(.inl 1,.int 2)])=h_q8 at A ⊢;refine ⟨(by show 13≤sizeLine;decide),fun q9 n_q9=>?_⟩
  replace A:=A.new n_q9 (.lst [.non,.int 0,.bl true,.str "",.str "1 2",.ref q1,.ref q2,.ref q3,.ref q4,.ref q5,.ref q7,.ref s3,.ref q8])
  generalize upd h_q8 q9 (.lst [.non,.int 0,.bl true,.str "",.str "1 2",.ref q1,.ref q2,.ref q3,.ref q4,.ref q5,.ref q7,.ref s3,.ref q8])=h_q9 at A ⊢;have f_p1:=A.at 16 rfl;have f_p2:=A.at 15 rfl;have f_p3:=A.at 14 rfl;have f_p4:=A.at 13 rfl;have f_q1:=A.at 11 rfl;have f_q2:=A.at 10 rfl;have f_q3:=A.at 9 rfl;have f_q4:=A.at 8 rfl;have f_q5:=A.at 7 rfl;have f_q7:=A.at 5 rfl;have f_q8:=A.at 1 rfl;have f_s3:=A.at 2 rfl;have f_p5:=A.up 12 rfl;have f9:=A.up 0 rfl;have fr':=A.at 17 rfl;have fr:=A.up 17 rfl;have l9:∀ a b,(cZ (ns.map V.int) a b).length≤9:=fun a b=>by
    have:=List.length_take_le' (HT.sIx (ns.map V.int).length (ns.map V.int).length b - HT.sIx (ns.map V.int).length 0 a) ((ns.map V.int).drop (HT.sIx (ns.map V.int).length 0 a));unfold cZ;rw [aaQ] at this;lia
  obtain ⟨j,rfl⟩:=aby a1;have hj:j < ns.length:=by lia
  have t1:(1:Nat)≤sizeLine:=by decide
  have gs:∀ x∈([.non,.bl true,.bl false,.str "1",.ref p1,.ref p2,.ref p3,.str "",.ref p4,.str "a"]:List V),GsB (off wl h_q9) x:=fun x hm=>by
    simp only [aah,aaO,or_false] at hm;rcases hm with rfl|rfl|rfl|rfl|rfl|rfl|rfl|rfl|rfl|rfl
    · exact ⟨.none,by simp only [Dat],by simp only [OkD],by simp [szD],by simp [aad],rfl⟩
    · exact ⟨.bool true,by simp only [Dat],by simp only [OkD],by simp [szD],by simp [aad],rfl⟩
    · exact ⟨.bool false,by simp only [Dat],by simp only [OkD],by simp [szD],by simp [aad],rfl⟩
    · exact ⟨.str "1",by simp only [Dat],by simp only [OkD];decide +kernel,by simp [szD],by simp [aad],rfl⟩
    · exact ⟨.list [.int 1],by simp only [Dat];exact ⟨p1,_,rfl,f_p1,uh 1⟩,by simp only [OkD,OkAll];decide,by simp [szD,szAll],by simp [aad,aac],rfl⟩
    · exact ⟨.tuple [.int 1],by simp only [Dat];exact ⟨p2,_,rfl,f_p2,uh 1⟩,by simp only [OkD,OkAll];decide,by simp [szD,szAll],by simp [aad,aac],rfl⟩
    · exact ⟨.dict [],by simp only [Dat,DatKv];exact ⟨p3,_,rfl,f_p3,rfl⟩,by simp only [OkD],by simp [szD],by simp [aad,abY],rfl⟩
    · exact ⟨.str "",by simp only [Dat],by simp only [OkD];decide +kernel,by simp [szD],by simp [aad],rfl⟩
    · exact ⟨.tuple [.str "+",.int 1,.int 2],by simp only [Dat,DatAll];exact ⟨p4,_,rfl,f_p4,_,_,rfl,rfl,_,_,rfl,rfl,_,_,rfl,rfl,rfl⟩,by simp only [OkD,OkAll];decide +kernel,by simp [szD,szAll],by simp [aad,aac],rfl⟩
    · exact ⟨.str "a",by simp only [Dat],by simp only [OkD];decide +kernel,by simp [szD],by simp [aad],rfl⟩
  have some13:∀ x∈([.non,.int 0,.bl true,.str "",.str "1 2",.ref q1,.ref q2,.ref q3,.ref q4,.ref q5,.ref q7,.ref s3,.ref q8]:List V),Gq o8 (off wl h_q9) x:=fun x hm=>by
    simp only [aah,aaO,or_false] at hm;rcases hm with rfl|rfl|rfl|rfl|rfl|rfl|rfl|rfl|rfl|rfl|rfl|rfl|rfl
    · exact rm rfl
    · exact rq _ (by decide) rfl
    · exact uc _ rfl
    · exact kQ _ (by decide +kernel) rfl
    · exact kQ _ (by decide +kernel) rfl
    · exact g_ f_q1 oS (by simp only [OkAll]) (by simp [szAll]) (by simp [aac]) rfl
    · exact dH f_q2 oS (by simp only [OkAll]) (by simp [szAll]) (by simp [aac]) rfl
    · exact oH f_q3 rfl
    · exact g_ f_q4 (bv ns) (bG sm) (by rw [bQ];lia) (by rw [bH];lia) rfl
    · exact dH (ds:=[.list (ns.map PyData.int)]) f_q5 (by simp only [DatAll,Dat];exact ⟨_,_,rfl,⟨r,_,rfl,fr',bv ns⟩,rfl⟩) (by simp only [OkAll,OkD];exact ⟨bG sm,trivial⟩) (by simp only [szAll,szD,bQ];lia) (by simp only [aac,aad,bH];lia) rfl
    · exact dH (ds:=(aap 10 (1:Int)).map PyData.int) f_q7 (bv (aap 10 1)) (bG (fun i hi=>by have:=List.eq_of_mem_replicate hi;lia)) (by decide) (by decide) rfl
    · have el:ns.map V.int++(aap (10 - (ns.length:Int)).toNat [V.int 1]).flatten=(ns++aap (10 - (ns.length:Int)).toNat 1).map V.int:=by
        rw [aaC,List.map_replicate];congr 1;generalize (10 - (ns.length:Int)).toNat=k
        induction k with
        | zero=>rfl
        | succ k ih=>rw [aa3,aa3,abv,ih];rfl
      rw [el] at f_s3;have lz:(ns++aap (10 - (ns.length:Int)).toNat (1:Int)).length=10:=by rw [aae,ab4];lia
      have sm':Small (ns++aap (10 - (ns.length:Int)).toNat (1:Int)):=fun i hi=>by
        rcases aao.mp hi with z|z
        · exact sm i z
        · have:=List.eq_of_mem_replicate z;lia
      exact dH f_s3 (bv _) (bG sm') (by rw [bQ,lz];decide) (by rw [bH];lia) (tm (by rw [aak,lz]))
    · exact ⟨.dict [(.int 1,.int 2)],by simp only [Dat,DatKv];exact ⟨q8,_,rfl,f_q8,_,_,_,rfl,rfl,rfl,rfl⟩,wq,rfl⟩
  refine ⟨_,rfl,_,rfl,p5,rfl,⟨_,SqL.of f_p5⟩,eR (Trn.list (xs:=[.non,.bl true,.bl false,.str "1",.ref p1,.ref p2,.ref p3,.str "",.ref p4,.str "a"])) (fun i ys H'=>Same h_q9 H'∧ys.length=i∧∀ y∈ys,Gq o8 (off wl H') y) ⟨Same.refl _,rfl,fun _ z=>nomatch z⟩ (fun i ys H' hi z=>⟨SqL.of (z.1 _ _ f_p5),aC (by rw [z.2.1];have : i≤10:=hi;lia)⟩) (fun i x ys H0' H' hi hx z Nx nx=>?_) (fun ys H2 z pL nL=>?_)⟩
  · obtain ⟨rfl,hx⟩:=hx;obtain ⟨S,ly,gy⟩:=z;obtain ⟨d0,d1,d2,d3,d4,d5⟩:=gs x (aaK hx);have erS:=S _ _ fr;refine ⟨_,rfl,_,rfl,j,rfl,r,_,rfl,SqL.of erS,fun c1 m1=>⟨_,rfl,t1,fun c2 m2=>⟨c1,c2,_,_,rfl,rfl,(Same.new m2 _) _ _ upd_same,upd_same,av (by have:=l9 none (some (j:Int));simp only [aaD,abr];lia),fun c3 m3=>?_⟩⟩⟩;have k1:=Same.new m1 (.lst (cZ (ns.map V.int) none (some (j:Int))));have k2:=Same.new m2 (.lst [x]);have k3:=Same.new m3 (.lst (cZ (ns.map V.int) none (some (j:Int))++[x]));have K3:=(k1.trans k2).trans k3;refine ⟨_,rfl,_,rfl,_,_,rfl,rfl,(j:Int)+1,rfl,r,_,rfl,SqL.of (K3 _ _ erS),fun c4 m4=>⟨c3,c4,_,_,rfl,rfl,(Same.new m4 _) _ _ upd_same,upd_same,av (by have:=l9 none (some (j:Int));have:=l9 (some ((j:Int)+1)) none;simp only [aae,aaD,abr];lia),fun c5 m5=>?_⟩⟩;have k4:=Same.new m4 (.lst (cZ (ns.map V.int) (some ((j:Int)+1)) none));have k5:=Same.new m5 (.lst (cZ (ns.map V.int) none (some (j:Int))++[x]++cZ (ns.map V.int) (some ((j:Int)+1)) none));have K5:=(K3.trans k4).trans k5;have z5:c5≠wl:=(A.more (S.trans (K3.trans k4))).ne m5;have f5:=s_ m5 z5 (.lst (cZ (ns.map V.int) none (some (j:Int))++[x]++cZ (ns.map V.int) (some ((j:Int)+1)) none));rw [d9 _ j (by rw [hl];lia),show (j:Int)+1=((j+1:Nat):Int) from rfl,di _ (j+1) (by rw [hl];lia),← acf,← ace] at f5;refine nx _ _ ⟨S.trans K5,by rw [aae,ly];rfl,fun y hy=>?_⟩;rcases aao.mp hy with hy|hy
    · exact (gy y hy).mono (bK K5)
    · rw [aaL.mp hy];have h1':=Dat.mono (bK (S.trans K5)) d0 x d1;rw [d9 _ j (by rw [hl];lia),show (j:Int)+1=((j+1:Nat):Int) from rfl,di _ (j+1) (by rw [hl];lia),← acf,← ace] at h1';rw [d9 _ j (by rw [hl];lia),show (j:Int)+1=((j+1:Nat):Int) from rfl,di _ (j+1) (by rw [hl];lia),← acf,← ace];refine dH (ds:=(ns.take j).map PyData.int++[d0]++(ns.drop (j+1)).map PyData.int) f5 (((bv _).app (by simp only [DatAll];exact ⟨_,_,rfl,h1',rfl⟩)).app (bv _)) (iX (iX (bG (sm.take j)) (by simp only [OkAll];exact ⟨d2,trivial⟩)) (bG (sm.drop (j+1)))) ?_ ?_ (sK d5)
      · rw [j5,j5,bQ,bQ,aaF,aaQ];simp only [szAll];lia
      · rw [kS,kS,bH,bH];simp only [aac];lia
  · obtain ⟨S,ly,gy⟩:=z;have kL:=Same.new nL (.lst ys);have SL:=S.trans kL;have ly10:ys.length=10:=ly;refine ⟨q9,pL,_,_,rfl,rfl,kL _ _ (S _ _ f9),upd_same,av (by rw [ly10];show 13+10≤1000;decide),fun pR nR=>?_⟩;have kR:=Same.new nR (.lst ([.non,.int 0,.bl true,.str "",.str "1 2",.ref q1,.ref q2,.ref q3,.ref q4,.ref q5,.ref q7,.ref s3,.ref q8]++ys));have S1:=A.same;refine q pR _ _ (g1.trans (But.of ((S1.trans SL).trans kR))) (hw1.keep ((S1.trans SL).trans kR) (aaA _)) (But.free g1 hw1 ((S1.trans SL).free nR)) upd_same (by rw [aae,ly10];show 13+10≤200;decide) (fun x hx=>?_);rcases aao.mp hx with hx|hx
    · exact (some13 x hx).mono (bK (SL.trans kR))
    · exact (gy x hx).mono (bK (kL.trans kR))
end
open PySem L2
theorem WyIn.off {H:Hp} {wl:Addr} {M:Int} (hw:Wel H wl M):∀ {w:Wy} {v:V},WyIn H w v→Dat (off wl H) (aI w) v
  | .num i,v,h=>by
    simp only [aI,Dat];exact h
  | .node g l r,v,h=>by
    obtain ⟨a,vl,vr,rfl,ha,hl,hr⟩:=h;have ne:a≠wl:=fun e=>by
      obtain ⟨_,_,z,_⟩:=hw;rw [e,z] at ha;cases ha
    simp only [aI,Dat,DatAll];exact ⟨a,_,rfl,(bY ne).trans ha,_,_,rfl,rfl,_,_,rfl,WyIn.off hw hl,_,_,rfl,WyIn.off hw hr,rfl⟩
theorem cM:∀ w:Wy,(aI w).depth≤w.deep
  | .num i=>by simp [aI,aad]
  | .node g l r=>by
    have a:=cM l;have b:=cM r;simp only [aI,aad,aac];show max 0 (max (aI l).depth (max (aI r).depth 0))+1≤max l.deep r.deep+1;lia
theorem iB:∀ w:Wy,szD (aI w)+2≤3 * w.size
  | .num i=>by simp [aI,szD,Wy.size]
  | .node g l r=>by
    have a:=iB l;have b:=iB r;simp only [aI,szD,szAll];show _≤3 * (l.size+r.size);lia
def Wy.Sm (w:Wy):Prop:=∀ i∈w.nums,i.natAbs < 10 ^ 40
theorem Wy.Sm.l {g:Sg} {l r:Wy} (h:(Wy.node g l r).Sm):l.Sm:=fun i hi=>h i (aa8 _ hi)
theorem Wy.Sm.r {g:Sg} {l r:Wy} (h:(Wy.node g l r).Sm):r.Sm:=fun i hi=>h i (aab _ hi)
theorem tW (g:Sg):OkD (.str g.str):=by simp only [OkD];cases g <;> decide +kernel
theorem iC:∀ w:Wy,w.Sm→OkD (aI w)
  | .num i,h=>by simp only [aI,OkD];exact h i aav
  | .node g l r,h=>by
    simp only [aI,OkD,OkAll];exact ⟨by simpa only [OkD] using tW g,iC l h.l,iC r h.r,trivial⟩
theorem lb {ns:List Int} {w:Wy} (h:Small ns) (e:w.nums=ns):w.Sm:=fun i hi=>by
  rw [e] at hi;have:=h i hi;have z:(10:Nat) ^ 13=10000000000000:=by decide
  lia
theorem wV {s l r:PyData} (h:aX l=none):aX (.tuple [s,l,r])=none:=by
  simp only [aX,cntT,h];split <;> rfl
theorem wU {s l r:PyData} (h:aX r=none):aX (.tuple [s,l,r])=none:=by
  simp only [aX,cntT,h];split
  · cases aX l <;> rfl
  · rfl
def Tw (H:Hp) (v:V):Prop:=∃ d,Dat H d v∧OkD d∧szD d≤10∧d.depth≤3∧aX d=none
def ke (n:Nat):Sp:=fun vs H Q _=>∃ wl w v t dt M,vs=[.ref wl,v,t]∧WyIn H w v∧w.deep≤n∧n≤20∧w.Sm∧Dat (off wl H) dt t∧OkD dt∧szD dt≤10∧dt.depth≤3∧aX dt=none∧Wel H wl M∧M+5 * n < 999980000 ∧
  ∀ d u H',But wl H H'→Wel H' wl (M+5 * n)→Dat (off wl H') d u→OkD d→szD d≤3 * w.size+20→d.depth≤w.deep+4→aX d=none→Q u H'
section
variable {P:Program} {w:World} {K:aaa} {mg:Str→Option Value} {base:Heap} {f:Addr} {fd:FuncData}
abbrev ff:Stmt:=top 65
theorem dc:FnScope ["well","way","thing","sign","left","right"] ["well","way","thing"] (ah ff):=⟨rfl,rfl,rfl,by decide +kernel,rfl,by decide +kernel,by decide +kernel⟩
theorem sY (F:Fun K "_law_bent" "_law_bent" ff f fd) (bF:Binds K fd ["well","way","thing"] []) (mF:mg "_law_bent" = some (.ref f)) (B:Bu K mg) (C__law_draw:Cal P w K mg base "_law_draw" 2 ["well","many"] dn) :
    ∀ n,FnOk P w K mg base CX0 (n+3) f fd ["well","way","thing"] (ke n):=by
  intro n
  induction n with
  | zero =>
    refine ⟨fun vs H Q E h=>?_,fun A outer s H args us vs Q E _ _ _ _ h=>?_⟩
    · obtain ⟨wl,x,v,t,dt,M,rfl,_⟩:=h;rfl
    · obtain ⟨wl,wy,v,t,dt,M,_,_,hd,_⟩:=h;cases wy <;> exact absurd hd (by simp [Wy.deep])
  | succ n ih =>
    have C__law_bent:Cal P w K mg base "_law_bent" (n+3) ["well","way","thing"] (ke n):=⟨f,fd,ih,bF,F.kp,mF⟩
    refine F.ok dc (fun vs H Q E h=>?_) (fun cdv A outer s H vs Q E hr h=>?_)
    · obtain ⟨wl,x,v,t,dt,M,rfl,_⟩:=h;rfl
    obtain ⟨wl,wy,v,t,dt,M,rfl,hw,hdp,hn,hsm,ht,tok,tsz,tdp,tcn,hwl,hM,q⟩:=h;refine ⟨_,(@ae _ _ _ _ _ (@a9 _ _ _ _ _ _ _ _ (@PW.pt _ _ _ (@cO _ _ _ _ _ _ _ (@cz _ _ _ _ (@bE _ _ _ (@am _ _ _ _ _ _ _ _ _ (@bp _ ("tuple")) rfl B.iisinstance aal (@aa _ _ _ _ _ (pv 1) (@aa _ _ _ _ _ (@cB _ _ (.ty "tuple") _ _ rfl B.ituple aa7 rfl (by decide) (by decide)) ac (by rfl)) (by rfl)) (by decide) (by decide) (by rfl) (by rfl)) (by intro _;rfl))) (@cy _ _ _ _ (@ap _ _ _ _ _ _ _ _ bV (@ag _ _ _ _ _ _ _ _ _ _ _ C__law_draw hr (by lia) rfl (@aa _ _ _ _ _ (pv 0) (@aa _ _ _ _ _ ad ac (by rfl)) (by rfl)) (by decide) (by rfl) (by rfl)) ad (aw _))))) (@af _ _ _ (@ak _ _ _ _ (pv 2))) aE) (@ae _ _ _ _ _ (@fk _ _ _ _ _ _ (pv 1) (@eK _ _ _ _ _ _ rfl (@aV _ _ _ _ _ (@au _ _ (3) _ (dc).nd rfl (Or.inl rfl) (.inl rfl)) (@aV _ _ _ _ _ (@au _ _ (4) _ (dc).nd rfl (Or.inl rfl) (.inl rfl)) (@aV _ _ _ _ _ (@au _ _ (5) _ (dc).nd rfl (Or.inl rfl) (.inl rfl)) cJ (by rfl)) (by rfl)) (by rfl)) (by rfl) (by rfl)) (by rfl) (by rfl) (by rfl)) (@ae _ _ _ _ _ (@a9 _ _ _ _ _ _ _ _ (@ap _ _ _ _ _ _ _ _ bV (@ag _ _ _ _ _ _ _ _ _ _ _ C__law_draw hr (by lia) rfl (@aa _ _ _ _ _ (pv 0) (@aa _ _ _ _ _ ad ac (by rfl)) (by rfl)) (by decide) (by rfl) (by rfl)) ad (aw _)) (@af _ _ _ (@ak _ _ _ _ (@aq _ _ _ _ _ (@aa _ _ _ _ _ (pv 3) (@aa _ _ _ _ _ (@ag _ _ _ _ _ _ _ _ _ _ _ C__law_bent hr (by lia) rfl (@aa _ _ _ _ _ (pv 0) (@aa _ _ _ _ _ (pv 4) (@aa _ _ _ _ _ (pv 2) ac (by rfl)) (by rfl)) (by rfl)) (by decide) (by rfl) (by rfl)) (@aa _ _ _ _ _ (pv 5) ac (by rfl)) (by rfl)) (by rfl))))) aE) (@af _ _ _ (@ak _ _ _ _ (@aq _ _ _ _ _ (@aa _ _ _ _ _ (pv 3) (@aa _ _ _ _ _ (pv 4) (@aa _ _ _ _ _ (@ag _ _ _ _ _ _ _ _ _ _ _ C__law_bent hr (by lia) rfl (@aa _ _ _ _ _ (pv 0) (@aa _ _ _ _ _ (pv 5) (@aa _ _ _ _ _ (pv 2) ac (by rfl)) (by rfl)) (by rfl)) (by decide) (by rfl) (by rfl)) ac (by rfl)) (by rfl)) (by rfl)))))))),?_⟩;cases wy with
    | num i =>
      cases hw;refine ⟨_,rfl,_,_,false,rfl,.int i,rfl,false,rfl,a8 (a8 ?_)⟩;exact ⟨_,rfl,q dt t H But.refl (hwl.more (by lia)) ht tok (by lia) (by lia) tcn⟩
    | node g l r =>
      obtain ⟨a,vl,vr,rfl,ha,hl,hr'⟩:=hw;have dd:max l.deep r.deep+1≤n+1:=hdp;have ez:(Wy.node g l r).size=l.size+r.size:=rfl;have ed:(Wy.node g l r).deep=max l.deep r.deep+1:=rfl;rw [ez,ed] at q;have wl1:=iB l;have wr1:=iB r;have dl1:=cM l;have dr1:=cM r;have okl:=iC l hsm.l;have okr:=iC r hsm.r;refine ⟨_,rfl,_,_,true,rfl,.tup ha,rfl,true,rfl,az ?_⟩;refine ⟨_,rfl,wl,3,M,rfl,by decide,by decide,hwl,by lia,fun r1 H1 a1 b1 g1 w1=>⟨rfl,_,rfl,fG (fun _=>?_) (fun _=>?_)⟩⟩
      · exact ⟨_,rfl,q dt t H1 g1 (w1.more (by lia)) (Dat.mono (a_ g1) _ _ ht) tok (by lia) (by lia) tcn⟩
      have t1:=hwl.tups g1;have ha1:=t1 _ _ ha;refine ⟨_,rfl,a,_,rfl,SqT.of ha1,rfl,_,_,rfl,_,_,rfl,_,_,rfl,rfl,?_⟩;refine ⟨_,rfl,wl,2,_,rfl,by decide,by decide,w1,by lia,fun r2 H2 a2 b2 g2 w2=>?_⟩;have t2:=t1.trans (w1.tups g2);have hl2:=hl.mono t2;have hr2:=hr'.mono t2;have G2:=g1.trans g2;have ht2:=Dat.mono (a_ G2) _ _ ht;have sgok:=tW g;refine ⟨rfl,_,rfl,fG (fun _=>?_) (fun _=>?_)⟩
      · refine ⟨_,rfl,_,rfl,_,rfl,_,rfl,wl,l,vl,t,dt,_,rfl,hl2,by lia,by lia,hsm.l,ht2,tok,tsz,tdp,tcn,w2,by lia,fun d u H3 g3 w3 hd ok sz dp cn=>?_⟩;refine ⟨_,rfl,(by show 3≤sizeLine;decide),fun p np=>?_⟩;have npw:=w3.ne np;have hr3:=WyIn.off w3 (hr2.mono (w2.tups g3));refine q (.tuple [.str g.str,d,aI r]) (.ref p) _ ((G2.trans g3).trans (But.new np _)) ((w3.keep (Same.new np _) (aaA _)).more (by lia)) ?_ ?_ ?_ ?_ (wV cn)
        · simp only [Dat,DatAll];exact ⟨p,_,rfl,iy npw,_,_,rfl,rfl,_,_,rfl,Dat.mono (gt np) d u hd,_,_,rfl,Dat.mono (gt np) _ _ hr3,rfl⟩
        · simp only [OkD,OkAll] at sgok ⊢;exact ⟨sgok,ok,okr,trivial⟩
        · simp only [szD,szAll];lia
        · simp only [aad,aac];lia
      · refine ⟨_,rfl,_,rfl,_,rfl,_,rfl,_,rfl,wl,r,vr,t,dt,_,rfl,hr2,by lia,by lia,hsm.r,ht2,tok,tsz,tdp,tcn,w2,by lia,fun d u H3 g3 w3 hd ok sz dp cn=>?_⟩;refine ⟨(by show 3≤sizeLine;decide),fun p np=>?_⟩;have npw:=w3.ne np;have hl3:=WyIn.off w3 (hl2.mono (w2.tups g3));refine q (.tuple [.str g.str,aI l,d]) (.ref p) _ ((G2.trans g3).trans (But.new np _)) ((w3.keep (Same.new np _) (aaA _)).more (by lia)) ?_ ?_ ?_ ?_ (wU cn)
        · simp only [Dat,DatAll];exact ⟨p,_,rfl,iy npw,_,_,rfl,rfl,_,_,rfl,Dat.mono (gt np) _ _ hl3,_,_,rfl,Dat.mono (gt np) d u hd,rfl⟩
        · simp only [OkD,OkAll] at sgok ⊢;exact ⟨sgok,okl,ok,trivial⟩
        · simp only [szD,szAll];lia
        · simp only [aad,aac];lia
end
open PySem L2
def Cp8 (x:Str):Prop:=∀ c∈x.cps.toList,c < 16 ^ 8
theorem hV {x y:Str} (a:Cp8 x) (b:Cp8 y):Cp8 (x++y):=fun c h=>by
  have e:(x++y).cps=x.cps++y.cps:=rfl;rw [e,Array.toList_append] at h;exact (aao.mp h).elim (a c) (b c)
theorem l6 (s:String):Cp8 (abq s):=fun c h=>by
  rw [Str.ofString_eq_toList] at h;obtain ⟨k,_,rfl⟩:=abm.mp (by simpa using h);exact k.val.toNat_lt
theorem vG {a b c:Str} (ha:Cp8 a) (hb:Cp8 b) (hc:Cp8 c):Cp8 (tupleText [a,b,c]):=by
  unfold tupleText;refine hV (hV (l6 _) ?_) (l6 _);simp only [Str.join];exact hV (hV ha (l6 _)) (hV (hV hb (l6 _)) hc)
theorem rV:∀ w:Wy,Cp8 (aI w).shown
  | .num i=>by simp only [aI,PyData.shown_int];exact l6 _
  | .node g l r=>by
    simp only [aI,PyData.shown,abE];exact vG (by cases g <;> (unfold Cp8;decide +kernel)) (rV l) (rV r)
def mC:Sp:=fun vs H Q _=>∃ wl w v M,vs=[.ref wl,v]∧WyIn H w v∧w.size≤9∧w.Sm∧Wel H wl M∧M < 999900000∧∀ p xs H',But wl H H'→Wel H' wl (M+2000)→H p=none→H' p=some (.lst xs)→xs.length≤200→(∀ x∈xs,Gq mR (off wl H') x)→Q (.ref p) H'
theorem kI {d:PyData} (h:aX d=none):mR d=true:=by unfold mR bz;rw [h];rfl
theorem Tw.mono {H H':Hp} {v:V} (g:Same H H') (h:Tw H v):Tw H' v:=by obtain ⟨d,a,b⟩:=h;exact ⟨d,Dat.mono g d v a,b⟩
theorem Tw.gq {H:Hp} {v:V} (h:Tw H v):Gq mR H v:=by obtain ⟨d,a,b,c,e,g⟩:=h;exact fI a b (by lia) (by lia) (kI g)
section
variable {P:Program} {w:World} {K:aaa} {mg:Str→Option Value} {base:Heap} {f:Addr} {fd:FuncData}
abbrev dw:Stmt:=top 66
theorem bt:FnScope ["well","way","odd","wide","k"] ["well","way"] (ah dw):=⟨rfl,rfl,rfl,by decide +kernel,rfl,by decide +kernel,by decide +kernel⟩
theorem mV (F:Fun K "_law_no_ways" "_law_no_ways" dw f fd) (B:Bu K mg) (C__law_draw:Cal P w K mg base "_law_draw" 2 ["well","many"] dn) (C__law_bent:Cal P w K mg base "_law_bent" 13 ["well","way","thing"] (ke 10)):FnOk P w K mg base CX0 14 f fd ["well","way"] mC:=by
  refine F.ok bt (fun vs H Q E h=>?_) (fun cdv A outer s H vs Q E hr h=>?_)
  · obtain ⟨wl,wy,v,M,rfl,_⟩:=h;rfl
  obtain ⟨wl,wy,v,M,rfl,hv,hs9,hsm,hw,hM,q⟩:=h;refine ⟨_,(@ae _ _ _ _ _ (@ao _ _ (2) _ _ _ _ (bt).nd rfl (Or.inl rfl) (@ar _ _ _ _ (@aa _ _ _ _ _ bg (@aa _ _ _ _ _ cb (@aa _ _ _ _ _ cb (@aa _ _ _ _ _ aj (@aa _ _ _ _ _ aj (@aa _ _ _ _ _ (@ar _ _ _ _ (@aa _ _ _ _ _ ad ac (by rfl))) (@aa _ _ _ _ _ (@aq _ _ _ _ _ (@aa _ _ _ _ _ ad ac (by rfl))) (@aa _ _ _ _ _ dC (@aa _ _ _ _ _ (@aq _ _ _ _ _ ac) (@aa _ _ _ _ _ (@aq _ _ _ _ _ (@aa _ _ _ _ _ aj ac (by rfl))) (@aa _ _ _ _ _ (@aq _ _ _ _ _ (@aa _ _ _ _ _ aj (@aa _ _ _ _ _ ad ac (by rfl)) (by rfl))) (@aa _ _ _ _ _ (@aq _ _ _ _ _ (@aa _ _ _ _ _ aj (@aa _ _ _ _ _ ad (@aa _ _ _ _ _ ad (@aa _ _ _ _ _ ad ac (by rfl)) (by rfl)) (by rfl)) (by rfl))) (@aa _ _ _ _ _ (@ar _ _ _ _ (@aa _ _ _ _ _ aj (@aa _ _ _ _ _ ad (@aa _ _ _ _ _ ad ac (by rfl)) (by rfl)) (by rfl))) (@aa _ _ _ _ _ (@aq _ _ _ _ _ (@aa _ _ _ _ _ aj (@aa _ _ _ _ _ ad (@aa _ _ _ _ _ ad ac (by rfl)) (by rfl)) (by rfl))) ac (by rfl)) (by rfl)) (by rfl)) (by rfl)) (by rfl)) (by rfl)) (by rfl)) (by rfl)) (by rfl)) (by rfl)) (by rfl)) (by rfl)) (by rfl)) (by rfl))) (by rfl) (by first|exact .inl rfl|exact .inr rfl|assumption)) (@ae _ _ _ _ _ (@ao _ _ (2) _ _ _ _ (bt).nd rfl (Or.inl rfl) (@al _ _ _ _ _ _ _ _ bj (pv 2) (@ar _ _ _ _ (@aa _ _ _ _ _ (@aq _ _ _ _ _ (@aa _ _ _ _ _ aj (@aa _ _ _ _ _ ad (@aa _ _ _ _ _ ad ac (by rfl)) (by rfl)) (by rfl))) (@aa _ _ _ _ _ (@aq _ _ _ _ _ (@aa _ _ _ _ _ aj (@aa _ _ _ _ _ ad (@aa _ _ _ _ _ ad ac (by rfl)) (by rfl)) (by rfl))) (@aa _ _ _ _ _ (@aq _ _ _ _ _ (@aa _ _ _ _ _ aj (@aa _ _ _ _ _ ad (@aa _ _ _ _ _ ad ac (by rfl)) (by rfl)) (by rfl))) (@aa _ _ _ _ _ (@aq _ _ _ _ _ (@aa _ _ _ _ _ ad (@aa _ _ _ _ _ aj (@aa _ _ _ _ _ ad ac (by rfl)) (by rfl)) (by rfl))) (@aa _ _ _ _ _ (@aq _ _ _ _ _ (@aa _ _ _ _ _ bg (@aa _ _ _ _ _ ad (@aa _ _ _ _ _ ad ac (by rfl)) (by rfl)) (by rfl))) (@aa _ _ _ _ _ (@aq _ _ _ _ _ (@aa _ _ _ _ _ aj (@aa _ _ _ _ _ ad (@aa _ _ _ _ _ bg ac (by rfl)) (by rfl)) (by rfl))) (@aa _ _ _ _ _ (@aq _ _ _ _ _ (@aa _ _ _ _ _ aj (@aa _ _ _ _ _ cb (@aa _ _ _ _ _ ad ac (by rfl)) (by rfl)) (by rfl))) ac (by rfl)) (by rfl)) (by rfl)) (by rfl)) (by rfl)) (by rfl)) (by rfl)))) (by rfl) (by first|exact .inl rfl|exact .inr rfl|assumption)) (@ae _ _ _ _ _ (@ao _ _ (3) _ _ _ _ (bt).nd rfl (Or.inl rfl) ad (by rfl) (by first|exact .inl rfl|exact .inr rfl|assumption)) (@ae _ _ _ _ _ (@fj _ _ _ _ _ _ _ _ abe rfl (@df _ _ _ _ _ _ rfl B.irange (@aa _ _ _ _ _ ad ac (by rfl)) (by rfl)) (@au _ _ (4) _ (bt).nd rfl (Or.inl rfl) (.inl rfl)) (@af _ _ _ (@ao _ _ (3) _ _ _ _ (bt).nd rfl (Or.inl rfl) (@bn _ _ _ _ _ _ _ ix_list (@ar _ _ _ _ (@aa _ _ _ _ _ (@aq _ _ _ _ _ (@aa _ _ _ _ _ aj (@aa _ _ _ _ _ (pv 3) (@aa _ _ _ _ _ (pv 4) ac (by rfl)) (by rfl)) (by rfl))) (@aa _ _ _ _ _ (@aq _ _ _ _ _ (@aa _ _ _ _ _ aj (@aa _ _ _ _ _ (pv 4) (@aa _ _ _ _ _ (pv 3) ac (by rfl)) (by rfl)) (by rfl))) ac (by rfl)) (by rfl))) (@ag _ _ _ _ _ _ _ _ _ _ _ C__law_draw hr (by lia) rfl (@aa _ _ _ _ _ (pv 0) (@aa _ _ _ _ _ ad ac (by rfl)) (by rfl)) (by decide) (by rfl) (by rfl)) (fun _ _=>rfl)) (by rfl) (by first|exact .inl rfl|exact .inr rfl|assumption))) (by intro _;rfl)) (@af _ _ _ (@ak _ _ _ _ (@al _ _ _ _ _ _ _ _ bj (@al _ _ _ _ _ _ _ _ bj (@eQ _ _ _ _ _ _ _ _ (["thing","well","way"]) ([none,some 0,some 1]) _ _ _ _ rfl (@bT _ _ _ _ (pv 2)) rfl ⟨rfl,⟨rfl,trivial⟩⟩ ⟨⟨rfl,Or.inl rfl,Or.inl rfl⟩,⟨⟨rfl,Or.inl rfl,Or.inl rfl⟩,trivial⟩⟩ (fun _ _ _ _=>⟨(@au _ _ (0) _ (show aa6 (["thing","well","way"]:List Str) by decide +kernel) rfl (Or.inl rfl) (.inr rfl)),bi,(@ag _ _ _ _ _ _ _ _ _ _ _ C__law_bent hr (by lia) rfl (@aa _ _ _ _ _ (pv 1) (@aa _ _ _ _ _ (pv 2) (@aa _ _ _ _ _ (pv 0) ac (by rfl)) (by rfl)) (by rfl)) (by decide) (by rfl) (by rfl))⟩) (by rfl) (by rfl) (by rfl) (by rfl) (by intro _;rfl)) (pv 2)) (@ar _ _ _ _ (@aa _ _ _ _ _ (pv 3) (@aa _ _ _ _ _ (@ar _ _ _ _ (@aa _ _ _ _ _ (pv 1) ac (by rfl))) (@aa _ _ _ _ _ (@cE _ _ _ _ _ _ _ _ _ (qb hr.gd hr.units) rfl B.istr ab6 (@aa _ _ _ _ _ (pv 1) ac (by rfl)) (by decide) (by decide) (by rfl) (by rfl)) ac (by rfl)) (by rfl)) (by rfl)))))))))),?_⟩;have A:Al wl H H []:=⟨Same.refl _,by obtain ⟨_,_,e,_⟩:=hw;exact ⟨_,e⟩,fun x hx=>nomatch hx⟩
  refine ⟨(by show 1≤sizeLine;decide),fun p1 n_p1=>?_⟩
  replace A:=A.new n_p1 (.lst [.int 1])
  generalize upd H p1 (.lst [.int 1])=h_p1 at A ⊢;refine ⟨(by show 1≤sizeLine;decide),fun p2 n_p2=>?_⟩
  replace A:=A.new n_p2 (.tup [.int 1])
  generalize upd h_p1 p2 (.tup [.int 1])=h_p2 at A ⊢;refine fun p3 n_p3=>?_
  replace A:=A.new n_p3 (.dK [])
  generalize upd h_p2 p3 (.dK [])=h_p3 at A ⊢;refine ⟨(by show 0≤sizeLine;decide),fun p4 n_p4=>?_⟩
  replace A:=A.new n_p4 (.tup [])
  generalize upd h_p3 p4 (.tup [])=h_p4 at A ⊢;refine ⟨(by show 1≤sizeLine;decide),fun p5 n_p5=>?_⟩
  replace A:=A.new n_p5 (.tup [.str "+"])
  generalize upd h_p4 p5 (.tup [.str "+"])=h_p5 at A ⊢;refine ⟨(by show 2≤sizeLine;decide),fun p6 n_p6=>?_⟩
  replace A:=A.new n_p6 (.tup [.str "+",.int 1])
  generalize upd h_p5 p6 (.tup [.str "+",.int 1])=h_p6 at A ⊢;refine ⟨(by show 4≤sizeLine;decide),fun p7 n_p7=>?_⟩
  replace A:=A.new n_p7 (.tup [.str "+",.int 1,.int 2,.int 3])
  generalize upd h_p6 p7 (.tup [.str "+",.int 1,.int 2,.int 3])=h_p7 at A ⊢;refine ⟨(by show 3≤sizeLine;decide),fun p8 n_p8=>?_⟩
  replace A:=A.new n_p8 (.lst [.str "+",.int 1,.int 2])
  generalize upd h_p7 p8 (.lst [.str "+",.int 1,.int 2])=h_p8 at A ⊢;refine ⟨(by show 3≤sizeLine;decide),fun p9 n_p9=>?_⟩
  replace A:=A.new n_p9 (.tup [.str "/",.int 1,.int 2])
  generalize upd h_p8 p9 (.tup [.str "/",.int 1,.int 2])=h_p9 at A ⊢;refine ⟨(by show 14≤sizeLine;decide),fun po n_po=>?_⟩
  replace A:=A.new n_po (.lst [.non,.bl true,.bl false,.str "1",.str "",.ref p1,.ref p2,.ref p3,.ref p4,.ref p5,.ref p6,.ref p7,.ref p8,.ref p9])
  generalize upd h_p9 po (.lst [.non,.bl true,.bl false,.str "1",.str "",.ref p1,.ref p2,.ref p3,.ref p4,.ref p5,.ref p6,.ref p7,.ref p8,.ref p9])=h_po at A ⊢;refine ⟨_,rfl,?_⟩;refine ⟨(by show 3≤sizeLine;decide),fun q1 n_q1=>?_⟩
  replace A:=A.new n_q1 (.tup [.str "++",.int 1,.int 2])
  generalize upd h_po q1 (.tup [.str "++",.int 1,.int 2])=h_q1 at A ⊢;refine ⟨(by show 3≤sizeLine;decide),fun q2 n_q2=>?_⟩
  replace A:=A.new n_q2 (.tup [.str "+-",.int 1,.int 2])
  generalize upd h_q1 q2 (.tup [.str "+-",.int 1,.int 2])=h_q2 at A ⊢;refine ⟨(by show 3≤sizeLine;decide),fun q3 n_q3=>?_⟩
  replace A:=A.new n_q3 (.tup [.str "",.int 1,.int 2])
  generalize upd h_q2 q3 (.tup [.str "",.int 1,.int 2])=h_q3 at A ⊢;refine ⟨(by show 3≤sizeLine;decide),fun q4 n_q4=>?_⟩
  replace A:=A.new n_q4 (.tup [.int 1,.str "+",.int 2])
  generalize upd h_q3 q4 (.tup [.int 1,.str "+",.int 2])=h_q4 at A ⊢;refine ⟨(by show 3≤sizeLine;decide),fun q5 n_q5=>?_⟩
  replace A:=A.new n_q5 (.tup [.non,.int 1,.int 2])
  generalize upd h_q4 q5 (.tup [.non,.int 1,.int 2])=h_q5 at A ⊢;refine ⟨(by show 3≤sizeLine;decide),fun q6 n_q6=>?_⟩
  replace A:=A.new n_q6 (.tup [.str "+",.int 1,.non])
  generalize upd h_q5 q6 (.tup [.str "+",.int 1,.non])=h_q6 at A ⊢;refine ⟨(by show 3≤sizeLine;decide),fun q7 n_q7=>?_⟩
  replace A:=A.new n_q7 (.tup [.str "*",.bl true,.int 2])
  generalize upd h_q6 q7 (.tup [.str "*",.bl true,.int 2])=h_q7 at A ⊢;refine ⟨(by show 7≤sizeLine;decide),fun pr n_pr=>?_⟩
  replace A:=A.new n_pr (.lst [.ref q1,.ref q2,.ref q3,.ref q4,.ref q5,.ref q6,.ref q7])
  generalize upd h_q7 pr (.lst [.ref q1,.ref q2,.ref q3,.ref q4,.ref q5,.ref q6,.ref q7])=h_pr at A ⊢;refine ⟨po,pr,_,_,rfl,rfl,A.up 8 rfl,A.up 0 rfl,(by show 21≤sizeLine;decide),fun pp n_pp=>?_⟩
  replace A:=A.new n_pp (.lst ([.non,.bl true,.bl false,.str "1",.str "",.ref p1,.ref p2,.ref p3,.ref p4,.ref p5,.ref p6,.ref p7,.ref p8,.ref p9]++[.ref q1,.ref q2,.ref q3,.ref q4,.ref q5,.ref q6,.ref q7]))
  generalize upd h_pr pp (.lst ([.non,.bl true,.bl false,.str "1",.str "",.ref p1,.ref p2,.ref p3,.ref p4,.ref p5,.ref p6,.ref p7,.ref p8,.ref p9]++[.ref q1,.ref q2,.ref q3,.ref q4,.ref q5,.ref q6,.ref q7]))=h_pp at A ⊢;have f_p1:=A.at 18 rfl;have f_p2:=A.at 17 rfl;have f_p3:=A.at 16 rfl;have f_p4:=A.at 15 rfl;have f_p5:=A.at 14 rfl;have f_p6:=A.at 13 rfl;have f_p7:=A.at 12 rfl;have f_p8:=A.at 11 rfl;have f_p9:=A.at 10 rfl;have f_q1:=A.at 8 rfl;have f_q2:=A.at 7 rfl;have f_q3:=A.at 6 rfl;have f_q4:=A.at 5 rfl;have f_q5:=A.at 4 rfl;have f_q6:=A.at 3 rfl;have f_q7:=A.at 2 rfl;have hodd:∀ x∈([.non,.bl true,.bl false,.str "1",.str "",.ref p1,.ref p2,.ref p3,.ref p4,.ref p5,.ref p6,.ref p7,.ref p8,.ref p9]++[.ref q1,.ref q2,.ref q3,.ref q4,.ref q5,.ref q6,.ref q7]:List V),Tw (off wl h_pp) x:=fun x hm=>by
    simp only [abh,List.nil_append,aah,aaO,or_false] at hm;rcases hm with rfl|rfl|rfl|rfl|rfl|rfl|rfl|rfl|rfl|rfl|rfl|rfl|rfl|rfl|rfl|rfl|rfl|rfl|rfl|rfl|rfl
    · exact ⟨.none,by simp only [Dat],by simp only [OkD],by simp [szD],by simp [aad],by simp only [aX]⟩
    · exact ⟨.bool true,by simp only [Dat],by simp only [OkD],by simp [szD],by simp [aad],by simp only [aX]⟩
    · exact ⟨.bool false,by simp only [Dat],by simp only [OkD],by simp [szD],by simp [aad],by simp only [aX]⟩
    · exact ⟨.str "1",by simp only [Dat],by simp only [OkD];decide +kernel,by simp [szD],by simp [aad],by simp only [aX]⟩
    · exact ⟨.str "",by simp only [Dat],by simp only [OkD];decide +kernel,by simp [szD],by simp [aad],by simp only [aX]⟩
    · exact ⟨.list [.int 1],by simp only [Dat,DatAll];exact ⟨p1,_,rfl,f_p1,_,_,rfl,rfl,rfl⟩,by simp only [OkD,OkAll] <;> decide +kernel,by simp [szD,szAll],by simp [aad,aac],by first|rfl|decide +kernel⟩
    · exact ⟨.tuple [.int 1],by simp only [Dat,DatAll];exact ⟨p2,_,rfl,f_p2,_,_,rfl,rfl,rfl⟩,by simp only [OkD,OkAll] <;> decide +kernel,by simp [szD,szAll],by simp [aad,aac],by first|rfl|decide +kernel⟩
    · exact ⟨.dict [],by simp only [Dat,DatKv];exact ⟨p3,_,rfl,f_p3,rfl⟩,by simp only [OkD],by simp [szD],by simp [aad,abY],by simp only [aX]⟩
    · exact ⟨.tuple [],by simp only [Dat,DatAll];exact ⟨p4,_,rfl,f_p4,rfl⟩,by simp only [OkD,OkAll] <;> decide +kernel,by simp [szD,szAll],by simp [aad,aac],by first|rfl|decide +kernel⟩
    · exact ⟨.tuple [.str "+"],by simp only [Dat,DatAll];exact ⟨p5,_,rfl,f_p5,_,_,rfl,rfl,rfl⟩,by simp only [OkD,OkAll] <;> decide +kernel,by simp [szD,szAll],by simp [aad,aac],by first|rfl|decide +kernel⟩
    · exact ⟨.tuple [.str "+",.int 1],by simp only [Dat,DatAll];exact ⟨p6,_,rfl,f_p6,_,_,rfl,rfl,_,_,rfl,rfl,rfl⟩,by simp only [OkD,OkAll] <;> decide +kernel,by simp [szD,szAll],by simp [aad,aac],by first|rfl|decide +kernel⟩
    · exact ⟨.tuple [.str "+",.int 1,.int 2,.int 3],by simp only [Dat,DatAll];exact ⟨p7,_,rfl,f_p7,_,_,rfl,rfl,_,_,rfl,rfl,_,_,rfl,rfl,_,_,rfl,rfl,rfl⟩,by simp only [OkD,OkAll] <;> decide +kernel,by simp [szD,szAll],by simp [aad,aac],by first|rfl|decide +kernel⟩
    · exact ⟨.list [.str "+",.int 1,.int 2],by simp only [Dat,DatAll];exact ⟨p8,_,rfl,f_p8,_,_,rfl,rfl,_,_,rfl,rfl,_,_,rfl,rfl,rfl⟩,by simp only [OkD,OkAll] <;> decide +kernel,by simp [szD,szAll],by simp [aad,aac],by first|rfl|decide +kernel⟩
    · exact ⟨.tuple [.str "/",.int 1,.int 2],by simp only [Dat,DatAll];exact ⟨p9,_,rfl,f_p9,_,_,rfl,rfl,_,_,rfl,rfl,_,_,rfl,rfl,rfl⟩,by simp only [OkD,OkAll] <;> decide +kernel,by simp [szD,szAll],by simp [aad,aac],by first|rfl|decide +kernel⟩
    · exact ⟨.tuple [.str "++",.int 1,.int 2],by simp only [Dat,DatAll];exact ⟨q1,_,rfl,f_q1,_,_,rfl,rfl,_,_,rfl,rfl,_,_,rfl,rfl,rfl⟩,by simp only [OkD,OkAll] <;> decide +kernel,by simp [szD,szAll],by simp [aad,aac],by first|rfl|decide +kernel⟩
    · exact ⟨.tuple [.str "+-",.int 1,.int 2],by simp only [Dat,DatAll];exact ⟨q2,_,rfl,f_q2,_,_,rfl,rfl,_,_,rfl,rfl,_,_,rfl,rfl,rfl⟩,by simp only [OkD,OkAll] <;> decide +kernel,by simp [szD,szAll],by simp [aad,aac],by first|rfl|decide +kernel⟩
    · exact ⟨.tuple [.str "",.int 1,.int 2],by simp only [Dat,DatAll];exact ⟨q3,_,rfl,f_q3,_,_,rfl,rfl,_,_,rfl,rfl,_,_,rfl,rfl,rfl⟩,by simp only [OkD,OkAll] <;> decide +kernel,by simp [szD,szAll],by simp [aad,aac],by first|rfl|decide +kernel⟩
    · exact ⟨.tuple [.int 1,.str "+",.int 2],by simp only [Dat,DatAll];exact ⟨q4,_,rfl,f_q4,_,_,rfl,rfl,_,_,rfl,rfl,_,_,rfl,rfl,rfl⟩,by simp only [OkD,OkAll] <;> decide +kernel,by simp [szD,szAll],by simp [aad,aac],by first|rfl|decide +kernel⟩
    · exact ⟨.tuple [.none,.int 1,.int 2],by simp only [Dat,DatAll];exact ⟨q5,_,rfl,f_q5,_,_,rfl,rfl,_,_,rfl,rfl,_,_,rfl,rfl,rfl⟩,by simp only [OkD,OkAll] <;> decide +kernel,by simp [szD,szAll],by simp [aad,aac],by first|rfl|decide +kernel⟩
    · exact ⟨.tuple [.str "+",.int 1,.none],by simp only [Dat,DatAll];exact ⟨q6,_,rfl,f_q6,_,_,rfl,rfl,_,_,rfl,rfl,_,_,rfl,rfl,rfl⟩,by simp only [OkD,OkAll] <;> decide +kernel,by simp [szD,szAll],by simp [aad,aac],by first|rfl|decide +kernel⟩
    · exact ⟨.tuple [.str "*",.bool true,.int 2],by simp only [Dat,DatAll];exact ⟨q7,_,rfl,f_q7,_,_,rfl,rfl,_,_,rfl,rfl,_,_,rfl,rfl,rfl⟩,by simp only [OkD,OkAll] <;> decide +kernel,by simp [szD,szAll],by simp [aad,aac],by first|rfl|decide +kernel⟩
  have epp:=A.up 0 rfl;have npp:pp≠wl:=fun e=>by have z:=A.at 0 rfl;simp only [e,off,if_true] at z;cases z
  have lod:([.non,.bl true,.bl false,.str "1",.str "",.ref p1,.ref p2,.ref p3,.ref p4,.ref p5,.ref p6,.ref p7,.ref p8,.ref p9]++[.ref q1,.ref q2,.ref q3,.ref q4,.ref q5,.ref q6,.ref q7]:List V).length=21:=rfl;generalize ([.non,.bl true,.bl false,.str "1",.str "",.ref p1,.ref p2,.ref p3,.ref p4,.ref p5,.ref p6,.ref p7,.ref p8,.ref p9]++[.ref q1,.ref q2,.ref q3,.ref q4,.ref q5,.ref q6,.ref q7]:List V)=od at epp hodd lod;have hw1:=hw.keep A.same (aaA _);have dle:=wy.deep_le;have g1:But wl H h_pp:=But.of A.same;have hv1:=hv.mono (Tups.of A.same);clear A;refine ⟨9,rfl,by decide,by decide,hJ (n:=9) (fun k σ H'=>∃ (wd:Wy) (u:V) (c5:Option V),σ=[some (.ref wl),some v,some (.ref pp),some u,c5]∧But wl h_pp H'∧Wel H' wl (M+k)∧WyIn H' wd u∧wd.size=k+1∧wd.deep≤k+1∧wd.Sm) ⟨.num 1,.int 1,_,rfl,But.refl,hw1.more (by lia),rfl,rfl,(by show 1≤1;decide),fun i hi=>by rw [aaL.mp hi];decide⟩ ?_ ?_⟩
  · rintro k σ K0 hk ⟨wd,u,c5,rfl,b0,w0,hu,hz,hdp,hsd⟩;refine ⟨_,rfl,_,rfl,(by show 3≤sizeLine;decide),fun t1 n1=>⟨_,rfl,_,rfl,(by show 3≤sizeLine;decide),fun t2 n2=>⟨(by show 2≤sizeLine;decide),fun t3 n3=>?_⟩⟩⟩;have k1:=Same.new n1 (.tup [.str "+",u,.int (0+(k:Int))]);have k2:=Same.new n2 (.tup [.str "*",.int (0+(k:Int)),u]);have k3:=Same.new n3 (.lst [.ref t1,.ref t2]);have S:=(k1.trans k2).trans k3;have w3:=w0.keep S (aaA _);have n1w:=w0.ne n1;have n2w:=(w0.keep k1 (aaA _)).ne n2;have n3w:=(w0.keep (k1.trans k2) (aaA _)).ne n3;have e1:=k3 _ _ (k2 _ _ (upd_same (H:=K0) (a:=t1) (o:=.tup [.str "+",u,.int (0+(k:Int))])));have e2:=k3 _ _ (upd_same (H:=upd K0 t1 (.tup [.str "+",u,.int (0+(k:Int))])) (a:=t2) (o:=.tup [.str "*",.int (0+(k:Int)),u]));have e3:upd (upd (upd K0 t1 (.tup [.str "+",u,.int (0+(k:Int))])) t2 (.tup [.str "*",.int (0+(k:Int)),u])) t3 (.lst [.ref t1,.ref t2]) t3=_:=upd_same;have hu3:=hu.mono (Tups.of S);generalize upd (upd (upd K0 t1 (.tup [.str "+",u,.int (0+(k:Int))])) t2 (.tup [.str "*",.int (0+(k:Int)),u])) t3 (.lst [.ref t1,.ref t2])=K3 at S w3 e1 e2 e3 hu3 ⊢;refine ⟨_,rfl,wl,2,_,rfl,by decide,by decide,w3,by lia,fun r2 K4 a2 c2 b4 w4=>?_⟩;have hu4:=hu3.mono (w3.tups b4);have sn:∀ j∈[0+(k:Int)],j.natAbs < 10 ^ 40:=fun j hj=>by rw [aaL.mp hj];lia
    have c01:r2=0∨r2=1:=by lia
    rcases c01 with rfl|rfl
    · refine ⟨t3,_,_,_,rfl,rfl,SqL.of (b4 _ _ n3w e3),rfl,?_⟩;refine ⟨.node .plus wd (.num (0+(k:Int))),.ref t1,_,rfl,(b0.trans (But.of S)).trans b4,w4.more (by lia),⟨t1,u,_,rfl,b4 _ _ n1w e1,hu4,rfl⟩,?_,?_,fun j hj=>(aao.mp hj).elim (hsd j) (sn j)⟩
      · show wd.size+1=_;lia
      · show max wd.deep 1+1≤_;lia
    · refine ⟨t3,_,_,_,rfl,rfl,SqL.of (b4 _ _ n3w e3),rfl,?_⟩;refine ⟨.node .times (.num (0+(k:Int))) wd,.ref t2,_,rfl,(b0.trans (But.of S)).trans b4,w4.more (by lia),⟨t2,_,u,rfl,b4 _ _ n2w e2,rfl,hu4⟩,?_,?_,fun j hj=>(aao.mp hj).elim (sn j) (hsd j)⟩
      · show 1+wd.size=_;lia
      · show max 1 wd.deep+1≤_;lia
  · rintro σ K9 ⟨wd,u,c5,rfl,b9,w9,hu,hz,hdp,hsd⟩;have hv9:=hv1.mono (hw1.tups b9);have ep9:=b9 _ _ npp epp;refine ⟨_,rfl,pp,rfl,⟨_,SqL.of ep9⟩,eR (Trn.list (xs:=od)) (fun i ys H'=>But wl K9 H'∧Wel H' wl (M+9+60 * i)∧ys.length=i∧∀ y∈ys,Gq mR (off wl H') y) ⟨But.refl,w9.more (by lia),rfl,fun _ z=>nomatch z⟩ (fun i ys H' hi z=>⟨SqL.of (z.1 _ _ npp ep9),aC (by rw [z.2.2.1];lia)⟩) (fun i x ys H0 H' hi hx z Nx nx=>?_) (fun ys K2 z pL nL=>?_)⟩
    · obtain ⟨bx,wx,ly,gy⟩:=z;obtain ⟨rfl,hx⟩:=hx;obtain ⟨dt,d1,d2,d3,d4,d5⟩:=(hodd x (aaK hx)).mono (a_ (b9.trans bx));refine ⟨_,rfl,_,rfl,_,rfl,wl,wy,v,x,dt,_,rfl,hv9.mono (w9.tups bx),by lia,by decide,hsm,d1,d2,d3,d4,d5,wx,by lia,fun d u H5 b5 w5 hd ok sz dp cn=>nx _ _ ⟨bx.trans b5,w5.more (by lia),by rw [aae,ly];rfl,fun y hy=>?_⟩⟩;rcases aao.mp hy with hy|hy
      · exact (gy y hy).mono (a_ b5)
      · rw [aaL.mp hy];exact fI hd ok (by lia) (by lia) (kI cn)
    · obtain ⟨b2,w2,ly,gy⟩:=z;rw [lod] at ly;have hv2:=hv9.mono (w9.tups b2);have hu2:=hu.mono (w9.tups b2);have ep2:=b2 _ _ npp ep9;have B2:=(g1.trans b9).trans b2;have k1:=Same.new nL (.lst ys);refine ⟨_,rfl,pL,pp,_,_,rfl,rfl,upd_same,k1 _ _ ep2,av (by rw [ly,lod];decide),fun pM nM=>?_⟩;have k2:=Same.new nM (.lst (ys++od));have S2:=k1.trans k2;have eM:upd (upd K2 pL (.lst ys)) pM (.lst (ys++od)) pM=_:=upd_same;generalize upd (upd K2 pL (.lst ys)) pM (.lst (ys++od))=K3 at S2 eM ⊢;have okw:=iC wy hsm;have szw:=iB wy;have dpw:=cM wy;have PR:=lw okw (by lia) (by lia);refine ⟨_,rfl,_,rfl,(by show 1≤sizeLine;decide),fun c1 m1=>?_⟩;have k3:=Same.new m1 (.lst [v]);have S3:=S2.trans k3;have e1:upd K3 c1 (.lst [v]) c1=some (.lst [v]):=upd_same;have eM3:=k3 _ _ eM;have n1w:=(w2.keep S2 (aaA _)).ne m1;generalize upd K3 c1 (.lst [v])=K4 at S3 e1 eM3 ⊢;have hv4:=hv2.mono (Tups.of S3);refine ⟨_,rfl,_,aI wy,rfl,hv4.dat,by cases wy <;> simp [aI],PR.1,by have:=PR.2.1;lia,aaZ PR.2.2 (by rw [sizeLine_eq];decide),(by show 3≤sizeLine;decide),fun c2 m2=>?_⟩;have k4:=Same.new m2 (.lst [u,.ref c1,.str (aI wy).shown]);refine ⟨pM,c2,_,_,rfl,rfl,k4 _ _ eM3,upd_same,av (by rw [aae,ly,lod];show 21+21+3≤1000;decide),fun pR nR=>?_⟩;have k5:=Same.new nR (.lst (ys++od++[u,.ref c1,.str (aI wy).shown]));have S5:=(S3.trans k4).trans k5;have w5:=w2.keep S5 (aaA _);refine q pR _ _ (B2.trans (But.of S5)) (w5.more (by lia)) (But.free B2 w2 ((S3.trans k4).free nR)) upd_same (by rw [aae,aae,ly,lod];show 21+21+3≤200;decide) (fun x hx=>?_);rcases aao.mp hx with hx|hx
      · rcases aao.mp hx with hx|hx
        · exact (gy x hx).mono (bK S5)
        · exact ((hodd x hx).mono (a_ ((b9.trans b2).trans (But.of S5)))).gq
      · simp only [aah,aaO,or_false] at hx;have szu:=iB wd;have dpu:=cM wd;rcases hx with rfl|rfl|rfl
        · refine fI (WyIn.off w5 (hu2.mono (Tups.of S5))) (iC wd hsd) (by lia) (by lia) ?_;unfold mR bz;rw [jW,hz];rfl
        · have e5:=k5 _ _ (k4 _ _ e1);refine dH (ds:=[aI wy]) ((bY n1w).trans e5) (by simp only [DatAll];exact ⟨_,_,rfl,WyIn.off w5 (hv2.mono (Tups.of S5)),rfl⟩) (by simp only [OkAll];exact ⟨okw,trivial⟩) (by simp only [szAll];lia) (by simp only [aac];lia) (kI (by simp only [aX]))
        · refine ⟨.str (aI wy).shown,by simp only [Dat],⟨by simp [abf],by simp [aad],?_⟩,kI (by simp only [aX])⟩;have r1:=PySem.StrLaws.reprText_len (aI wy).shown (rV wy);have r2:=mX (aI wy) okw;simp only [PyData.shown_str];lia
end
open PySem L2
def mE:Sp:=fun vs H Q _=>∃ wl v ps qs M,vs=[.ref wl,v]∧HdIn (off wl H) ps qs v∧Gs ps∧Gs qs∧Wel H wl M∧M < 999900000∧∀ p xs H',But wl H H'→Wel H' wl (M+100)→H p=none→H' p=some (.lst xs)→xs.length≤200→(∀ x∈xs,Gq pHd (off wl H') x)→Q (.ref p) H'
def Ts (H:Hp) (v:V):Prop:=∃ d,Dat H d v∧OkD d∧szD d≤10∧d.depth≤3∧bB d=false
theorem Ts.mono {H H':Hp} {v:V} (g:Same H H') (h:Ts H v):Ts H' v:=by obtain ⟨d,a,b⟩:=h;exact ⟨d,Dat.mono g d v a,b⟩
theorem nN {H:Hp}:∀ {ds:List PyData} {vs:List V} {es:List PyData} {us:List V},DatAll H ds vs→DatAll H es us→DatAll H (ds++es) (vs++us)
  | [],vs,es,us,h,k=>by simp only [DatAll] at h;subst h;exact k
  | d :: ds,vs,es,us,h,k=>by
    simp only [DatAll] at h;obtain ⟨v,r,rfl,h1,h2⟩:=h;simp only [abh,DatAll];exact ⟨v,_,rfl,h1,nN h2 k⟩
theorem oU {H:Hp}:∀ {ps:List (Int × Int)} {us:List V} (n:Nat),DatAll H (ps.map pD) us→DatAll H ((ps.take n).map pD) (us.take n)
  | [],us,n,h=>by simp only [abl,DatAll] at h;subst h;simp only [List.take_nil,abl,DatAll]
  | p :: ps,us,0,h=>by simp only [List.take_zero,abl,DatAll]
  | p :: ps,us,n+1,h=>by
    simp only [aax,DatAll] at h;obtain ⟨v,r,rfl,h1,h2⟩:=h;simp only [List.take_succ_cons,aax,DatAll];exact ⟨v,_,rfl,h1,oU n h2⟩
theorem oV {H:Hp}:∀ {ps:List (Int × Int)} {us:List V} (n:Nat),DatAll H (ps.map pD) us→DatAll H ((ps.drop n).map pD) (us.drop n)
  | [],us,n,h=>by simp only [abl,DatAll] at h;subst h;simp only [List.drop_nil,abl,DatAll]
  | p :: ps,us,0,h=>h
  | p :: ps,us,n+1,h=>by
    simp only [aax,DatAll] at h;obtain ⟨v,r,rfl,h1,h2⟩:=h;simp only [List.drop_succ_cons];exact oV n h2
theorem Gs.take {ps:List (Int × Int)} (h:Gs ps) (n:Nat):Gs (ps.take n):=⟨by rw [aaF];have:=h.1;lia,fun p hp=>h.2 p (abM hp)⟩
theorem Gs.drop {ps:List (Int × Int)} (h:Gs ps) (n:Nat):Gs (ps.drop n):=⟨by rw [aaQ];have:=h.1;lia,fun p hp=>h.2 p (List.mem_of_mem_drop hp)⟩
theorem iU:∀ {ps:List (Int × Int)},(∀ p∈ps,Gp p)→OkAll (ps.map pD)
  | [],_=>by simp only [abl,OkAll]
  | p :: ps,h=>by
    obtain ⟨h1,h2,h3⟩:=h p aav;simp only [aax,OkAll,pD,OkD];exact ⟨⟨by lia,by lia,trivial⟩,iU fun q hq=>h q (aat _ hq)⟩
theorem iG:∀ ps:List (Int × Int),szAll (ps.map pD)=3 * ps.length
  | []=>rfl
  | p :: ps=>by simp only [aax,szAll,pD,szD,iG ps,aaD];lia
theorem jh:∀ ps:List (Int × Int),aac (ps.map pD)≤1
  | []=>by simp [aac]
  | p :: ps=>by
    have:=jh ps;simp only [aax,aac,pD,aad];lia
def Ld (H:Hp) (d:PyData) (v:V):Prop:=Dat H d v∧OkD d∧szD d≤200∧d.depth≤10
theorem oB {H:Hp} {ps:List (Int × Int)} {v:V} (h:StIn H ps v) (g:Gs ps):Ld H (sD ps) v:=by
  have z1:=iG ps;have z2:=jh ps;have g1:=g.1;refine ⟨h.dat,?_,?_,?_⟩
  · simp only [sD,OkD];exact iU g.2
  · simp only [sD,szD];lia
  · simp only [sD,aad];lia
theorem qX {H:Hp} {ps:List (Int × Int)} {us:List V} {c:Addr} {x:V} {d:PyData} {n:Nat} (e:H c=some (.lst (us.take n++[x]++us.drop n))) (hp:DatAll H (ps.map pD) us) (g:Gs ps) (h1:Dat H d x) (h2:OkD d) (h3:szD d≤10) (h4:d.depth≤3):Ld H (.list ((ps.take n).map pD++[d]++(ps.drop n).map pD)) (.ref c):=by
  have g1:=g.1;have a1:=iG (ps.take n);have a2:=iG (ps.drop n);have b1:=jh (ps.take n);have b2:=jh (ps.drop n);rw [aaF] at a1;rw [aaQ] at a2;refine ⟨?_,?_,?_,?_⟩
  · simp only [Dat];exact ⟨c,_,rfl,e,nN (nN (oU n hp) (by simp only [DatAll];exact ⟨_,_,rfl,h1,rfl⟩)) (oV n hp)⟩
  · simp only [OkD];exact iX (iX (iU (g.take n).2) (by simp only [OkAll];exact ⟨h2,trivial⟩)) (iU (g.drop n).2)
  · simp only [szD,j5,szAll];lia
  · simp only [aad,kS,aac];lia
theorem qT {A B:List PyData} {d:PyData} (h:bB d=false):cf (.list (A++[d]++B))=false:=by
  show (decide (_≤40) && (A++[d]++B).all bB)=false;rw [List.all_append,List.all_append];simp [h]
theorem vz {a b:PyData} (h:cf a=false):pHd (.tuple [a,b])=true:=by
  show (!(cf a && cf b))=true;rw [h];rfl
theorem tJ {a b:PyData} (h:cf b=false):pHd (.tuple [a,b])=true:=by
  show (!(cf a && cf b))=true;rw [h,Bool.and_false];rfl
theorem fv {H:Hp} {c:Addr} {x y:V} {a b:PyData} (e:H c=some (.tup [x,y])) (hx:Ld H a x) (hy:Ld H b y) (h:pHd (.tuple [a,b])=true):Gq pHd H (.ref c) :=
  g_ (ds:=[a,b]) e (by simp only [DatAll];exact ⟨_,_,rfl,hx.1,_,_,rfl,hy.1,rfl⟩) (by simp only [OkAll];exact ⟨hx.2.1,hy.2.1,trivial⟩) (by simp only [szAll];have:=hx.2.2.1;have:=hy.2.2.1;lia) (by simp only [aac];have:=hx.2.2.2;have:=hy.2.2.2;lia) h
theorem nv {H:Hp} {c:Addr} (e:H c=some (.lst [])):Ld H (.list []) (.ref c):=⟨by simp only [Dat,DatAll];exact ⟨c,_,rfl,e,rfl⟩,by simp only [OkD,OkAll],by simp [szD,szAll],by simp [aad,aac]⟩
theorem oD {H:Hp} {c:Addr} (e:H c=some (.dK [])):Ld H (.dict []) (.ref c):=⟨by simp only [Dat,DatKv];exact ⟨c,_,rfl,e,rfl⟩,by simp only [OkD],by simp [szD],by simp [aad,abY]⟩
theorem ve {H:Hp}:Ld H .none .non:=⟨by simp only [Dat],by simp only [OkD],by simp [szD],by simp [aad]⟩
theorem qW {H:Hp} {c:Addr} {ps:List (Int × Int)} {us:List V} (e:H c=some (.tup us)) (hp:DatAll H (ps.map pD) us) (g:Gs ps):Ld H (.tuple (ps.map pD)) (.ref c):=by
  have z1:=iG ps;have z2:=jh ps;have g1:=g.1;refine ⟨?_,?_,?_,?_⟩
  · simp only [Dat];exact ⟨c,_,rfl,e,hp⟩
  · simp only [OkD];exact iU g.2
  · simp only [szD];lia
  · simp only [aad];lia
theorem rQ {H:Hp} {d:PyData} {v:V} (h:Dat H d v):∀ n,DatAll H (aap n d) (aap n [v]).flatten
  | 0=>by simp only [List.replicate_zero,List.flatten_nil,DatAll]
  | n+1=>by simp only [aa3,abv,DatAll];exact ⟨v,_,rfl,h,rQ h n⟩
theorem qM {d:PyData} (h:OkD d):∀ n,OkAll (aap n d)
  | 0=>by simp only [List.replicate_zero,OkAll]
  | n+1=>by simp only [aa3,OkAll];exact ⟨h,qM h n⟩
theorem t_ {H:Hp} {c b:Addr} (e:H c=some (.lst (aap (41:Int).toNat [V.ref b]).flatten)) (e2:H b=some (.tup [.int 0,.int 1])):Ld H (.list (aap 41 (.tuple [.int 0,.int 1]))) (.ref c):=by
  refine ⟨?_,?_,by decide +kernel,by decide +kernel⟩
  · simp only [Dat];exact ⟨c,_,rfl,e,rQ (by simp only [Dat,DatAll];exact ⟨b,_,rfl,e2,_,_,rfl,rfl,_,_,rfl,rfl,rfl⟩) 41⟩
  · simp only [OkD];exact qM (by simp only [OkD,OkAll];decide) 41
section
variable {P:Program} {w:World} {K:aaa} {mg:Str→Option Value} {base:Heap} {f:Addr} {fd:FuncData}
abbrev cY:Stmt:=top 67
theorem aD:FnScope ["well","holds","held","barred","odd","found","thing","at","to","some"] ["well","holds"] (ah cY):=⟨rfl,rfl,rfl,by decide +kernel,rfl,by decide +kernel,by decide +kernel⟩
theorem lH (F:Fun K "_law_no_holds" "_law_no_holds" cY f fd) (B:Bu K mg) (C__law_draw:Cal P w K mg base "_law_draw" 2 ["well","many"] dn):FnOk P w K mg base CX0 3 f fd ["well","holds"] mE:=by
  refine F.ok aD (fun vs H Q E h=>?_) (fun cdv A outer s H vs Q E hr h=>?_)
  · obtain ⟨wl,v,ps,qs,M,rfl,_⟩:=h;rfl
  obtain ⟨wl,v,ps,qs,M,rfl,⟨a,x,y,rfl,ea,⟨ax,us,rfl,eax,hpx⟩,⟨ay,vs,rfl,eay,hpy⟩⟩,gp,gq,hw,hM,q⟩:=h;refine ⟨_,(@ae _ _ _ _ _ (@fk _ _ _ _ _ _ (pv 1) (@eK _ _ _ _ _ _ rfl (@aV _ _ _ _ _ (@au _ _ (2) _ (aD).nd rfl (Or.inl rfl) (.inl rfl)) (@aV _ _ _ _ _ (@au _ _ (3) _ (aD).nd rfl (Or.inl rfl) (.inl rfl)) cJ (by rfl)) (by rfl)) (by rfl) (by rfl)) (by rfl) (by rfl) (by rfl)) (@ae _ _ _ _ _ (@ao _ _ (4) _ _ _ _ (aD).nd rfl (Or.inl rfl) (@ar _ _ _ _ (@aa _ _ _ _ _ (@aq _ _ _ _ _ (@aa _ _ _ _ _ ad (@aa _ _ _ _ _ ad ac (by rfl)) (by rfl))) (@aa _ _ _ _ _ (@aq _ _ _ _ _ (@aa _ _ _ _ _ ad (@aa _ _ _ _ _ ad ac (by rfl)) (by rfl))) (@aa _ _ _ _ _ (@aq _ _ _ _ _ (@aa _ _ _ _ _ (@lC _ _ _ _ _ _ iF ad) (@aa _ _ _ _ _ ad ac (by rfl)) (by rfl))) (@aa _ _ _ _ _ (@aq _ _ _ _ _ (@aa _ _ _ _ _ ad (@aa _ _ _ _ _ ad ac (by rfl)) (by rfl))) (@aa _ _ _ _ _ (@aq _ _ _ _ _ (@aa _ _ _ _ _ ad (@aa _ _ _ _ _ ad ac (by rfl)) (by rfl))) (@aa _ _ _ _ _ (@aq _ _ _ _ _ (@aa _ _ _ _ _ ad ac (by rfl))) (@aa _ _ _ _ _ (@aq _ _ _ _ _ (@aa _ _ _ _ _ ad (@aa _ _ _ _ _ ad (@aa _ _ _ _ _ ad ac (by rfl)) (by rfl)) (by rfl))) (@aa _ _ _ _ _ bg (@aa _ _ _ _ _ (@ar _ _ _ _ (@aa _ _ _ _ _ ad (@aa _ _ _ _ _ ad ac (by rfl)) (by rfl))) (@aa _ _ _ _ _ aj (@aa _ _ _ _ _ ad (@aa _ _ _ _ _ (@aq _ _ _ _ _ (@aa _ _ _ _ _ bg (@aa _ _ _ _ _ ad ac (by rfl)) (by rfl))) (@aa _ _ _ _ _ (@aq _ _ _ _ _ (@aa _ _ _ _ _ ad (@aa _ _ _ _ _ aj ac (by rfl)) (by rfl))) (@aa _ _ _ _ _ (@aq _ _ _ _ _ ac) ac (by rfl)) (by rfl)) (by rfl)) (by rfl)) (by rfl)) (by rfl)) (by rfl)) (by rfl)) (by rfl)) (by rfl)) (by rfl)) (by rfl)) (by rfl)) (by rfl))) (by rfl) (by first|exact .inl rfl|exact .inr rfl|assumption)) (@ae _ _ _ _ _ (@ao _ _ (4) _ _ _ _ (aD).nd rfl (Or.inl rfl) (@al _ _ _ _ _ _ _ _ bj (pv 4) (@ar _ _ _ _ (@aa _ _ _ _ _ (@aq _ _ _ _ _ (@aa _ _ _ _ _ cb (@aa _ _ _ _ _ ad ac (by rfl)) (by rfl))) (@aa _ _ _ _ _ (@aq _ _ _ _ _ (@aa _ _ _ _ _ ad (@aa _ _ _ _ _ cb ac (by rfl)) (by rfl))) (@aa _ _ _ _ _ (@aq _ _ _ _ _ (@aa _ _ _ _ _ ad (@aa _ _ _ _ _ (@al _ _ _ _ _ _ _ _ dN ad ad) ac (by rfl)) (by rfl))) (@aa _ _ _ _ _ dC ac (by rfl)) (by rfl)) (by rfl)) (by rfl)))) (by rfl) (by first|exact .inl rfl|exact .inr rfl|assumption)) (@ae _ _ _ _ _ (@ao _ _ (5) _ _ _ _ (aD).nd rfl (Or.inl rfl) (@ar _ _ _ _ ac) (by rfl) (by first|exact .inl rfl|exact .inr rfl|assumption)) (@ae _ _ _ _ _ (@fj _ _ _ _ _ _ _ _ abe rfl (@bT _ _ _ _ (pv 4)) (@au _ _ (6) _ (aD).nd rfl (Or.inl rfl) (.inl rfl)) (@ae _ _ _ _ _ (@ao _ _ (7) _ _ _ _ (aD).nd rfl (Or.inl rfl) (@ag _ _ _ _ _ _ _ _ _ _ _ C__law_draw hr (by lia) rfl (@aa _ _ _ _ _ (pv 0) (@aa _ _ _ _ _ (@al _ _ _ _ _ _ _ _ bX (@am _ _ _ _ _ _ _ _ _ aQ rfl B.ilen aaY (@aa _ _ _ _ _ (pv 2) ac (by rfl)) (by decide) (by decide) (by rfl) (by rfl)) ad) ac (by rfl)) (by rfl)) (by decide) (by rfl) (by rfl)) (by rfl) (by first|exact .inl rfl|exact .inr rfl|assumption)) (@ae _ _ _ _ _ (@ao _ _ (8) _ _ _ _ (aD).nd rfl (Or.inl rfl) (@ag _ _ _ _ _ _ _ _ _ _ _ C__law_draw hr (by lia) rfl (@aa _ _ _ _ _ (pv 0) (@aa _ _ _ _ _ (@al _ _ _ _ _ _ _ _ bX (@am _ _ _ _ _ _ _ _ _ aQ rfl B.ilen aaY (@aa _ _ _ _ _ (pv 3) ac (by rfl)) (by decide) (by decide) (by rfl) (by rfl)) ad) ac (by rfl)) (by rfl)) (by decide) (by rfl) (by rfl)) (by rfl) (by first|exact .inl rfl|exact .inr rfl|assumption)) (@af _ _ _ (@ao _ _ (5) _ _ _ _ (aD).nd rfl (Or.inl rfl) (@al _ _ _ _ _ _ _ _ bj (pv 5) (@ar _ _ _ _ (@aa _ _ _ _ _ (@aq _ _ _ _ _ (@aa _ _ _ _ _ (@al _ _ _ _ _ _ _ _ bj (@al _ _ _ _ _ _ _ _ bj (@bq _ _ _ _ _ _ _ _ _ _ cu (pv 2) bL (@bD _ _ _ (pv 7))) (@ar _ _ _ _ (@aa _ _ _ _ _ (pv 6) ac (by rfl)))) (@bq _ _ _ _ _ _ _ _ _ _ cu (pv 2) (@bD _ _ _ (pv 7)) bL)) (@aa _ _ _ _ _ (pv 3) ac (by rfl)) (by rfl))) (@aa _ _ _ _ _ (@aq _ _ _ _ _ (@aa _ _ _ _ _ (pv 2) (@aa _ _ _ _ _ (@al _ _ _ _ _ _ _ _ bj (@al _ _ _ _ _ _ _ _ bj (@bq _ _ _ _ _ _ _ _ _ _ cu (pv 3) bL (@bD _ _ _ (pv 8))) (@ar _ _ _ _ (@aa _ _ _ _ _ (pv 6) ac (by rfl)))) (@bq _ _ _ _ _ _ _ _ _ _ cu (pv 3) (@bD _ _ _ (pv 8)) bL)) ac (by rfl)) (by rfl))) ac (by rfl)) (by rfl)))) (by rfl) (by first|exact .inl rfl|exact .inr rfl|assumption))))) (by intro _;rfl)) (@ae _ _ _ _ _ (@ao _ _ (9) _ _ _ _ (aD).nd rfl (Or.inl rfl) (@ar _ _ _ _ (@aa _ _ _ _ _ bg (@aa _ _ _ _ _ ad (@aa _ _ _ _ _ cb (@aa _ _ _ _ _ aj (@aa _ _ _ _ _ aj (@aa _ _ _ _ _ (@ar _ _ _ _ ac) (@aa _ _ _ _ _ (@aq _ _ _ _ _ ac) (@aa _ _ _ _ _ dC (@aa _ _ _ _ _ (@aq _ _ _ _ _ (@aa _ _ _ _ _ (pv 2) ac (by rfl))) (@aa _ _ _ _ _ (@aq _ _ _ _ _ (@aa _ _ _ _ _ (pv 2) (@aa _ _ _ _ _ (pv 3) (@aa _ _ _ _ _ (@ar _ _ _ _ ac) ac (by rfl)) (by rfl)) (by rfl))) (@aa _ _ _ _ _ (@ar _ _ _ _ (@aa _ _ _ _ _ (pv 2) (@aa _ _ _ _ _ (pv 3) ac (by rfl)) (by rfl))) (@aa _ _ _ _ _ (@aq _ _ _ _ _ (@aa _ _ _ _ _ (pv 2) (@aa _ _ _ _ _ bg ac (by rfl)) (by rfl))) (@aa _ _ _ _ _ (@aq _ _ _ _ _ (@aa _ _ _ _ _ dC (@aa _ _ _ _ _ dC ac (by rfl)) (by rfl))) ac (by rfl)) (by rfl)) (by rfl)) (by rfl)) (by rfl)) (by rfl)) (by rfl)) (by rfl)) (by rfl)) (by rfl)) (by rfl)) (by rfl)) (by rfl))) (by rfl) (by first|exact .inl rfl|exact .inr rfl|assumption)) (@af _ _ _ (@ak _ _ _ _ (@al _ _ _ _ _ _ _ _ bj (@al _ _ _ _ _ _ _ _ bj (pv 5) (pv 9)) (@ar _ _ _ _ (@aa _ _ _ _ _ (@aq _ _ _ _ _ (@aa _ _ _ _ _ (@cE _ _ _ _ _ _ _ _ _ dO rfl B.ituple aa7 (@aa _ _ _ _ _ (pv 2) ac (by rfl)) (by decide) (by decide) (by rfl) (by rfl)) (@aa _ _ _ _ _ (pv 3) ac (by rfl)) (by rfl))) (@aa _ _ _ _ _ (@aq _ _ _ _ _ (@aa _ _ _ _ _ (pv 2) (@aa _ _ _ _ _ (@cE _ _ _ _ _ _ _ _ _ dO rfl B.ituple aa7 (@aa _ _ _ _ _ (pv 3) ac (by rfl)) (by decide) (by decide) (by rfl) (by rfl)) ac (by rfl)) (by rfl))) (@aa _ _ _ _ _ (@aq _ _ _ _ _ (@aa _ _ _ _ _ (@al _ _ _ _ _ _ _ _ iR (@ar _ _ _ _ (@aa _ _ _ _ _ (@aq _ _ _ _ _ (@aa _ _ _ _ _ ad (@aa _ _ _ _ _ ad ac (by rfl)) (by rfl))) ac (by rfl))) ad) (@aa _ _ _ _ _ (@ar _ _ _ _ ac) ac (by rfl)) (by rfl))) (@aa _ _ _ _ _ (@aq _ _ _ _ _ (@aa _ _ _ _ _ (@ar _ _ _ _ ac) (@aa _ _ _ _ _ (@al _ _ _ _ _ _ _ _ iR (@ar _ _ _ _ (@aa _ _ _ _ _ (@aq _ _ _ _ _ (@aa _ _ _ _ _ ad (@aa _ _ _ _ _ ad ac (by rfl)) (by rfl))) ac (by rfl))) ad) ac (by rfl)) (by rfl))) ac (by rfl)) (by rfl)) (by rfl)) (by rfl)))))))))))),?_⟩;have lx:=hpx.length;have ly:=hpy.length;have lx40:=gp.1;have ly40:=gq.1;have dx:=PairsIn.dat hpx;have dy:=PairsIn.dat hpy;have A:Al wl H H [(ay,.lst vs),(ax,.lst us)]:=⟨Same.refl _,by obtain ⟨_,_,e,_⟩:=hw;exact ⟨_,e⟩,fun x hx=>by
    simp only [aah,aaO,or_false] at hx;rcases hx with rfl|rfl
    · exact eay
    · exact eax⟩
  refine ⟨_,rfl,a,_,rfl,SqT.of (off_le _ _ ea),rfl,_,_,rfl,_,_,rfl,rfl,?_⟩;refine ⟨(by show 2≤sizeLine;decide),fun p1 n_p1=>?_⟩
  replace A:=A.new n_p1 (.tup [.int 1,.int 1])
  generalize upd H p1 (.tup [.int 1,.int 1])=h_p1 at A ⊢;refine ⟨(by show 2≤sizeLine;decide),fun p2 n_p2=>?_⟩
  replace A:=A.new n_p2 (.tup [.int 0,.int 9])
  generalize upd h_p1 p2 (.tup [.int 0,.int 9])=h_p2 at A ⊢;refine ⟨_,rfl,(by show 2≤sizeLine;decide),fun p3 n_p3=>?_⟩
  replace A:=A.new n_p3 (.tup [.int (-1),.int 1])
  generalize upd h_p2 p3 (.tup [.int (-1),.int 1])=h_p3 at A ⊢;refine ⟨(by show 2≤sizeLine;decide),fun p4 n_p4=>?_⟩
  replace A:=A.new n_p4 (.tup [.int 2,.int 1])
  generalize upd h_p3 p4 (.tup [.int 2,.int 1])=h_p4 at A ⊢;refine ⟨(by show 2≤sizeLine;decide),fun p5 n_p5=>?_⟩
  replace A:=A.new n_p5 (.tup [.int 8,.int 9])
  generalize upd h_p4 p5 (.tup [.int 8,.int 9])=h_p5 at A ⊢;refine ⟨(by show 1≤sizeLine;decide),fun p6 n_p6=>?_⟩
  replace A:=A.new n_p6 (.tup [.int 1])
  generalize upd h_p5 p6 (.tup [.int 1])=h_p6 at A ⊢;refine ⟨(by show 3≤sizeLine;decide),fun p7 n_p7=>?_⟩
  replace A:=A.new n_p7 (.tup [.int 0,.int 1,.int 2])
  generalize upd h_p6 p7 (.tup [.int 0,.int 1,.int 2])=h_p7 at A ⊢;refine ⟨(by show 2≤sizeLine;decide),fun p8 n_p8=>?_⟩
  replace A:=A.new n_p8 (.lst [.int 0,.int 1])
  generalize upd h_p7 p8 (.lst [.int 0,.int 1])=h_p8 at A ⊢;refine ⟨(by show 2≤sizeLine;decide),fun p9 n_p9=>?_⟩
  replace A:=A.new n_p9 (.tup [.non,.int 1])
  generalize upd h_p8 p9 (.tup [.non,.int 1])=h_p9 at A ⊢;refine ⟨(by show 2≤sizeLine;decide),fun pa n_pa=>?_⟩
  replace A:=A.new n_pa (.tup [.int 0,.str "1"])
  generalize upd h_p9 pa (.tup [.int 0,.str "1"])=h_pa at A ⊢;refine ⟨(by show 0≤sizeLine;decide),fun pb n_pb=>?_⟩
  replace A:=A.new n_pb (.tup [])
  generalize upd h_pa pb (.tup [])=h_pb at A ⊢;refine ⟨(by show 14≤sizeLine;decide),fun po n_po=>?_⟩
  replace A:=A.new n_po (.lst [.ref p1,.ref p2,.ref p3,.ref p4,.ref p5,.ref p6,.ref p7,.non,.ref p8,.str "0-1",.int 0,.ref p9,.ref pa,.ref pb])
  generalize upd h_pb po (.lst [.ref p1,.ref p2,.ref p3,.ref p4,.ref p5,.ref p6,.ref p7,.non,.ref p8,.str "0-1",.int 0,.ref p9,.ref pa,.ref pb])=h_po at A ⊢;refine ⟨_,rfl,?_⟩;refine ⟨(by show 2≤sizeLine;decide),fun q1 n_q1=>?_⟩
  replace A:=A.new n_q1 (.tup [.bl false,.int 1])
  generalize upd h_po q1 (.tup [.bl false,.int 1])=h_q1 at A ⊢;refine ⟨(by show 2≤sizeLine;decide),fun q2 n_q2=>?_⟩
  replace A:=A.new n_q2 (.tup [.int 0,.bl true])
  generalize upd h_q1 q2 (.tup [.int 0,.bl true])=h_q2 at A ⊢;refine ⟨_,_,rfl,rfl,(by unfold xa;decide +kernel),(by show 2≤sizeLine;decide),fun q3 n_q3=>?_⟩
  replace A:=A.new n_q3 (.tup [.int 0,.int (10 ^ (39:Int).toNat)])
  generalize upd h_q2 q3 (.tup [.int 0,.int (10 ^ (39:Int).toNat)])=h_q3 at A ⊢;refine fun q4 n_q4=>?_
  replace A:=A.new n_q4 (.dK [])
  generalize upd h_q3 q4 (.dK [])=h_q4 at A ⊢;refine ⟨(by show 4≤sizeLine;decide),fun pr n_pr=>?_⟩
  replace A:=A.new n_pr (.lst [.ref q1,.ref q2,.ref q3,.ref q4])
  generalize upd h_q4 pr (.lst [.ref q1,.ref q2,.ref q3,.ref q4])=h_pr at A ⊢;refine ⟨po,pr,_,_,rfl,rfl,A.up 5 rfl,A.up 0 rfl,(by show 18≤sizeLine;decide),fun pp n_pp=>?_⟩
  replace A:=A.new n_pp (.lst ([.ref p1,.ref p2,.ref p3,.ref p4,.ref p5,.ref p6,.ref p7,.non,.ref p8,.str "0-1",.int 0,.ref p9,.ref pa,.ref pb]++[.ref q1,.ref q2,.ref q3,.ref q4]))
  generalize upd h_pr pp (.lst ([.ref p1,.ref p2,.ref p3,.ref p4,.ref p5,.ref p6,.ref p7,.non,.ref p8,.str "0-1",.int 0,.ref p9,.ref pa,.ref pb]++[.ref q1,.ref q2,.ref q3,.ref q4]))=h_pp at A ⊢;refine ⟨(by show 0≤sizeLine;decide),fun pf n_pf=>?_⟩
  replace A:=A.new n_pf (.lst [])
  generalize upd h_pp pf (.lst [])=h_pf at A ⊢;have f_p1:=A.at 18 rfl;have f_p2:=A.at 17 rfl;have f_p3:=A.at 16 rfl;have f_p4:=A.at 15 rfl;have f_p5:=A.at 14 rfl;have f_p6:=A.at 13 rfl;have f_p7:=A.at 12 rfl;have f_p8:=A.at 11 rfl;have f_p9:=A.at 10 rfl;have f_pa:=A.at 9 rfl;have f_pb:=A.at 8 rfl;have f_q1:=A.at 6 rfl;have f_q2:=A.at 5 rfl;have f_q3:=A.at 4 rfl;have f_q4:=A.at 3 rfl;have hodd:∀ x∈([.ref p1,.ref p2,.ref p3,.ref p4,.ref p5,.ref p6,.ref p7,.non,.ref p8,.str "0-1",.int 0,.ref p9,.ref pa,.ref pb]++[.ref q1,.ref q2,.ref q3,.ref q4]:List V),Ts (off wl h_pf) x:=fun x hm=>by
    simp only [abh,List.nil_append,aah,aaO,or_false] at hm;rcases hm with rfl|rfl|rfl|rfl|rfl|rfl|rfl|rfl|rfl|rfl|rfl|rfl|rfl|rfl|rfl|rfl|rfl|rfl
    · exact ⟨.tuple [.int 1,.int 1],by simp only [Dat,DatAll];exact ⟨p1,_,rfl,f_p1,_,_,rfl,rfl,_,_,rfl,rfl,rfl⟩,by simp only [OkD,OkAll] <;> decide +kernel,by simp [szD,szAll],by simp [aad,aac],by first|rfl|decide +kernel|simp [bB]⟩
    · exact ⟨.tuple [.int 0,.int 9],by simp only [Dat,DatAll];exact ⟨p2,_,rfl,f_p2,_,_,rfl,rfl,_,_,rfl,rfl,rfl⟩,by simp only [OkD,OkAll] <;> decide +kernel,by simp [szD,szAll],by simp [aad,aac],by first|rfl|decide +kernel|simp [bB]⟩
    · exact ⟨.tuple [.int (-1),.int 1],by simp only [Dat,DatAll];exact ⟨p3,_,rfl,f_p3,_,_,rfl,rfl,_,_,rfl,rfl,rfl⟩,by simp only [OkD,OkAll] <;> decide +kernel,by simp [szD,szAll],by simp [aad,aac],by first|rfl|decide +kernel|simp [bB]⟩
    · exact ⟨.tuple [.int 2,.int 1],by simp only [Dat,DatAll];exact ⟨p4,_,rfl,f_p4,_,_,rfl,rfl,_,_,rfl,rfl,rfl⟩,by simp only [OkD,OkAll] <;> decide +kernel,by simp [szD,szAll],by simp [aad,aac],by first|rfl|decide +kernel|simp [bB]⟩
    · exact ⟨.tuple [.int 8,.int 9],by simp only [Dat,DatAll];exact ⟨p5,_,rfl,f_p5,_,_,rfl,rfl,_,_,rfl,rfl,rfl⟩,by simp only [OkD,OkAll] <;> decide +kernel,by simp [szD,szAll],by simp [aad,aac],by first|rfl|decide +kernel|simp [bB]⟩
    · exact ⟨.tuple [.int 1],by simp only [Dat,DatAll];exact ⟨p6,_,rfl,f_p6,_,_,rfl,rfl,rfl⟩,by simp only [OkD,OkAll] <;> decide +kernel,by simp [szD,szAll],by simp [aad,aac],by first|rfl|decide +kernel|simp [bB]⟩
    · exact ⟨.tuple [.int 0,.int 1,.int 2],by simp only [Dat,DatAll];exact ⟨p7,_,rfl,f_p7,_,_,rfl,rfl,_,_,rfl,rfl,_,_,rfl,rfl,rfl⟩,by simp only [OkD,OkAll] <;> decide +kernel,by simp [szD,szAll],by simp [aad,aac],by first|rfl|decide +kernel|simp [bB]⟩
    · exact ⟨.none,by simp only [Dat],by simp only [OkD],by simp [szD],by simp [aad],rfl⟩
    · exact ⟨.list [.int 0,.int 1],by simp only [Dat,DatAll];exact ⟨p8,_,rfl,f_p8,_,_,rfl,rfl,_,_,rfl,rfl,rfl⟩,by simp only [OkD,OkAll] <;> decide +kernel,by simp [szD,szAll],by simp [aad,aac],by first|rfl|decide +kernel|simp [bB]⟩
    · exact ⟨.str "0-1",by simp only [Dat],by simp only [OkD];decide +kernel,by simp [szD],by simp [aad],rfl⟩
    · exact ⟨.int 0,by simp only [Dat],by simp only [OkD];decide +kernel,by simp [szD],by simp [aad],rfl⟩
    · exact ⟨.tuple [.none,.int 1],by simp only [Dat,DatAll];exact ⟨p9,_,rfl,f_p9,_,_,rfl,rfl,_,_,rfl,rfl,rfl⟩,by simp only [OkD,OkAll] <;> decide +kernel,by simp [szD,szAll],by simp [aad,aac],by first|rfl|decide +kernel|simp [bB]⟩
    · exact ⟨.tuple [.int 0,.str "1"],by simp only [Dat,DatAll];exact ⟨pa,_,rfl,f_pa,_,_,rfl,rfl,_,_,rfl,rfl,rfl⟩,by simp only [OkD,OkAll] <;> decide +kernel,by simp [szD,szAll],by simp [aad,aac],by first|rfl|decide +kernel|simp [bB]⟩
    · exact ⟨.tuple [],by simp only [Dat,DatAll];exact ⟨pb,_,rfl,f_pb,rfl⟩,by simp only [OkD,OkAll] <;> decide +kernel,by simp [szD,szAll],by simp [aad,aac],by first|rfl|decide +kernel|simp [bB]⟩
    · exact ⟨.tuple [.bool false,.int 1],by simp only [Dat,DatAll];exact ⟨q1,_,rfl,f_q1,_,_,rfl,rfl,_,_,rfl,rfl,rfl⟩,by simp only [OkD,OkAll] <;> decide +kernel,by simp [szD,szAll],by simp [aad,aac],by first|rfl|decide +kernel|simp [bB]⟩
    · exact ⟨.tuple [.int 0,.bool true],by simp only [Dat,DatAll];exact ⟨q2,_,rfl,f_q2,_,_,rfl,rfl,_,_,rfl,rfl,rfl⟩,by simp only [OkD,OkAll] <;> decide +kernel,by simp [szD,szAll],by simp [aad,aac],by first|rfl|decide +kernel|simp [bB]⟩
    · exact ⟨.tuple [.int 0,.int (10 ^ (39:Int).toNat)],by simp only [Dat,DatAll];exact ⟨q3,_,rfl,f_q3,_,_,rfl,rfl,_,_,rfl,rfl,rfl⟩,by simp only [OkD,OkAll] <;> decide +kernel,by simp [szD,szAll],by simp [aad,aac],by first|rfl|decide +kernel|simp [bB]⟩
    · exact ⟨.dict [],by simp only [Dat,DatKv];exact ⟨q4,_,rfl,f_q4,rfl⟩,by simp only [OkD],by simp [szD],by simp [aad,abY],rfl⟩
  have epp:=A.at 1 rfl;have epf:=A.at 0 rfl;have nepp:pp≠wl:=fun e=>by simp only [e,off,if_true] at epp;cases epp
  have nepf:pf≠wl:=fun e=>by simp only [e,off,if_true] at epf;cases epf
  have neax:ax≠wl:=fun e=>by simp only [e,off,if_true] at eax;cases eax
  have neay:ay≠wl:=fun e=>by simp only [e,off,if_true] at eay;cases eay
  have lod:([.ref p1,.ref p2,.ref p3,.ref p4,.ref p5,.ref p6,.ref p7,.non,.ref p8,.str "0-1",.int 0,.ref p9,.ref pa,.ref pb]++[.ref q1,.ref q2,.ref q3,.ref q4]:List V).length=18:=rfl;have hw1:=hw.keep A.same (aaA _);have g1:But wl H h_pf:=But.of A.same;have sH:=bK (p:=wl) A.same;have dx1:=dx;have eax1:=off_le _ _ (sH _ _ eax);have eay1:=off_le _ _ (sH _ _ eay);have epp:=off_le _ _ epp;have epf:=off_le _ _ epf;generalize ([.ref p1,.ref p2,.ref p3,.ref p4,.ref p5,.ref p6,.ref p7,.non,.ref p8,.str "0-1",.int 0,.ref p9,.ref pa,.ref pb]++[.ref q1,.ref q2,.ref q3,.ref q4]:List V)=od at epp hodd lod;clear A;refine ⟨_,rfl,pp,rfl,⟨_,SqL.of epp⟩,nE (Trn.list (xs:=od)) (fun i σ H'=>∃ (pf:Addr) (fs:List V) (c7 c8 c9 c10:Option V),σ=[some (.ref wl),some (.ref a),some (.ref ax),some (.ref ay),some (.ref pp),some (.ref pf),c7,c8,c9,c10]∧But wl h_pf H'∧Wel H' wl (M+2 * i)∧off wl H' pf=some (.lst fs)∧fs.length=2 * i∧∀ f∈fs,Gq pHd (off wl H') f) ⟨pf,[],_,_,_,_,rfl,But.refl,hw1.more (by lia),(bY nepf).trans epf,rfl,fun _ z=>nomatch z⟩ (fun i σ H' hi z=>?_) (fun i x σ K0' K0 hi it z=>?_) (fun σ K9 z=>?_)⟩
  · obtain ⟨_,_,_,_,_,_,rfl,b,_⟩:=z;exact SqL.of (b _ _ nepp epp)
  · obtain ⟨pf,fs,c7,c8,c9,c10,rfl,b0,w0,ef0,lf,gf⟩:=z;obtain ⟨rfl,hx⟩:=it;refine ⟨_,rfl,_,rfl,ax,_,rfl,.inl (SqL.of (b0 _ _ neax eax1)),_,_,rfl,rfl,wl,_,_,rfl,by lia,by lia,w0,by lia,fun r1 K1 a1 c1 b1 w1=>?_⟩;refine ⟨_,rfl,_,rfl,ay,_,rfl,.inl (SqL.of ((b0.trans b1) _ _ neay eay1)),_,_,rfl,rfl,wl,_,_,rfl,by lia,by lia,w1,by lia,fun r2 K2 a2 c2 b2 w2=>?_⟩;obtain ⟨n1,rfl⟩:=aby a1;obtain ⟨n2,rfl⟩:=aby a2;have b12:=b1.trans b2;have B2:=b0.trans b12;have A:Al wl K2 K2 [(pf,.lst fs),(ay,.lst vs),(ax,.lst us)]:=⟨Same.refl _,by obtain ⟨_,_,e,_⟩:=w2;exact ⟨_,e⟩,fun x hx=>by
      simp only [aah,aaO,or_false] at hx;rcases hx with rfl|rfl|rfl
      · exact (a_ b12) _ _ ef0
      · exact (bY neay).trans (B2 _ _ neay eay1)
      · exact (bY neax).trans (B2 _ _ neax eax1)⟩
    refine ⟨_,rfl,⟨_,rfl,_,rfl,(n1:Int),rfl,ax,_,rfl,SqL.of (A.up 2 rfl),fun c1 n_c1=>?_⟩⟩;rw [jm]
    replace A:=A.new n_c1 (.lst (us.take n1))
    generalize upd K2 c1 (.lst (us.take n1))=h_c1 at A ⊢;refine ⟨_,rfl,(by show 1≤sizeLine;decide),fun c2 n_c2=>?_⟩
    replace A:=A.new n_c2 (.lst [x])
    generalize upd h_c1 c2 (.lst [x])=h_c2 at A ⊢;refine ⟨c1,c2,_,_,rfl,rfl,A.up 1 rfl,A.up 0 rfl,av (by rw [aaF,aaN];lia),fun c3 n_c3=>?_⟩
    replace A:=A.new n_c3 (.lst (us.take n1++[x]))
    generalize upd h_c2 c3 (.lst (us.take n1++[x]))=h_c3 at A ⊢;refine ⟨_,rfl,_,rfl,(n1:Int),rfl,ax,_,rfl,SqL.of (A.up 5 rfl),fun c4 n_c4=>?_⟩;rw [di _ n1 (by lia)]
    replace A:=A.new n_c4 (.lst (us.drop n1))
    generalize upd h_c3 c4 (.lst (us.drop n1))=h_c4 at A ⊢;refine ⟨c3,c4,_,_,rfl,rfl,A.up 1 rfl,A.up 0 rfl,av (by rw [aae,aaF,aaN,aaQ];lia),fun c5 n_c5=>?_⟩
    replace A:=A.new n_c5 (.lst (us.take n1++[x]++us.drop n1))
    generalize upd h_c4 c5 (.lst (us.take n1++[x]++us.drop n1))=h_c5 at A ⊢;refine ⟨_,rfl,(by show 2≤sizeLine;decide),fun c6 n_c6=>?_⟩
    replace A:=A.new n_c6 (.tup [.ref c5,.ref ay])
    generalize upd h_c5 c6 (.tup [.ref c5,.ref ay])=h_c6 at A ⊢;refine ⟨_,rfl,⟨_,rfl,_,rfl,(n2:Int),rfl,ay,_,rfl,SqL.of (A.up 7 rfl),fun d1 n_d1=>?_⟩⟩;rw [jm]
    replace A:=A.new n_d1 (.lst (vs.take n2))
    generalize upd h_c6 d1 (.lst (vs.take n2))=h_d1 at A ⊢;refine ⟨_,rfl,(by show 1≤sizeLine;decide),fun d2 n_d2=>?_⟩
    replace A:=A.new n_d2 (.lst [x])
    generalize upd h_d1 d2 (.lst [x])=h_d2 at A ⊢;refine ⟨d1,d2,_,_,rfl,rfl,A.up 1 rfl,A.up 0 rfl,av (by rw [aaF,aaN];lia),fun d3 n_d3=>?_⟩
    replace A:=A.new n_d3 (.lst (vs.take n2++[x]))
    generalize upd h_d2 d3 (.lst (vs.take n2++[x]))=h_d3 at A ⊢;refine ⟨_,rfl,_,rfl,(n2:Int),rfl,ay,_,rfl,SqL.of (A.up 10 rfl),fun d4 n_d4=>?_⟩;rw [di _ n2 (by lia)]
    replace A:=A.new n_d4 (.lst (vs.drop n2))
    generalize upd h_d3 d4 (.lst (vs.drop n2))=h_d4 at A ⊢;refine ⟨d3,d4,_,_,rfl,rfl,A.up 1 rfl,A.up 0 rfl,av (by rw [aae,aaF,aaN,aaQ];lia),fun d5 n_d5=>?_⟩
    replace A:=A.new n_d5 (.lst (vs.take n2++[x]++vs.drop n2))
    generalize upd h_d4 d5 (.lst (vs.take n2++[x]++vs.drop n2))=h_d5 at A ⊢;refine ⟨(by show 2≤sizeLine;decide),fun d6 n_d6=>?_⟩
    replace A:=A.new n_d6 (.tup [.ref ax,.ref d5])
    generalize upd h_d5 d6 (.tup [.ref ax,.ref d5])=h_d6 at A ⊢;refine ⟨(by show 2≤sizeLine;decide),fun d7 n_d7=>?_⟩
    replace A:=A.new n_d7 (.lst [.ref c6,.ref d6])
    generalize upd h_d6 d7 (.lst [.ref c6,.ref d6])=h_d7 at A ⊢;refine ⟨pf,d7,_,_,rfl,rfl,A.up 13 rfl,A.up 0 rfl,av (by rw [lf];show 2 * i+2≤1000;lia),fun d8 n_d8=>?_⟩
    replace A:=A.new n_d8 (.lst (fs++[.ref c6,.ref d6]))
    generalize upd h_d7 d8 (.lst (fs++[.ref c6,.ref d6]))=h_d8 at A ⊢;have SS:=(sH.trans (a_ B2)).trans (bK A.same);have pxF:=PairsIn.mono (Tups.of SS) hpx;have pyF:=PairsIn.mono (Tups.of SS) hpy;obtain ⟨dt,t1,t2,t3,t4,t5⟩:=(hodd x (aaK hx)).mono ((a_ B2).trans (bK A.same));have lX:=oB (v:=.ref ax) ⟨ax,us,rfl,A.at 16 rfl,pxF⟩ gp;have lY:=oB (v:=.ref ay) ⟨ay,vs,rfl,A.at 15 rfl,pyF⟩ gq;refine ⟨d8,_,_,_,_,_,rfl,B2.trans (But.of A.same),(w2.keep A.same (aaA _)).more (by lia),A.at 0 rfl,by rw [aae,lf];show 2 * i+2=2 * (i+1);lia,fun y hy=>?_⟩;rcases aao.mp hy with hy|hy
    · exact (gf y hy).mono ((a_ b12).trans (bK A.same))
    simp only [aah,aaO,or_false] at hy;rcases hy with rfl|rfl
    · exact fv (A.at 8 rfl) (qX (A.at 9 rfl) (PairsIn.dat pxF) gp t1 t2 t3 t4) lY (vz (qT t5))
    · exact fv (A.at 2 rfl) lX (qX (A.at 3 rfl) (PairsIn.dat pyF) gq t1 t2 t3 t4) (tJ (qT t5))
  · obtain ⟨pf,fs,c7,c8,c9,c10,rfl,b9,w9,ef9,lf,gf⟩:=z;have A:Al wl K9 K9 [(pf,.lst fs),(ay,.lst vs),(ax,.lst us)]:=⟨Same.refl _,by obtain ⟨_,_,e,_⟩:=w9;exact ⟨_,e⟩,fun x hx=>by
      simp only [aah,aaO,or_false] at hx;rcases hx with rfl|rfl|rfl
      · exact (Same.refl _) _ _ ef9
      · exact (bY neay).trans (b9 _ _ neay eay1)
      · exact (bY neax).trans (b9 _ _ neax eax1)⟩
    refine ⟨(by show 0≤sizeLine;decide),fun s1 n_s1=>?_⟩
    replace A:=A.new n_s1 (.lst [])
    generalize upd K9 s1 (.lst [])=h_s1 at A ⊢;refine ⟨(by show 0≤sizeLine;decide),fun s2 n_s2=>?_⟩
    replace A:=A.new n_s2 (.tup [])
    generalize upd h_s1 s2 (.tup [])=h_s2 at A ⊢;refine fun s3 n_s3=>?_
    replace A:=A.new n_s3 (.dK [])
    generalize upd h_s2 s3 (.dK [])=h_s3 at A ⊢;refine ⟨_,rfl,(by show 1≤sizeLine;decide),fun s4 n_s4=>?_⟩
    replace A:=A.new n_s4 (.tup [.ref ax])
    generalize upd h_s3 s4 (.tup [.ref ax])=h_s4 at A ⊢;refine ⟨_,rfl,_,rfl,(by show 0≤sizeLine;decide),fun s5 n_s5=>?_⟩
    replace A:=A.new n_s5 (.lst [])
    generalize upd h_s4 s5 (.lst [])=h_s5 at A ⊢;refine ⟨(by show 3≤sizeLine;decide),fun s6 n_s6=>?_⟩
    replace A:=A.new n_s6 (.tup [.ref ax,.ref ay,.ref s5])
    generalize upd h_s5 s6 (.tup [.ref ax,.ref ay,.ref s5])=h_s6 at A ⊢;refine ⟨_,rfl,_,rfl,(by show 2≤sizeLine;decide),fun s7 n_s7=>?_⟩
    replace A:=A.new n_s7 (.lst [.ref ax,.ref ay])
    generalize upd h_s6 s7 (.lst [.ref ax,.ref ay])=h_s7 at A ⊢;refine ⟨_,rfl,(by show 2≤sizeLine;decide),fun s8 n_s8=>?_⟩
    replace A:=A.new n_s8 (.tup [.ref ax,.non])
    generalize upd h_s7 s8 (.tup [.ref ax,.non])=h_s8 at A ⊢;refine fun s9 n_s9=>?_
    replace A:=A.new n_s9 (.dK [])
    generalize upd h_s8 s9 (.dK [])=h_s9 at A ⊢;refine fun sa n_sa=>?_
    replace A:=A.new n_sa (.dK [])
    generalize upd h_s9 sa (.dK [])=h_sa at A ⊢;refine ⟨(by show 2≤sizeLine;decide),fun sb n_sb=>?_⟩
    replace A:=A.new n_sb (.tup [.ref s9,.ref sa])
    generalize upd h_sa sb (.tup [.ref s9,.ref sa])=h_sb at A ⊢;refine ⟨(by show 13≤sizeLine;decide),fun sc n_sc=>?_⟩
    replace A:=A.new n_sc (.lst [.non,.int 0,.bl true,.str "",.str "/",.ref s1,.ref s2,.ref s3,.ref s4,.ref s6,.ref s7,.ref s8,.ref sb])
    generalize upd h_sb sc (.lst [.non,.int 0,.bl true,.str "",.str "/",.ref s1,.ref s2,.ref s3,.ref s4,.ref s6,.ref s7,.ref s8,.ref sb])=h_sc at A ⊢;refine ⟨_,rfl,_,rfl,pf,sc,_,_,rfl,rfl,A.up 12 rfl,A.up 0 rfl,av (by rw [lf,lod];show 2 * 18+13≤1000;decide),fun sd n_sd=>?_⟩
    replace A:=A.new n_sd (.lst (fs++[.non,.int 0,.bl true,.str "",.str "/",.ref s1,.ref s2,.ref s3,.ref s4,.ref s6,.ref s7,.ref s8,.ref sb]))
    generalize upd h_sc sd (.lst (fs++[.non,.int 0,.bl true,.str "",.str "/",.ref s1,.ref s2,.ref s3,.ref s4,.ref s6,.ref s7,.ref s8,.ref sb]))=h_sd at A ⊢;refine ⟨_,rfl,ax,_,rfl,.inl ⟨SqL.of (A.up 15 rfl),fun t1 n_t1=>?_⟩⟩
    replace A:=A.new n_t1 (.tup us)
    generalize upd h_sd t1 (.tup us)=h_t1 at A ⊢;refine ⟨_,rfl,(by show 2≤sizeLine;decide),fun t2 n_t2=>?_⟩
    replace A:=A.new n_t2 (.tup [.ref t1,.ref ay])
    generalize upd h_t1 t2 (.tup [.ref t1,.ref ay])=h_t2 at A ⊢;refine ⟨_,rfl,_,rfl,ay,_,rfl,.inl ⟨SqL.of (A.up 16 rfl),fun t3 n_t3=>?_⟩⟩
    replace A:=A.new n_t3 (.tup vs)
    generalize upd h_t2 t3 (.tup vs)=h_t3 at A ⊢;refine ⟨(by show 2≤sizeLine;decide),fun t4 n_t4=>?_⟩
    replace A:=A.new n_t4 (.tup [.ref ax,.ref t3])
    generalize upd h_t3 t4 (.tup [.ref ax,.ref t3])=h_t4 at A ⊢;refine ⟨(by show 2≤sizeLine;decide),fun t5 n_t5=>?_⟩
    replace A:=A.new n_t5 (.tup [.int 0,.int 1])
    generalize upd h_t4 t5 (.tup [.int 0,.int 1])=h_t5 at A ⊢;refine ⟨(by show 1≤sizeLine;decide),fun t6 n_t6=>?_⟩
    replace A:=A.new n_t6 (.lst [.ref t5])
    generalize upd h_t5 t6 (.lst [.ref t5])=h_t6 at A ⊢;refine ⟨t6,41,_,rfl,rfl,A.up 0 rfl,by decide,by decide,(by show 1 * 41≤sizeLine;decide),fun t7 n_t7=>?_⟩
    replace A:=A.new n_t7 (.lst (aap (41:Int).toNat [V.ref t5]).flatten)
    generalize upd h_t6 t7 (.lst (aap (41:Int).toNat [V.ref t5]).flatten)=h_t7 at A ⊢;refine ⟨(by show 0≤sizeLine;decide),fun t8 n_t8=>?_⟩
    replace A:=A.new n_t8 (.lst [])
    generalize upd h_t7 t8 (.lst [])=h_t8 at A ⊢;refine ⟨(by show 2≤sizeLine;decide),fun t9 n_t9=>?_⟩
    replace A:=A.new n_t9 (.tup [.ref t7,.ref t8])
    generalize upd h_t8 t9 (.tup [.ref t7,.ref t8])=h_t9 at A ⊢;refine ⟨(by show 0≤sizeLine;decide),fun ta n_ta=>?_⟩
    replace A:=A.new n_ta (.lst [])
    generalize upd h_t9 ta (.lst [])=h_ta at A ⊢;refine ⟨(by show 2≤sizeLine;decide),fun tb n_tb=>?_⟩
    replace A:=A.new n_tb (.tup [.int 0,.int 1])
    generalize upd h_ta tb (.tup [.int 0,.int 1])=h_tb at A ⊢;refine ⟨(by show 1≤sizeLine;decide),fun tc n_tc=>?_⟩
    replace A:=A.new n_tc (.lst [.ref tb])
    generalize upd h_tb tc (.lst [.ref tb])=h_tc at A ⊢;refine ⟨tc,41,_,rfl,rfl,A.up 0 rfl,by decide,by decide,(by show 1 * 41≤sizeLine;decide),fun td n_td=>?_⟩
    replace A:=A.new n_td (.lst (aap (41:Int).toNat [V.ref tb]).flatten)
    generalize upd h_tc td (.lst (aap (41:Int).toNat [V.ref tb]).flatten)=h_td at A ⊢;refine ⟨(by show 2≤sizeLine;decide),fun te n_te=>?_⟩
    replace A:=A.new n_te (.tup [.ref ta,.ref td])
    generalize upd h_td te (.tup [.ref ta,.ref td])=h_te at A ⊢;refine ⟨(by show 4≤sizeLine;decide),fun tf n_tf=>?_⟩
    replace A:=A.new n_tf (.lst [.ref t2,.ref t4,.ref t9,.ref te])
    generalize upd h_te tf (.lst [.ref t2,.ref t4,.ref t9,.ref te])=h_tf at A ⊢;refine ⟨sd,tf,_,_,rfl,rfl,A.up 15 rfl,A.up 0 rfl,av (by rw [aae,lf,lod];show 2 * 18+13+4≤1000;decide),fun tg n_tg=>?_⟩;have ntg:=But.free (g1.trans b9) w9 (A.same.free n_tg)
    replace A:=A.new n_tg (.lst (fs++[.non,.int 0,.bl true,.str "",.str "/",.ref s1,.ref s2,.ref s3,.ref s4,.ref s6,.ref s7,.ref s8,.ref sb]++[.ref t2,.ref t4,.ref t9,.ref te]))
    generalize upd h_tf tg (.lst (fs++[.non,.int 0,.bl true,.str "",.str "/",.ref s1,.ref s2,.ref s3,.ref s4,.ref s6,.ref s7,.ref s8,.ref sb]++[.ref t2,.ref t4,.ref t9,.ref te]))=h_tg at A ⊢;have SS:=(sH.trans (a_ b9)).trans (bK A.same);have pxF:=PairsIn.mono (Tups.of SS) hpx;have pyF:=PairsIn.mono (Tups.of SS) hpy;have lX:=oB (v:=.ref ax) ⟨ax,us,rfl,A.at 31 rfl,pxF⟩ gp;have lY:=oB (v:=.ref ay) ⟨ay,vs,rfl,A.at 30 rfl,pyF⟩ gq;have oX:=lX.2.1;have oY:=lY.2.1;have zX:=lX.2.2.1;have zY:=lY.2.2.1;have pX:=lX.2.2.2;have pY:=lY.2.2.2;refine q tg _ _ ((g1.trans b9).trans (But.of A.same)) ((w9.keep A.same (aaA _)).more (by rw [lod];lia)) ntg (A.up 0 rfl) (by rw [aae,aae,lf,lod];show 2 * 18+13+4≤200;decide) (fun y hy=>?_);rcases aao.mp hy with hy|hy
    · rcases aao.mp hy with hy|hy
      · exact (gf y hy).mono (bK A.same)
      simp only [aah,aaO,or_false] at hy;rcases hy with rfl|rfl|rfl|rfl|rfl|rfl|rfl|rfl|rfl|rfl|rfl|rfl|rfl
      · exact rm rfl
      · exact rq _ (by decide) rfl
      · exact uc _ rfl
      · exact kQ _ (by decide +kernel) rfl
      · exact kQ _ (by decide +kernel) rfl
      · exact dH (A.at 28 rfl) oS (by simp only [OkAll]) (by simp [szAll]) (by simp [aac]) rfl
      · exact g_ (A.at 27 rfl) oS (by simp only [OkAll]) (by simp [szAll]) (by simp [aac]) rfl
      · exact oH (A.at 26 rfl) rfl
      · exact g_ (ds:=[sD ps]) (A.at 25 rfl) (by simp only [DatAll];exact ⟨_,_,rfl,lX.1,rfl⟩) (by simp only [OkAll];exact ⟨oX,trivial⟩) (by simp only [szAll];lia) (by simp only [aac];lia) rfl
      · exact g_ (ds:=[sD ps,sD qs,.list []]) (A.at 23 rfl) (by simp only [DatAll];exact ⟨_,_,rfl,lX.1,_,_,rfl,lY.1,_,_,rfl,(nv (A.at 24 rfl)).1,rfl⟩) (by simp only [OkAll];exact ⟨oX,oY,by simp only [OkD,OkAll],trivial⟩) (by simp only [szAll,szD];lia) (by simp only [aac,aad];lia) rfl
      · exact dH (ds:=[sD ps,sD qs]) (A.at 22 rfl) (by simp only [DatAll];exact ⟨_,_,rfl,lX.1,_,_,rfl,lY.1,rfl⟩) (by simp only [OkAll];exact ⟨oX,oY,trivial⟩) (by simp only [szAll];lia) (by simp only [aac];lia) rfl
      · exact fv (A.at 21 rfl) lX ve (tJ rfl)
      · exact fv (A.at 18 rfl) (oD (A.at 20 rfl)) (oD (A.at 19 rfl)) rfl
    simp only [aah,aaO,or_false] at hy;rcases hy with rfl|rfl|rfl|rfl
    · exact fv (A.at 14 rfl) (qW (A.at 15 rfl) (PairsIn.dat pxF) gp) lY (vz rfl)
    · exact fv (A.at 12 rfl) lX (qW (A.at 13 rfl) (PairsIn.dat pyF) gq) (tJ rfl)
    · exact fv (A.at 7 rfl) (t_ (A.at 9 rfl) (A.at 11 rfl)) (nv (A.at 8 rfl)) (vz (by decide +kernel))
    · exact fv (A.at 2 rfl) (nv (A.at 6 rfl)) (t_ (A.at 3 rfl) (A.at 5 rfl)) (tJ (by decide +kernel))
end
open PySem L2
theorem gE:∀ w:Wy,(aI w).canLay0=true
  | .num i=>by simp [aI,abA]
  | .node g l r=>by
    have e:(PyData.str g.str).canLay0=true:=by cases g <;> decide +kernel
    simp only [aI,abA,abb,gE l,gE r,abH];simpa [abA] using e
theorem uH (a b:Sg):(a.str == b.str)=decide (a=b):=by cases a <;> cases b <;> decide +kernel
theorem jV:∀ a b:Wy,abw (aI a) (aI b)=decide (a=b)
  | .num i,.num j=>by
    simp only [aI,abw];by_cases c:i=j
    · subst c;simp
    · simp [c]
  | .num i,.node g l r=>by simp [aI,abw]
  | .node g l r,.num i=>by simp [aI,abw]
  | .node g l r,.node g' l' r'=>by
    simp only [aI,abw,abt,jV l l',jV r r',uH,abH];by_cases c1:g=g' <;> by_cases c2:l=l' <;> by_cases c3:r=r' <;> simp [c1,c2,c3]
theorem Trn.enum {K:aaa} {a:Addr} {xs:List V}:Trn (vQ K a) xs.length (fun H=>SqL K H a xs) (fun i x H H'=>∃ p y,H p=none∧x=.ref p∧H'=upd H p (.tup [.int i,y])∧xs[i]?=some y) :=
  ⟨fun i H hi q=>⟨xs,xs[i],q,by simp [hi]⟩,fun H q=>⟨xs,q,aag _⟩,fun i H x H' hi q y=>by
    obtain ⟨p,z,n,e1,e2,e3⟩:=y;exact ⟨p,z,n,e1,e2,e3 xs q⟩⟩
theorem rS (ns:List Int) (lo hi:Option Int):∃ ms:List Int,cZ (ns.map V.int) lo hi=ms.map V.int∧ms.length≤ns.length:=by
  refine ⟨(ns.drop (HT.sIx ns.length 0 lo)).take (HT.sIx ns.length ns.length hi - HT.sIx ns.length 0 lo),?_,?_⟩
  · unfold cZ;rw [aak,acf,ace]
  · rw [aaF,aaQ];lia
theorem But.same {H H1 H2:Hp} {wl:Addr} (s:Same H H1) (n:H wl=none) (b:But wl H1 H2):Same H H2:=fun c o h=>b c o (aG h n) (s c o h)
theorem si {b b':Bool} {x y:Wy} (h:br b x.tx=br b' y.tx):b=b'∧x.tx=y.tx:=by
  cases b <;> cases b'
  · exact ⟨rfl,h⟩
  · have h:x.tx=40 :: y.tx++[41]:=h
    exfalso
    cases x with
    | num i =>
      have : (wn i).head?=some 40:=by rw [show wn i=(Wy.num i).tx from rfl,h];rfl
      exact eT i this
    | node g l r =>
      have z:=cG g l r;rw [h,i_] at z;cases z
  · have h:40 :: x.tx++[41]=y.tx:=h
    exfalso
    cases y with
    | num i =>
      have : (wn i).head?=some 40:=by rw [show wn i=(Wy.num i).tx from rfl,← h];rfl
      exact eT i this
    | node g l r =>
      have z:=cG g l r;rw [← h,i_] at z;cases z
  · have h:40 :: x.tx++[41]=40 :: y.tx++[41]:=h;refine ⟨rfl,?_⟩;have h:40 :: (x.tx++[41])=40 :: (y.tx++[41]):=h;exact List.append_cancel_right (List.cons.inj h).2
theorem rW {g g':Sg} (h:g.code=g'.code):g=g':=by cases g <;> cases g' <;> first|rfl|simp [Sg.code] at h
theorem mq:∀ {x y:Wy},x.tx=y.tx→x=y
  | .num i,.num j,h=>by
    have h:wn i=wn j:=h;have a:=dU i;rw [h,dU] at a;rw [aaV a]
  | .num i,.node g l r,h=>by
    have a:=dU i;rw [show wn i=(Wy.num i).tx from rfl,h,fW] at a;cases a
  | .node g l r,.num i,h=>by
    have a:=dU i;rw [show wn i=(Wy.num i).tx from rfl,← h,fW] at a;cases a
  | .node g l r,.node g' l' r',h=>by
    have j:=cG g l r;rw [h,cG g' l' r'] at j;have j:=aaV j;have h':br (aJ g l.os) l.tx++g.code :: br (bd g r.os) r.tx=br (aJ g' l'.os) l'.tx++g'.code :: br (bd g' r'.os) r'.tx:=h;obtain ⟨h1,h2⟩:=List.append_inj h' j.symm;obtain ⟨h3,h4⟩:=List.cons.inj h2;have e1:=mq (si h1).2;have e2:=mq (si h4).2;rw [rW h3,e1,e2]
theorem ur (x y:Wy):decide (V.str (mkS x.tx)=V.str (mkS y.tx))=decide (x=y):=by
  by_cases e:x=y
  · rw [e,decide_eq_true rfl,decide_eq_true rfl]
  · rw [decide_eq_false e,decide_eq_false (fun z=>e (mq (fB (by injection z))))]
theorem lQ:∀ ns:List Int,abb (ns.map PyData.int)=true
  | []=>by simp [abb]
  | i :: ns=>by simp only [aax,abb,lQ ns,abH];simp [abA]
theorem iz (ns:List Int):(rD ns).canLay0=true:=by simp only [rD,abA,lQ]
theorem qY:∀ ps:List (Int × Int),abb (ps.map pD)=true
  | []=>by simp [abb]
  | p :: ps=>by simp only [aax,abb,qY ps,abH,pD];simp [abA,abb]
theorem qZ (ps qs:List (Int × Int)):(hD ps qs).canLay0=true:=by simp only [hD,sD,abA,abb,qY,Bool.and_self]
theorem l0:∀ ns:List Int,abt (ns.map PyData.int) (ns.map PyData.int)=true
  | []=>by simp [abt]
  | i :: ns=>by simp only [aax,abt,l0 ns,abH];simp [abw]
theorem oM (ns:List Int):abw (rD ns) (rD ns)=true:=by simp only [rD,abw,l0]
theorem rB:∀ ps:List (Int × Int),abt (ps.map pD) (ps.map pD)=true
  | []=>by simp [abt]
  | p :: ps=>by simp only [aax,abt,rB ps,abH,pD];simp [abw,abt]
theorem vC (ps qs:List (Int × Int)):abw (hD ps qs) (hD ps qs)=true:=by simp only [hD,sD,abw,abt,rB,Bool.and_self]
theorem rK (ns:List Int):(rD ns).depth≤60:=by simp only [rD,aad,bH];lia
theorem uf (ps qs:List (Int × Int)):(hD ps qs).depth≤40:=by
  have:=jh ps;have:=jh qs;simp only [hD,sD,aad,aac];lia
theorem uM {ns:List Int} (h:Small ns) (h9:ns.length≤9):PrD (rD ns):=lw (by simp only [rD,OkD];exact bG h) (by simp only [rD,szD,bQ];lia) (by simp only [rD,aad,bH];lia)
theorem wm {ps qs:List (Int × Int)} (h:Gs ps) (k:Gs qs):PrD (hD ps qs):=by
  have:=iG ps;have:=iG qs;have:=h.1;have:=k.1;have:=uf ps qs;exact lw (by simp only [hD,sD,OkD,OkAll];exact ⟨iU h.2,iU k.2,trivial⟩) (by simp only [hD,sD,szD,szAll];lia) (by lia)
theorem uX {k:Int} {H:Hp} {d:PyData} {v:V} (hk:k=0∨k=1∨k=2) (h:isK k d=false):OkK k H d v:=by
  rcases hk with rfl|rfl|rfl
  · exact .inl ⟨rfl,fun z=>absurd (show bZ d=false from h) (tf z)⟩
  · exact .inr (.inl ⟨rfl,fun z=>absurd (show bz d=false from h) (tf z)⟩)
  · exact .inr (.inr ⟨rfl,fun z=>absurd (show eS d=false from h) (tf z)⟩)
theorem nt {b:Bool} (h:(!b)=true):b=false:=by cases b <;> first|rfl|cases h
def on (K:aaa):Sp:=fun vs H Q _=>∃ (a:Addr) (ns:List Int),vs=[.ref a]∧SqL K H a (ns.map V.int)∧ns.length≤63∧∀ H',Q (.bl true) H'
section
variable {P:Program} {w:World} {K:aaa} {mg:Str→Option Value} {base:Heap} {f:Addr} {fd:FuncData}
abbrev gh:Stmt:=top 69
theorem eo:FnScope ["script","cell","well","row","way","other","holds","kind","some"] ["script"] (ah gh):=⟨rfl,rfl,rfl,by decide +kernel,rfl,by decide +kernel,by decide +kernel⟩
theorem u_ (F:Fun K "law" "law" gh f fd) (B:Bu K mg) (C__law_well:Cal P w K mg base "_law_well" 1 ["cell"] my) (C__law_draw:Cal P w K mg base "_law_draw" 2 ["well","many"] dn) (C__law_row:Cal P w K mg base "_law_row" 3 ["well","many"] qx) (C__law_any_way:Cal P w K mg base "_law_any_way" 22 ["well","row"] (oo 20)) (C__law_holds:Cal P w K mg base "_law_holds" 4 ["well","many"] ka)
    (C__law_no_rows:Cal P w K mg base "_law_no_rows" 3 ["well","row"] mD) (C__law_no_ways:Cal P w K mg base "_law_no_ways" 14 ["well","way"] mC) (C__law_no_holds:Cal P w K mg base "_law_no_holds" 3 ["well","holds"] mE) (C__law_said:Cal P w K mg base "_law_said" 14 ["kind","thing"] mz)
    (C_row_text:Cal P w K mg base "row_text" 4 ["row"] gG) (C_read_row:Cal P w K mg base "read_row" 3 ["text"] gI) (C_way_text:Cal P w K mg base "way_text" 13 ["way"] gF) (C_read_way:Cal P w K mg base "read_way" 13 ["text"] gH) (C_holds_text:Cal P w K mg base "holds_text" 5 ["holds"] uF) (C_read_holds:Cal P w K mg base "read_holds" 3 ["text"] uE) (C_numbers_of:Cal P w K mg base "numbers_of" 22 ["way"] eU):FnOk P w K mg base CX0 24 f fd ["script"] (on K):=by
  refine F.ok eo (fun vs H Q E h=>?_) (fun cdv A outer s H vs Q E hr h=>?_)
  · obtain ⟨a,ns,rfl,_⟩:=h;rfl
  obtain ⟨a,ns,rfl,hS,h63,q⟩:=h;refine ⟨_,(@ae _ _ _ _ _ (@fj _ _ _ _ _ _ _ _ abe rfl (@bT _ _ _ _ (@al _ _ _ _ _ _ _ _ bj (@ar _ _ _ _ (@aa _ _ _ _ _ ad (@aa _ _ _ _ _ ad ac (by rfl)) (by rfl))) (@bq _ _ _ _ _ _ _ _ _ _ cu (pv 0) bL (@bD _ _ _ ad)))) (@au _ _ (1) _ (eo).nd rfl (Or.inl rfl) (.inl rfl)) (@ae _ _ _ _ _ (@ao _ _ (2) _ _ _ _ (eo).nd rfl (Or.inl rfl) (@ag _ _ _ _ _ _ _ _ _ _ _ C__law_well hr (by lia) rfl (@aa _ _ _ _ _ (pv 1) ac (by rfl)) (by decide) (by rfl) (by rfl)) (by rfl) (by first|exact .inl rfl|exact .inr rfl|assumption)) (@ae _ _ _ _ _ (@ao _ _ (3) _ _ _ _ (eo).nd rfl (Or.inl rfl) (@ag _ _ _ _ _ _ _ _ _ _ _ C__law_row hr (by lia) rfl (@aa _ _ _ _ _ (pv 2) (@aa _ _ _ _ _ (@al _ _ _ _ _ _ _ _ bX ad (@ag _ _ _ _ _ _ _ _ _ _ _ C__law_draw hr (by lia) rfl (@aa _ _ _ _ _ (pv 2) (@aa _ _ _ _ _ ad ac (by rfl)) (by rfl)) (by decide) (by rfl) (by rfl))) ac (by rfl)) (by rfl)) (by decide) (by rfl) (by rfl)) (by rfl) (by first|exact .inl rfl|exact .inr rfl|assumption)) (@ae _ _ _ _ _ (@ao _ _ (4) _ _ _ _ (eo).nd rfl (Or.inl rfl) (@ag _ _ _ _ _ _ _ _ _ _ _ C__law_any_way hr (by lia) rfl (@aa _ _ _ _ _ (pv 2) (@aa _ _ _ _ _ (pv 3) ac (by rfl)) (by rfl)) (by decide) (by rfl) (by rfl)) (by rfl) (by first|exact .inl rfl|exact .inr rfl|assumption)) (@ae _ _ _ _ _ (@ao _ _ (5) _ _ _ _ (eo).nd rfl (Or.inl rfl) (@ag _ _ _ _ _ _ _ _ _ _ _ C__law_any_way hr (by lia) rfl (@aa _ _ _ _ _ (pv 2) (@aa _ _ _ _ _ (pv 3) ac (by rfl)) (by rfl)) (by decide) (by rfl) (by rfl)) (by rfl) (by first|exact .inl rfl|exact .inr rfl|assumption)) (@ae _ _ _ _ _ (@ao _ _ (6) _ _ _ _ (eo).nd rfl (Or.inl rfl) (@ag _ _ _ _ _ _ _ _ _ _ _ C__law_holds hr (by lia) rfl (@aa _ _ _ _ _ (pv 2) (@aa _ _ _ _ _ ad ac (by rfl)) (by rfl)) (by decide) (by rfl) (by rfl)) (by rfl) (by first|exact .inl rfl|exact .inr rfl|assumption)) (@ae _ _ _ _ _ (@fj _ _ _ _ _ _ _ _ abe rfl (@ou _ _ _ _ _ _ _ _ rfl B.ienumerate (@aa _ _ _ _ _ (@ar _ _ _ _ (@aa _ _ _ _ _ (@ag _ _ _ _ _ _ _ _ _ _ _ C__law_no_rows hr (by lia) rfl (@aa _ _ _ _ _ (pv 2) (@aa _ _ _ _ _ (pv 3) ac (by rfl)) (by rfl)) (by decide) (by rfl) (by rfl)) (@aa _ _ _ _ _ (@ag _ _ _ _ _ _ _ _ _ _ _ C__law_no_ways hr (by lia) rfl (@aa _ _ _ _ _ (pv 2) (@aa _ _ _ _ _ (pv 4) ac (by rfl)) (by rfl)) (by decide) (by rfl) (by rfl)) (@aa _ _ _ _ _ (@ag _ _ _ _ _ _ _ _ _ _ _ C__law_no_holds hr (by lia) rfl (@aa _ _ _ _ _ (pv 2) (@aa _ _ _ _ _ (pv 6) ac (by rfl)) (by rfl)) (by decide) (by rfl) (by rfl)) ac (by rfl)) (by rfl)) (by rfl))) ac (by rfl)) (by rfl)) (@eK _ _ _ _ _ _ rfl (@aV _ _ _ _ _ (@au _ _ (7) _ (eo).nd rfl (Or.inr rfl) (.inl rfl)) (@aV _ _ _ _ _ (@au _ _ (8) _ (eo).nd rfl (Or.inl rfl) (.inl rfl)) cJ (by rfl)) (by rfl)) (by rfl) (by rfl)) (@af _ _ _ (@a9 _ _ _ _ _ _ _ _ (@ap _ _ _ _ _ _ _ _ (@gU _ hr.units) (@eQ _ _ _ _ _ _ _ _ (["thing","kind"]) ([none,some 7]) _ _ _ _ rfl (@bT _ _ _ _ (pv 8)) rfl ⟨rfl,trivial⟩ ⟨⟨rfl,Or.inl rfl,Or.inl rfl⟩,trivial⟩ (fun _ _ _ _=>⟨(@au _ _ (0) _ (show aa6 (["thing","kind"]:List Str) by decide +kernel) rfl (Or.inl rfl) (.inr rfl)),(@lA _ _ _ (@ap _ _ _ _ _ _ _ _ ia (@ag _ _ _ _ _ _ _ _ _ _ _ C__law_said hr (by lia) rfl (@aa _ _ _ _ _ (pv 1) (@aa _ _ _ _ _ (pv 0) ac (by rfl)) (by rfl)) (by decide) (by rfl) (by rfl)) (@bn _ _ _ _ _ _ _ (@tG _ _ rfl) (@ar _ _ _ _ (@aa _ _ _ _ _ aj (@aa _ _ _ _ _ aj (@aa _ _ _ _ _ aj ac (by rfl)) (by rfl)) (by rfl))) (pv 1) (fun _ _=>rfl)) (aw _))),(pv 0)⟩) (by rfl) (by rfl) (by rfl) (by rfl) (by intro _;rfl)) (@ar _ _ _ _ ac) (aw _)) (@af _ _ _ (@ak _ _ _ _ cb)) aE)) (by intro _;rfl)) (@ae _ _ _ _ _ (@a9 _ _ _ _ _ _ _ _ (@PW.pt _ _ _ (@cO _ _ _ _ _ _ _ (@ap _ _ _ _ _ _ _ _ (@gU _ hr.units) (@ag _ _ _ _ _ _ _ _ _ _ _ C_read_row hr (by lia) rfl (@aa _ _ _ _ _ (@ag _ _ _ _ _ _ _ _ _ _ _ C_row_text hr (by lia) rfl (@aa _ _ _ _ _ (pv 3) ac (by rfl)) (by decide) (by rfl) (by rfl)) ac (by rfl)) (by decide) (by rfl) (by rfl)) (pv 3) (aw _)) (@cO _ _ _ _ _ _ _ (@ap _ _ _ _ _ _ _ _ (@gU _ hr.units) (@ag _ _ _ _ _ _ _ _ _ _ _ C_read_way hr (by lia) rfl (@aa _ _ _ _ _ (@ag _ _ _ _ _ _ _ _ _ _ _ C_way_text hr (by lia) rfl (@aa _ _ _ _ _ (pv 4) ac (by rfl)) (by decide) (by rfl) (by rfl)) ac (by rfl)) (by decide) (by rfl) (by rfl)) (pv 4) (aw _)) (@cy _ _ _ _ (@ap _ _ _ _ _ _ _ _ (@gU _ hr.units) (@ag _ _ _ _ _ _ _ _ _ _ _ C_read_holds hr (by lia) rfl (@aa _ _ _ _ _ (@ag _ _ _ _ _ _ _ _ _ _ _ C_holds_text hr (by lia) rfl (@aa _ _ _ _ _ (pv 6) ac (by rfl)) (by decide) (by rfl) (by rfl)) ac (by rfl)) (by decide) (by rfl) (by rfl)) (pv 6) (aw _)))))) (@af _ _ _ (@ak _ _ _ _ cb)) aE) (@ae _ _ _ _ _ (@a9 _ _ _ _ _ _ _ _ (@PW.pt _ _ _ (@cO _ _ _ _ _ _ _ (@ap _ _ _ _ _ _ _ _ ia (@bM _ _ _ _ _ _ _ _ bV (@ag _ _ _ _ _ _ _ _ _ _ _ C_way_text hr (by lia) rfl (@aa _ _ _ _ _ (pv 5) ac (by rfl)) (by decide) (by rfl) (by rfl)) (@ag _ _ _ _ _ _ _ _ _ _ _ C_way_text hr (by lia) rfl (@aa _ _ _ _ _ (pv 4) ac (by rfl)) (by decide) (by rfl) (by rfl)) (aw _)) (@bM _ _ _ _ _ _ _ _ (@uW _ hr.units) (pv 5) (pv 4) (aw _)) (aw _)) (@cy _ _ _ _ (@ap _ _ _ _ _ _ _ _ (@gU _ hr.units) (@ag _ _ _ _ _ _ _ _ _ _ _ C_numbers_of hr (by lia) rfl (@aa _ _ _ _ _ (@ag _ _ _ _ _ _ _ _ _ _ _ C_read_way hr (by lia) rfl (@aa _ _ _ _ _ (@ag _ _ _ _ _ _ _ _ _ _ _ C_way_text hr (by lia) rfl (@aa _ _ _ _ _ (pv 5) ac (by rfl)) (by decide) (by rfl) (by rfl)) ac (by rfl)) (by decide) (by rfl) (by rfl)) ac (by rfl)) (by decide) (by rfl) (by rfl)) (pv 3) (aw _))))) (@af _ _ _ (@ak _ _ _ _ cb)) aE) (@af _ _ _ (@a9 _ _ _ _ _ _ _ _ (@ap _ _ _ _ _ _ _ _ (@gU _ hr.units) (@eQ _ _ _ _ _ _ _ _ (["kind","thing"]) ([none,none]) _ _ _ _ rfl (@ou _ _ _ _ _ _ _ _ rfl B.ienumerate (@aa _ _ _ _ _ (@ar _ _ _ _ (@aa _ _ _ _ _ (pv 3) (@aa _ _ _ _ _ (pv 4) (@aa _ _ _ _ _ (pv 6) ac (by rfl)) (by rfl)) (by rfl))) ac (by rfl)) (by rfl)) rfl trivial trivial (fun _ _ _ _=>⟨(@ow _ _ _ _ _ _ (2) rfl rfl (@aV _ _ _ _ _ (@au _ _ (0) _ (show aa6 (["kind","thing"]:List Str) by decide +kernel) rfl (Or.inl rfl) (.inr rfl)) (@aV _ _ _ _ _ (@au _ _ (1) _ (show aa6 (["kind","thing"]:List Str) by decide +kernel) rfl (Or.inl rfl) (.inr rfl)) cJ (by rfl)) (by rfl)) (by rfl) (by rfl)),bi,(@ag _ _ _ _ _ _ _ _ _ _ _ C__law_said hr (by lia) rfl (@aa _ _ _ _ _ (pv 0) (@aa _ _ _ _ _ (pv 1) ac (by rfl)) (by rfl)) (by decide) (by rfl) (by rfl))⟩) (by rfl) (by rfl) (by rfl) (by rfl) (by intro _;rfl)) (@al _ _ _ _ _ _ _ _ iR (@ar _ _ _ _ (@aa _ _ _ _ _ aj ac (by rfl))) ad) (aw _)) (@af _ _ _ (@ak _ _ _ _ cb)) aE)))))))))) (by intro _;rfl)) (@af _ _ _ (@ak _ _ _ _ cb))),?_⟩;have t1:(1:Nat)≤sizeLine:=by decide
  have t2:(2:Nat)≤sizeLine:=by decide
  refine ⟨t2,fun p1 n1=>?_⟩;have g1:=Same.new n1 (.lst [.int 0,.int 5]);refine ⟨_,rfl,6,rfl,a,_,rfl,g1.seq hS,fun p2 n2=>?_⟩;obtain ⟨ms,em,hm⟩:=rS ns none (some 6);rw [em];have g2:=Same.new n2 (.lst (ms.map V.int));refine ⟨p1,p2,_,_,rfl,rfl,g2 _ _ upd_same,upd_same,av (by rw [aak];show 2+ms.length≤1000;lia),fun p3 n3=>?_⟩;have e3:upd (upd (upd H p1 (.lst [.int 0,.int 5])) p2 (.lst (ms.map V.int))) p3 (.lst ([.int 0,.int 5]++ms.map V.int)) p3=_:=upd_same;have el:[V.int 0,V.int 5]++ms.map V.int=(0 :: 5 :: ms).map V.int:=rfl;rw [el] at e3 ⊢;generalize upd (upd (upd H p1 (.lst [.int 0,.int 5])) p2 (.lst (ms.map V.int))) p3 (.lst ((0 :: 5 :: ms).map V.int))=H3 at e3 ⊢;refine ⟨p3,rfl,⟨_,SqL.of e3⟩,nE (Trn.list (xs:=(0 :: 5 :: ms).map V.int)) (fun i σ H'=>∃ c1 c2 c3 c4 c5 c6 c7 c8,σ=[some (.ref a),c1,c2,c3,c4,c5,c6,c7,c8]∧Same H3 H') ⟨_,_,_,_,_,_,_,_,rfl,Same.refl _⟩ (fun i σ H' hi z=>?_) (fun i x σ H4' H4 hi it z=>?_) (fun σ H' z=>?_)⟩
  · obtain ⟨_,_,_,_,_,_,_,_,rfl,S⟩:=z;exact SqL.of (S _ _ e3)
  · obtain ⟨c1,c2,c3,c4,c5,c6,c7,c8,rfl,S4⟩:=z;obtain ⟨rfl,hx⟩:=it;rw [aaJ] at hx;obtain ⟨c,_,rfl⟩:=abi.mp hx;refine ⟨_,rfl,c,rfl,fun wl H5 g5 nw ew=>?_⟩;refine ⟨_,rfl,_,rfl,wl,9,_,rfl,by decide,by decide,ew,by lia,fun r1 H6 a1 b1 k6 w6=>⟨_,_,rfl,rfl,wl,1+r1,_,rfl,by lia,by lia,w6,by lia,fun r rs H7 k7 w7 nr er hlen sm=>?_⟩⟩;have n1':1≤rs.length:=by lia
    have n9':rs.length≤9:=by lia
    have nrw:r≠wl:=w6.ne nr;refine ⟨_,rfl,_,rfl,wl,r,rs,_,rfl,er,nrw,n1',by lia,by decide,w7,by lia,fun vw wy H8 hw8 en8 k8 w8=>?_⟩;have er8:=k8 _ _ nrw er;refine ⟨_,rfl,_,rfl,wl,r,rs,_,rfl,er8,nrw,n1',by lia,by decide,w8,by lia,fun vo wo H9 ho9 eo9 k9 w9=>?_⟩;have er9:=k9 _ _ nrw er8;have hw9:=hw8.mono (w8.tups k9);refine ⟨_,rfl,wl,_,rfl,w9,by lia,fun ps qs vh HA kA wA gp gq hh=>?_⟩;have erA:=kA _ _ nrw er9;have hwA:=hw9.mono (w9.tups kA);have hoA:=ho9.mono (w9.tups kA);have z1:wy.size=rs.length:=by rw [← wy.nums_len,en8]
    have z2:wo.size=rs.length:=by rw [← wo.nums_len,eo9]
    have smw:Small wy.nums:=by rw [en8];exact sm
    have smo:Small wo.nums:=by rw [eo9];exact sm
    have dlw:=wy.deep_le;have dlo:=wo.deep_le;refine ⟨_,rfl,_,rfl,wl,r,rs,_,rfl,wA,by lia,erA,nrw,n1',n9',sm,fun pn xs HB kB wB npn epn lxs gxs=>?_⟩;have hwB:=hwA.mono (wA.tups kB);refine ⟨_,rfl,_,rfl,wl,wy,vw,_,rfl,hwB,by lia,lb sm en8,wB,by lia,fun pm ys HC kC wC npm epm lys gys=>?_⟩;have hhC:=hh.mono ((a_ kB).trans (a_ kC));refine ⟨_,rfl,_,rfl,wl,vh,ps,qs,_,rfl,hhC,gp,gq,wC,by lia,fun po zs HD kD wD npo epo lzs gzs=>?_⟩;refine ⟨(by show 3≤sizeLine;decide),fun pl npl=>?_⟩;have kE:=Same.new npl (.lst [.ref pn,.ref pm,.ref po]);have el:upd HD pl (.lst [.ref pn,.ref pm,.ref po]) pl=some (.lst [.ref pn,.ref pm,.ref po]):=upd_same;generalize upd HD pl (.lst [.ref pn,.ref pm,.ref po])=HE at kE el ⊢;have npnw:pn≠wl:=fun z=>by obtain ⟨_,_,e,_⟩:=wA;rw [z,e] at npn;cases npn
    have npmw:pm≠wl:=fun z=>by obtain ⟨_,_,e,_⟩:=wB;rw [z,e] at npm;cases npm
    have npow:po≠wl:=fun z=>by obtain ⟨_,_,e,_⟩:=wC;rw [z,e] at npo;cases npo
    have epn':=kE _ _ (kD _ _ npnw (kC _ _ npnw epn));have epm':=kE _ _ (kD _ _ npmw epm);have epo':=kE _ _ epo;have erE:=kE _ _ (((kB.trans kC).trans kD) _ _ nrw erA);have hwE:=(hwB.mono ((wB.tups kC).trans (wC.tups kD))).mono (Tups.of kE);have hoE:=(hoA.mono (((wA.tups kB).trans (wB.tups kC)).trans (wC.tups kD))).mono (Tups.of kE);have hhE:=hhC.mono (((a_ kD).trans off_le).trans kE);have gx:∀ x∈xs,Gq o8 HE x:=fun x hx=>(gxs x hx).mono ((((a_ kC).trans (a_ kD)).trans off_le).trans kE);have gy:∀ x∈ys,Gq mR HE x:=fun x hx=>(gys x hx).mono (((a_ kD).trans off_le).trans kE);have gz:∀ x∈zs,Gq pHd HE x:=fun x hx=>(gzs x hx).mono (off_le.trans kE);have SE:Same H3 HE:=(S4.trans (But.same g5 nw ((((((k6.trans k7).trans k8).trans k9).trans kA).trans kB).trans (kC.trans kD)))).trans kE;clear gxs gys gzs;refine ⟨pl,rfl,⟨_,SqL.of el⟩,nE (Trn.enum (xs:=[.ref pn,.ref pm,.ref po])) (fun i σ H'=>∃ c7 c8,σ=[some (.ref a),some (.int c),some (.ref wl),some (.ref r),some vw,some vo,some vh,c7,c8]∧Same HE H') ⟨_,_,rfl,Same.refl _⟩ (fun i σ H' hi z=>?_) (fun i x σ HF' HF hi it z=>?_) (fun σ HG z=>?_)⟩
    · obtain ⟨_,_,rfl,S⟩:=z;exact SqL.of (S _ _ el)
    · obtain ⟨c7,c8,rfl,SF⟩:=z;obtain ⟨pt,y,npt,rfl,rfl,hy⟩:=it;have key:∃ yy us,y=.ref yy∧HE yy=some (.lst us)∧us.length≤200∧((i:Int)=0∨(i:Int)=1∨(i:Int)=2)∧∀ x∈us,∃ d,Dat HE d x∧PrD d∧isK (i:Int) d=false:=by
        have c3:i=0∨i=1∨i=2:=by have : i < 3:=hi;lia
        rcases c3 with rfl|rfl|rfl
        · simp at hy;subst hy;exact ⟨pn,xs,rfl,epn',lxs,.inl rfl,fun x hx=>by obtain ⟨d,a1,a2,a3⟩:=gx x hx;exact ⟨d,a1,a2,nt a3⟩⟩
        · simp at hy;subst hy;exact ⟨pm,ys,rfl,epm',lys,.inr (.inl rfl),fun x hx=>by obtain ⟨d,a1,a2,a3⟩:=gy x hx;exact ⟨d,a1,a2,nt a3⟩⟩
        · simp at hy;subst hy;exact ⟨po,zs,rfl,epo',lzs,.inr (.inr rfl),fun x hx=>by obtain ⟨d,a1,a2,a3⟩:=gz x hx;exact ⟨d,a1,a2,nt a3⟩⟩
      obtain ⟨yy,us,rfl,eyy,lus,hk,hus⟩:=key;have kt:=SF.trans (Same.new npt (.tup [.int i,.ref yy]));refine ⟨pt,_,rfl,SqT.of upd_same,rfl,_,_,rfl,_,_,rfl,rfl,?_⟩;generalize upd HF' pt (.tup [.int i,.ref yy])=HF at kt ⊢;refine ⟨_,rfl,yy,rfl,⟨_,SqL.of (kt _ _ eyy)⟩,eR (Trn.list (xs:=us)) (fun i ws H'=>Same HF H'∧ws=[]) ⟨Same.refl _,rfl⟩ (fun i ws H' hi p=>by rw [p.2];exact ⟨SqL.of (p.1 _ _ (kt _ _ eyy)),aC (by decide)⟩) (fun i' x ws HI' HI hi' hx p Nx nx=>?_) (fun ws HI p p5 n5=>?_)⟩
      · obtain ⟨SI,rfl⟩:=p;obtain ⟨rfl,hx⟩:=hx;obtain ⟨d,d1,d2,d3⟩:=hus x (aaK hx);refine ⟨_,rfl,_,rfl,(i:Int),d,x,rfl,Dat.mono (kt.trans SI) _ _ d1,d2,uX hk d3,fun HJ sJ=>?_⟩;rw [if_neg (show ¬ isK (i:Int) d=true from fun z=>by rw [d3] at z;cases z)];refine ⟨(by show 3≤sizeLine;decide),fun pq nq=>?_⟩;have kq:=Same.new nq (.lst [.str "NoRow",.str "NoWay",.str "NoHolds"]);refine ⟨_,rfl,.inl ⟨pq,_,_,.str (nmK (i:Int)),rfl,rfl,SqL.of upd_same,?_,rfl,_,rfl,fG (fun zz=>absurd zz (by simp)) (fun _=>nx _ _ ⟨(SI.trans sJ).trans kq,rfl⟩)⟩⟩;rcases hk with e|e|e <;> (rw [e];rfl)
      · obtain ⟨SI,rfl⟩:=p;refine ⟨(by show 0≤sizeLine;decide),fun pq nq=>?_⟩;have k5:=Same.new n5 (.lst []);have kq:=Same.new nq (.lst []);refine ⟨.list [],.list [],by simp only [Dat,DatAll];exact ⟨p5,_,rfl,kq _ _ upd_same,rfl⟩,by simp only [Dat,DatAll];exact ⟨pq,_,rfl,upd_same,rfl⟩,rfl,rfl,by simp [aad,aac],false,rfl,az ?_⟩;exact ⟨_,_,rfl,((kt.trans SI).trans k5).trans kq⟩
    · obtain ⟨c7,c8,rfl,SG⟩:=z;have erG:=SG _ _ erE;refine ⟨_,rfl,r,rs,rfl,erG,n1',n9',sm,fun G1 s1=>⟨rs,rfl,n1',n9',sm,fun pa G2 s2 npa epa=>?_⟩⟩;have S2:=(SG.trans s1).trans s2;refine ⟨_,rfl,rD rs,rD rs,fz epa,fz (S2 _ _ erE),iz rs,iz rs,rK rs,false,by rw [oM];rfl,az ?_⟩;refine ⟨_,rfl,wy,vw,rfl,hwE.mono (Tups.of S2),by lia,smw,fun G3 s3=>⟨wy,rfl,by lia,smw,fun u G4 s4 hu=>?_⟩⟩;have S4':=(S2.trans s3).trans s4;have hw4:=hwE.mono (Tups.of S4');have dp:=cM wy;refine ⟨_,rfl,aI wy,aI wy,hu.dat,hw4.dat,gE wy,gE wy,by lia,false,by rw [jV,decide_eq_true rfl];rfl,az ?_⟩;refine ⟨_,rfl,ps,qs,vh,rfl,hhE.mono S4',gp,gq,fun G5 s5=>⟨ps,qs,rfl,gp,gq,fun t G6 s6 nh=>?_⟩⟩;have S6:=(S4'.trans s5).trans s6;have ht:HdIn G6 ps qs (.ref t):=by
        obtain ⟨a',b',us',vs',e1,_,_,_,e2,e3',h1,h2⟩:=nh;exact ⟨t,_,_,rfl,e1,⟨a',us',rfl,e2,h1⟩,⟨b',vs',rfl,e3',h2⟩⟩
      have dph:=uf ps qs;refine ⟨_,rfl,hD ps qs,hD ps qs,ht.dat,(hhE.mono S6).dat,qZ ps qs,qZ ps qs,by lia,false,by rw [vC];rfl,az ?_⟩;refine ⟨_,rfl,wo,vo,rfl,hoE.mono (Tups.of S6),by lia,smo,fun G7 s7=>⟨_,rfl,wy,vw,rfl,(hwE.mono (Tups.of (S6.trans s7))),by lia,smw,fun G8 s8=>?_⟩⟩;have S8:=(S6.trans s7).trans s8;have dpo:=cM wo;refine ⟨rfl,_,rfl,_,rfl,aI wo,aI wy,(hoE.mono (Tups.of S8)).dat,(hwE.mono (Tups.of S8)).dat,gE wo,gE wy,by lia,?_⟩;refine ⟨rfl,false,?_,az ?_⟩
      · rw [ur,jV];simp
      refine ⟨_,rfl,wo,vo,rfl,hoE.mono (Tups.of S8),by lia,smo,fun G9 s9=>⟨wo,rfl,by lia,smo,fun u9 GA sA hA=>⟨wo,u9,rfl,hA,by lia,fun pB GB sB nB eB=>?_⟩⟩⟩;have SB:=((S8.trans s9).trans sA).trans sB;rw [eo9] at eB;refine ⟨_,rfl,rD rs,rD rs,fz eB,fz (SB _ _ erE),iz rs,iz rs,rK rs,false,by rw [oM];rfl,az ?_⟩;refine ⟨_,rfl,_,rfl,_,rfl,(by show 3≤sizeLine;decide),fun pe ne=>?_⟩;have kE2:=Same.new ne (.lst [.ref r,vw,vh]);have ee:upd GB pe (.lst [.ref r,vw,vh]) pe=some (.lst [.ref r,vw,vh]):=upd_same;have SC:=SB.trans kE2;generalize upd GB pe (.lst [.ref r,vw,vh])=GC at kE2 ee SC ⊢;refine ⟨pe,rfl,⟨_,SqL.of ee⟩,eR (Trn.enum (xs:=[.ref r,vw,vh])) (fun i ws H'=>Same GC H'∧ws=aap i (.str "told")) ⟨Same.refl _,rfl⟩ (fun i ws H' hi p=>by rw [p.2];exact ⟨SqL.of (p.1 _ _ ee),aC (by have : i≤3:=hi;rw [ab4];lia)⟩) (fun i x ws HI' HI hi hx p Nx nx=>?_) (fun ws HI p p5 n5=>?_)⟩
      · obtain ⟨SI,rfl⟩:=p;obtain ⟨pt,y,npt,rfl,rfl,hy⟩:=hx;have kt:=(SC.trans SI).trans (Same.new npt (.tup [.int i,y]));have kt':=SI.trans (Same.new npt (.tup [.int i,y]));refine ⟨pt,_,rfl,SqT.of upd_same,rfl,_,_,rfl,_,_,rfl,rfl,?_⟩;generalize upd HI' pt (.tup [.int i,y])=HK at kt kt' ⊢;have key:∃ d,Dat HK d y∧PrD d∧OkK (i:Int) HK d y∧isK (i:Int) d=true:=by
          have c3:i=0∨i=1∨i=2:=by have : i < 3:=hi;lia
          rcases c3 with rfl|rfl|rfl
          · simp at hy;subst hy;exact ⟨rD rs,fz (kt _ _ erE),uM sm n9',.inl ⟨rfl,fun _=>⟨r,rs,rfl,kt _ _ erE,n1',n9',sm⟩⟩,qC n1' n9'⟩
          · simp at hy;subst hy;have hh':=hwE.mono (Tups.of kt);have szw:=iB wy;exact ⟨aI wy,hh'.dat,lw (iC wy (lb sm en8)) (by lia) (by lia),.inr (.inl ⟨rfl,fun _=>⟨wy,hh',by lia,smw⟩⟩),mh (by lia)⟩
          · simp at hy;subst hy;exact ⟨hD ps qs,(hhE.mono kt).dat,wm gp gq,.inr (.inr ⟨rfl,fun _=>⟨ps,qs,hhE.mono kt,gp,gq⟩⟩),ub gp gq⟩
        obtain ⟨d,d1,d2,d3,d4⟩:=key;refine ⟨_,rfl,_,rfl,(i:Int),d,y,rfl,d1,d2,d3,fun HJ sJ=>?_⟩;rw [if_pos d4];exact nx _ _ ⟨kt'.trans sJ,by rw [List.replicate_succ']⟩
      · obtain ⟨SI,rfl⟩:=p;have k5:=Same.new n5 (.lst (aap [V.ref r,vw,vh].length (.str "told")));refine ⟨t1,fun pq nq=>?_⟩;have kq:=Same.new nq (.lst [.str "told"]);refine ⟨pq,3,_,rfl,rfl,upd_same,by decide,by decide,(by decide),fun pr nr'=>?_⟩;have kr:=Same.new nr' (.lst (aap (3:Int).toNat [V.str "told"]).flatten);have dd:∀ {G:Hp} {p:Addr},G p=some (.lst [.str "told",.str "told",.str "told"])→Dat G (.list [.str "told",.str "told",.str "told"]) (.ref p):=fun {G p} e=>by
          simp only [Dat,DatAll];exact ⟨p,_,rfl,e,_,_,rfl,rfl,_,_,rfl,rfl,_,_,rfl,rfl,rfl⟩
        refine ⟨.list [.str "told",.str "told",.str "told"],.list [.str "told",.str "told",.str "told"],dd (kr _ _ (kq _ _ upd_same)),dd upd_same,by decide +kernel,by decide +kernel,by simp [aad,aac],false,?_,az ?_⟩
        · decide +kernel
        exact ⟨_,_,_,_,_,_,_,_,rfl,((((SE.trans SC).trans SI).trans k5).trans kq).trans kr⟩
  · obtain ⟨_,_,_,_,_,_,_,_,rfl,S⟩:=z;exact q H'
end
open PySem L2
theorem all_mk {l:PySem.W.OpenLaw} {w:World} {K:aaa} {h:Heap} {mg:Str→Option Value} {fa:Addr} (X:K.In h) (G:h.Ns mainGlobals mg) (hfa:mg "law" = some (.ref fa))
    {tM tS1 tS2 tS3:Tok} {cS:Addr} {odS:Option Addr} {nS:Nat} {slS:Array (Option Value)}
    {tFg tBl:Tok}
    {tMn tMs:Tok}
    {aP aR aS aW aN aL aF aO aA aH aT aM:Addr}
    {aPN:Addr} {aPnm aPq:Str} {aPbs aPsub:List Value} {aPhd aPab:Bool} {aPsn:List Str} {aPcol:Option Bool} {aPdd aPod:Option Addr} {aPk0 aPk1 aPk2 aPk3 aPk5:Option Value} {aPc:Value} {aPes:Array DictEntry} {aPn:Nat} {aPsl:Array (Option Value)}
    {aRN:Addr} {aRnm aRq:Str} {aRbs aRsub:List Value} {aRhd aRab:Bool} {aRsn:List Str} {aRcol:Option Bool} {aRdd aRod:Option Addr} {aRk0 aRk1 aRk2 aRk3 aRk5:Option Value} {aRc:Value} {aRes:Array DictEntry} {aRn:Nat} {aRsl:Array (Option Value)}
    {aWN:Addr} {aWnm aWq:Str} {aWbs aWsub:List Value} {aWhd aWab:Bool} {aWsn:List Str} {aWcol:Option Bool} {aWdd aWod:Option Addr} {aWk0 aWk1 aWk2 aWk3 aWk5:Option Value} {aWc:Value} {aWes:Array DictEntry} {aWn:Nat} {aWsl:Array (Option Value)}
    {aHN:Addr} {aHnm aHq:Str} {aHbs aHsub:List Value} {aHhd aHab:Bool} {aHsn:List Str} {aHcol:Option Bool} {aHdd aHod:Option Addr} {aHk0 aHk1 aHk2 aHk3 aHk5:Option Value} {aHc:Value} {aHes:Array DictEntry} {aHn:Nat} {aHsl:Array (Option Value)}
    {aRcd:ClassData}
    {aScd:ClassData}
    {aWcd:ClassData}
    {aNcd:ClassData}
    {aLcd:ClassData}
    {aFcd:ClassData}
    {aOcd:ClassData}
    {aAcd:ClassData}
    {aHcd:ClassData}
    {aTcd:ClassData}
    {aMcd:ClassData}
{f0:Addr}
{f1:Addr}
{f2:Addr}
{f3:Addr}
{f4:Addr}
{f5:Addr}
{f6:Addr}
{f7:Addr}
{f8:Addr}
{f9:Addr}
{f10:Addr}
{f11:Addr}
{f12:Addr}
{f13:Addr}
{f14:Addr}
{f15:Addr}
{f16:Addr}
{f17:Addr}
{f18:Addr}
{f19:Addr}
{f20:Addr}
{f21:Addr}
{f22:Addr}
{f23:Addr}
{f24:Addr}
{f25:Addr}
{f26:Addr}
{f27:Addr}
{f28:Addr}
{f29:Addr}
{f30:Addr}
{f31:Addr}
{f32:Addr}
{f33:Addr}
{f34:Addr}
{f35:Addr}
{f36:Addr}
{f37:Addr}
{f38:Addr}
{f39:Addr}
{f40:Addr}
{f41:Addr}
{f42:Addr}
{f43:Addr}
{f44:Addr}
{f45:Addr}
{od46 an46:Option Addr} {sl46:Array (Option Value)} {oc46 kV46 dc46 pm46 cd46 ct46:Value} {f46:Addr}
    (q0:Fq K "is_whole" fS f0)
    (q1:Fq K "is_row" iN f1)
    (q2:Fq K "is_many" gR f2)
    (q3:Fq K "is_sign" gP f3)
    (q4:Fq K "is_way" iM f4)
    (q5:Fq K "need_row" fR f5)
    (q6:Fq K "need_way" eE f6)
    (q7:Fq K "shorter_first" cX f7)
    (q8:Fq K "numbers_of" eD f8)
    (q9:Fq K "list_numbers" du f9)
    (q10:Fq K "is_pair" gQ f10)
    (q11:Fq K "own_sign" fQ f11)
    (q12:Fq K "left_in_brackets" cr f12)
    (q13:Fq K "right_in_brackets" bW f13)
    (q14:Fq K "is_holds" fT f14)
    (q15:Fq K "is_list_of_stretches" bI f15)
    (q16:Fq K "row_text" eA f16)
    (q17:Fq K "way_text" et f17)
    (q18:Fq K "holds_text" de f18)
    (q19:Fq K "read_row" fP f19)
    (q20:Fq K "read_way" fO f20)
    (q21:Fq K "read_holds" eC f21)
    (q22:Fq K "need_text" eZ f22)
    (q23:Fq K "write_number" dq f23)
    (q24:Fq K "write_numbers" cW f24)
    (q25:Fq K "are_figures" dM f25)
    (q26:Fq K "read_number" dL f26)
    (q27:Fq K "write_way" eY f27)
    (q28:Fq K "put_brackets" dr f28)
    (q29:Fq K "find_way" fU f29)
    (q30:Fq K "without_brackets" cq f30)
    (q31:Fq K "last_joint" eF f31)
    (q32:Fq K "write_stretch" cV f32)
    (q33:Fq K "read_stretches" cD f33)
    (q34:Fq K "_law_well" fb f34)
    (q35:Fq K "_law_draw" fe f35)
    (q36:Fq K "_law_row" fV f36)
    (q37:Fq K "_law_stretch" dv f37)
    (q38:Fq K "_law_holds" eI f38)
    (q39:Fq K "_law_any_way" dB f39)
    (q40:Fq K "_law_word" e_ f40)
    (q41:Fq K "_law_no_rows" dA f41)
    (q42:Fq K "_law_bent" ff f42)
    (q43:Fq K "_law_no_ways" dw f43)
    (q44:Fq K "_law_no_holds" cY f44)
    (q45:Fq K "_law_said" fc f45)
    (a46:aas K mainGlobals "law" = some (some (.ref f46))) (l46:K.lookup f46=some ⟨oc46,od46,.func (abp "law" "law" (cL gh) (cm gh) (ah gh) .none kV46 dc46 pm46 an46 cd46 ct46),sl46⟩) (c46:abB K cd46 "law" = true) (k46:abc K (.ref f46)=true)
    (d3:aas K mainGlobals "len" = some none)
    (d2 : aas K mainGlobals "isinstance" = some none)
    (d1:aas K mainGlobals "int" = some none)
    (dX:aas K mainGlobals "bool" = some none)
    (ec:aas K mainGlobals "str" = some none)
    (ee:aas K mainGlobals "tuple" = some none)
    (d4:aas K mainGlobals "list" = some none)
    (eb:aas K mainGlobals "sorted" = some none)
    (d7:aas K mainGlobals "range" = some none)
    (d8:aas K mainGlobals "repr" = some none)
    (d0:aas K mainGlobals "enumerate" = some none)
    (ed:aas K mainGlobals "sum" = some none)
    (dV:aas K mainGlobals "all" = some none)
    (d6:aas K mainGlobals "min" = some none)
    (d5:aas K mainGlobals "max" = some none)
    (dU:aas K mainGlobals "abs" = some none)
    (dZ:aas K mainGlobals "divmod" = some none)
    (dY:aas K mainGlobals "dict" = some none)
    (ea:aas K mainGlobals "set" = some none)
    (d9:aas K mainGlobals "reversed" = some none)
    (dW:aas K mainGlobals "any" = some none)
    (ef:aas K mainGlobals "zip" = some none)
    (gM:aas K mainGlobals "MOST_NUMBERS" = some (some (.int 9 tM)))
    (gS:aas K mainGlobals "SIGNS" = some (some (.ref cS)))
    (lS:K.lookup cS=some ⟨.type "tuple",odS,.seq #[.str "+" tS1,.str "-" tS2,.str "*" tS3] nS,slS⟩)
    (gFg:aas K mainGlobals "FIGURES" = some (some (.str "0123456789" tFg)))
    (gBl:aas K mainGlobals "BELOW" = some (some (.str "~" tBl)))
    (gMn:aas K mainGlobals "MOST_NUMBERS" = some (some (.int 9 tMn)))
    (gMs:aas K mainGlobals "MOST_STRETCHES" = some (some (.int 40 tMs)))
    (n_PutError:aas K mainGlobals "PutError" = some (some (.ref aP)))
    (n_NoRow:aas K mainGlobals "NoRow" = some (some (.ref aR)))
    (n_NoSigns:aas K mainGlobals "NoSigns" = some (some (.ref aS)))
    (n_NoWay:aas K mainGlobals "NoWay" = some (some (.ref aW)))
    (n_NoNumber:aas K mainGlobals "NoNumber" = some (some (.ref aN)))
    (n_NoPlace:aas K mainGlobals "NoPlace" = some (some (.ref aL)))
    (n_NoFit:aas K mainGlobals "NoFit" = some (some (.ref aF)))
    (n_NoForm:aas K mainGlobals "NoForm" = some (some (.ref aO)))
    (n_NoAsk:aas K mainGlobals "NoAsk" = some (some (.ref aA)))
    (n_NoHolds:aas K mainGlobals "NoHolds" = some (some (.ref aH)))
    (n_NoText:aas K mainGlobals "NoText" = some (some (.ref aT)))
    (n_TooMany:aas K mainGlobals "TooMany" = some (some (.ref aM)))
    (dT:aas K mainGlobals "ValueError" = some none)
    (l_PutError:K.lookup aP=some (excClassObj aPnm aPq aP aPN aPbs jX aPhd aPsn aPsub aPab aPcol aPdd aPk0 aPk1 aPk2 aPk3 aPk5 "ValueError.__new__"))
    (s_PutError:K.lookup aPN=some ⟨aPc,aPod,.dict aPes aPn,aPsl⟩)
    (t_PutError:ic aPes=true)
    (i_PutError:nsFind aPes "__init__" = none)
    (l_NoRow:K.lookup aR=some (excClassObj aRnm aRq aR aRN aRbs (.ref aP :: jX) aRhd aRsn aRsub aRab aRcol aRdd aRk0 aRk1 aRk2 aRk3 aRk5 "ValueError.__new__"))
    (s_NoRow:K.lookup aRN=some ⟨aRc,aRod,.dict aRes aRn,aRsl⟩)
    (t_NoRow:ic aRes=true)
    (i_NoRow:nsFind aRes "__init__" = none)
    (l_NoWay:K.lookup aW=some (excClassObj aWnm aWq aW aWN aWbs (.ref aP :: jX) aWhd aWsn aWsub aWab aWcol aWdd aWk0 aWk1 aWk2 aWk3 aWk5 "ValueError.__new__"))
    (s_NoWay:K.lookup aWN=some ⟨aWc,aWod,.dict aWes aWn,aWsl⟩)
    (t_NoWay:ic aWes=true)
    (i_NoWay:nsFind aWes "__init__" = none)
    (l_NoHolds:K.lookup aH=some (excClassObj aHnm aHq aH aHN aHbs (.ref aP :: jX) aHhd aHsn aHsub aHab aHcol aHdd aHk0 aHk1 aHk2 aHk3 aHk5 "ValueError.__new__"))
    (s_NoHolds:K.lookup aHN=some ⟨aHc,aHod,.dict aHes aHn,aHsl⟩)
    (t_NoHolds:ic aHes=true)
    (i_NoHolds:nsFind aHes "__init__" = none)
    (f1_NoRow:aaP K (.ref aR) "__getattribute__" = some (some (.builtin "BaseException.__getattribute__")))
    (f2_NoRow:aaP K (.ref aR) "__getattr__" = some none)
    (f3_NoRow:aaP K (.ref aR) "__class__" = some (some (.builtin "object.__class__")))
    (f4_NoRow:aan K (.ref aR) (.type "BaseException")=some true)
    (f5_NoRow:aan K (.ref aR) (.type "object")=some true)
    (f6_NoRow:aan K (.ref aR) (.type "ValueError")=some true)
    (f1_NoWay:aaP K (.ref aW) "__getattribute__" = some (some (.builtin "BaseException.__getattribute__")))
    (f2_NoWay:aaP K (.ref aW) "__getattr__" = some none)
    (f3_NoWay:aaP K (.ref aW) "__class__" = some (some (.builtin "object.__class__")))
    (f4_NoWay:aan K (.ref aW) (.type "BaseException")=some true)
    (f5_NoWay:aan K (.ref aW) (.type "object")=some true)
    (f6_NoWay:aan K (.ref aW) (.type "ValueError")=some true)
    (f1_NoHolds:aaP K (.ref aH) "__getattribute__" = some (some (.builtin "BaseException.__getattribute__")))
    (f2_NoHolds:aaP K (.ref aH) "__getattr__" = some none)
    (f3_NoHolds:aaP K (.ref aH) "__class__" = some (some (.builtin "object.__class__")))
    (f4_NoHolds:aan K (.ref aH) (.type "BaseException")=some true)
    (f5_NoHolds:aan K (.ref aH) (.type "object")=some true)
    (f6_NoHolds:aan K (.ref aH) (.type "ValueError")=some true)
    (c_NoRow:aaU K aR=some aRcd)
    (y_NoRow:aa4 K (.ref aR)=some (.type "type"))
    (c_NoSigns:aaU K aS=some aScd)
    (y_NoSigns:aa4 K (.ref aS)=some (.type "type"))
    (c_NoWay:aaU K aW=some aWcd)
    (y_NoWay:aa4 K (.ref aW)=some (.type "type"))
    (c_NoNumber:aaU K aN=some aNcd)
    (y_NoNumber:aa4 K (.ref aN)=some (.type "type"))
    (c_NoPlace:aaU K aL=some aLcd)
    (y_NoPlace:aa4 K (.ref aL)=some (.type "type"))
    (c_NoFit:aaU K aF=some aFcd)
    (y_NoFit:aa4 K (.ref aF)=some (.type "type"))
    (c_NoForm:aaU K aO=some aOcd)
    (y_NoForm:aa4 K (.ref aO)=some (.type "type"))
    (c_NoAsk:aaU K aA=some aAcd)
    (y_NoAsk:aa4 K (.ref aA)=some (.type "type"))
    (c_NoHolds:aaU K aH=some aHcd)
    (y_NoHolds:aa4 K (.ref aH)=some (.type "type"))
    (c_NoText:aaU K aT=some aTcd)
    (y_NoText:aa4 K (.ref aT)=some (.type "type"))
    (c_TooMany:aaU K aM=some aMcd)
    (y_TooMany:aa4 K (.ref aM)=some (.type "type"))
    (u_NoRow_NoSigns:aan K (.ref aR) (.ref aS)=some false)
    (d_NoRow_NoSigns:(Value.ref aR == Value.ref aS)=false)
    (u_NoRow_NoWay:aan K (.ref aR) (.ref aW)=some false)
    (d_NoRow_NoWay:(Value.ref aR == Value.ref aW)=false)
    (u_NoRow_NoNumber:aan K (.ref aR) (.ref aN)=some false)
    (d_NoRow_NoNumber:(Value.ref aR == Value.ref aN)=false)
    (u_NoRow_NoPlace:aan K (.ref aR) (.ref aL)=some false)
    (d_NoRow_NoPlace:(Value.ref aR == Value.ref aL)=false)
    (u_NoRow_NoFit:aan K (.ref aR) (.ref aF)=some false)
    (d_NoRow_NoFit:(Value.ref aR == Value.ref aF)=false)
    (u_NoRow_NoForm:aan K (.ref aR) (.ref aO)=some false)
    (d_NoRow_NoForm:(Value.ref aR == Value.ref aO)=false)
    (u_NoRow_NoAsk:aan K (.ref aR) (.ref aA)=some false)
    (d_NoRow_NoAsk:(Value.ref aR == Value.ref aA)=false)
    (u_NoRow_NoHolds:aan K (.ref aR) (.ref aH)=some false)
    (d_NoRow_NoHolds:(Value.ref aR == Value.ref aH)=false)
    (u_NoRow_NoText:aan K (.ref aR) (.ref aT)=some false)
    (d_NoRow_NoText:(Value.ref aR == Value.ref aT)=false)
    (u_NoRow_TooMany:aan K (.ref aR) (.ref aM)=some false)
    (d_NoRow_TooMany:(Value.ref aR == Value.ref aM)=false)
    (u_NoWay_NoRow:aan K (.ref aW) (.ref aR)=some false)
    (d_NoWay_NoRow:(Value.ref aW == Value.ref aR)=false)
    (u_NoWay_NoSigns:aan K (.ref aW) (.ref aS)=some false)
    (d_NoWay_NoSigns:(Value.ref aW == Value.ref aS)=false)
    (u_NoWay_NoNumber:aan K (.ref aW) (.ref aN)=some false)
    (d_NoWay_NoNumber:(Value.ref aW == Value.ref aN)=false)
    (u_NoWay_NoPlace:aan K (.ref aW) (.ref aL)=some false)
    (d_NoWay_NoPlace:(Value.ref aW == Value.ref aL)=false)
    (u_NoWay_NoFit:aan K (.ref aW) (.ref aF)=some false)
    (d_NoWay_NoFit:(Value.ref aW == Value.ref aF)=false)
    (u_NoWay_NoForm:aan K (.ref aW) (.ref aO)=some false)
    (d_NoWay_NoForm:(Value.ref aW == Value.ref aO)=false)
    (u_NoWay_NoAsk:aan K (.ref aW) (.ref aA)=some false)
    (d_NoWay_NoAsk:(Value.ref aW == Value.ref aA)=false)
    (u_NoWay_NoHolds:aan K (.ref aW) (.ref aH)=some false)
    (d_NoWay_NoHolds:(Value.ref aW == Value.ref aH)=false)
    (u_NoWay_NoText:aan K (.ref aW) (.ref aT)=some false)
    (d_NoWay_NoText:(Value.ref aW == Value.ref aT)=false)
    (u_NoWay_TooMany:aan K (.ref aW) (.ref aM)=some false)
    (d_NoWay_TooMany:(Value.ref aW == Value.ref aM)=false)
    (u_NoHolds_NoRow:aan K (.ref aH) (.ref aR)=some false)
    (d_NoHolds_NoRow:(Value.ref aH == Value.ref aR)=false)
    (u_NoHolds_NoSigns:aan K (.ref aH) (.ref aS)=some false)
    (d_NoHolds_NoSigns:(Value.ref aH == Value.ref aS)=false)
    (u_NoHolds_NoWay:aan K (.ref aH) (.ref aW)=some false)
    (d_NoHolds_NoWay:(Value.ref aH == Value.ref aW)=false)
    (u_NoHolds_NoNumber:aan K (.ref aH) (.ref aN)=some false)
    (d_NoHolds_NoNumber:(Value.ref aH == Value.ref aN)=false)
    (u_NoHolds_NoPlace:aan K (.ref aH) (.ref aL)=some false)
    (d_NoHolds_NoPlace:(Value.ref aH == Value.ref aL)=false)
    (u_NoHolds_NoFit:aan K (.ref aH) (.ref aF)=some false)
    (d_NoHolds_NoFit:(Value.ref aH == Value.ref aF)=false)
    (u_NoHolds_NoForm:aan K (.ref aH) (.ref aO)=some false)
    (d_NoHolds_NoForm:(Value.ref aH == Value.ref aO)=false)
    (u_NoHolds_NoAsk:aan K (.ref aH) (.ref aA)=some false)
    (d_NoHolds_NoAsk:(Value.ref aH == Value.ref aA)=false)
    (u_NoHolds_NoText:aan K (.ref aH) (.ref aT)=some false)
    (d_NoHolds_NoText:(Value.ref aH == Value.ref aT)=false)
    (u_NoHolds_TooMany:aan K (.ref aH) (.ref aM)=some false)
    (d_NoHolds_TooMany:(Value.ref aH == Value.ref aM)=false) :
    ∃ fd:FuncData,(∀ (s:Shared) (v:Value),BindsTo s fd ⟨[v],[]⟩ [("script",v)])∧∀ base:Heap,K.In base→base.Ns mainGlobals mg→FnOk l.prog w K mg base CX0 24 fa fd ["script"] (on K):=by
  have e:=hfa.symm.trans (aaI X G a46);cases e;obtain ⟨_,bB,cp,dj⟩:=q0.use X G (ps:=["thing"]) fun _ _ _ _ _ _ us hl=>match us,hl with|[_],_=>rfl
  obtain ⟨_,bx,cl,dg⟩:=q1.use X G (ps:=["thing"]) fun _ _ _ _ _ _ us hl=>match us,hl with|[_],_=>rfl
  obtain ⟨_,bv,cj,dd⟩:=q2.use X G (ps:=["thing"]) fun _ _ _ _ _ _ us hl=>match us,hl with|[_],_=>rfl
  obtain ⟨_,bz,cn,dh⟩:=q3.use X G (ps:=["thing"]) fun _ _ _ _ _ _ us hl=>match us,hl with|[_],_=>rfl
  obtain ⟨_,bA,co,di⟩:=q4.use X G (ps:=["thing"]) fun _ _ _ _ _ _ us hl=>match us,hl with|[_],_=>rfl
  obtain ⟨_,bG,cv,ds⟩:=q5.use X G (ps:=["thing"]) fun _ _ _ _ _ _ us hl=>match us,hl with|[_],_=>rfl
  obtain ⟨_,bJ,cx,dx⟩:=q6.use X G (ps:=["thing"]) fun _ _ _ _ _ _ us hl=>match us,hl with|[_],_=>rfl
  obtain ⟨_,bU,cJ,dK⟩:=q7.use X G (ps:=["many"]) fun _ _ _ _ _ _ us hl=>match us,hl with|[_],_=>rfl
  obtain ⟨_,bK,cy,dy⟩:=q8.use X G (ps:=["way"]) fun _ _ _ _ _ _ us hl=>match us,hl with|[_],_=>rfl
  obtain ⟨_,bF,cu,dp⟩:=q9.use X G (ps:=["way"]) fun _ _ _ _ _ _ us hl=>match us,hl with|[_],_=>rfl
  obtain ⟨_,bw,ck,df⟩:=q10.use X G (ps:=["thing"]) fun _ _ _ _ _ _ us hl=>match us,hl with|[_],_=>rfl
  obtain ⟨_,bL,cz,dz⟩:=q11.use X G (ps:=["way"]) fun _ _ _ _ _ _ us hl=>match us,hl with|[_],_=>rfl
  obtain ⟨_,bE,ct,dl⟩:=q12.use X G (ps:=["sign","left_sign"]) fun _ _ _ _ _ _ us hl=>match us,hl with|[_,_],_=>rfl
  obtain ⟨_,bS,cH,dI⟩:=q13.use X G (ps:=["sign","right_sign"]) fun _ _ _ _ _ _ us hl=>match us,hl with|[_,_],_=>rfl
  obtain ⟨_,bt,ch,db⟩:=q14.use X G (ps:=["thing","many"]) fun _ _ _ _ _ _ us hl=>match us,hl with|[_,_],_=>rfl
  obtain ⟨_,bu,ci,dc⟩:=q15.use X G (ps:=["thing","many"]) fun _ _ _ _ _ _ us hl=>match us,hl with|[_,_],_=>rfl
  obtain ⟨_,bT,cI,dJ⟩:=q16.use X G (ps:=["row"]) fun _ _ _ _ _ _ us hl=>match us,hl with|[_],_=>rfl
  obtain ⟨_,bV,cK,dN⟩:=q17.use X G (ps:=["way"]) fun _ _ _ _ _ _ us hl=>match us,hl with|[_],_=>rfl
  obtain ⟨_,bs,cg,da⟩:=q18.use X G (ps:=["holds"]) fun _ _ _ _ _ _ us hl=>match us,hl with|[_],_=>rfl
  obtain ⟨_,bP,cE,dF⟩:=q19.use X G (ps:=["text"]) fun _ _ _ _ _ _ us hl=>match us,hl with|[_],_=>rfl
  obtain ⟨_,bR,cG,dH⟩:=q20.use X G (ps:=["text"]) fun _ _ _ _ _ _ us hl=>match us,hl with|[_],_=>rfl
  obtain ⟨_,bN,cB,dD⟩:=q21.use X G (ps:=["text"]) fun _ _ _ _ _ _ us hl=>match us,hl with|[_],_=>rfl
  obtain ⟨_,bH,cw,dt⟩:=q22.use X G (ps:=["thing"]) fun _ _ _ _ _ _ us hl=>match us,hl with|[_],_=>rfl
  obtain ⟨_,bY,cN,dP⟩:=q23.use X G (ps:=["number"]) fun _ _ _ _ _ _ us hl=>match us,hl with|[_],_=>rfl
  obtain ⟨_,bZ,cO,dQ⟩:=q24.use X G (ps:=["numbers"]) fun _ _ _ _ _ _ us hl=>match us,hl with|[_],_=>rfl
  obtain ⟨_,bq,ce,c8⟩:=q25.use X G (ps:=["text"]) fun _ _ _ _ _ _ us hl=>match us,hl with|[_],_=>rfl
  obtain ⟨_,bO,cC,dE⟩:=q26.use X G (ps:=["text"]) fun _ _ _ _ _ _ us hl=>match us,hl with|[_],_=>rfl
  obtain ⟨_,b1,cQ,dS⟩:=q27.use X G (ps:=["way"]) fun _ _ _ _ _ _ us hl=>match us,hl with|[_],_=>rfl
  obtain ⟨_,bM,cA,dC⟩:=q28.use X G (ps:=["text","is_due"]) fun _ _ _ _ _ _ us hl=>match us,hl with|[_,_],_=>rfl
  obtain ⟨_,br,cf,c9⟩:=q29.use X G (ps:=["text"]) fun _ _ _ _ _ _ us hl=>match us,hl with|[_],_=>rfl
  obtain ⟨_,bX,cM,dO⟩:=q30.use X G (ps:=["text"]) fun _ _ _ _ _ _ us hl=>match us,hl with|[_],_=>rfl
  obtain ⟨_,bC,cs,dk⟩:=q31.use X G (ps:=["text"]) fun _ _ _ _ _ _ us hl=>match us,hl with|[_],_=>rfl
  obtain ⟨_,b0,cP,dR⟩:=q32.use X G (ps:=["stretch"]) fun _ _ _ _ _ _ us hl=>match us,hl with|[_],_=>rfl
  obtain ⟨_,bQ,cF,dG⟩:=q33.use X G (ps:=["words"]) fun _ _ _ _ _ _ us hl=>match us,hl with|[_],_=>rfl
  obtain ⟨_,bo,cc,c6⟩:=q34.use X G (ps:=["cell"]) fun _ _ _ _ _ _ us hl=>match us,hl with|[_],_=>rfl
  obtain ⟨_,bg,b4,cU⟩:=q35.use X G (ps:=["well","many"]) fun _ _ _ _ _ _ us hl=>match us,hl with|[_,_],_=>rfl
  obtain ⟨_,bl,b9,c3⟩:=q36.use X G (ps:=["well","many"]) fun _ _ _ _ _ _ us hl=>match us,hl with|[_,_],_=>rfl
  obtain ⟨_,bn,cb,c5⟩:=q37.use X G (ps:=["well","many"]) fun _ _ _ _ _ _ us hl=>match us,hl with|[_,_],_=>rfl
  obtain ⟨_,bh,b5,cZ⟩:=q38.use X G (ps:=["well","many"]) fun _ _ _ _ _ _ us hl=>match us,hl with|[_,_],_=>rfl
  obtain ⟨_,be,b2,cR⟩:=q39.use X G (ps:=["well","row"]) fun _ _ _ _ _ _ us hl=>match us,hl with|[_,_],_=>rfl
  obtain ⟨_,bp,cd,c7⟩:=q40.use X G (ps:=["caught"]) fun _ _ _ _ _ _ us hl=>match us,hl with|[_],_=>rfl
  obtain ⟨_,bj,b7,c1⟩:=q41.use X G (ps:=["well","row"]) fun _ _ _ _ _ _ us hl=>match us,hl with|[_,_],_=>rfl
  obtain ⟨_,bf,b3,cT⟩:=q42.use X G (ps:=["well","way","thing"]) fun _ _ _ _ _ _ us hl=>match us,hl with|[_,_,_],_=>rfl
  obtain ⟨_,bk,b8,c2⟩:=q43.use X G (ps:=["well","way"]) fun _ _ _ _ _ _ us hl=>match us,hl with|[_,_],_=>rfl
  obtain ⟨_,bi,b6,c0⟩:=q44.use X G (ps:=["well","holds"]) fun _ _ _ _ _ _ us hl=>match us,hl with|[_,_],_=>rfl
  obtain ⟨_,bm,ca,c4⟩:=q45.use X G (ps:=["kind","thing"]) fun _ _ _ _ _ _ us hl=>match us,hl with|[_,_],_=>rfl
  have bD:=rA (st:=gh) l46 c46 k46;have B:Bu K mg:=⟨aaw X G d3,aaw X G d2,aaw X G d1,aaw X G dX,aaw X G ec,aaw X G ee,aaw X G d4,aaw X G eb,aaw X G d7,aaw X G d8,aaw X G d0,aaw X G ed,aaw X G dV,aaw X G d6,aaw X G d5,aaw X G dU,aaw X G dZ,aaw X G dY,aaw X G ea,aaw X G d9,aaw X G dW,aaw X G ef⟩
  have B':Co K mg tM cS:=⟨aaI X G gM,aaI X G gS,fun H=>.inr ⟨_,_,_,lS,rfl,rfl,by show 3≤sizeLine;decide,.cons ⟨_,rfl⟩ (.cons ⟨_,rfl⟩ (.cons ⟨_,rfl⟩ .nil))⟩⟩
  have B2:Cf K mg tFg tBl:=⟨aaI X G gFg,aaI X G gBl⟩
  have B3:Cq K mg tMn tMs:=⟨aaI X G gMn,aaI X G gMs⟩
  have XC:Xc K mg aP aR aW aH:=⟨aaI X G n_PutError,aaI X G n_NoRow,aaI X G n_NoWay,aaI X G n_NoHolds,nI l_NoRow s_NoRow t_NoRow i_NoRow l_PutError s_PutError t_PutError i_PutError,nI l_NoWay s_NoWay t_NoWay i_NoWay l_PutError s_PutError t_PutError i_PutError,nI l_NoHolds s_NoHolds t_NoHolds i_NoHolds l_PutError s_PutError t_PutError i_PutError,jY l_NoRow l_PutError,jY l_NoWay l_PutError,jY l_NoHolds l_PutError⟩
  have XK:Xk mg aR aS aW aN aL aF aO aA aH aT aM:=⟨aaI X G n_NoRow,aaI X G n_NoSigns,aaI X G n_NoWay,aaI X G n_NoNumber,aaI X G n_NoPlace,aaI X G n_NoFit,aaI X G n_NoForm,aaI X G n_NoAsk,aaI X G n_NoHolds,aaI X G n_NoText,aaI X G n_TooMany,aaw X G dT⟩
  have E0:Kg K aR aS aW aN aL aF aO aA aH aT aM (.ref aR) 0:=⟨i7,(aK d_NoRow_NoSigns c_NoSigns y_NoSigns u_NoRow_NoSigns),(aK d_NoRow_NoWay c_NoWay y_NoWay u_NoRow_NoWay),(aK d_NoRow_NoNumber c_NoNumber y_NoNumber u_NoRow_NoNumber),(aK d_NoRow_NoHolds c_NoHolds y_NoHolds u_NoRow_NoHolds),(aK d_NoRow_TooMany c_TooMany y_TooMany u_NoRow_TooMany),(aK d_NoRow_NoText c_NoText y_NoText u_NoRow_NoText),i8 (aK d_NoRow_NoAsk c_NoAsk y_NoAsk u_NoRow_NoAsk) (aK d_NoRow_NoFit c_NoFit y_NoFit u_NoRow_NoFit) (aK d_NoRow_NoForm c_NoForm y_NoForm u_NoRow_NoForm) (aK d_NoRow_NoPlace c_NoPlace y_NoPlace u_NoRow_NoPlace)⟩
  have X0:Kx K aR:=⟨nG l_NoRow f1_NoRow f2_NoRow f3_NoRow f4_NoRow f5_NoRow,kN f6_NoRow⟩
  have E2:Kg K aR aS aW aN aL aF aO aA aH aT aM (.ref aW) 2:=⟨(aK d_NoWay_NoRow c_NoRow y_NoRow u_NoWay_NoRow),(aK d_NoWay_NoSigns c_NoSigns y_NoSigns u_NoWay_NoSigns),i7,(aK d_NoWay_NoNumber c_NoNumber y_NoNumber u_NoWay_NoNumber),(aK d_NoWay_NoHolds c_NoHolds y_NoHolds u_NoWay_NoHolds),(aK d_NoWay_TooMany c_TooMany y_TooMany u_NoWay_TooMany),(aK d_NoWay_NoText c_NoText y_NoText u_NoWay_NoText),i8 (aK d_NoWay_NoAsk c_NoAsk y_NoAsk u_NoWay_NoAsk) (aK d_NoWay_NoFit c_NoFit y_NoFit u_NoWay_NoFit) (aK d_NoWay_NoForm c_NoForm y_NoForm u_NoWay_NoForm) (aK d_NoWay_NoPlace c_NoPlace y_NoPlace u_NoWay_NoPlace)⟩
  have X2:Kx K aW:=⟨nG l_NoWay f1_NoWay f2_NoWay f3_NoWay f4_NoWay f5_NoWay,kN f6_NoWay⟩
  have E4:Kg K aR aS aW aN aL aF aO aA aH aT aM (.ref aH) 4:=⟨(aK d_NoHolds_NoRow c_NoRow y_NoRow u_NoHolds_NoRow),(aK d_NoHolds_NoSigns c_NoSigns y_NoSigns u_NoHolds_NoSigns),(aK d_NoHolds_NoWay c_NoWay y_NoWay u_NoHolds_NoWay),(aK d_NoHolds_NoNumber c_NoNumber y_NoNumber u_NoHolds_NoNumber),i7,(aK d_NoHolds_TooMany c_TooMany y_TooMany u_NoHolds_TooMany),(aK d_NoHolds_NoText c_NoText y_NoText u_NoHolds_NoText),i8 (aK d_NoHolds_NoAsk c_NoAsk y_NoAsk u_NoHolds_NoAsk) (aK d_NoHolds_NoFit c_NoFit y_NoFit u_NoHolds_NoFit) (aK d_NoHolds_NoForm c_NoForm y_NoForm u_NoHolds_NoForm) (aK d_NoHolds_NoPlace c_NoPlace y_NoPlace u_NoHolds_NoPlace)⟩
  have X4:Kx K aH:=⟨nG l_NoHolds f1_NoHolds f2_NoHolds f3_NoHolds f4_NoHolds f5_NoHolds,kN f6_NoHolds⟩
  refine ⟨abp "law" "law" (cL gh) (cm gh) (ah gh) .none kV46 dc46 pm46 an46 cd46 ct46,fun s v=>.of_eq rfl,fun base _ _=>?_⟩;have aB:Cal l.prog w K mg base "is_whole" 1 ["thing"] (c_ K):=⟨_,_,lI bB B,cp,bB.kp,dj⟩
  have aE:Cal l.prog w K mg base "list_numbers" 21 ["way"] (j8 20):=⟨_,_,im bF cu dp aB 20,cu,bF.kp,dp⟩
  have al:Cal l.prog w K mg base "_law_well" 1 ["cell"] my:=⟨_,_,sU bo B,cc,bo.kp,c6⟩
  have ac:Cal l.prog w K mg base "_law_draw" 2 ["well","many"] dn:=⟨_,_,sX bg,b4,bg.kp,cU⟩
  have ai:Cal l.prog w K mg base "_law_row" 3 ["well","many"] qx:=⟨_,_,uY bl B ac,b9,bl.kp,c3⟩
  have ba:Cal l.prog w K mg base "write_number" 1 ["number"] sG:=⟨_,_,ik bY B B2,cN,bY.kp,dP⟩
  have an:Cal l.prog w K mg base "are_figures" 1 ["text"] mH:=⟨_,_,iW bq B B2,ce,bq.kp,c8⟩
  have aZ:Cal l.prog w K mg base "read_number" 2 ["text"] iq:=⟨_,_,iT bO B B2 an,cC,bO.kp,dE⟩
  have bb:Cal l.prog w K mg base "write_numbers" 2 ["numbers"] om:=⟨_,_,gX bZ B ba,cO,bZ.kp,dQ⟩
  have aI:Cal l.prog w K mg base "need_text" 1 ["thing"] dm:=⟨_,_,ky bH B,cw,bH.kp,dt⟩
  have a0:Cal l.prog w K mg base "read_row" 3 ["text"] gI:=⟨_,_,lG bP B B3 aI aZ,cE,bP.kp,dF⟩
  have a6:Cal l.prog w K mg base "shorter_first" 1 ["many"] uC:=⟨_,_,gY bU B,cJ,bU.kp,dK⟩
  have av:Cal l.prog w K mg base "is_many" 2 ["thing"] iJ:=⟨_,_,mZ bv B B3 aB,cj,bv.kp,dd⟩
  have bc:Cal l.prog w K mg base "write_stretch" 1 ["stretch"] qv:=⟨_,_,gW b0,cP,b0.kp,dR⟩
  have a1:Cal l.prog w K mg base "read_stretches" 2 ["words"] uD:=⟨_,_,gm bQ B B3 a6 bc,cF,bQ.kp,dG⟩
  have aY:Cal l.prog w K mg base "read_holds" 3 ["text"] uE:=⟨_,_,jv bN B aI a1,cB,bN.kp,dD⟩
  have ak:Cal l.prog w K mg base "_law_stretch" 3 ["well","many"] qw:=⟨_,_,mU bn ac,cb,bn.kp,c5⟩
  have ad:Cal l.prog w K mg base "_law_holds" 4 ["well","many"] ka:=⟨_,_,kG bh B ac ak,b5,bh.kp,cZ⟩
  have aD:Cal l.prog w K mg base "left_in_brackets" 1 ["sign","left_sign"] mG:=⟨_,_,sW bE,ct,bE.kp,dl⟩
  have a3:Cal l.prog w K mg base "right_in_brackets" 1 ["sign","right_sign"] iI:=⟨_,_,ph bS,cH,bS.kp,dI⟩
  have aV:Cal l.prog w K mg base "own_sign" 2 ["way"] qy:=⟨_,_,uZ bL aB,cz,bL.kp,dz⟩
  have aX:Cal l.prog w K mg base "put_brackets" 1 ["text","is_due"] mB:=⟨_,_,il bM,cA,bM.kp,dC⟩
  have bd:Cal l.prog w K mg base "write_way" 12 ["way"] (o3 9):=⟨_,_,km b1 cQ dS aB ba aV aD a3 aX 9,cQ,b1.kp,dS⟩
  have aC:Cal l.prog w K mg base "last_joint" 1 ["text"] ir:=⟨_,_,jx bC B,cs,bC.kp,dk⟩
  have a9:Cal l.prog w K mg base "without_brackets" 2 ["text"] qu:=⟨_,_,fE bX aC,cM,bX.kp,dO⟩
  have ao:Cal l.prog w K mg base "find_way" 12 ["text"] (kc 9):=⟨_,_,lL br cf c9 aZ aC a9 9,cf,br.kp,c9⟩
  have a2:Cal l.prog w K mg base "read_way" 13 ["text"] gH:=⟨_,_,lF bR B B' aI ao bd,cG,bR.kp,dH⟩
  have aa:Cal l.prog w K mg base "_law_any_way" 22 ["well","row"] (oo 20):=⟨_,_,m_ be b2 cR B ac 20,b2,be.kp,cR⟩
  have ay:Cal l.prog w K mg base "is_sign" 1 ["thing"] j6:=⟨_,_,lJ bz B B',cn,bz.kp,dh⟩
  have az:Cal l.prog w K mg base "is_way" 2 ["thing"] gg:=⟨_,_,mY bA B B' aB ay,co,bA.kp,di⟩
  have ax:Cal l.prog w K mg base "is_row" 2 ["thing"] j9:=⟨_,_,pi bx B B3 aB,cl,bx.kp,dg⟩
  have aw:Cal l.prog w K mg base "is_pair" 2 ["thing"] gK:=⟨_,_,lK bw B aB,ck,bw.kp,df⟩
  have au:Cal l.prog w K mg base "is_list_of_stretches" 3 ["thing","many"] j_:=⟨_,_,qN bu B B3 aw,ci,bu.kp,dc⟩
  have ar:Cal l.prog w K mg base "is_holds" 4 ["thing","many"] eh:=⟨_,_,kH bt B B3 av au,ch,bt.kp,db⟩
  have aG:gD l.prog w K mg base "need_row" 3 ["thing"] (eg aR):=⟨_,_,kF bG XC ax,cv,bG.kp,ds⟩
  have aJ:gD l.prog w K mg base "need_way" 3 ["thing"] (d_ aW):=⟨_,_,gn bJ XC az,cx,bJ.kp,dx⟩
  have aQ:Cal l.prog w K mg base "need_way" 3 ["thing"] gJ:=⟨_,_,kw bJ XC az,cx,bJ.kp,dx⟩
  have a4:gD l.prog w K mg base "row_text" 4 ["row"] (fN aR):=⟨_,_,gl bT aG bb,cI,bT.kp,dJ⟩
  have a5:Cal l.prog w K mg base "row_text" 4 ["row"] gG:=⟨_,_,ku bT aG bb,cI,bT.kp,dJ⟩
  have a7:gD l.prog w K mg base "way_text" 13 ["way"] (fM aW):=⟨_,_,gk bV aJ bd,cK,bV.kp,dN⟩
  have a8:Cal l.prog w K mg base "way_text" 13 ["way"] gF:=⟨_,_,kn bV aJ bd,cK,bV.kp,dN⟩
  have ap:gD l.prog w K mg base "holds_text" 5 ["holds"] (qz aH):=⟨_,_,fq bs B B3 XC ar bc,cg,bs.kp,da⟩
  have aq:Cal l.prog w K mg base "holds_text" 5 ["holds"] uF:=⟨_,_,iV bs B B3 XC ar bc,cg,bs.kp,da⟩
  have am:Cal l.prog w K mg base "_law_word" 1 ["caught"] (qt K aR aS aW aN aL aF aO aA aH aT aM):=⟨_,_,sT bp B XK,cd,bp.kp,c7⟩
  have aj:Cal l.prog w K mg base "_law_said" 14 ["kind","thing"] mz:=⟨_,_,sV bm B XC E0 E2 E4 X0 X2 X4 a4 a7 ap am,ca,bm.kp,c4⟩
  have af:Cal l.prog w K mg base "_law_no_rows" 3 ["well","row"] mD:=⟨_,_,mW bj B ac,b7,bj.kp,c1⟩
  have ab:Cal l.prog w K mg base "_law_bent" 13 ["well","way","thing"] (ke 10):=⟨_,_,sY bf b3 cT B ac 10,b3,bf.kp,cT⟩
  have ag:Cal l.prog w K mg base "_law_no_ways" 14 ["well","way"] mC:=⟨_,_,mV bk B ac ab,b8,bk.kp,c2⟩
  have ae:Cal l.prog w K mg base "_law_no_holds" 3 ["well","holds"] mE:=⟨_,_,lH bi B ac,b6,bi.kp,c0⟩
  have aU:Cal l.prog w K mg base "numbers_of" 22 ["way"] eU:=⟨_,_,jw bK aQ aE,cy,bK.kp,dy⟩
  exact u_ bD B al ac ai aa ad af ag ae aj a5 a0 a8 a2 aq aY aU
theorem walk {l:PySem.W.OpenLaw} {q:Program} {loose:List Str} {XP:(Str→Option Value)→Heap→Prop} {YP:World→Heap→Prop} {d:DefRec} {K:Params→aaa} (hn:l.most=some 63) (hdf:d.params.defaults=[]) (hi:PyProof.Rows.importsNone q=true)
    (hY:∀ (w:World) (h:Heap),YP w h→(K w.params).In h)
    (F:∀ (w:World) (mg:Str→Option Value) (fa:Addr) (h:Heap),(K w.params).In h→h.Ns mainGlobals mg→mg d.name=some (.ref fa) →
      ∃ fd:FuncData,(∀ (s:Shared) (u:Value),BindsTo s fd ⟨[u],[]⟩ [("script",u)])∧∀ base:Heap,(K w.params).In base→base.Ns mainGlobals mg→FnOk l.prog w (K w.params) mg base CX0 24 fa fd ["script"] (on (K w.params))) :
    PySem.W.WalkO q loose XP YP l.row.toRowW d [] (fun f vs=>PySem.call f vs) :=
  L2.walk_of (n:=63) (k:=24) (x:="script") (CX:=fun _=>CX0) (sp:=fun w=>on (K w.params)) hn (by decide) hdf ⟨rfl,by decide,by decide,rfl⟩ hi hY F (fun _ _ a ns hl _ hS=>⟨a,ns,rfl,hS,hl,fun _=>rfl⟩) fun _ _ _ _ _ z=>z
end Put
namespace PySem.W.Fast
def tw11164854263840356318:=0
def tw2738295045182290334:=0
def tw1778300365993756450:=0
def tw5740191728656631942:=0
def tw769395274246493923:=0
def tw11594285405102795491:=0
def tw4610605509031785664:=0
def tw1549746755567105607:=0
def tw12693676480027393825:=0
def tw7035966303166791437:=0
def tw3962476755811445427:=0
def tw16523794703056183029:=0
def tw1669815117662903982:=0
def tw10269854363827694788:=0
def tw11657955138356807454:=0
def tw10725846547985665080:=0
def tw13600612029639668797:=0
def tw5197033408134473788:=0
def tw10788403064779715828:=0
def tw11846111099696277424:=0
def tw6248890000422321344:=0
def tw1645490847795879428:=0
def tw12775523568478783199:=0
def tw13955849136195091540:=0
def tw9071305023038372112:=0
def tw17612559805719279689:=0
def tw12802646719619593506:=0
def tw16596567410743041403:=0
def tw4687772511883581319:=0
def tw6207533943554100907:=0
def tw5126114517785019140:=0
def tw9665549740720790243:=0
def tw10216051715902857677:=0
def tw3774148783134372835:=0
def tw2663431775562390294:=0
def tw10240743713376620117:=0
def tw10269957808806426710:=0
def tw6137045553794976855:=0
def tw13540950856465173080:=0
def tw1038807408006606398:=0
def tw17041232434131808420:=0
def tw4755632831688714684:=0
def tw138411640678783166:=0
def tw138934931240076725:=0
def tw7846429007971458488:=0
def tw7511297973885106403:=0
def tw11615501230525608316:=0
def tw14634181794745510304:=0
def tw562450753010651233:=0
def tw5060841258160488806:=0
def tw12160362004804844005:=0
def tw2114331435943447392:=0
def tw4366447643815492529:=0
def tw13480879774885304240:=0
def tw10785068799022309322:=0
def tw10131164489110021363:=0
def tw6559664817622159539:=0
def tw3242346556148461030:=0
def tw1948934536527705783:=0
def tw6872359765005083003:=0
def tw12724111377402769327:=0
def tw17573918416339361055:=0
def tw5206644707803586655:=0
def tw3091889590356643404:=0
def tw18357100073111323438:=0
def tw10071466847611618275:=0
def tw10199232630078910374:=0
def tw3616023439815560577:=0
def tw13906147766005398616:=0
def tw17138886512439679586:=0
def tw3461747408141297770:=0
def tw831805691303757963:=0
def tw4511171342334694748:=0
def tw17096491464795874299:=0
def tw11915708882219991355:=0
def tw18162077992131576866:=0
def tw1271854391434645163:=0
def tw16299508671538800060:=0
def tw12200951827847869388:=0
def tw4874402824299449899:=0
def tw15628298058792537555:=0
def tw2810347076410181628:=0
def tw9726091084160533249:=0
def tw9467471161064038917:=0
def tw4945462920625011743:=0
def tw17595384724399511357:=0
def tw12630457433646081115:=0
def tw6992988210258261053:=0
def tw2119969504928716959:=0
def tw5639624444662064709:=0
def tw5883010389040796677:=0
def tw4902861862303141468:=0
def tw16425556118307938501:=0
def tw13678721223153224149:=0
def tw6540705944722986498:=0
def tw5170899825899213452:=0
def tw228933398551954256:=0
def tw3324949991906350695:=0
def tw17048083724849791912:=0
def tw7830463092550653038:=0
def tw2067676956323490074:=0
def tw8379910556629120572:=0
def tw16089183721575745513:=0
def tw352891575703759301:=0
def tw12289177773119416457:=0
def tw12149817773978321422:=0
def tw14723175808676483255:=0
def tw5100979796868832896:=0
def tw11848896329378648189:=0
def tw9552705403776376352:=0
def tw3212989137705668009:=0
def tw4601389931455284350:=0
def tw3763225292123891347:=0
def tw18060226348715917178:=0
def tw8771970101601686590:=0
def tw9493062876449079204:=0
def tw12864989735273902643:=0
def tw445335429505058813:=0
def tw9975243189334533713:=0
def tw8931729202985921225:=0
def tw7557259014513573634:=0
def tw12465907059596710224:=0
def tw13075448166328880232:=0
def tw11023467817857858663:=0
def tw3669201950351996193:=0
def tw11709584903627081932:=0
def tw10448866161270707097:=0
def tw13403278521561038789:=0
def tw15081888351362259187:=0
def tw8265965509636680928:=0
def tw4619127379780919484:=0
def tw16337832105297540882:=0
def tw14746305376517504923:=0
def tw13909265627663437973:=0
def tw2047019340458585546:=0
def tw8871612980946719921:=0
def tw7882725906620510026:=0
def tw12156579951710319328:=0
def tw2026492894178879541:=0
def tw4682398481429395598:=0
def tw2615505997224768088:=0
def tw13509292276323582745:=0
def tw9064732417734824954:=0
def tw6134044209501606918:=0
def tw12087590220664815691:=0
def tw12110421875461052065:=0
def tw13049212826575310899:=0
def tw7034271206895147395:=0
def tw18173848040166038766:=0
def tw17421731616290357082:=0
def tw13244482925505129268:=0
def tw6338922102730295994:=0
def tw4654615051167255851:=0
def tw3911066856997109125:=0
def tw4455705569019295545:=0
def tw2080992661401753211:=0
def tw9285903405083922060:=0
def tw11163078415939090290:=0
def tw3189855675003127474:=0
def tw3853934870849387860:=0
def tw11220728545573886798:=0
def tw13205260689759252293:=0
def tw5679107299399378724:=0
def tw15501932139192723411:=0
def tw3116351125457013812:=0
def tw11836998302596510517:=0
def tw3502830357312593547:=0
def tw14288247058845042265:=0
def tw5525763498443123781:=0
def tw4602369397199311104:=0
def tw840387842606052103:=0
def tw5968197822302176915:=0
def tw17483192957623666967:=0
def tw11781111258122664114:=0
def tw3815437885362155219:=0
def tw13202304768031863061:=0
def tw15311798771239154952:=0
def tw11031376130075190014:=0
def tw12221844062727449731:=0
def tw12977835225431088291:=0
def tw11848593957651496814:=0
def tw9611506120113298147:=0
def tw2678063176104941343:=0
def tw17092423161769671669:=0
def tw16180177680032650031:=0
def tw12912596577251313726:=0
def tw10083256734832133679:=0
def tw3571120976699707775:=0
def tw17959939144003660355:=0
def tw2785953490048105439:=0
def tw13989641267919701683:=0
def tw16676823231454861387:=0
def tw4613401065873682053:=0
def tw10624206065180434268:=0
def tw10304318545410495582:=0
def tw14321825565070781472:=0
def tw2238933850880016677:=0
def tw12709238040921466302:=0
def tw4249237389362588314:=0
def tw6609414969063299248:=0
def tw5630550134423820203:=0
def tw672724821530090893:=0
def tw9388196354904087119:=0
def tw12675345783118217506:=0
def tw14998152634544498529:=0
def tw9848585163788956714:=0
def tw10493865856719039647:=0
def tw1966676172564747638:=0
def tw1843118556972071207:=0
def tw6124763680834696098:=0
def tw13877431280785222963:=0
def tw17840063170792217255:=0
def tw13063464768285340281:=0
def tw7035082517150832272:=0
def tw7603517668781332382:=0
def tw14449041217379152066:=0
def tw14732865053503787440:=0
def tw5666073447776608987:=0
def tw7301481624558981955:=0
def tw6946594164687595477:=0
def tw4973951016069046056:=0
def tw6567978248866404755:=0
def tw1342979804284717629:=0
def tw3708859068914689582:=0
def tw9154550427699000346:=0
def tw16587949636139951962:=0
def tw6240801278374486326:=0
def tw15620918275899163716:=0
def tw11633310451000741050:=0
def tw5492347694924831131:=0
def tw10657702978176983634:=0
def tw10089210302960744870:=0
def tw9530398570798991770:=0
def tw7266179466255106591:=0
def tw4767251030298304819:=0
def tw5666228588389655774:=0
def tw11430580831451761804:=0
def tw923204507597704856:=0
def tw17508778941201848326:=0
def tw12794483582746934072:=0
def tw15115577478792293907:=0
def tw4744798189254247235:=0
def tw12730126709603048652:=0
def tw11557450144523823602:=0
def tw14170762165919765771:=0
def tw4488450510568999288:=0
def tw752381786323421160:=0
def tw6926590568582253793:=0
def tw3988271671390711296:=0
def tw2967656355013834977:=0
def tw15110512301358846926:=0
def tw13406964147682411096:=0
def tw14514519174742857979:=0
def tw9593838071858506734:=0
def tw8324328891073350677:=0
def tw8271280489373578464:=0
def tw15888857636093449937:=0
def tw3935249692263745654:=0
def tw2305594866790654674:=0
def tw10641503471458849449:=0
def tw10804374215089518155:=0
def tw11032577823853611876:=0
def tw11829347584991527197:=0
def tw8541297981943656150:=0
def tw16072291561980546565:=0
def tw2819104337528401722:=0
def tw15781881382269949300:=0
def tw5693465953765578347:=0
def tw17706653787228787985:=0
def tw13470146488183289733:=0
def tw7593996372600597143:=0
def tw12996177052667433637:=0
def tw8116603605853641230:=0
def tw415430701090062894:=0
def tw6324553093922279880:=0
def tw1475157058090892701:=0
def tw5731659864011049820:=0
def tw17992152509254335467:=0
def tw2421471042133948787:=0
def tw6288135972112346946:=0
def tw14209967586920994221:=0
def tw10046749462960739283:=0
def tw17311496400067269060:=0
def tw10525730007519731581:=0
def tw12648014268081011846:=0
def tw10644663473435286832:=0
def tw14340810399132403243:=0
def tw17477544036088618125:=0
def tw10171847458723078346:=0
def tw12955905902984928094:=0
def tw5381327514331743134:=0
def tw14969576061130967700:=0
def tw6055749545961050104:=0
def tw13578753955696276929:=0
def tw12781580887898146977:=0
def tw7839103885332500287:=0
def tw532126348226084898:=0
def tw16987777132224962090:=0
def tw15315474488319786724:=0
def tw8474833822290897690:=0
def tw2283313626945955070:=0
def tw11011898215003578803:=0
def tw2304356951319019550:=0
def tw13745190853622302686:=0
def tw15273891849437702303:=0
def tw16283810087321160226:=0
def tw13274019771857480625:=0
end PySem.W.Fast
open PySem PySem.W PyProof.Rows
set_option maxRecDepth 100000 in
set_option maxHeartbeats 0 in
theorem PySem.Challenge.cw_putsigns_k52_refused_to_be_written_holds : PySem.Challenge.rw_putsigns_k52_refused_to_be_written.Holds := by
  w_on;o_law;k_head;(case hw=>w_witness2)
  k_fill
  refine Put.walk (l:=PySem.Challenge.rw_putsigns_k52_refused_to_be_written) rfl rfl ?hi (fun w h Y=>PySem.W.kIn_of Y) ?F
  case hi=>first|rfl|decide +kernel
  case F =>
    intro w mg fa h KX G hmg;refine' Put.all_mk KX G hmg ?q0 ?q1 ?q2 ?q3 ?q4 ?q5 ?q6 ?q7 ?q8 ?q9 ?q10 ?q11 ?q12 ?q13 ?q14 ?q15 ?q16 ?q17 ?q18 ?q19 ?q20 ?q21 ?q22 ?q23 ?q24 ?q25 ?q26 ?q27 ?q28 ?q29 ?q30 ?q31 ?q32 ?q33 ?q34 ?q35 ?q36 ?q37 ?q38 ?q39 ?q40 ?q41 ?q42 ?q43 ?q44 ?q45 ?a46 ?l46 ?c46 ?k46 ?z_len ?z_isinstance ?z_int ?z_bool ?z_str ?z_tuple ?z_list ?z_sorted ?z_range ?z_repr ?z_enumerate ?z_sum ?z_all ?z_min ?z_max ?z_abs ?z_divmod ?z_dict ?z_set ?z_reversed ?z_any ?z_zip ?gM ?gS ?lS ?gFg ?gBl ?gMn ?gMs ?n_PutError ?n_NoRow ?n_NoSigns ?n_NoWay ?n_NoNumber ?n_NoPlace ?n_NoFit ?n_NoForm ?n_NoAsk ?n_NoHolds ?n_NoText ?n_TooMany ?z_ValueError ?l_PutError ?s_PutError ?t_PutError ?i_PutError ?l_NoRow ?s_NoRow ?t_NoRow ?i_NoRow ?l_NoWay ?s_NoWay ?t_NoWay ?i_NoWay ?l_NoHolds ?s_NoHolds ?t_NoHolds ?i_NoHolds ?f1_NoRow ?f2_NoRow ?f3_NoRow ?f4_NoRow ?f5_NoRow ?f6_NoRow ?f1_NoWay ?f2_NoWay ?f3_NoWay ?f4_NoWay ?f5_NoWay ?f6_NoWay ?f1_NoHolds ?f2_NoHolds ?f3_NoHolds ?f4_NoHolds ?f5_NoHolds ?f6_NoHolds ?c_NoRow ?y_NoRow ?c_NoSigns ?y_NoSigns ?c_NoWay ?y_NoWay ?c_NoNumber ?y_NoNumber ?c_NoPlace ?y_NoPlace ?c_NoFit ?y_NoFit ?c_NoForm ?y_NoForm ?c_NoAsk ?y_NoAsk ?c_NoHolds ?y_NoHolds ?c_NoText ?y_NoText ?c_TooMany ?y_TooMany ?u_NoRow_NoSigns ?d_NoRow_NoSigns ?u_NoRow_NoWay ?d_NoRow_NoWay ?u_NoRow_NoNumber ?d_NoRow_NoNumber ?u_NoRow_NoPlace ?d_NoRow_NoPlace ?u_NoRow_NoFit ?d_NoRow_NoFit ?u_NoRow_NoForm ?d_NoRow_NoForm ?u_NoRow_NoAsk ?d_NoRow_NoAsk ?u_NoRow_NoHolds ?d_NoRow_NoHolds ?u_NoRow_NoText ?d_NoRow_NoText ?u_NoRow_TooMany ?d_NoRow_TooMany ?u_NoWay_NoRow ?d_NoWay_NoRow ?u_NoWay_NoSigns ?d_NoWay_NoSigns ?u_NoWay_NoNumber ?d_NoWay_NoNumber ?u_NoWay_NoPlace ?d_NoWay_NoPlace ?u_NoWay_NoFit ?d_NoWay_NoFit ?u_NoWay_NoForm ?d_NoWay_NoForm ?u_NoWay_NoAsk ?d_NoWay_NoAsk ?u_NoWay_NoHolds ?d_NoWay_NoHolds ?u_NoWay_NoText ?d_NoWay_NoText ?u_NoWay_TooMany ?d_NoWay_TooMany ?u_NoHolds_NoRow ?d_NoHolds_NoRow ?u_NoHolds_NoSigns ?d_NoHolds_NoSigns ?u_NoHolds_NoWay ?d_NoHolds_NoWay ?u_NoHolds_NoNumber ?d_NoHolds_NoNumber ?u_NoHolds_NoPlace ?d_NoHolds_NoPlace ?u_NoHolds_NoFit ?d_NoHolds_NoFit ?u_NoHolds_NoForm ?d_NoHolds_NoForm ?u_NoHolds_NoAsk ?d_NoHolds_NoAsk ?u_NoHolds_NoText ?d_NoHolds_NoText ?u_NoHolds_TooMany ?d_NoHolds_TooMany
    (case q0=>exact L2.Fq.mk4 (by k_is) (by k_is) (by k_is) (by k_is))
    (case q1=>exact L2.Fq.mk4 (by k_is) (by k_is) (by k_is) (by k_is))
    (case q2=>exact L2.Fq.mk4 (by k_is) (by k_is) (by k_is) (by k_is))
    (case q3=>exact L2.Fq.mk4 (by k_is) (by k_is) (by k_is) (by k_is))
    (case q4=>exact L2.Fq.mk4 (by k_is) (by k_is) (by k_is) (by k_is))
    (case q5=>exact L2.Fq.mk4 (by k_is) (by k_is) (by k_is) (by k_is))
    (case q6=>exact L2.Fq.mk4 (by k_is) (by k_is) (by k_is) (by k_is))
    (case q7=>exact L2.Fq.mk4 (by k_is) (by k_is) (by k_is) (by k_is))
    (case q8=>exact L2.Fq.mk4 (by k_is) (by k_is) (by k_is) (by k_is))
    (case q9=>exact L2.Fq.mk4 (by k_is) (by k_is) (by k_is) (by k_is))
    (case q10=>exact L2.Fq.mk4 (by k_is) (by k_is) (by k_is) (by k_is))
    (case q11=>exact L2.Fq.mk4 (by k_is) (by k_is) (by k_is) (by k_is))
    (case q12=>exact L2.Fq.mk4 (by k_is) (by k_is) (by k_is) (by k_is))
    (case q13=>exact L2.Fq.mk4 (by k_is) (by k_is) (by k_is) (by k_is))
    (case q14=>exact L2.Fq.mk4 (by k_is) (by k_is) (by k_is) (by k_is))
    (case q15=>exact L2.Fq.mk4 (by k_is) (by k_is) (by k_is) (by k_is))
    (case q16=>exact L2.Fq.mk4 (by k_is) (by k_is) (by k_is) (by k_is))
    (case q17=>exact L2.Fq.mk4 (by k_is) (by k_is) (by k_is) (by k_is))
    (case q18=>exact L2.Fq.mk4 (by k_is) (by k_is) (by k_is) (by k_is))
    (case q19=>exact L2.Fq.mk4 (by k_is) (by k_is) (by k_is) (by k_is))
    (case q20=>exact L2.Fq.mk4 (by k_is) (by k_is) (by k_is) (by k_is))
    (case q21=>exact L2.Fq.mk4 (by k_is) (by k_is) (by k_is) (by k_is))
    (case q22=>exact L2.Fq.mk4 (by k_is) (by k_is) (by k_is) (by k_is))
    (case q23=>exact L2.Fq.mk4 (by k_is) (by k_is) (by k_is) (by k_is))
    (case q24=>exact L2.Fq.mk4 (by k_is) (by k_is) (by k_is) (by k_is))
    (case q25=>exact L2.Fq.mk4 (by k_is) (by k_is) (by k_is) (by k_is))
    (case q26=>exact L2.Fq.mk4 (by k_is) (by k_is) (by k_is) (by k_is))
    (case q27=>exact L2.Fq.mk4 (by k_is) (by k_is) (by k_is) (by k_is))
    (case q28=>exact L2.Fq.mk4 (by k_is) (by k_is) (by k_is) (by k_is))
    (case q29=>exact L2.Fq.mk4 (by k_is) (by k_is) (by k_is) (by k_is))
    (case q30=>exact L2.Fq.mk4 (by k_is) (by k_is) (by k_is) (by k_is))
    (case q31=>exact L2.Fq.mk4 (by k_is) (by k_is) (by k_is) (by k_is))
    (case q32=>exact L2.Fq.mk4 (by k_is) (by k_is) (by k_is) (by k_is))
    (case q33=>exact L2.Fq.mk4 (by k_is) (by k_is) (by k_is) (by k_is))
    (case q34=>exact L2.Fq.mk4 (by k_is) (by k_is) (by k_is) (by k_is))
    (case q35=>exact L2.Fq.mk4 (by k_is) (by k_is) (by k_is) (by k_is))
    (case q36=>exact L2.Fq.mk4 (by k_is) (by k_is) (by k_is) (by k_is))
    (case q37=>exact L2.Fq.mk4 (by k_is) (by k_is) (by k_is) (by k_is))
    (case q38=>exact L2.Fq.mk4 (by k_is) (by k_is) (by k_is) (by k_is))
    (case q39=>exact L2.Fq.mk4 (by k_is) (by k_is) (by k_is) (by k_is))
    (case q40=>exact L2.Fq.mk4 (by k_is) (by k_is) (by k_is) (by k_is))
    (case q41=>exact L2.Fq.mk4 (by k_is) (by k_is) (by k_is) (by k_is))
    (case q42=>exact L2.Fq.mk4 (by k_is) (by k_is) (by k_is) (by k_is))
    (case q43=>exact L2.Fq.mk4 (by k_is) (by k_is) (by k_is) (by k_is))
    (case q44=>exact L2.Fq.mk4 (by k_is) (by k_is) (by k_is) (by k_is))
    (case q45=>exact L2.Fq.mk4 (by k_is) (by k_is) (by k_is) (by k_is))
    (case a46=>k_is)
    (case l46=>k_is)
    (case c46=>k_is)
    (case k46=>k_is)
    (case z_len=>k_is)
    (case z_isinstance=>k_is)
    (case z_int=>k_is)
    (case z_bool=>k_is)
    (case z_str=>k_is)
    (case z_tuple=>k_is)
    (case z_list=>k_is)
    (case z_sorted=>k_is)
    (case z_range=>k_is)
    (case z_repr=>k_is)
    (case z_enumerate=>k_is)
    (case z_sum=>k_is)
    (case z_all=>k_is)
    (case z_min=>k_is)
    (case z_max=>k_is)
    (case z_abs=>k_is)
    (case z_divmod=>k_is)
    (case z_dict=>k_is)
    (case z_set=>k_is)
    (case z_reversed=>k_is)
    (case z_any=>k_is)
    (case z_zip=>k_is)
    (case gM=>k_is)
    (case gS=>k_is)
    (case lS=>k_is)
    (case gFg=>k_is)
    (case gBl=>k_is)
    (case gMn=>k_is)
    (case gMs=>k_is)
    (case n_PutError=>k_is)
    (case n_NoRow=>k_is)
    (case n_NoSigns=>k_is)
    (case n_NoWay=>k_is)
    (case n_NoNumber=>k_is)
    (case n_NoPlace=>k_is)
    (case n_NoFit=>k_is)
    (case n_NoForm=>k_is)
    (case n_NoAsk=>k_is)
    (case n_NoHolds=>k_is)
    (case n_NoText=>k_is)
    (case n_TooMany=>k_is)
    (case z_ValueError=>k_is)
    (case l_PutError=>k_is)
    (case s_PutError=>k_is)
    (case t_PutError=>rfl)
    (case i_PutError=>rfl)
    (case l_NoRow=>k_is)
    (case s_NoRow=>k_is)
    (case t_NoRow=>rfl)
    (case i_NoRow=>rfl)
    (case l_NoWay=>k_is)
    (case s_NoWay=>k_is)
    (case t_NoWay=>rfl)
    (case i_NoWay=>rfl)
    (case l_NoHolds=>k_is)
    (case s_NoHolds=>k_is)
    (case t_NoHolds=>rfl)
    (case i_NoHolds=>rfl)
    (case f1_NoRow=>k_is)
    (case f2_NoRow=>k_is)
    (case f3_NoRow=>k_is)
    (case f4_NoRow=>k_is)
    (case f5_NoRow=>k_is)
    (case f6_NoRow=>k_is)
    (case f1_NoWay=>k_is)
    (case f2_NoWay=>k_is)
    (case f3_NoWay=>k_is)
    (case f4_NoWay=>k_is)
    (case f5_NoWay=>k_is)
    (case f6_NoWay=>k_is)
    (case f1_NoHolds=>k_is)
    (case f2_NoHolds=>k_is)
    (case f3_NoHolds=>k_is)
    (case f4_NoHolds=>k_is)
    (case f5_NoHolds=>k_is)
    (case f6_NoHolds=>k_is)
    (case c_NoRow=>k_is)
    (case y_NoRow=>k_is)
    (case c_NoSigns=>k_is)
    (case y_NoSigns=>k_is)
    (case c_NoWay=>k_is)
    (case y_NoWay=>k_is)
    (case c_NoNumber=>k_is)
    (case y_NoNumber=>k_is)
    (case c_NoPlace=>k_is)
    (case y_NoPlace=>k_is)
    (case c_NoFit=>k_is)
    (case y_NoFit=>k_is)
    (case c_NoForm=>k_is)
    (case y_NoForm=>k_is)
    (case c_NoAsk=>k_is)
    (case y_NoAsk=>k_is)
    (case c_NoHolds=>k_is)
    (case y_NoHolds=>k_is)
    (case c_NoText=>k_is)
    (case y_NoText=>k_is)
    (case c_TooMany=>k_is)
    (case y_TooMany=>k_is)
    (case u_NoRow_NoSigns=>k_is)
    (case d_NoRow_NoSigns=>rfl)
    (case u_NoRow_NoWay=>k_is)
    (case d_NoRow_NoWay=>rfl)
    (case u_NoRow_NoNumber=>k_is)
    (case d_NoRow_NoNumber=>rfl)
    (case u_NoRow_NoPlace=>k_is)
    (case d_NoRow_NoPlace=>rfl)
    (case u_NoRow_NoFit=>k_is)
    (case d_NoRow_NoFit=>rfl)
    (case u_NoRow_NoForm=>k_is)
    (case d_NoRow_NoForm=>rfl)
    (case u_NoRow_NoAsk=>k_is)
    (case d_NoRow_NoAsk=>rfl)
    (case u_NoRow_NoHolds=>k_is)
    (case d_NoRow_NoHolds=>rfl)
    (case u_NoRow_NoText=>k_is)
    (case d_NoRow_NoText=>rfl)
    (case u_NoRow_TooMany=>k_is)
    (case d_NoRow_TooMany=>rfl)
    (case u_NoWay_NoRow=>k_is)
    (case d_NoWay_NoRow=>rfl)
    (case u_NoWay_NoSigns=>k_is)
    (case d_NoWay_NoSigns=>rfl)
    (case u_NoWay_NoNumber=>k_is)
    (case d_NoWay_NoNumber=>rfl)
    (case u_NoWay_NoPlace=>k_is)
    (case d_NoWay_NoPlace=>rfl)
    (case u_NoWay_NoFit=>k_is)
    (case d_NoWay_NoFit=>rfl)
    (case u_NoWay_NoForm=>k_is)
    (case d_NoWay_NoForm=>rfl)
    (case u_NoWay_NoAsk=>k_is)
    (case d_NoWay_NoAsk=>rfl)
    (case u_NoWay_NoHolds=>k_is)
    (case d_NoWay_NoHolds=>rfl)
    (case u_NoWay_NoText=>k_is)
    (case d_NoWay_NoText=>rfl)
    (case u_NoWay_TooMany=>k_is)
    (case d_NoWay_TooMany=>rfl)
    (case u_NoHolds_NoRow=>k_is)
    (case d_NoHolds_NoRow=>rfl)
    (case u_NoHolds_NoSigns=>k_is)
    (case d_NoHolds_NoSigns=>rfl)
    (case u_NoHolds_NoWay=>k_is)
    (case d_NoHolds_NoWay=>rfl)
    (case u_NoHolds_NoNumber=>k_is)
    (case d_NoHolds_NoNumber=>rfl)
    (case u_NoHolds_NoPlace=>k_is)
    (case d_NoHolds_NoPlace=>rfl)
    (case u_NoHolds_NoFit=>k_is)
    (case d_NoHolds_NoFit=>rfl)
    (case u_NoHolds_NoForm=>k_is)
    (case d_NoHolds_NoForm=>rfl)
    (case u_NoHolds_NoAsk=>k_is)
    (case d_NoHolds_NoAsk=>rfl)
    (case u_NoHolds_NoText=>k_is)
    (case d_NoHolds_NoText=>rfl)
    (case u_NoHolds_TooMany=>k_is)
    (case d_NoHolds_TooMany=>rfl)

