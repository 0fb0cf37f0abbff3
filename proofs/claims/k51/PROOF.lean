import PyProof.Rows.All
import Wide.All
import OpenK.AllK
import Wide.FinOn
import Lean
import PyProof.EqAt
import PyProof.EqKinds
import PyProof.TupleCall
import PySem.Challenge.RW_putsigns_k51_texts_of_none
open PySem.W renaming Frag → aaa, nsIn → aat, mg_none_of → aaw, kitOne → aaE, mg_of → aaS, subIn → aaZ, clsIn → aa1, kia_one → aa6, kia_tup → aa7, typeIn → abe, findIn → abl, keepIn → abm, fnOf → abw, codeIn → abX, kitAny → acf, kitx_dict → acw, kitx_list → acx, kitx_none → acy, Looks → acJ
open Nat renaming le_refl → aab, lt_of_lt_of_le → aaq, ne_of_lt → aaD, zero_le → aaK, le_trans → aa9, lt_irrefl → abu, ne_of_gt → abv, le_of_lt → abS, min_eq_left → ab7, lt_succ_self → acg, min_eq_right → acH, not_lt → acO
open List renaming getElem?_eq_getElem → aac, mem_cons_of_mem → aae, length_map → aaf, mem_append_right → aag, length_append → aah, mem_cons_self → aai, mem_cons → aaj, size_toArray → aal, getElem?_eq_some_iff → aam, length_cons → aao, getElem?_map → aar, mem_append → aau, length_take → aav, map_cons → aax, length_drop → aay, take_add_one → aaz, take_length → aaL, mem_of_getElem? → aaM, mem_singleton → aaN, map_append → aaP, take_of_length_le → aaQ, all_eq_true → aaU, mem_append_left → aaV, getD_eq_getElem?_getD → aaW, concat_eq_append → aaX, eq_nil_or_concat → aaY, drop_eq_getElem_cons → aa0, length → aa2, length_pos_iff → aa5, Nodup → aa8, sum_cons → aba, getElem?_cons_succ → abn, mem_of_mem_take → abo, map_map → abp, filterMap_cons → abr, range → aby, not_mem_nil → abz, getLast?_concat → abA, replicate → abB, append_nil → abC, foldl_cons → abD, length_nil → abE, map_congr_left → abF, cons_append → abG, getElem?_eq_none → abI, mem_of_mem_drop → abO, append_assoc → abP, flatten_cons → abQ, foldl_append → abR, any_cons → abU, map_drop → abV, map_take → abW, drop_of_length_le → abZ, find?_cons → ab3, length_singleton → ab4, mem_map → ab5, take_append_drop → ab6, getElem?_append_right → acd, drop_zero → ace, replicate_succ → aci, length_eq_zero_iff → ack, drop_eq_nil_of_le → acr, eraseIdx_eq_take_drop_succ → acv, count_cons_of_ne → acB, mem_of_mem_head? → acC, getElem_mem → acG, nodup_cons → acL, mem_range → acM
open PyProof.Rows renaming boot_isinstance → aad, boot_int → aaA, callWith_type1 → aa3, boot_tuple → abh, boot_str → abJ, boot_list → acs
open PySem.Heap renaming get?_push_of_some → aak, lt_size → aas, get?_push_size → aaJ, SameBut → acA
open PySem.Builtin.Str renaming strSliceIndices → aan, occurrences → aaB, partsBetween → abx, strSub → abH, tooLong → ach, glued → act
open Bool renaming false_ne_true → aap, eq_iff_iff → aaH, and_eq_true → abk
open PySem.F renaming plainAttrs_list → aaC, plainAttrs_str → aaO, slot_list_append → abb, type_list_append → abc, slot_str_split → ab0, type_str_split → ab1, slot_str_join → ab8, type_str_join → ab9, slot_list_count → acm, slot_list_index → acn, type_list_count → aco, type_list_index → acp, typeOf_object_class → acz, slot_dict_get → acD
open Option renaming map_eq_some_iff → aaF, isSome_iff_exists → acj, map_some → acl
open Int renaming le_refl → aaG, toNat_natCast → acu
open PySem renaming boot_len → aaI, sliceRange → abf, mem_of_lookup → abt
open PySem.Builtin.Range renaming rangeSize → aaR
open PySem.PassesOwn renaming never → aaT
open Array renaming all_eq_true' → aa4
open Option.some renaming inj → abd
open PySem.Paired renaming length → abg
open PySem.Calls renaming spliced_cons → abi, evalArgs_plain → abN, callWith_builtin → abY, Constant_str → ab2, spliced_nil → acb
open PySem.PyData renaming depthAll → abj, depth → abT
open False renaming elim → abq
open PySem.Sem renaming wp → abK
open PySem.Str renaming ofString → abL
open Ne renaming symm → abM
open PySem.StrLaws renaming occ_length_le → aca, glued_eq_join → acE
open PySem.SeqAt.EqAt renaming same → acq
open PySem.Txt renaming split → acF, removeprefix → acI, join → acK, mul → acN
set_option Elab.async false
set_option linter.all false
set_option maxRecDepth 100000
namespace L2
open PySem PySem.Spec PyProof.Rows
abbrev Key:=Sum Int Str
def jS:Key→Value→Bool
  | .inl k,v=>Value.isInt k v
  | .inr x,v=>Value.isStrOf x v
def yC (w:World):Key→Int
  | .inl k=>hashInt k
  | .inr x=>hashStr w x
theorem bI:∀ {k:Key} {v:Value},jS k v=true→(∃ i t,k=Sum.inl i∧v=Value.int i t)∨(∃ x t,k=Sum.inr x∧v=Value.str x t)
  | .inl i,v,h=>by
    obtain ⟨t,e⟩:=Value.isInt_shape (k:=i) (v:=v) h;exact .inl ⟨i,t,rfl,e⟩
  | .inr x,v,h=>by
    obtain ⟨t,e⟩:=Value.isStrOf_shape (x:=x) (v:=v) h;exact .inr ⟨x,t,rfl,e⟩
theorem rF (i:Int) (t:Tok):jS (.inl i) (.int i t)=true:=by simp [jS,Value.isInt]
theorem rE (x:Str) (t:Tok):jS (.inr x) (.str x t)=true:=by simp [jS,Value.isStrOf]
theorem wT (a b:Int):decide ((Sum.inl a:Key)=Sum.inl b)=(a == b):=by
  by_cases e:a=b
  · subst e;simp
  · have h:¬ (Sum.inl a:Key)=Sum.inl b:=fun q=>e (Sum.inl.inj q);rw [decide_eq_false h];exact (beq_eq_false_iff_ne.mpr e).symm
theorem wQ (a b:Str):decide ((Sum.inr a:Key)=Sum.inr b)=decide (a=b):=by
  by_cases e:a=b
  · subst e;simp
  · have h:¬ (Sum.inr a:Key)=Sum.inr b:=fun q=>e (Sum.inr.inj q);rw [decide_eq_false h,decide_eq_false e]
theorem wS (a:Int) (b:Str):decide ((Sum.inl a:Key)=Sum.inr b)=false:=decide_eq_false (fun q=>nomatch q)
theorem wR (a:Str) (b:Int):decide ((Sum.inr a:Key)=Sum.inl b)=false:=decide_eq_false (fun q=>nomatch q)
def bz (prog:Program) (w:World):PySem.KeyKind prog w Key where
  is:=jS
  hash:=yC w
  inj:=fun v a b ha hb=>by
    rcases bI ha with ⟨i,t,rfl,rfl⟩|⟨x,t,rfl,rfl⟩
    · rcases bI hb with ⟨j,u,rfl,e⟩|⟨y,u,rfl,e⟩
      · injection e with e1 _;rw [e1]
      · exact nomatch e
    · rcases bI hb with ⟨j,u,rfl,e⟩|⟨y,u,rfl,e⟩
      · exact nomatch e
      · injection e with e1 _;rw [e1]
  byValue:=fun k v h=>by
    rcases bI h with ⟨i,t,rfl,rfl⟩|⟨x,t,rfl,rfl⟩ <;> rfl
  pyHash:=fun hv h=>by
    rcases bI hv with ⟨i,t,rfl,rfl⟩|⟨x,t,rfl,rfl⟩
    · exact wpAny_pyHash_int h
    · exact wpAny_pyHash_str h
  eqBool:=fun hu hv h=>by
    rcases bI hu with ⟨i,t,rfl,rfl⟩|⟨x,t,rfl,rfl⟩
    · rcases bI hv with ⟨j,u,rfl,rfl⟩|⟨y,u,rfl,rfl⟩
      · rw [wT] at h;exact wpAny_eqBool_int h
      · rw [wS] at h;exact SeqAt.EqAt.int_str i t y u _ _ _ _ h
    · rcases bI hv with ⟨j,u,rfl,rfl⟩|⟨y,u,rfl,rfl⟩
      · rw [wR] at h;exact SeqAt.EqAt.str_int x t j u _ _ _ _ h
      · rw [wQ] at h;exact wpAny_eqBool_str h
  «strs»:=fun k x t v h=>by
    rcases bI h with ⟨i,u,rfl,e⟩|⟨y,u,rfl,e⟩
    · exact nomatch e
    · injection e with e1 _
      subst e1;cases v <;> rfl
theorem pe (prog:Program) (w:World) (k:Key) (v:Value):(bz prog w).is k v=jS k v:=rfl
theorem nM (prog:Program) (w:World) (i:Int) (t:Tok):(bz prog w).is (.inl i) (.int i t)=true:=rF i t
theorem nK (prog:Program) (w:World) (x:Str) (t:Tok):(bz prog w).is (.inr x) (.str x t)=true:=rE x t
open PySem PySem.Spec PyProof.Rows
inductive V where
  | non|bl (b:Bool)|int (i:Int)|str (x:Str)|byt (b:Array UInt8)|flt (b:UInt64)|ref (a:Addr)|ty (n:String)
  deriving DecidableEq
def RelV:V→Value→Prop
  | .non,u=>u=Value.none
  | .bl b,u=>u=Value.bool b
  | .int i,u=>∃ t,u=Value.int i t
  | .str x,u=>∃ t,u=Value.str x t
  | .byt b,u=>∃ t,u=Value.bytes b t
  | .flt b,u=>∃ t,u=Value.float b t
  | .ref a,u=>u=Value.ref a
  | .ty n,u=>u=Value.type n
abbrev Vals:List V→List Value→Prop:=Paired RelV
theorem Vals.length {xs:List V} {us:List Value} (r:Vals xs us):xs.length=us.length:=abg r
theorem Vals.get:∀ {xs:List V} {us:List Value} {i:Nat} {x:V},Vals xs us→xs[i]?=some x→∃ u,us[i]?=some u∧RelV x u
  | _,_,_,_,.nil,e=>by simp at e
  | _,_,0,_,.cons r _,e=>by simp at e;subst e;exact ⟨_,rfl,r⟩
  | _,_,i+1,x,.cons _ t,e=>by
    obtain ⟨u,h1,h2⟩:=Vals.get (i:=i) (x:=x) t (by simpa using e);exact ⟨u,by simpa using h1,h2⟩
theorem Vals.set {x:V} {u:Value} (r:RelV x u):∀ {xs:List V} {us:List Value} (i:Nat),Vals xs us→Vals (xs.set i x) (us.set i u)
  | _,_,_,.nil=>.nil
  | _,_,0,.cons _ t=>.cons r t
  | _,_,i+1,.cons q t=>.cons q (Vals.set r i t)
theorem Vals.append {xs ys:List V} {us ws:List Value} (h:Vals xs us) (s:Vals ys ws):Vals (xs++ys) (us++ws):=by
  induction h with
  | nil=>exact s
  | cons r t ih=>exact .cons r ih
theorem Vals.take:∀ {xs:List V} {us:List Value} (n:Nat),Vals xs us→Vals (xs.take n) (us.take n)
  | _,_,0,_=>.nil
  | _,_,_+1,.nil=>.nil
  | _,_,n+1,.cons r t=>.cons r (Vals.take n t)
theorem Vals.drop:∀ {xs:List V} {us:List Value} (n:Nat),Vals xs us→Vals (xs.drop n) (us.drop n)
  | _,_,0,r=>r
  | _,_,_+1,.nil=>.nil
  | _,_,n+1,.cons _ t=>Vals.drop n t
def RelO:Option V→Option Value→Prop
  | some v,some u=>RelV v u
  | none,none=>True
  | _,_=>False
def KV {κ:Type}:List (κ × V)→List (κ × Value)→Prop:=Paired fun (p:κ × V) (q:κ × Value)=>p.1=q.1∧RelV p.2 q.2
def kV:Key→V
  | .inl i=>.int i
  | .inr x=>.str x
inductive HO where
  | lst (xs:List V)
  | tup (xs:List V)
  | dK (kvs:List (Key × V))|dT (kvs:List (List Key × V))
  | set (S:Int→Bool) (n:Nat)
  | ins (C dx:Addr) (fs:List (Str × V))
  | own (x:Addr)
  | xd (fs:List (Str × V))
  | met (f x:Addr)
  | rng (lo hi:Int)
  | frz (o:Obj) (u:HO)
  | tbl (ps:Array Value)
  | ext (φ:Heap→Prop)
abbrev Hp:=Addr→Option HO
def upd (H:Hp) (a:Addr) (o:HO):Hp:=fun b=>if b=a then some o else H b
theorem upd_same {H:Hp} {a:Addr} {o:HO}:upd H a o a=some o:=by unfold upd;rw [if_pos rfl]
theorem aI {H:Hp} {a b:Addr} {o:HO} (h:b≠a):upd H a o b=H b:=by unfold upd;rw [if_neg h]
theorem xW {H:Hp} {a b:Addr} {o u:HO} (h:H a=some o) (h':H b=some u) (d:o≠u):a≠b:=by
  intro e;subst e;rw [h] at h';exact d (abd h')
theorem ba {H:Hp} {a b:Addr} {o:HO} (h:H a=some o) (h':H b=none):a≠b:=by
  intro e;subst e;rw [h] at h';cases h'
section
variable (P:Program) (w:World)
def ObjOk (H:Hp) (h:Heap) (a:Addr):HO→Prop
  | .lst xs=>xs.length≤sizeLine∧∃ (its:List Value) (n:Nat),Vals xs its∧h.get? a=some { cls:=.type "list",data:=.seq its.toArray n }
  | .tup xs=>xs.length≤sizeLine∧∃ its:List Value,Vals xs its∧IsTup h a its.toArray
  | .dK kvs=>kvs.length≤sizeLine∧(a == sysModules)=false∧∃ vs,KV kvs vs∧h.DictOf (bz P w) a vs
  | .dT kvs=>kvs.length≤sizeLine∧(a == sysModules)=false∧∃ xs:List (List Key × Addr × Value),
      Paired (fun (p:List Key × V) (q:List Key × Addr × Value)=>p.1=q.1∧H q.2.1=some (.tup (p.1.map kV))∧RelV p.2 q.2.2) kvs xs ∧
      ∃ o es ep,h.get? a=some o∧o.ExactDict∧o.data=.dict es ep∧es.toList=xs.map (entryOfKey (tupleKind (bz P w)))∧(xs.map (·.1)).Nodup
  | .set S n=>h.SetOf (intKind P w) a S n
  | .ins C dx fs=>H dx=some (.own a)∧fs.length≤1000∧dx≠a∧h.get? a=some (PySem.W.instObj C dx) ∧
      ∃ mA,h.Ns1 dx mA∧(∀ f,RelO (fs.lookup f) (mA f))∧PySem.Within mA (fs.map (·.1))
  | .own _=>∃ o,h.get? a=some o
  | .xd fs=>∃ mA,h.Ns1 a mA∧∀ f,RelO (fs.lookup f) (mA f)
  | .rng lo hi=>∃ t u v,h.get? a=some { cls:=.type "range",data:=.fields #[.int lo t,.int hi u,.int 1 v] }
  | .frz o u=>h.get? a=some o∧ObjOk H h a u
  | .tbl ps=>h.get? a=some { cls:=.none,data:=.fields ps }
  | .met f x=>h.get? a=some (PySem.W.methodObj (.ref f) (.ref x))
  | .ext φ=>φ h∧(∃ o,h.get? a=some o)∧∀ h1 h2:Heap,φ h1→(∀ o,h1.get? a=some o→h2.get? a=some o)→φ h2
def HOk (H:Hp) (h:Heap):Prop:=∀ a o,H a=some o→ObjOk P w H h a o
end
section
variable {P:Program} {w:World} {H H':Hp} {h h':Heap} {a:Addr} {o:HO}
theorem ObjOk.lt (x:ObjOk P w H h a o):a < h.objs.size:=by
  cases o with
  | lst xs=>obtain ⟨_,_,_,_,e⟩:=x;exact aas e
  | tup xs=>obtain ⟨_,_,_,p⟩:=x;exact p.lt
  | dK kvs=>obtain ⟨_,_,_,_,o,_,_,e,_⟩:=x;exact aas e
  | dT kvs=>obtain ⟨_,_,_,_,o,_,_,e,_⟩:=x;exact aas e
  | set S n=>obtain ⟨o,_,_,_,e,_⟩:=x;exact aas e
  | ins C dx fs=>obtain ⟨_,_,_,e,_⟩:=x;exact aas e
  | own y=>obtain ⟨_,e⟩:=x;exact aas e
  | xd fs=>obtain ⟨_,⟨_,_,_,e,_⟩,_⟩:=x;exact aas e
  | rng lo hi=>obtain ⟨_,_,_,e⟩:=x;exact aas e
  | frz ob u=>obtain ⟨e,_⟩:=x;exact aas e
  | tbl ps=>exact aas (show h.get? a=some _ from x)
  | met f y=>exact aas (show h.get? a=some _ from x)
  | ext φ=>obtain ⟨_,⟨_,e⟩,_⟩:=x;exact aas e
theorem Paired.mapP {α β:Type} {F G:α→β→Prop} {l₁:List α} {l₂:List β} (h:Paired F l₁ l₂) (f:∀ a b,F a b→G a b):Paired G l₁ l₂:=by
  induction h with
  | nil=>exact .nil
  | cons r t ih=>exact .cons (f _ _ r) ih
theorem ObjOk.stay (x:ObjOk P w H h a o) (k:∀ b u,(b=a∨H b=some (.own a))→h.get? b=some u→h'.get? b=some u)
    (ho:∀ b,H b=some (.own a)→H' b=some (.own a)) (ht:∀ b xs,H b=some (.tup xs)→H' b=some (.tup xs)):ObjOk P w H' h' a o:=by
  induction o with
  | lst xs=>obtain ⟨z,its,n,r,e⟩:=x;exact ⟨z,its,n,r,k _ _ (.inl rfl) e⟩
  | tup xs=>obtain ⟨z,its,r,ob,e,c⟩:=x;exact ⟨z,its,r,ob,k _ _ (.inl rfl) e,c⟩
  | dK kvs=>obtain ⟨z,y,vs,r,ob,es,ep,e,c⟩:=x;exact ⟨z,y,vs,r,ob,es,ep,k _ _ (.inl rfl) e,c⟩
  | dT kvs =>
    obtain ⟨z,y,xs,r,ob,es,ep,e,c⟩:=x;exact ⟨z,y,xs,Paired.mapP r fun p q z=>⟨z.1,ht _ _ z.2.1,z.2.2⟩,ob,es,ep,k _ _ (.inl rfl) e,c⟩
  | set S n=>obtain ⟨ob,es,ep,t,e,c⟩:=x;exact ⟨ob,es,ep,t,k _ _ (.inl rfl) e,c⟩
  | ins C dx fs =>
    obtain ⟨d,z,ne,e,mA,⟨od,es,ep,e2,c⟩,r⟩:=x;exact ⟨ho _ d,z,ne,k _ _ (.inl rfl) e,mA,⟨od,es,ep,k _ _ (.inr d) e2,c⟩,r⟩
  | own y=>obtain ⟨ob,e⟩:=x;exact ⟨ob,k _ _ (.inl rfl) e⟩
  | xd fs=>obtain ⟨mA,⟨od,es,ep,e,c⟩,r⟩:=x;exact ⟨mA,⟨od,es,ep,k _ _ (.inl rfl) e,c⟩,r⟩
  | rng lo hi=>obtain ⟨t,u,v,e⟩:=x;exact ⟨t,u,v,k _ _ (.inl rfl) e⟩
  | frz ob u ih=>obtain ⟨e,q⟩:=x;exact ⟨k _ _ (.inl rfl) e,ih q⟩
  | tbl ps =>
    have e:h.get? a=some { cls:=.none,data:=.fields ps }:=x;show h'.get? a=some { cls:=.none,data:=.fields ps };exact k a _ (.inl rfl) e
  | met f y =>
    have e:h.get? a=some (PySem.W.methodObj (.ref f) (.ref y)):=x;show h'.get? a=some (PySem.W.methodObj (.ref f) (.ref y));exact k a _ (.inl rfl) e
  | ext φ=>obtain ⟨p,⟨o,e⟩,st⟩:=x;exact ⟨st _ _ p fun o q=>k _ _ (.inl rfl) q,⟨o,k _ _ (.inl rfl) e⟩,st⟩
theorem HOk.lt (x:HOk P w H h) (e:H a=some o):a < h.objs.size:=(x a o e).lt
theorem HOk.fresh (x:HOk P w H h) (e:h.objs.size≤a):H a=none:=by
  cases q:H a with
  | none=>rfl
  | some u=>exact absurd (aaq (x.lt q) e) (abu _)
theorem HOk.kept (x:HOk P w H h) (k:∀ b u,h.get? b=some u→h'.get? b=some u):HOk P w H h':=fun a o e =>
  (x a o e).stay (fun b u _ q=>k b u q) (fun _ q=>q) fun _ _ q=>q
theorem HOk.laid (x:HOk P w H h) (k:∀ b u,h.get? b=some u→h'.get? b=some u) (hp:h.objs.size≤a) (new:ObjOk P w (upd H a o) h' a o):HOk P w (upd H a o) h':=fun b u e=>by
  have hn:=x.fresh hp;by_cases hb:b=a
  · subst hb;rw [upd_same] at e;cases e;exact new
  · rw [aI hb] at e;exact (x b u e).stay (fun c v _ q=>k c v q) (fun c q=>by rw [aI (ba q hn)];exact q) fun c xs q=>by rw [aI (ba q hn)];exact q
end
def Rd (H:Hp) (a:Addr) (u:HO):Prop:=H a=some u∨∃ o,H a=some (.frz o u)
theorem Rd.ok {P:Program} {w:World} {H:Hp} {h:Heap} {a:Addr} {u:HO} (r:Rd H a u) (x:HOk P w H h):ObjOk P w H h a u:=by
  rcases r with r|⟨o,r⟩
  · exact x a u r
  · obtain ⟨_,q⟩:=x a _ r;exact q
def Mut:Option HO→Prop
  | some (.lst _)=>True
  | some (.dK _)=>True
  | some (.dT _)=>True
  | some (.set _ _)=>True
  | some (.ins _ _ _)=>True
  | some (.ext _)=>True
  | _=>False
section
variable {P:Program} {w:World} {H:Hp} {h h':Heap} {x e:Addr} {o':HO}
theorem HOk.write (ok:HOk P w H h) (mu:Mut (H x)) (he:e=x∨H e=some (.own x)) (k:∀ b u,b≠e→h.get? b=some u→h'.get? b=some u) (heo:∃ u,h'.get? e=some u)
    (new:ObjOk P w (upd H x o') h' x o'):HOk P w (upd H x o') h':=fun b u q=>by
  have nown:∀ c y,H c=some (.own y)→c≠x:=fun c y r z=>by subst z;rw [r] at mu;exact mu
  have ntup:∀ c xs,H c=some (.tup xs)→c≠x:=fun c xs r z=>by subst z;rw [r] at mu;exact mu
  by_cases hb:b=x
  · subst hb;rw [upd_same] at q;cases q;exact new
  · rw [aI hb] at q;by_cases hbe:b=e
    · have q':H b=some (.own x):=by
        rcases he with z|z
        · exact absurd (hbe.trans z) hb
        · rw [hbe];exact z
      rw [q] at q';cases q';obtain ⟨v,hv⟩:=heo;exact ⟨v,by rw [hbe];exact hv⟩
    · refine (ok b u q).stay (fun c v hc r=>k c v ?_ r) (fun c r=>by rw [aI (nown c b r)];exact r) fun c xs r=>by rw [aI (ntup c xs r)];exact r
      rcases hc with rfl|hc
      · exact hbe
      · rintro rfl;rcases he with z|z
        · exact nown c b hc z
        · rw [hc] at z;cases z;exact hb rfl
end
structure Un (fs ex:List Addr) (H H':Hp) (h h':Heap):Prop where
  keep:∀ b o,h.get? b=some o→H b=none→b∉fs→b∉ex→h'.get? b=some o
  slot:∀ b o,h.get? b=some o→H b=none→b∈fs→b∉ex→∃ sl,h'.get? b=some { o with slots:=sl }
  free:∀ b o,h.get? b=some o→H b=none→b∉ex→H' b=none
  there:∀ b o,h.get? b=some o→b∉ex→∃ o',h'.get? b=some o'
  tups:∀ b xs,H b=some (.tup xs)→H' b=some (.tup xs)
  frzs:∀ b o u,H b=some (.frz o u)→H' b=some (.frz o u)
  tbls:∀ b ps,H b=some (.tbl ps)→∃ more,H' b=some (.tbl (ps++more))
section
variable {fs fs' ex ex':List Addr} {H H1 H2:Hp} {h h1 h2 h':Heap} {a x e:Addr} {o:HO}
theorem Un.any (u:Un fs ex H H1 h h1) {b:Addr} {ob:Obj} (q:h.get? b=some ob) (n:H b=none) (hx:b∉ex):∃ sl,h1.get? b=some { ob with slots:=sl }:=by
  by_cases hb:b∈fs
  · exact u.slot b ob q n hb hx
  · exact ⟨ob.slots,u.keep b ob q n hb hx⟩
theorem Un.trans (a:Un fs ex H H1 h h1) (b:Un fs ex H1 H2 h1 h2):Un fs ex H H2 h h2 where
  keep:=fun c ob q n hc hx=>b.keep c ob (a.keep c ob q n hc hx) (a.free c ob q n hx) hc hx
  slot:=fun c ob q n hc hx=>by
    obtain ⟨sl,e1⟩:=a.slot c ob q n hc hx;obtain ⟨sl',e2⟩:=b.slot c _ e1 (a.free c ob q n hx) hc hx;exact ⟨sl',e2⟩
  free:=fun c ob q n hx=>by
    obtain ⟨o',e1⟩:=a.there c ob q hx;exact b.free c o' e1 (a.free c ob q n hx) hx
  there:=fun c ob q hx=>by
    obtain ⟨o',e1⟩:=a.there c ob q hx;exact b.there c o' e1 hx
  tups:=fun c xs q=>b.tups c xs (a.tups c xs q)
  frzs:=fun c ob xs q=>b.frzs c ob xs (a.frzs c ob xs q)
  tbls:=fun c ps q=>by
    obtain ⟨m1,e1⟩:=a.tbls c ps q;obtain ⟨m2,e2⟩:=b.tbls c _ e1;exact ⟨m1++m2,by rw [e2,Array.append_assoc]⟩
theorem Un.kept (k:∀ b u,h.get? b=some u→h'.get? b=some u):Un fs ex H H h h' :=
  ⟨fun b ob q _ _ _=>k b ob q,fun b ob q _ _ _=>⟨ob.slots,k b ob q⟩,fun _ _ _ n _=>n,fun b ob q _=>⟨ob,k b ob q⟩,fun _ _ q=>q,fun _ _ _ q=>q,fun _ ps q=>⟨#[],by rw [q];simp⟩⟩
theorem Un.refl:Un fs ex H H h h:=Un.kept fun _ _ q=>q
theorem Un.laid (k:∀ b u,h.get? b=some u→h'.get? b=some u) (hp:h.objs.size≤a) (hn:H a=none):Un fs ex H (upd H a o) h h' where
  keep:=fun b u q _ _ _=>k b u q
  slot:=fun b u q _ _ _=>⟨u.slots,k b u q⟩
  free:=fun b u q n _=>by rw [aI (aaD (aaq (aas q) hp))];exact n
  there:=fun b u q _=>⟨u,k b u q⟩
  tups:=fun b xs q=>by rw [aI (ba q hn)];exact q
  frzs:=fun b u xs q=>by rw [aI (ba q hn)];exact q
  tbls:=fun b ps q=>⟨#[],by rw [aI (ba q hn),q];simp⟩
theorem Un.write (mu:Mut (H x)) (he:e=x∨H e=some (.own x)) (k:∀ b u,b≠e→h.get? b=some u→h'.get? b=some u) (heo:∃ u,h'.get? e=some u):Un fs ex H (upd H x o) h h':=by
  have hx:∀ b,H b=none→b≠x:=fun b n z=>by subst z;rw [n] at mu;exact mu
  have hb:∀ b,H b=none→b≠e:=fun b n z=>by
    subst z;rcases he with r|r
    · exact hx b n r
    · rw [n] at r;cases r
  have hm:∀ b u,H b=some u→¬ Mut (some u)→b≠x:=fun b u q nm z=>by subst z;rw [q] at mu;exact nm mu
  refine ⟨fun b u q n _ _=>k b u (hb b n) q,fun b u q n _ _=>⟨u.slots,k b u (hb b n) q⟩,fun b u q n _=>by rw [aI (hx b n)];exact n,fun b u q _=>?_,
    fun b xs q=>by rw [aI (hm b _ q fun z=>z)];exact q,fun b u xs q=>by rw [aI (hm b _ q fun z=>z)];exact q,fun b ps q=>⟨#[],by rw [aI (hm b _ q fun z=>z),q];simp⟩⟩
  by_cases hbe:b=e
  · subst hbe;exact heo
  · exact ⟨u,k b u hbe q⟩
theorem Un.mono (u:Un fs ex H H1 h h1) (hs:∀ b∈fs,b∈fs') (hx:∀ b∈ex,b∈ex'):Un fs' ex' H H1 h h1 :=
  ⟨fun b ob q n hb he=>u.keep b ob q n (fun z=>hb (hs b z)) fun z=>he (hx b z),fun _ _ q n _ he=>u.any q n fun z=>he (hx _ z),fun b ob q n he=>u.free b ob q n fun z=>he (hx b z),fun b ob q he=>u.there b ob q fun z=>he (hx b z),u.tups,u.frzs,u.tbls⟩
end
def trk (h:Heap) (H:Hp):List Addr:=(aby h.objs.size).filter fun a=>(H a).isSome
def mz (h:Heap) (H:Hp):Heap:=PySem.W.hideAll h (trk h H)
theorem rK (h:Heap) (H:Hp):(mz h H).objs.size=h.objs.size:=PySem.W.hideAll_size _ _
theorem tQ {h:Heap} {H:Hp} {b:Addr} {o:Obj} (e:h.get? b=some o) (n:H b=none):(mz h H).get? b=some o :=
  PySem.W.hideAll_get _ e fun hm=>by
    have q:(H b).isSome=true:=(List.mem_filter.mp hm).2;rw [n] at q;simp at q
theorem vb {h:Heap} {H:Hp} {b:Addr} {o:Obj} (e:(mz h H).get? b=some o):h.get? b=some o∧H b=none:=by
  have e':h.get? b=some o:=PySem.W.of_hideAll (trk h H) e;refine ⟨e',?_⟩;cases q:H b with
  | none=>rfl
  | some x =>
    have hm:b∈trk h H:=List.mem_filter.mpr ⟨acM.mpr (aas e'),by simp [q]⟩;have z:(mz h H).get? b=none:=PySem.W.hideAll_none (trk h H) hm;rw [z] at e;cases e
def vB (g h:Heap) (L:Addr):List (Addr × Obj):=(aby h.objs.size).filterMap fun a=>if a=L∨(g.get? a).isSome=true then none else (h.get? a).map fun o=>(a,o)
def rest (g h:Heap) (L d:Addr):List (Addr × Obj):=(vB g h L).filter fun p=>decide (p.1≠d)
open PySem PySem.Spec PyProof.Rows
structure Mod (K:aaa) (mg:Str→Option Value) (base:Heap):Prop where
  kin:K.In base
  glob:base.Ns mainGlobals mg
  blt:∃ mb,base.Ns builtinsNs mb∧∀ x:Str,x ≠ "__name__"→mb x=bootBuiltins x
  nolimit:base.NoLimit
  sysm:∃ mm,base.Ns sysModules mm
structure Cx where
  prog:Program
  w:World
  K:aaa
  mg:Str→Option Value
  base:Heap
  A:Around
  N:List Str
  s₀:Shared
  H₀:Hp
  env:Env
  outer:List Env
  stack:List Env
  ex:List Addr
  fn:Str→Bool
  calm:Bool
  pn:List (Addr × Obj)
  xe:Value→Shared→Prop
def frs (l:List Env):List Addr:=l.filterMap (·.frame)
abbrev Cx.fs (X:Cx):List Addr:=frs X.outer
def Vis (sc:Scope) (x:Str):Prop:=sc.names.lookup x=some .local∨sc.names.lookup x=some .cell∨sc.names.lookup x=some .free
def Loc (sc:Scope) (x:Str):Prop:=sc.names.lookup x=some .local∨sc.names.lookup x=some .cell
def xq (env:Env) (h:Heap) (m:Str→Option Value) (x:Str) (u:Value):Prop :=
  (env.kindOf x=some .local∧m x=some u)∨((env.kindOf x=some .cell∨env.kindOf x=some .free)∧∃ c,env.cells.lookup x=some c∧h.IsCell c (some u))
structure Cx.Ok (X:Cx):Prop where
  mod:Mod X.K X.mg X.base
  kind:X.env.scope.kind=.function
  glob:X.env.globals=mainGlobals
  blt:X.env.builtins=builtinsNs
  above:X.s₀.heap.objs.size≤X.env.locals
  inj:∀ x y c,X.env.cells.lookup x=some c→X.env.cells.lookup y=some c→x=y
  has:∀ x,(X.env.kindOf x=some .cell∨X.env.kindOf x=some .free)→∃ c,X.env.cells.lookup x=some c
  cab:∀ x c,X.fn x=true→X.env.cells.lookup x=some c→X.s₀.heap.objs.size≤c
  hd:X.calm=true→X.A.handled=none
  frames:X.A.frames=some X.stack
  stk:X.stack=X.outer∨(X.stack=X.env :: X.outer∧X.env.frame=some X.env.locals)
  exf:∀ b∈X.ex,b≠X.env.locals∧∀ x c,X.env.cells.lookup x=some c→c≠b
  bs:∀ b o,X.base.get? b=some o→X.s₀.heap.get? b=some o∧X.H₀ b=none
  bsz:X.base.objs.size≤X.s₀.heap.objs.size
  noex:∀ b o,X.base.get? b=some o→b∉X.ex
  exfs:∀ b∈X.ex,b∉X.fs
  funs:X.s₀.heap.FunFrames X.base X.outer
  frf:∀ b∈X.fs,X.H₀ b=none
structure Inv (X:Cx) (pins:List (Addr × Obj)) (σ:List (Option V)) (H:Hp) (s:Shared):Prop where
  ok:X.Ok
  os:s.os=X.s₀.os
  bare:AllBare s.gens
  base:Un X.fs X.ex X.H₀ H X.s₀.heap s.heap
  loc:∃ m,s.heap.Ns X.env.locals m∧∀ (i:Nat) (x:Str) (v:V),X.N[i]?=some x→σ[i]?=some (some v)→Vis X.env.scope x→∃ u,RelV v u∧xq X.env s.heap m x u
  cell:∀ x c,X.env.cells.lookup x=some c→∃ v,s.heap.IsCell c v
  free:H X.env.locals=none
  freeC:∀ x c,X.env.cells.lookup x=some c→H c=none
  pin:∀ p∈X.pn++pins,s.heap.get? p.1=some p.2∧H p.1=none∧p.1≠X.env.locals∧p.1∉X.fs∧∀ v,p.2.data≠.cell v
  hok:HOk X.prog X.w H s.heap
  len:σ.length=X.N.length
section
variable {X:Cx} {pins:List (Addr × Obj)} {σ:List (Option V)} {H H':Hp} {s:Shared} {h':Heap}
theorem Cx.Ok.nofr (ok:X.Ok) {b:Addr} {o:Obj} (e:X.base.get? b=some o):b∉X.fs:=fun hb=>by
  have:=(ok.funs.mem hb).1;rw [e] at this;cases this
theorem Inv.bs (I:Inv X pins σ H s):∀ b o,X.base.get? b=some o→s.heap.get? b=some o∧H b=none:=fun b o e =>
  ⟨I.base.keep b o (I.ok.bs b o e).1 (I.ok.bs b o e).2 (I.ok.nofr e) (I.ok.noex b o e),I.base.free b o (I.ok.bs b o e).1 (I.ok.bs b o e).2 (I.ok.noex b o e)⟩
theorem Inv.bk (I:Inv X pins σ H s):∀ b o,X.base.get? b=some o→s.heap.get? b=some o:=fun b o e=>(I.bs b o e).1
theorem Inv.mod (I:Inv X pins σ H s):Mod X.K X.mg X.base:=I.ok.mod
theorem Inv.kIn (I:Inv X pins σ H s):X.K.In s.heap:=I.ok.mod.kin.keeps I.bk
theorem Inv.lt (I:Inv X pins σ H s):X.env.locals < s.heap.objs.size:=let ⟨_,hn,_⟩:=I.loc;hn.lt
theorem Inv.sz (I:Inv X pins σ H s):X.s₀.heap.objs.size≤s.heap.objs.size:=aa9 I.ok.above (abS I.lt)
theorem Inv.nofs (I:Inv X pins σ H s) {a:Addr} (h:s.heap.objs.size≤a):a∉X.fs:=fun hb=>by
  obtain ⟨_,o,ho,_⟩:=I.ok.funs.mem hb;exact absurd (aaq (aas ho) (aa9 I.sz h)) (abu _)
theorem Inv.cne (I:Inv X pins σ H s):∀ x c,X.env.cells.lookup x=some c→c≠X.env.locals:=fun x c e z=>by
  obtain ⟨v,o,ho,hd⟩:=I.cell x c e;obtain ⟨m,⟨o',es,ep,ho',hd',_⟩,_⟩:=I.loc;rw [z,ho'] at ho;cases ho;rw [hd'] at hd;cases hd
theorem Inv.funs (I:Inv X pins σ H s):s.heap.FunFrames X.base X.outer:=by
  have all:∀ (l:List Env),(∀ b∈frs l,b∈X.fs)→X.s₀.heap.FunFrames X.base l→s.heap.FunFrames X.base l:=by
    intro l
    induction l with
    | nil=>intro _ _;trivial
    | cons env r ih =>
      intro hs hl;obtain ⟨hk,⟨L,o,hf,hn,ho,hd⟩,hr⟩:=hl;have hL:L∈X.fs:=hs L (by unfold frs;rw [abr,hf];exact aai);obtain ⟨sl,e⟩:=I.base.slot L o ho (I.ok.frf L hL) hL fun z=>I.ok.exfs L z hL;exact ⟨hk,⟨L,_,hf,hn,e,hd⟩,ih (fun b hb=>hs b (by unfold frs;rw [abr,hf];exact aae _ hb)) hr⟩
  exact all X.outer (fun _ hb=>hb) I.ok.funs
theorem Inv.stack (I:Inv X pins σ H s):s.heap.FunFrames X.base X.stack:=by
  rcases I.ok.stk with e|⟨e,hf⟩
  · rw [e];exact I.funs
  · rw [e];obtain ⟨m,hn,_⟩:=I.loc;refine .cons (by rw [I.ok.kind];decide) hf hn ?_ I.funs;exact Heap.get?_none_of_le (aa9 I.ok.bsz I.ok.above)
theorem Inv.stkSub (I:Inv X pins σ H s):∀ b∈frs X.stack,b∈X.env.locals :: X.fs:=fun b hb=>by
  rcases I.ok.stk with e|⟨e,hf⟩
  · rw [e] at hb;exact aae _ hb
  · rw [e] at hb;unfold frs at hb;rw [abr,hf] at hb;exact hb
theorem Inv.stkFree (I:Inv X pins σ H s):∀ b∈frs X.stack,H b=none:=fun b hb=>by
  rcases aaj.mp (I.stkSub b hb) with e|hb
  · rw [e];exact I.free
  · obtain ⟨_,o,ho,_⟩:=I.ok.funs.mem hb;exact I.base.free b o ho (I.ok.frf b hb) fun z=>I.ok.exfs b z hb
theorem Inv.step {g':Array GenState} {t':Nat} {d':Drawn} {ch:List Addr} (I:Inv X pins σ H s)
    (hch:∀ b∈ch,(b∈X.ex∨X.s₀.heap.objs.size≤b)∧b≠X.env.locals∧(∀ x c,X.env.cells.lookup x=some c→c≠b)∧∀ p∈X.pn++pins,p.1≠b)
    (keep:∀ b o,b≠X.env.locals→b∉X.fs→b∉ch→s.heap.get? b=some o→H b=none→h'.get? b=some o)
    (slot:∀ b o,b≠X.env.locals→b∈X.fs→b∉ch→s.heap.get? b=some o→H b=none→∃ sl,h'.get? b=some { o with slots:=sl }) (free:∀ b o,b∉ch→s.heap.get? b=some o→H b=none→H' b=none)
    (there:∀ b o,b∉ch→s.heap.get? b=some o→∃ o',h'.get? b=some o')
    (tups:∀ b xs,H b=some (.tup xs)→H' b=some (.tup xs)) (frzs:∀ b o u,H b=some (.frz o u)→H' b=some (.frz o u)) (tbls:∀ b ps,H b=some (.tbl ps)→∃ more,H' b=some (.tbl (ps++more)))
    (ns:∀ m,s.heap.Ns X.env.locals m→h'.Ns X.env.locals m) (hok:HOk X.prog X.w H' h') (hg:AllBare g') :
    Inv X pins σ H' { s with heap:=h',gens:=g',drawn:=d',toks:=t' }:=by
  have neL:∀ b o,X.s₀.heap.get? b=some o→b≠X.env.locals:=fun b o e=>aaD (aaq (aas e) I.ok.above);have neC:∀ b o,X.s₀.heap.get? b=some o→b∉X.ex→b∉ch:=fun b o e hx hb=>by
    rcases (hch b hb).1 with z|z
    · exact hx z
    · exact absurd (aaq (aas e) z) (abu _)
  have cellK:∀ x c,X.env.cells.lookup x=some c→∀ v,s.heap.IsCell c v→h'.IsCell c v:=fun x c e v ⟨o,ho,hd⟩=>by
    have nch:c∉ch:=fun z=>(hch c z).2.2.1 x c e rfl;by_cases hc:c∈X.fs
    · obtain ⟨sl,q⟩:=slot c o (I.cne x c e) hc nch ho (I.freeC x c e);exact ⟨_,q,hd⟩
    · exact ⟨o,keep c o (I.cne x c e) hc nch ho (I.freeC x c e),hd⟩
  refine ⟨I.ok,I.os,hg,⟨fun b o e n hb hx=>?_,fun b o e n hb hx=>?_,fun b o e n hx=>?_,fun b o e hx=>?_,fun b xs e=>tups b xs (I.base.tups b xs e),fun b o xs e=>frzs b o xs (I.base.frzs b o xs e),fun b ps e=>?_⟩,?_,fun x c e=>?_,?_,fun x c e=>?_,fun p hp=>?_,hok,I.len⟩
  · exact keep b o (neL b o e) hb (neC b o e hx) (I.base.keep b o e n hb hx) (I.base.free b o e n hx)
  · obtain ⟨sl,e1⟩:=I.base.slot b o e n hb hx;obtain ⟨sl',e2⟩:=slot b _ (neL b o e) hb (neC b o e hx) e1 (I.base.free b o e n hx);exact ⟨sl',e2⟩
  · obtain ⟨o',e1⟩:=I.base.there b o e hx;exact free b o' (neC b o e hx) e1 (I.base.free b o e n hx)
  · obtain ⟨o',e1⟩:=I.base.there b o e hx;exact there b o' (neC b o e hx) e1
  · obtain ⟨m1,e1⟩:=I.base.tbls b ps e;obtain ⟨m2,e2⟩:=tbls b _ e1;exact ⟨m1++m2,by rw [e2,Array.append_assoc]⟩
  · obtain ⟨m,hn,hl⟩:=I.loc;refine ⟨m,ns m hn,fun i x v e1 e2 e3=>?_⟩;obtain ⟨u,r,l⟩:=hl i x v e1 e2 e3;refine ⟨u,r,?_⟩;rcases l with l|⟨k,c,e,z⟩
    · exact .inl l
    · exact .inr ⟨k,c,e,cellK x c e _ z⟩
  · obtain ⟨v,z⟩:=I.cell x c e;exact ⟨v,cellK x c e v z⟩
  · obtain ⟨m,⟨o,_,_,ho,_⟩,_⟩:=I.loc;exact free _ o (fun z=>(hch _ z).2.1 rfl) ho I.free
  · obtain ⟨v,o,ho,hd⟩:=I.cell x c e;exact free c o (fun z=>(hch c z).2.2.1 x c e rfl) ho (I.freeC x c e)
  · obtain ⟨e,n,ne,nf,d⟩:=I.pin p hp;have nch:p.1∉ch:=fun z=>(hch p.1 z).2.2.2 p hp rfl;exact ⟨keep p.1 p.2 ne nf nch e n,free p.1 p.2 nch e n,ne,nf,d⟩
theorem Inv.un {t':Nat} (I:Inv X pins σ H s) (u:Un X.fs [] H H' s.heap h') (hok:HOk X.prog X.w H' h'):Inv X pins σ H' { s with heap:=h',toks:=t' }:=by
  obtain ⟨m,⟨o,es,ep,ho,r⟩,_⟩:=id I.loc;obtain ⟨sl,hL⟩:=u.any ho I.free (by simp);exact I.step (g':=s.gens) (d':=s.drawn) (ch:=[]) (fun _ z=>nomatch z) (fun b o _ hb _ e n=>u.keep b o e n hb (by simp)) (fun b o _ hb _ e n=>u.slot b o e n hb (by simp)) (fun b o _ e n=>u.free b o e n (by simp)) (fun b o _ e=>u.there b o e (by simp)) u.tups u.frzs u.tbls (fun m' hm=>by
    obtain ⟨o',es',ep',ho',r'⟩:=hm;rw [ho] at ho';cases ho';exact ⟨_,es',ep',hL,r'⟩) hok I.bare
theorem Inv.call {g':Array GenState} {t':Nat} {d':Drawn} {ch:List Addr} (I:Inv X pins σ H s) (u:Un (frs X.stack) ch H H' s.heap h') (hok:HOk X.prog X.w H' h') (hg:AllBare g')
    (hch:∀ b∈ch,(b∈X.ex∨X.s₀.heap.objs.size≤b)∧b≠X.env.locals∧(∀ x c,X.env.cells.lookup x=some c→c≠b)∧∀ p∈X.pn++pins,p.1≠b) :
    Inv X pins σ H' { s with heap:=h',gens:=g',drawn:=d',toks:=t' }:=by
  obtain ⟨m,⟨o,es,ep,ho,r⟩,_⟩:=id I.loc;obtain ⟨sl,hL⟩:=u.any ho I.free fun z=>(hch _ z).2.1 rfl;exact I.step (ch:=ch) hch (fun b o hL hb hc e n=>u.keep b o e n (fun z=>(aaj.mp (I.stkSub b z)).elim hL hb) hc) (fun b o _ _ hc e n=>u.any e n hc) (fun b o hc e n=>u.free b o e n hc) (fun b o hc e=>u.there b o e hc) u.tups u.frzs u.tbls (fun m' hm=>by
    obtain ⟨o',es',ep',ho',r'⟩:=hm;rw [ho] at ho';cases ho';exact ⟨_,es',ep',hL,r'⟩) hok hg
theorem Inv.turned {t':Nat} {it:Addr} (I:Inv X pins σ H s) (k:∀ b o,b≠it→s.heap.get? b=some o→h'.get? b=some o) (hn:H it=none) (hL:it≠X.env.locals)
    (h1:it∈X.ex∨X.s₀.heap.objs.size≤it) (h2:∀ x c,X.env.cells.lookup x=some c→c≠it) (h3:∀ p∈X.pn++pins,p.1≠it):Inv X pins σ H { s with heap:=h',toks:=t' }:=by
  have nit:∀ b u,H b=some u→b≠it:=fun b u e z=>by rw [z,hn] at e;cases e
  refine I.step (g':=s.gens) (d':=s.drawn) (ch:=[it]) (fun b hb=>?_) (fun b o _ _ hc e _=>k b o (fun z=>hc (by simp [z])) e) (fun b o _ _ hc e _=>⟨o.slots,k b o (fun z=>hc (by simp [z])) e⟩) (fun _ _ _ _ n=>n)
    (fun b o hc e=>⟨o,k b o (fun z=>hc (by simp [z])) e⟩) (fun _ _ e=>e) (fun _ _ _ e=>e) (fun b ps e=>⟨#[],by rw [e];simp⟩) (fun m hm=>?_) (fun b u e=>?_) I.bare
  · have e:b=it:=by simpa using hb
    subst e;exact ⟨h1,hL,h2,h3⟩
  · obtain ⟨o,es,ep,ho,r⟩:=hm;exact ⟨o,es,ep,k _ o (abM hL) ho,r⟩
  · refine (I.hok b u e).stay (fun c v hc q=>k c v ?_ q) (fun _ q=>q) fun _ _ q=>q;rcases hc with z|z
    · rw [z];exact nit b u e
    · exact nit c _ z
theorem Inv.tok (I:Inv X pins σ H s) (t:Nat):Inv X pins σ H { s with toks:=t }:=I.un (h':=s.heap) (t':=t) Un.refl I.hok
theorem Inv.kept {t':Nat} (I:Inv X pins σ H s) (k:∀ b u,s.heap.get? b=some u→h'.get? b=some u):Inv X pins σ H { s with heap:=h',toks:=t' }:=I.un (Un.kept k) (I.hok.kept k)
theorem Inv.laid {a:Addr} {o:HO} {t':Nat} (I:Inv X pins σ H s) (k:∀ b u,s.heap.get? b=some u→h'.get? b=some u) (hp:s.heap.objs.size≤a) (new:ObjOk X.prog X.w (upd H a o) h' a o) :
    Inv X pins σ (upd H a o) { s with heap:=h',toks:=t' }:=I.un (Un.laid k hp (I.hok.fresh hp)) (I.hok.laid k hp new)
theorem Inv.write {x e:Addr} {o:HO} {t':Nat} (I:Inv X pins σ H s) (mu:Mut (H x)) (he:e=x∨H e=some (.own x)) (k:∀ b u,b≠e→s.heap.get? b=some u→h'.get? b=some u) (heo:∃ u,h'.get? e=some u)
    (new:ObjOk X.prog X.w (upd H x o) h' x o):Inv X pins σ (upd H x o) { s with heap:=h',toks:=t' }:=I.un (Un.write mu he k heo) (I.hok.write mu he k heo new)
theorem Inv.pins_of {pins':List (Addr × Obj)} (I:Inv X pins σ H s) (h:∀ p∈pins',s.heap.get? p.1=some p.2∧H p.1=none∧p.1≠X.env.locals∧p.1∉X.fs∧∀ v,p.2.data≠.cell v):Inv X pins' σ H s :=
  ⟨I.ok,I.os,I.bare,I.base,I.loc,I.cell,I.free,I.freeC,fun p hp=>(aau.mp hp).elim (fun z=>I.pin p (aaV _ z)) (h p),I.hok,I.len⟩
theorem jN {N:List Str} (hN:N.Nodup) {i j:Nat} {x:Str} (a:N[i]?=some x) (b:N[j]?=some x):i=j:=by
  obtain ⟨h1,e1⟩:=aam.mp a;obtain ⟨h2,e2⟩:=aam.mp b;exact (List.getElem_inj hN).mp (e1.trans e2.symm)
theorem qW {M:Model} {A:Around} {E:Value→Shared→Prop} {i:Nat} {x:Str} {v:V} {u:Value} {Q:Unit→Shared→Prop} (I:Inv X pins σ H s) (hN:X.N.Nodup) (hi:X.N[i]?=some x) (hx:Loc X.env.scope x) (r:RelV v u)
    (h:∀ s',Inv X pins (σ.set i (some v)) H s'→(∃ a,acA a s.heap s'.heap∧(a=X.env.locals∨X.env.cells.lookup x=some a))→Q () s') (hf:X.fn x=true∨X.env.scope.names.lookup x=some .local:=by first|exact .inl rfl|exact .inr rfl|assumption):wpAny M A (storeName X.env x u) Q E s:=by
  obtain ⟨m,hn,hl⟩:=id I.loc;have hcls:(X.env.scope.kind == .class || (X.env.scope.kind == .module && X.env.locals != X.env.globals))=false:=by rw [I.ok.kind];rfl
  have hiσ:i < σ.length:=by rw [I.len];exact (aam.mp hi).1
  have cne:=I.cne;have tracked:∀ {a:Addr} {h':Heap},(∃ o,s.heap.get? a=some o∧H a=none)→acA a s.heap h'→HOk X.prog X.w H h':=fun {a h'} ha hs b ob e=>by
    obtain ⟨_,_,hfree⟩:=ha;refine (I.hok b ob e).stay (fun c w' hc q=>(hs.2 c ?_).trans q) (fun _ q=>q) fun _ _ q=>q;rintro rfl;rcases hc with rfl|hc
    · rw [hfree] at e;cases e
    · rw [hfree] at hc;cases hc
  rcases hx with hk|hk
  · refine wpAny_storeName_local hk hn (fun h' hn' hs=>?_) hcls;obtain ⟨oL,_,_,hoL,_⟩:=id hn;refine h _ ⟨I.ok,I.os,I.bare,⟨fun b o e n hb hx=>?_,fun b o e n hb hx=>?_,I.base.free,fun b o e hx=>?_,I.base.tups,I.base.frzs,I.base.tbls⟩,⟨_,hn',fun j y v' e1 e2 e3=>?_⟩,fun y c e=>?_,I.free,I.freeC,fun p hp=>?_,tracked ⟨oL,hoL,I.free⟩ hs,by simpa using I.len⟩ ⟨_,hs,.inl rfl⟩
    · exact (hs.2 b (aaD (aaq (aas e) I.ok.above))).trans (I.base.keep b o e n hb hx)
    · obtain ⟨sl,e1⟩:=I.base.slot b o e n hb hx;exact ⟨sl,(hs.2 b (aaD (aaq (aas e) I.ok.above))).trans e1⟩
    · obtain ⟨o',e1⟩:=I.base.there b o e hx;exact ⟨o',(hs.2 b (aaD (aaq (aas e) I.ok.above))).trans e1⟩
    · by_cases hj:j=i
      · subst hj;rw [hi] at e1;cases e1;rw [List.getElem?_set_self hiσ] at e2;cases e2;exact ⟨u,r,.inl ⟨hk,by simp⟩⟩
      · rw [List.getElem?_set_ne (abM hj)] at e2;obtain ⟨u',r',q⟩:=hl j y v' e1 e2 e3;refine ⟨u',r',?_⟩;rcases q with ⟨k,e⟩|⟨k,c,e,z⟩
        · refine .inl ⟨k,?_⟩;have : y≠x:=fun e=>hj (jN hN e1 (e ▸ hi));simp [this,e]
        · exact .inr ⟨k,c,e,z.sameBut hs (cne y c e)⟩
    · obtain ⟨w',z⟩:=I.cell y c e;exact ⟨w',z.sameBut hs (cne y c e)⟩
    · obtain ⟨e,n,ne,nf,d⟩:=I.pin p hp;exact ⟨(hs.2 p.1 ne).trans e,n,ne,nf,d⟩
  · have hfn:X.fn x=true:=by
      rcases hf with z|z
      · exact z
      · rw [z] at hk;cases hk
    obtain ⟨c,hc⟩:=I.ok.has x (.inl hk);obtain ⟨w',z⟩:=I.cell x c hc;refine wpAny_storeName_cell I.ok.kind hk hc z (fun h' hc' hs=>?_);obtain ⟨oc,hoc,hocd⟩:=id z;refine h { s with heap:=h' } ⟨I.ok,I.os,I.bare,⟨fun b o e n hb hx=>?_,fun b o e n hb hx=>?_,I.base.free,fun b o e hx=>?_,I.base.tups,I.base.frzs,I.base.tbls⟩,⟨m,hn.sameBut hs (abM (cne x c hc)),fun j y v' e1 e2 e3=>?_⟩,fun y c' e=>?_,I.free,I.freeC,fun p hp=>?_,tracked ⟨oc,hoc,I.freeC x c hc⟩ hs,by simpa using I.len⟩ ⟨c,hs,.inr hc⟩
    · exact (hs.2 b (aaD (aaq (aas e) (I.ok.cab x c hfn hc)))).trans (I.base.keep b o e n hb hx)
    · obtain ⟨sl,e1⟩:=I.base.slot b o e n hb hx;exact ⟨sl,(hs.2 b (aaD (aaq (aas e) (I.ok.cab x c hfn hc)))).trans e1⟩
    · obtain ⟨o',e1⟩:=I.base.there b o e hx;exact ⟨o',(hs.2 b (aaD (aaq (aas e) (I.ok.cab x c hfn hc)))).trans e1⟩
    · by_cases hj:j=i
      · subst hj;rw [hi] at e1;cases e1;rw [List.getElem?_set_self hiσ] at e2;cases e2;exact ⟨u,r,.inr ⟨.inl hk,c,hc,hc'⟩⟩
      · rw [List.getElem?_set_ne (abM hj)] at e2;obtain ⟨u',r',q⟩:=hl j y v' e1 e2 e3;refine ⟨u',r',?_⟩;rcases q with q|⟨k,c',e,z'⟩
        · exact .inl q
        · refine .inr ⟨k,c',e,z'.sameBut hs ?_⟩;rintro rfl;exact hj (jN hN e1 (I.ok.inj _ _ _ e hc ▸ hi))
    · by_cases hcc:c'=c
      · subst hcc;exact ⟨_,hc'⟩
      · obtain ⟨w2,z2⟩:=I.cell y c' e;exact ⟨w2,z2.sameBut hs hcc⟩
    · obtain ⟨e,n,ne,nf,d⟩:=I.pin p hp;refine ⟨(hs.2 p.1 ?_).trans e,n,ne,nf,d⟩;intro q;rw [q,hoc] at e;have q':oc=p.2:=abd e;exact d w' (by rw [← q'];exact hocd)
theorem dM {M:Model} {A:Around} {E:Value→Shared→Prop} {i:Nat} {x:Str} {v:V} {u:Value} {Q:Unit→Shared→Prop} (I:Inv X pins σ H s) (hN:X.N.Nodup) (hi:X.N[i]?=some x) (hx:Loc X.env.scope x) (r:RelV v u)
    (h:∀ s',Inv X pins (σ.set i (some v)) H s'→Q () s') (hf:X.fn x=true∨X.env.scope.names.lookup x=some .local:=by first|exact .inl rfl|exact .inr rfl|assumption):wpAny M A (storeName X.env x u) Q E s :=
  qW I hN hi hx r (fun s' I' _=>h s' I') hf
theorem Inv.call' {s':Shared} {ch:List Addr} (I:Inv X pins σ H s) (ho:s'.os=s.os) (u:Un (frs X.stack) ch H H' s.heap s'.heap) (hok:HOk X.prog X.w H' s'.heap) (hg:AllBare s'.gens)
    (hch:∀ b∈ch,(b∈X.ex∨X.s₀.heap.objs.size≤b)∧b≠X.env.locals∧(∀ x c,X.env.cells.lookup x=some c→c≠b)∧∀ p∈X.pn++pins,p.1≠b):Inv X pins σ H' s':=by
  obtain ⟨h',g',d',t',o'⟩:=s';have e:o'=s.os:=ho;subst e;exact I.call (g':=g') (t':=t') (d':=d') u hok hg hch
end
abbrev XK:=Value→Option Addr→Hp→Prop
abbrev St:=List (Option V)
abbrev VK:=V→Hp→Prop
abbrev TE:=St→Hp→VK→Prop
abbrev TT:=St→Hp→(Bool→Hp→Prop)→Prop
abbrev TA:=St→Hp→(List V→Hp→Prop)→Prop
structure Ends where
  nx:St→Hp→Prop
  rt:VK
  bk:St→Hp→Prop:=fun _ _=>False
  ct:St→Hp→Prop:=fun _ _=>False
abbrev TS:=Ends→St→Hp→Prop
def EP (X:Cx) (pins:List (Addr × Obj)) (σ:St) (Q:VK) (u:Value) (s':Shared):Prop:=∃ v H',Inv X pins σ H' s'∧RelV v u∧Q v H'
def TP (X:Cx) (pins:List (Addr × Obj)) (σ:St) (Q:Bool→Hp→Prop) (b:Bool) (s':Shared):Prop:=∃ H',Inv X pins σ H' s'∧Q b H'
def AP (X:Cx) (pins:List (Addr × Obj)) (σ:St) (Q:List V→Hp→Prop) (us:List Value) (s':Shared):Prop:=∃ vs H',Inv X pins σ H' s'∧Vals vs us∧Q vs H'
def SP (X:Cx) (pins:List (Addr × Obj)) (D:Ends) (f:Flow) (s':Shared):Prop :=
  match f with
  | .next=>∃ σ' H',Inv X pins σ' H' s'∧D.nx σ' H'
  | .brk=>∃ σ' H',Inv X pins σ' H' s'∧D.bk σ' H'
  | .cont=>∃ σ' H',Inv X pins σ' H' s'∧D.ct σ' H'
  | .ret u=>∃ v σ' H',Inv X pins σ' H' s'∧RelV v u∧D.rt v H'
def PE (X:Cx) (e:Expr) (t:TE):Prop :=
  ∀ (pins:List (Addr × Obj)) (s:Shared) (σ:St) (H:Hp) (Q:VK),Inv X pins σ H s→t σ H Q→wpAny (model X.prog X.w) X.A (eval e X.env) (EP X pins σ Q) X.xe s
def PT (X:Cx) (e:Expr) (t:TT):Prop :=
  ∀ (pins:List (Addr × Obj)) (s:Shared) (σ:St) (H:Hp) (Q:Bool→Hp→Prop),Inv X pins σ H s→t σ H Q→wpAny (model X.prog X.w) X.A (isTrue e X.env (eval e X.env)) (TP X pins σ Q) X.xe s
def PW (X:Cx) (e:Expr) (t:TT):Prop :=
  ∀ (whole:Sem Value) (pins:List (Addr × Obj)) (s:Shared) (σ:St) (H:Hp) (Q:Bool→Hp→Prop),Inv X pins σ H s→t σ H Q→wpAny (model X.prog X.w) X.A (isTrue e X.env whole) (TP X pins σ Q) X.xe s
theorem PW.pt {X:Cx} {e:Expr} {t:TT} (h:PW X e t):PT X e t:=h _
def PA (X:Cx) (es:List Expr) (t:TA):Prop :=
  ∀ (pos:Pos) (pins:List (Addr × Obj)) (s:Shared) (σ:St) (H:Hp) (Q:List V→Hp→Prop),Inv X pins σ H s→t σ H Q→wpAny (model X.prog X.w) X.A (spliced (backTo pos (starEach es X.env))) (AP X pins σ Q) X.xe s
def PS (X:Cx) (st:Stmt) (t:TS):Prop :=
  ∀ (pins:List (Addr × Obj)) (s:Shared) (σ:St) (H:Hp) (D:Ends),Inv X pins σ H s→t D σ H→wpAny (model X.prog X.w) X.A (exec st X.env) (SP X pins D) X.xe s
def PSs (X:Cx) (st:List Stmt) (t:TS):Prop :=
  ∀ (pins:List (Addr × Obj)) (s:Shared) (σ:St) (H:Hp) (D:Ends),Inv X pins σ H s→t D σ H→wpAny (model X.prog X.w) X.A (execs st X.env) (SP X pins D) X.xe s
theorem thn {α:Type} {t:Sem α} {Q Q':α→Shared→Prop} {M:Model} {A:Around} {E:Value→Shared→Prop} {s:Shared} (h:wpAny M A t Q E s) (hQ:∀ a s,Q a s→Q' a s):wpAny M A t Q' E s:=wpAny_mono h hQ fun _ _ x=>x
open PySem PySem.Spec PyProof.Rows
section
variable {X:Cx}
theorem bin {a b:Expr} {ta tb:TE} (ha:PE X a ta) (hb:PE X b tb) {pins:List (Addr × Obj)} {s:Shared} {σ:St} {H:Hp} {R:V→V→Hp→Prop} (I:Inv X pins σ H s) (h:ta σ H fun x H1=>tb σ H1 fun y H2=>R x y H2)
    {α:Type} {Q:α→Shared→Prop} {f:Value→Value→Sem α}
    (hf:∀ v u s2 x y H2,Inv X pins σ H2 s2→RelV x v→RelV y u→R x y H2→wpAny (model X.prog X.w) X.A (f v u) Q X.xe s2) :
    wpAny (model X.prog X.w) X.A (eval a X.env) (fun v s₁=>wpAny (model X.prog X.w) X.A (eval b X.env) (fun u s₂=>wpAny (model X.prog X.w) X.A (f v u) Q X.xe s₂) X.xe s₁) X.xe s:=by
  refine thn (ha pins s σ H _ I h) fun v s1 ⟨x,H1,I1,r1,q1⟩=>?_;refine thn (hb pins s1 σ H1 _ I1 q1) fun u s2 ⟨y,H2,I2,r2,q2⟩=>?_;exact hf v u s2 x y H2 I2 r1 r2 q2
def vW (i:Nat):TE:=fun σ H Q=>∃ v,σ[i]?=some (some v)∧Q v H
def tC (v:V):TE:=fun _ H Q=>Q v H
theorem wz {i:Nat} {x:Str} {pos:Pos} (hN:X.N[i]?=some x) (hv:Vis X.env.scope x) (hd:(x == ("__debug__":Str))=false:=by decide) (hcd:(x == ("__classdict__":Str))=false:=by decide):PE X (.Name x pos) (vW i):=by
  intro pins s σ H Q I h;obtain ⟨v,e,h⟩:=h;obtain ⟨m,hn,hl⟩:=I.loc;obtain ⟨u,r,l⟩:=hl i x v hN e hv;have fin:EP X pins σ Q u s:=⟨v,H,I,r,h⟩
  rcases l with ⟨hk,hm⟩|⟨hk,c,hc,hcell⟩
  · exact wpAny_Name (wpAny_loadName_local I.ok.kind hk hn hm fin) hd
  · rcases hk with hk|hk
    · exact wpAny_Name (wpAny_loadName_cell I.ok.kind hk hc hcell fin) hd
    · exact wpAny_Name (wpAny_loadName_free I.ok.kind hk hc hcell fin hcd) hd
theorem ae {i j pos}:PE X (.Constant (.int i) j pos) (tC (.int i)):=fun _ _ _ H _ I h=>wpAny_Constant_int ⟨.int i,H,I.tok _,⟨_,rfl⟩,h⟩
theorem dE {b j pos}:PE X (.Constant (.bool b) j pos) (tC (.bl b)):=fun _ _ _ H _ I h=>Constant_bool ⟨.bl b,H,I,rfl,h⟩
theorem aZ {j pos}:PE X (.Constant .none j pos) (tC .non):=fun _ _ _ H _ I h=>Constant_none ⟨.non,H,I,rfl,h⟩
theorem af {x j pos}:PE X (.Constant (.str x) j pos) (tC (.str x)):=fun _ _ _ H _ I h=>ab2 ⟨.str x,H,I.tok _,⟨_,rfl⟩,h⟩
def Gl (X:Cx) (x:Str):Prop:=X.env.kindOf x=some .globalImplicit
theorem hV {E:Value→Shared→Prop} {pins:List (Addr × Obj)} {s:Shared} {σ:St} {H:Hp} {x:Str} {u:Value} {pos:Pos} {Q:Value→Shared→Prop} (I:Inv X pins σ H s) (hg:Gl X x) (hm:X.mg x=some u) (h:Q u s)
    (hd:(x == ("__debug__":Str))=false:=by decide):wpAny (model X.prog X.w) X.A (eval (.Name x pos) X.env) Q E s :=
  Calls.Name_function_global I.ok.kind hg (Calls.loadGlobal_global (by rw [I.ok.glob];exact I.mod.glob.keeps I.bk) hm h) hd
theorem fh {E:Value→Shared→Prop} {pins:List (Addr × Obj)} {s:Shared} {σ:St} {H:Hp} {x:Str} {u:Value} {pos:Pos} {Q:Value→Shared→Prop} (I:Inv X pins σ H s) (hg:Gl X x) (hm:X.mg x=none) (hv:bootBuiltins x=some u) (h:Q u s)
    (hn:x ≠ "__name__":=by decide) (hd:(x == ("__debug__":Str))=false:=by decide):wpAny (model X.prog X.w) X.A (eval (.Name x pos) X.env) Q E s:=by
  obtain ⟨mb,h1,h2⟩:=I.mod.blt;exact Calls.Name_function_global I.ok.kind hg (Calls.loadGlobal_builtin (by rw [I.ok.glob];exact I.mod.glob.keeps I.bk) hm (by rw [I.ok.blt];exact h1.keeps I.bk) ((h2 x hn).trans hv) h) hd
theorem bv {x:Str} {v:V} {u:Value} {pos:Pos} (hg:Gl X x) (hm:X.mg x=some u) (r:RelV v u) (hd:(x == ("__debug__":Str))=false:=by decide):PE X (.Name x pos) (tC v) :=
  fun _ _ _ H _ I h=>hV I hg hm ⟨v,H,I,r,h⟩ hd
theorem bw {x:Str} {v:V} {u:Value} {pos:Pos} (hg:Gl X x) (hm:X.mg x=none) (hv:bootBuiltins x=some u) (r:RelV v u) (hn:x ≠ "__name__":=by decide) (hd:(x == ("__debug__":Str))=false:=by decide):PE X (.Name x pos) (tC v) :=
  fun _ _ _ H _ I h=>fh I hg hm hv ⟨v,H,I,r,h⟩ hn hd
variable {a b:Expr} {ta tb:TE} {pos:Pos}
def tB (t:TE):TT:=fun σ H Q=>t σ H fun x H1=>∃ c,x=.bl c∧Q c H1
theorem bE {e:Expr} {t:TE} (h:PE X e t) (he:∀ whole,isTrue e X.env whole=(do let v ← whole;standAt e.pos;holding [v] (truthy v)):=by intro _;rfl):PT X e (tB t):=by
  intro pins s σ H Q I hw;refine isTrue_plain (thn (h pins s σ H _ I hw) fun v s1 ⟨x,H1,I1,r1,q1⟩=>?_) (he _);obtain ⟨d,rfl,q⟩:=q1;cases r1;exact wpAny_truthy_bool ⟨H1,I1,q⟩
variable {tA tB':TT} {rest:List Expr}
def yx (t u:TT):TT:=fun σ H Q=>t σ H fun c H1=>if c=true then u σ H1 Q else Q false H1
def tOr (t u:TT):TT:=fun σ H Q=>t σ H fun c H1=>if c=true then Q true H1 else u σ H1 Q
def yq (t:TT):TT:=fun σ H Q=>t σ H fun c H1=>Q (!c) H1
theorem cy (ha:PT X a tA):PW X (.BoolOp .And [a] pos) tA:=by
  intro wh pins s σ H Q I h;refine isTrue_and (thn (ha pins s σ H Q I h) fun c s1 e=>?_);cases c with
  | true=>exact isTrue_and_nil e
  | false=>exact e
theorem bS (ha:PT X a tA):PW X (.BoolOp .Or [a] pos) tA:=by
  intro wh pins s σ H Q I h;refine isTrue_or (thn (ha pins s σ H Q I h) fun c s1 e=>?_);cases c with
  | false=>exact isTrue_or_nil e
  | true=>exact e
theorem cF (ha:PT X a tA) (hb:PW X (.BoolOp .And (b :: rest) pos) tB'):PW X (.BoolOp .And (a :: b :: rest) pos) (yx tA tB'):=by
  intro wh pins s σ H Q I h;refine isTrue_and (thn (ha pins s σ H _ I h) fun c s1 ⟨H1,I1,q1⟩=>?_);cases c with
  | true=>exact hb wh pins s1 σ H1 Q I1 q1
  | false=>exact ⟨H1,I1,q1⟩
theorem ck (ha:PT X a tA) (hb:PW X (.BoolOp .Or (b :: rest) pos) tB'):PW X (.BoolOp .Or (a :: b :: rest) pos) (tOr tA tB'):=by
  intro wh pins s σ H Q I h;refine isTrue_or (thn (ha pins s σ H _ I h) fun c s1 ⟨H1,I1,q1⟩=>?_);cases c with
  | true=>exact ⟨H1,I1,q1⟩
  | false=>exact hb wh pins s1 σ H1 Q I1 q1
theorem cO (ha:PT X a tA):PT X (.UnaryOp .Not a pos) (yq tA):=by
  intro pins s σ H Q I h;exact isTrue_not (ha pins s σ H (fun c H1=>Q (!c) H1) I h)
def xG (ta tb:TE):TE:=fun σ H Q=>ta σ H fun x H1=>∃ c,x=.bl c∧if c=true then tb σ H1 Q else Q (.bl false) H1
def yp (ta tb:TE):TE:=fun σ H Q=>ta σ H fun x H1=>∃ c,x=.bl c∧if c=true then Q (.bl true) H1 else tb σ H1 Q
def xC (ta:TE):TE:=fun σ H Q=>ta σ H fun x H1=>∃ c,x=.bl c∧Q (.bl (!c)) H1
theorem io {op} {t:TE} (h:PE X a t):PE X (.BoolOp op [a] pos) t:=fun pins s σ H Q I hw=>BoolOp_one (h pins s σ H Q I hw)
theorem jG (ha:PE X a ta) (hb:PE X (.BoolOp .And (b :: rest) pos) tb):PE X (.BoolOp .And (a :: b :: rest) pos) (xG ta tb):=by
  intro pins s σ H Q I h;refine BoolOp_and (thn (ha pins s σ H _ I h) fun v s1 ⟨x,H1,I1,r1,q1⟩=>?_);obtain ⟨c,rfl,q1⟩:=q1;cases r1;refine wpAny_truthy_bool ?_;cases c with
  | true=>exact hb pins s1 σ H1 Q I1 q1
  | false=>exact ⟨.bl false,H1,I1,rfl,q1⟩
theorem vH (ha:PE X a ta) (hb:PE X (.BoolOp .Or (b :: rest) pos) tb):PE X (.BoolOp .Or (a :: b :: rest) pos) (yp ta tb):=by
  intro pins s σ H Q I h;refine BoolOp_or (thn (ha pins s σ H _ I h) fun v s1 ⟨x,H1,I1,r1,q1⟩=>?_);obtain ⟨c,rfl,q1⟩:=q1;cases r1;refine wpAny_truthy_bool ?_;cases c with
  | false=>exact hb pins s1 σ H1 Q I1 q1
  | true=>exact ⟨.bl true,H1,I1,rfl,q1⟩
theorem o2 (ha:PE X a ta):PE X (.UnaryOp .Not a pos) (xC ta):=by
  intro pins s σ H Q I h;refine UnaryOp_ (thn (ha pins s σ H _ I h) fun v s1 ⟨x,H1,I1,r1,q1⟩=>?_);obtain ⟨c,rfl,q1⟩:=q1;cases r1;exact not_of (wpAny_truthy_bool ⟨.bl (!c),H1,I1,rfl,q1⟩)
def tIf (t:TT) (ta tb:TE):TE:=fun σ H Q=>t σ H fun c H1=>if c=true then ta σ H1 Q else tb σ H1 Q
theorem bO {c:Expr} (hc:PT X c tA) (ha:PE X a ta) (hb:PE X b tb):PE X (.IfExp c a b pos) (tIf tA ta tb):=by
  intro pins s σ H Q I h;refine wpAny_IfExp (thn (hc pins s σ H _ I h) fun d s1 ⟨H1,I1,q1⟩=>?_);cases d with
  | true=>exact ha pins s1 σ H1 Q I1 q1
  | false=>exact hb pins s1 σ H1 Q I1 q1
end
open PySem PySem.Spec PyProof.Rows
def SqL (K:aaa) (H:Hp) (a:Addr) (xs:List V):Prop :=
  Rd H a (.lst xs) ∨
    ∃ (o:Obj) (its:Array Value) (n:Nat),K.lookup a=some o∧o.cls=.type "list"∧o.dict=none∧o.data=.seq its n∧its.size≤sizeLine∧Vals xs its.toList
def SqT (K:aaa) (H:Hp) (a:Addr) (xs:List V):Prop :=
  Rd H a (.tup xs) ∨
    ∃ (o:Obj) (its:Array Value) (n:Nat),K.lookup a=some o∧o.cls=.type "tuple"∧o.data=.seq its n∧its.size≤sizeLine∧Vals xs its.toList
def yJ:Value→Option V
  | .none=>some .non
  | .bool b=>some (.bl b)
  | .int i _=>some (.int i)
  | .str x _=>some (.str x)
  | .bytes b _=>some (.byt b)
  | .float b _=>some (.flt b)
  | .ref a=>some (.ref a)
  | .type n=>some (.ty n)
  | _=>none
theorem RelV.abs {x:V} {u:Value} (r:RelV x u):yJ u=some x:=by
  cases x with
  | non=>cases r;rfl
  | bl _=>cases r;rfl
  | int _=>obtain ⟨t,rfl⟩:=r;rfl
  | str _=>obtain ⟨t,rfl⟩:=r;rfl
  | byt _=>obtain ⟨t,rfl⟩:=r;rfl
  | flt _=>obtain ⟨t,rfl⟩:=r;rfl
  | ref _=>cases r;rfl
  | ty _=>cases r;rfl
theorem RelV.inj {x y:V} {u:Value} (r:RelV x u) (q:RelV y u):x=y:=abd (r.abs.symm.trans q.abs)
theorem Vals.inj {xs ys:List V} {us:List Value} (h:Vals xs us) (h':Vals ys us):xs=ys:=by
  induction h generalizing ys with
  | nil=>cases h';rfl
  | cons r t ih =>
    cases h' with
    | cons r' t'=>rw [r.inj r',ih t']
section
variable {X:Cx} {pins:List (Addr × Obj)} {σ:St} {H:Hp} {s:Shared} {a:Addr} {xs ys:List V}
theorem SqL.of {K:aaa} (h:H a=some (.lst xs)):SqL K H a xs:=.inl (.inl h)
theorem SqT.of {K:aaa} (h:H a=some (.tup xs)):SqT K H a xs:=.inl (.inl h)
theorem Inv.list (I:Inv X pins σ H s) (h:SqL X.K H a xs):∃ its:List Value,Vals xs its∧PlainL s.heap a its.toArray∧xs.length≤sizeLine:=by
  rcases h with h|⟨o,its,n,hk,hc,hd,hs,hz,r⟩
  · obtain ⟨z,its,n,r,e⟩:=h.ok I.hok;exact ⟨its,r,⟨_,n,e,rfl,rfl,rfl⟩,z⟩
  · refine ⟨its.toList,r,⟨o,n,I.kIn a o hk,hc,hd,by simpa using hs⟩,?_⟩;have e:=r.length;simp only [Array.length_toList] at e;lia
theorem Inv.tuple (I:Inv X pins σ H s) (h:SqT X.K H a xs):∃ its:List Value,Vals xs its∧IsTup s.heap a its.toArray∧xs.length≤sizeLine:=by
  rcases h with h|⟨o,its,n,hk,hc,hs,hz,r⟩
  · obtain ⟨z,its,r,p⟩:=h.ok I.hok;exact ⟨its,r,p,z⟩
  · refine ⟨its.toList,r,⟨o,I.kIn a o hk,hc,n,by simpa using hs⟩,?_⟩;have e:=r.length;simp only [Array.length_toList] at e;lia
theorem Inv.list_inj (I:Inv X pins σ H s) (h:SqL X.K H a xs) (h':SqL X.K H a ys):xs=ys:=by
  obtain ⟨its,r,⟨o,n,e,_,_,d⟩,_⟩:=I.list h;obtain ⟨its',r',⟨o',n',e',_,_,d'⟩,_⟩:=I.list h';rw [e] at e';cases e';rw [d] at d';injection d' with d1 _
  have : its=its':=by simpa using congrArg Array.toList d1
  subst this;exact r.inj r'
theorem Inv.tuple_inj (I:Inv X pins σ H s) (h:SqT X.K H a xs) (h':SqT X.K H a ys):xs=ys:=by
  obtain ⟨its,r,⟨o,e,_,n,d⟩,_⟩:=I.tuple h;obtain ⟨its',r',⟨o',e',_,n',d'⟩,_⟩:=I.tuple h';rw [e] at e';cases e';rw [d] at d';injection d' with d1 _
  have : its=its':=by simpa using congrArg Array.toList d1
  subst this;exact r.inj r'
end
abbrev Cx.wish (X:Cx) (E:Value→Shared→Prop):Cx:={ X with xe:=E }
abbrev Cx.nox (X:Cx):Cx:=X.wish fun _ _=>False
theorem Cx.Ok.wish {X:Cx} (ok:X.Ok) (E:Value→Shared→Prop):(X.wish E).Ok :=
  ⟨ok.mod,ok.kind,ok.glob,ok.blt,ok.above,ok.inj,ok.has,ok.cab,ok.hd,ok.frames,ok.stk,ok.exf,ok.bs,ok.bsz,ok.noex,ok.exfs,ok.funs,ok.frf⟩
theorem Cx.Ok.unwish {X:Cx} {E:Value→Shared→Prop} (ok:(X.wish E).Ok):X.Ok :=
  ⟨ok.mod,ok.kind,ok.glob,ok.blt,ok.above,ok.inj,ok.has,ok.cab,ok.hd,ok.frames,ok.stk,ok.exf,ok.bs,ok.bsz,ok.noex,ok.exfs,ok.funs,ok.frf⟩
section
variable {X:Cx} {pins:List (Addr × Obj)} {σ:St} {H:Hp} {s:Shared} {E:Value→Shared→Prop}
theorem Inv.wish (I:Inv X pins σ H s) (E:Value→Shared→Prop):Inv (X.wish E) pins σ H s:=⟨I.ok.wish E,I.os,I.bare,I.base,I.loc,I.cell,I.free,I.freeC,I.pin,I.hok,I.len⟩
theorem Inv.unwish (I:Inv (X.wish E) pins σ H s):Inv X pins σ H s:=⟨I.ok.unwish,I.os,I.bare,I.base,I.loc,I.cell,I.free,I.freeC,I.pin,I.hok,I.len⟩
theorem SP.unwish {D:Ends} {f:Flow} {s':Shared} (h:SP (X.wish E) pins D f s'):SP X pins D f s':=by
  cases f with
  | next=>obtain ⟨σ',H',I,q⟩:=h;exact ⟨σ',H',I.unwish,q⟩
  | brk=>obtain ⟨σ',H',I,q⟩:=h;exact ⟨σ',H',I.unwish,q⟩
  | cont=>obtain ⟨σ',H',I,q⟩:=h;exact ⟨σ',H',I.unwish,q⟩
  | ret u=>obtain ⟨v,σ',H',I,r,q⟩:=h;exact ⟨v,σ',H',I.unwish,r,q⟩
theorem PSs.nox {st:List Stmt} {t:TS} (h:PSs X.nox st t):PSs X st t:=fun pins s σ H D I hw =>
  wpAny_mono (h pins s σ H D (I.wish _) hw) (fun _ _ q=>q.unwish) fun _ _ z=>abq z
end
section
variable {X:Cx} {st:Stmt} {rest:List Stmt} {t u:TS} {e:Expr} {te:TE} {pos:Pos}
def xD:TS:=fun D σ H=>D.nx σ H
def uG (t u:TS):TS:=fun D σ H=>t { D with nx:=u D } σ H
theorem aB:PSs X [] xD:=fun _ _ σ H _ I h=>wpAny_execs_nil ⟨σ,H,I,h⟩
theorem ad (h1:PS X st t) (h2:PSs X rest u):PSs X (st :: rest) (uG t u):=by
  intro pins s σ H D I h;refine wpAny_execs_cons (thn (h1 pins s σ H { D with nx:=u D } I h) fun f s1 q=>?_);cases f with
  | next =>
    obtain ⟨σ',H',I',q⟩:=q;exact h2 pins s1 σ' H' D I' q
  | ret v=>exact q
  | brk=>exact q
  | cont=>exact q
theorem ag (h1:PS X st t):PSs X [st] t:=by
  intro pins s σ H D I h;refine wpAny_execs_cons (thn (h1 pins s σ H D I h) fun f s1 q=>?_);cases f with
  | next=>exact wpAny_execs_nil q
  | ret v=>exact q
  | brk=>exact q
  | cont=>exact q
theorem Inv.quiet {pins:List (Addr × Obj)} {σ:St} {H:Hp} {s:Shared} (I:Inv X pins σ H s):interactive X.env=false:=by simp [interactive,I.ok.kind]
def xF (te:TE):TS:=fun D σ H=>te σ H fun _ H1=>D.nx σ H1
theorem cJ (he:PE X e te) (hs:swapsWith e none pos.line X.env=pure false:=by rfl):PS X (.Expr e pos) (xF te):=by
  intro pins s σ H D I h;exact wpAny_Expr_any (thn (he pins s σ H _ I h) fun v s1 ⟨x,H1,I1,r1,q1⟩=>⟨σ,H1,I1,q1⟩) I.quiet hs
def xA (te:TE):TS:=fun D σ H=>te σ H D.rt
theorem ar (he:PE X e te):PS X (.Return (some e) pos) (xA te):=by
  intro pins s σ H D I h;exact wpAny_Return_some (thn (he pins s σ H _ I h) fun v s1 ⟨x,H1,I1,r1,q1⟩=>⟨x,σ,H1,I1,r1,q1⟩)
def xE (c:TT) (t u:TS):TS:=fun D σ H=>c σ H fun b H1=>if b=true then t D σ H1 else u D σ H1
theorem aV {c:Expr} {a b:List Stmt} {tc:TT} (hc:PT X c tc) (ha:PSs X a t) (hb:PSs X b u):PS X (.If c a b pos) (xE tc t u):=by
  intro pins s σ H D I h;refine wpAny_If (thn (hc pins s σ H _ I h) fun d s1 ⟨H1,I1,q1⟩=>?_);cases d with
  | true=>exact ha pins s1 σ H1 D I1 q1
  | false=>exact hb pins s1 σ H1 D I1 q1
end
abbrev TG:=V→St→Hp→(St→Hp→Prop)→Prop
abbrev TGs:=List V→St→Hp→(St→Hp→Prop)→Prop
def PG (X:Cx) (target:Expr) (t:TG):Prop :=
  ∀ (pins:List (Addr × Obj)) (s:Shared) (σ:St) (H:Hp) (v:V) (u:Value) (Q:St→Hp→Prop),Inv X pins σ H s→RelV v u→t v σ H Q →
    wpAny (model X.prog X.w) X.A (assign target X.env u) (fun _ s'=>∃ σ' H',Inv X pins σ' H' s'∧Q σ' H') X.xe s
def PGs (X:Cx) (ts:List Expr) (t:TGs):Prop :=
  ∀ (pins:List (Addr × Obj)) (s:Shared) (σ:St) (H:Hp) (vs:List V) (us:List Value) (Q:St→Hp→Prop),Inv X pins σ H s→Vals vs us→t vs σ H Q →
    wpAny (model X.prog X.w) X.A (assignInOrder ((assignEach ts X.env).map (·.2)) us) (fun _ s'=>∃ σ' H',Inv X pins σ' H' s'∧Q σ' H') X.xe s
abbrev xn:=V→V→V→Hp→(Hp→Prop)→Prop
def yl (X:Cx) (t:xn):Prop :=
  ∀ (pins:List (Addr × Obj)) (s:Shared) (σ:St) (H:Hp) (o i v:V) (ov iv u:Value) (Q:Hp→Prop),Inv X pins σ H s→RelV o ov→RelV i iv→RelV v u→t o i v H Q →
    wpAny (model X.prog X.w) X.A (setItem ov iv u) (fun _ s'=>∃ H',Inv X pins σ H' s'∧Q H') X.xe s
abbrev TIp:=V→V→Hp→VK→Prop
def PIp (X:Cx) (op:Operator) (t:TIp):Prop :=
  ∀ (pins:List (Addr × Obj)) (s:Shared) (σ:St) (H:Hp) (x y:V) (v u:Value) (Q:VK),Inv X pins σ H s→RelV x v→RelV y u→t x y H Q →
    wpAny (model X.prog X.w) X.A (inplaceOp op v u) (EP X pins σ Q) X.xe s
section
variable {X:Cx} {pos:Pos}
def nY (i:Nat):TG:=fun v σ H Q=>Q (σ.set i (some v)) H
theorem aG {i:Nat} {x:Str} (hN:X.N.Nodup) (hi:X.N[i]?=some x) (hx:Loc X.env.scope x) (hf:X.fn x=true∨X.env.scope.names.lookup x=some .local:=by first|exact .inl rfl|exact .inr rfl|assumption):PG X (.Name x pos) (nY i):=by
  intro pins s σ H v u Q I r h;exact wpAny_assign_Name (dM I hN hi hx r (fun s' I'=>⟨_,H,I',h⟩) hf)
def yG:TGs:=fun vs σ H Q=>vs=[]∧Q σ H
def yd (t:TG) (u:TGs):TGs:=fun vs σ H Q=>∃ v r,vs=v :: r∧t v σ H fun σ' H'=>u r σ' H' Q
theorem fc:PGs X [] yG:=by
  intro pins s σ H vs us Q I r h;obtain ⟨e,h⟩:=h;subst e;cases r;exact assignInOrder_nil ⟨σ,H,I,h⟩
theorem bC {e:Expr} {es:List Expr} {t:TG} {u:TGs} (h1:PG X e t) (h2:PGs X es u)
    (hs:(assignEach (e :: es) X.env).map (·.2)=assign e X.env :: (assignEach es X.env).map (·.2):=by rfl):PGs X (e :: es) (yd t u):=by
  intro pins s σ H vs us Q I r h;obtain ⟨v,vr,e1,h⟩:=h;subst e1;cases r with
  | cons r rr =>
    rw [hs];refine assignInOrder_cons (thn (h1 pins s σ H _ _ _ I r h) fun _ s1 ⟨σ1,H1,I1,q1⟩=>?_);exact h2 pins s1 σ1 H1 _ _ Q I1 rr q1
def yc (K:aaa) (n:Nat) (t:TGs):TG:=fun v σ H Q=>∃ a xs,v=.ref a∧SqT K H a xs∧xs.length=n∧t xs σ H Q
theorem jF {es:List Expr} {k:Nat} {t:TGs} {n:Nat} (hc:X.calm=true) (h:PGs X es t)
    (hn:(assignEach es X.env).length=n:=by rfl) (hst:(assignEach es X.env).findIdx? (·.1)=none:=by rfl):PG X (.Tuple es k pos) (yc X.K n t):=by
  intro pins s σ H v u Q I r hw;obtain ⟨a,xs,e1,hq,hl,hw⟩:=hw;subst e1;cases r;obtain ⟨its,rv,ht,hz⟩:=I.tuple hq;refine assign_Tuple_tuple (I.ok.hd hc) ht (by simp [hn,← hl,rv.length]) hst fun h' hx=>?_;have I1:Inv X pins σ H { s with heap:=h' }:=I.kept (t':=s.toks) fun b o e=>hx b o (aaD (aas e)) e;exact h pins _ σ H xs _ Q I1 (by simpa using rv) hw
def yF (to ti:TE) (t:xn):TG:=fun v σ H Q=>to σ H fun o H1=>ti σ H1 fun i H2=>t o i v H2 fun H3=>Q σ H3
theorem lZ {o i:Expr} {to ti:TE} {t:xn} (ho:PE X o to) (hi:PE X i ti) (hs:yl X t)
    (ha:∀ v,assign (.Subscript o i pos) X.env v=(do
      let ov ← holding [v] (eval o X.env)
      let iv ← holding [v,ov] (eval i X.env)
      standAt pos
      holding [v,ov,iv] (setItem ov iv v)
      release [v,ov,iv] []):=by intro _;rfl):PG X (.Subscript o i pos) (yF to ti t):=by
  intro pins s σ H v u Q I r h;rw [ha];refine wpAny_bind (wpAny_holding (thn (ho pins s σ H _ I h) fun ov s1 ⟨x,H1,I1,r1,q1⟩=>?_));refine wpAny_bind (wpAny_holding (thn (hi pins s1 σ H1 _ I1 q1) fun iv s2 ⟨y,H2,I2,r2,q2⟩=>?_));refine wpAny_bind (wpAny_standAt (wpAny_bind (wpAny_holding (thn (hs pins s2 σ H2 x y v ov iv u _ I2 r1 r2 r q2) fun _ s3 ⟨H3,I3,q3⟩=>?_))));exact wpAny_release ⟨σ,H3,I3,q3⟩
def si (te:TE) (g:TG):TS:=fun D σ H=>te σ H fun x H1=>g x σ H1 D.nx
theorem gJ {tg e:Expr} {te:TE} {g:TG} (he:PE X e te) (hg:PG X tg g) (hs:swapsWithSole [tg] e pos.line X.env=pure false:=by rfl) (hw:swappedStores [tg] e X.env=pure none:=by rfl)
    (h1:(assignEach [tg] X.env).map (·.2)=[assign tg X.env]:=by rfl):PS X (.Assign [tg] e pos) (si te g):=by
  intro pins s σ H D I h;refine wpAny_Assign_stores (thn (he pins s σ H _ I h) fun v s1 ⟨x,H1,I1,r1,q1⟩=>?_) hs hw;rw [h1];exact thn (hg pins s1 σ H1 x v _ I1 r1 q1) fun _ s2 q=>q
theorem ao {i:Nat} {x:Str} {e:Expr} {te:TE} {pos':Pos} (hN:X.N.Nodup) (hi:X.N[i]?=some x) (hx:Loc X.env.scope x) (he:PE X e te) (hs:swapsWith e (some (.Name x pos')) pos.line X.env=pure false:=by rfl) (hf:X.fn x=true∨X.env.scope.names.lookup x=some .local:=by first|exact .inl rfl|exact .inr rfl|assumption) :
    PS X (.Assign [.Name x pos'] e pos) (si te (nY i)):=by
  intro pins s σ H D I h;refine wpAny_Assign_Name (thn (he pins s σ H _ I h) fun v s1 ⟨y,H1,I1,r1,q1⟩=>?_) hs;exact dM I1 hN hi hx r1 (fun s2 I2=>⟨_,H1,I2,q1⟩) hf
def yw (i:Nat) (te:TE) (ti:TIp):TS:=fun D σ H=>∃ x,σ[i]?=some (some x)∧te σ H fun y H1=>ti x y H1 fun z H2=>D.nx (σ.set i (some z)) H2
theorem sK {i:Nat} {x:Str} {e:Expr} {te:TE} {op:Operator} {ti:TIp} {pos':Pos} (hN:X.N.Nodup) (hi:X.N[i]?=some x) (hx:Loc X.env.scope x) (he:PE X e te) (ho:PIp X op ti) (hf:X.fn x=true∨X.env.scope.names.lookup x=some .local:=by first|exact .inl rfl|exact .inr rfl|assumption) :
    PS X (.AugAssign (.Name x pos') op e pos) (yw i te ti):=by
  intro pins s σ H D I h;obtain ⟨v,e1,h⟩:=h;obtain ⟨m,hn,hl⟩:=I.loc;have vis:Vis X.env.scope x:=by rcases hx with k|k;exact .inl k;exact .inr (.inl k)
  obtain ⟨u,r,l⟩:=hl i x v hi e1 vis;refine wpAny_AugAssign_Name ?_;have go:wpAny (model X.prog X.w) X.A (eval e X.env) (fun w s₂=>wpAny (model X.prog X.w) X.A (inplaceOp op u w) (fun r s₃=>wpAny (model X.prog X.w) X.A (storeName X.env x r) (fun _=>SP X pins D .next) X.xe s₃) X.xe s₂) X.xe s:=by
    refine thn (he pins s σ H _ I h) fun w s1 ⟨y,H1,I1,r1,q1⟩=>?_;refine thn (ho pins s1 σ H1 v y u w _ I1 r r1 q1) fun z s2 ⟨zv,H2,I2,r2,q2⟩=>?_;exact dM I2 hN hi hx r2 (fun s3 I3=>⟨_,H2,I3,q2⟩) hf
  rcases l with ⟨hk,hm⟩|⟨hk,c,hc,hcell⟩
  · exact wpAny_loadName_local I.ok.kind hk hn hm go
  · rcases hk with hk|hk
    · exact wpAny_loadName_cell I.ok.kind hk hc hcell go
    · rcases hx with k|k
      · have : X.env.scope.names.lookup x=some .free:=hk;rw [k] at this;cases this
      · have : X.env.scope.names.lookup x=some .free:=hk;rw [k] at this;cases this
def ipI (f:Int→Int→Int):TIp:=fun x y H Q=>∃ i j,x=.int i∧y=.int j∧Q (.int (f i j)) H
theorem wX:PIp X .Add (ipI fun i j=>i+j):=by
  intro pins s σ H x y v u Q I r1 r2 h;obtain ⟨i,j,e1,e2,q⟩:=h;subst e1;subst e2;obtain ⟨t,rfl⟩:=r1;obtain ⟨t',rfl⟩:=r2;exact iadd_int ⟨.int _,H,I.tok _,⟨_,rfl⟩,q⟩
theorem wW:PIp X .Sub (ipI fun i j=>i - j):=by
  intro pins s σ H x y v u Q I r1 r2 h;obtain ⟨i,j,e1,e2,q⟩:=h;subst e1;subst e2;obtain ⟨t,rfl⟩:=r1;obtain ⟨t',rfl⟩:=r2;exact isub_int ⟨.int _,H,I.tok _,⟨_,rfl⟩,q⟩
end
section
variable {X:Cx} {pos:Pos}
def vV (c:TT) (tb:TS):TS:=fun D σ H=>∃ W:Nat→St→Hp→Prop,(∃ m,W m σ H)∧∀ m σ H,W m σ H →
  c σ H fun b H1=>if b=true then ∃ N:St→Hp→Prop,(∀ σ' H',N σ' H'→∃ m',m' < m∧W m' σ' H')∧tb { D with nx:=N,ct:=N,bk:=D.nx } σ H1 else D.nx σ H1
theorem jC {c:Expr} {body:List Stmt} {tc:TT} {tb:TS} (hp:PassesOwn (model X.prog X.w) X.A X.env X.xe) (hc:PT X c tc) (hb:PSs X body tb):PS X (.While c body [] pos) (vV tc tb):=by
  intro pins s σ H D I h;obtain ⟨W,⟨m0,w0⟩,turn⟩:=h;refine wpAny_While (codeAny_whileLoop (fun n s'=>∃ σ' H',Inv X pins σ' H' s'∧W n σ' H') ?_ m0 ⟨σ,H,I,w0⟩);rintro n s1 ⟨σ1,H1,I1,w1⟩;refine wpAny_passesOwn hp (thn (hc pins s1 σ1 H1 _ I1 (turn n σ1 H1 w1)) fun b s2 ⟨H2,I2,q2⟩=>?_);cases b with
  | true =>
    obtain ⟨N,hN,q2⟩:=q2;rw [if_pos rfl];refine wpAny_passesOwn hp (thn (hb pins s2 σ1 H2 _ I2 q2) fun f s3 q3=>?_);cases f with
    | next =>
      obtain ⟨σ3,H3,I3,n3⟩:=q3;obtain ⟨m',hm,w3⟩:=hN σ3 H3 n3;exact ⟨m',hm,σ3,H3,I3,w3⟩
    | cont =>
      obtain ⟨σ3,H3,I3,n3⟩:=q3;obtain ⟨m',hm,w3⟩:=hN σ3 H3 n3;exact ⟨m',hm,σ3,H3,I3,w3⟩
    | brk=>exact q3
    | ret v=>exact q3
  | false =>
    rw [if_neg aap];exact wpAny_execs_nil ⟨σ1,H2,I2,q2⟩
end
structure It where
  go:Nat→Hp→Prop
  yld:Nat→Hp→V→Hp→Prop
  stop:Nat→Hp→Prop
def eI (X:Cx) (pins:List (Addr × Obj)) (H:Hp) (b:Addr):Prop :=
  H b=none∧b≠X.env.locals∧b∉X.fs∧(b∈X.ex∨X.s₀.heap.objs.size≤b)∧(∀ x c,X.env.cells.lookup x=some c→c≠b)∧∀ p∈X.pn++pins,p.1≠b
theorem Inv.fpOk {X:Cx} {pins:List (Addr × Obj)} {σ:St} {H H':Hp} {s:Shared} {b:Addr} (I:Inv X pins σ H s) (hb:s.heap.objs.size≤b) (hn:H' b=none):eI X pins H' b:=by
  refine ⟨hn,abv (aaq I.lt hb),I.nofs hb,.inr (aa9 I.sz hb),fun x c e z=>?_,fun p hp z=>?_⟩
  · obtain ⟨v,q⟩:=I.cell x c e;exact absurd (aaq q.lt (by rw [z];exact hb)) (abu _)
  · exact absurd (aaq (aas (I.pin p hp).1) (by rw [z];exact hb)) (abu _)
structure Turn (P:Program) (w:World) (K:aaa) (tg:Expr) (J:It) (fp:List Addr) (it:Addr) (tn:Nat→Heap→Prop):Prop where
  mem:it∈fp
  obj:∀ i h,tn i h→∀ b∈fp,∃ o,h.get? b=some o∧∀ v,o.data≠.cell v
  keep:∀ i h h',tn i h→(∀ b∈fp,∀ o,h.get? b=some o→h'.get? b=some o)→tn i h'
  item:∀ (X:Cx),X.prog=P→X.w=w→X.K=K→X.calm=true→∀ (i:Nat) (pins:List (Addr × Obj)) (s:Shared) (σ:St) (H:Hp) (E:Value→Shared→Prop),Inv X pins σ H s→(∀ b∈fp,eI X pins H b)→tn i s.heap→J.go i H →
    wpAny (model P w) X.A (pyNext (.ref it)) (fun r s1=>∃ u,r=some u ∧
      wpAny (model P w) X.A (letOwnedTupleGo tg (.ref it) u) (fun _ s2=>∃ x H',Inv X pins σ H' s2∧RelV x u∧J.yld i H x H'∧tn (i+1) s2.heap∧∀ b∈fp,H' b=none) E s1) E s
  done:∀ (X:Cx),X.prog=P→X.w=w→X.K=K→X.calm=true→∀ (i:Nat) (pins:List (Addr × Obj)) (s:Shared) (σ:St) (H:Hp) (E:Value→Shared→Prop),Inv X pins σ H s→(∀ b∈fp,eI X pins H b)→tn i s.heap→J.stop i H →
    wpAny (model P w) X.A (pyNext (.ref it)) (fun r s1=>r=none∧Inv X pins σ H s1) E s
  self:∀ (A:Around) (i:Nat) (s:Shared) (Q:Value→Shared→Prop) (E:Value→Shared→Prop),tn i s.heap→Q (.ref it) s→wpAny (model P w) A (pyIter (.ref it)) Q E s
abbrev TI:=St→Hp→(It→Hp→Prop)→Prop
def PIE (X:Cx) (pins:List (Addr × Obj)) (σ:St) (tg:Expr) (R:It→Hp→Prop) (itv:Value) (s2:Shared):Prop :=
  ∃ (it:Addr) (fp:List Addr) (tn:Nat→Heap→Prop) (J:It) (H':Hp),itv=.ref it∧Inv X pins σ H' s2∧Turn X.prog X.w X.K tg J fp it tn∧tn 0 s2.heap∧(∀ b∈fp,eI X pins H' b)∧R J H'
def PI (X:Cx) (tg iter:Expr) (wi:TI):Prop :=
  ∀ (pins:List (Addr × Obj)) (s:Shared) (σ:St) (H:Hp) (R:It→Hp→Prop),Inv X pins σ H s→wi σ H R →
    wpAny (model X.prog X.w) X.A (eval iter X.env) (fun v s1=>wpAny (model X.prog X.w) X.A (pyIter v) (PIE X pins σ tg R) X.xe s1) X.xe s
theorem nW {M:Model} {A:Around} {E:Value→Shared→Prop} {s:Shared} {tg:Expr} {it:Addr} {u:Value} {o:Obj} {n:String} {vs:Array Value} {Q:Unit→Shared→Prop} (ho:s.heap.get? it=some o) (hc:o.cls=.type n) (hd:o.data=.fields vs)
    (hn:["enumerate","zip","dict_itemiterator","dict_reverseitemiterator","odict_iterator","itertools.zip_longest","itertools.pairwise"].contains n=false) (hQ:Q () s):wpAny M A (letOwnedTupleGo tg (.ref it) u) Q E s:=by
  unfold letOwnedTupleGo;cases tg <;> first
    | exact wpAny_pure hQ
    | (cases u <;> first
        | exact wpAny_pure hQ
        | (refine wpAny_bind (wpAny_load ho ?_)
           rw [hc,hd];show wpAny M A (if (["enumerate","zip","dict_itemiterator","dict_reverseitemiterator","odict_iterator","itertools.zip_longest","itertools.pairwise"].contains n && vs[0]? == some (rawInt _))=true then _ else _) Q E s;rw [if_neg (by intro h;rw [hn,Bool.false_and] at h;cases h)];exact wpAny_pure hQ))
def Itl (K:aaa) (a:Addr):It :=
  ⟨fun i H=>∃ xs x,SqL K H a xs∧xs[i]?=some x,fun i H x H'=>H'=H∧∀ xs,SqL K H a xs→xs[i]?=some x,fun i H=>∃ xs,SqL K H a xs∧xs.length≤i⟩
def Itt (K:aaa) (a:Addr):It :=
  ⟨fun i H=>∃ xs x,SqT K H a xs∧xs[i]?=some x,fun i H x H'=>H'=H∧∀ xs,SqT K H a xs→xs[i]?=some x,fun i H=>∃ xs,SqT K H a xs∧xs.length≤i⟩
def Itr (lo:Int) (n:Nat):It:=⟨fun i _=>i < n,fun i H x H'=>H'=H∧x=.int (lo+i),fun i _=>n≤i⟩
theorem qT {P:Program} {w:World} {K:aaa} {tg:Expr} (a it:Addr):Turn P w K tg (Itl K a) [it] it (fun i h=>h.IsListIter it a i) where
  mem:=by simp
  obj:=fun i h st b hb=>by
    have e:b=it:=by simpa using hb
    subst e;obtain ⟨o,e,c,d⟩:=st;exact ⟨o,e,fun v z=>by rw [d] at z;cases z⟩
  keep:=fun i h h' st k=>st.at fun o e=>k it (by simp) o e
  item:=by
    intro X hP hw hK hc i pins s σ H E I hf st hg;subst hP hw hK;obtain ⟨xs,x,hq,hx⟩:=hg;obtain ⟨its,rv,p,hz⟩:=I.list hq;obtain ⟨u,hu,ru⟩:=rv.get hx;obtain ⟨f0,f1,f2,f3,f4,f5⟩:=hf it (by simp);refine wpAny_pyNext_list_item st p.isList (x:=u) (by simpa using hu) fun h' st' sb=>?_;have I1:Inv X pins σ H { s with heap:=h' }:=I.turned (t':=s.toks) (fun b o hb e=>(sb.2 b hb).trans e) f0 f1 f3 f4 f5;obtain ⟨o,e,c,d⟩:=id st';exact ⟨u,rfl,nW (s:={ s with heap:=h' }) e c d (by decide) ⟨x,H,I1,ru,⟨rfl,fun ys hy=>by rw [I.list_inj hy hq];exact hx⟩,st',fun b hb=>(hf b hb).1⟩⟩
  done:=by
    intro X hP hw hK hc i pins s σ H E I hf st hg;subst hP hw hK;obtain ⟨xs,hq,hx⟩:=hg;obtain ⟨its,rv,p,hz⟩:=I.list hq;obtain ⟨f0,f1,f2,f3,f4,f5⟩:=hf it (by simp);have hl:=rv.length;exact wpAny_pyNext_list_end (I.ok.hd hc) st p.isList (by simp;lia) fun h' eb=>⟨rfl,I.turned (t':=s.toks) (fun b o hb e=>eb b o hb e) f0 f1 f3 f4 f5⟩
  self:=fun _ _ _ _ _ st h=>wpAny_pyIter_listiter st h
theorem oH {P:Program} {w:World} {K:aaa} {tg:Expr} (a it:Addr):Turn P w K tg (Itt K a) [it] it (fun i h=>h.IsTupleIter it a i) where
  mem:=by simp
  obj:=fun i h st b hb=>by
    have e:b=it:=by simpa using hb
    subst e;obtain ⟨o,e,c,d⟩:=st;exact ⟨o,e,fun v z=>by rw [d] at z;cases z⟩
  keep:=fun i h h' st k=>st.at fun o e=>k it (by simp) o e
  item:=by
    intro X hP hw hK hc i pins s σ H E I hf st hg;subst hP hw hK;obtain ⟨xs,x,hq,hx⟩:=hg;obtain ⟨its,rv,p,hz⟩:=I.tuple hq;obtain ⟨u,hu,ru⟩:=rv.get hx;obtain ⟨f0,f1,f2,f3,f4,f5⟩:=hf it (by simp);refine wpAny_pyNext_tuple_item st (show s.heap.IsTuple a its.toArray from p) (x:=u) (by simpa using hu) fun h' st' sb=>?_;have I1:Inv X pins σ H { s with heap:=h' }:=I.turned (t':=s.toks) (fun b o hb e=>(sb.2 b hb).trans e) f0 f1 f3 f4 f5;obtain ⟨o,e,c,d⟩:=id st';exact ⟨u,rfl,nW (s:={ s with heap:=h' }) e c d (by decide) ⟨x,H,I1,ru,⟨rfl,fun ys hy=>by rw [I.tuple_inj hy hq];exact hx⟩,st',fun b hb=>(hf b hb).1⟩⟩
  done:=by
    intro X hP hw hK hc i pins s σ H E I hf st hg;subst hP hw hK;obtain ⟨xs,hq,hx⟩:=hg;obtain ⟨its,rv,p,hz⟩:=I.tuple hq;obtain ⟨f0,f1,f2,f3,f4,f5⟩:=hf it (by simp);have hl:=rv.length;exact wpAny_pyNext_tuple_end (I.ok.hd hc) st (show s.heap.IsTuple a its.toArray from p) (by simp;lia) fun h' eb=>⟨rfl,I.turned (t':=s.toks) (fun b o hb e=>eb b o hb e) f0 f1 f3 f4 f5⟩
  self:=fun _ _ _ _ _ st h=>wpAny_pyIter_tupleiter st h
theorem oI {P:Program} {w:World} {K:aaa} {tg:Expr} (it:Addr) (lo:Int) (n:Nat):Turn P w K tg (Itr lo n) [it] it (fun i h=>IsRangeIter h it (lo+(i:Nat) * 1) ((n:Int) - (i:Nat)) 1) where
  mem:=by simp
  obj:=fun i h st b hb=>by
    have e:b=it:=by simpa using hb
    subst e;exact ⟨_,st,fun v z=>by
      have z':Data.fields _=Data.cell v:=z;cases z'⟩
  keep:=fun i h h' st k=>k it (by simp) _ st
  item:=by
    intro X hP hw hK hc i pins s σ H E I hf st hg;subst hP hw hK;obtain ⟨f0,f1,f2,f3,f4,f5⟩:=hf it (by simp);have W:=Walks.range (prog:=X.prog) (w:=X.w) (I.ok.hd hc) it lo 1 n;refine W.item i s _ _ hg st fun v h' tk hv st' kk=>?_;obtain ⟨t,rfl⟩:=hv;have I1:Inv X pins σ H { s with heap:=h',toks:=tk }:=I.turned (fun b o hb e=>kk b o (by simpa using hb) e) f0 f1 f3 f4 f5;refine ⟨_,rfl,nW (s:={ s with heap:=h',toks:=tk }) (n:="range_iterator") st' rfl rfl (by decide) ⟨.int (lo+i),H,I1,⟨t,?_⟩,⟨rfl,rfl⟩,st',fun b hb=>(hf b hb).1⟩⟩;rw [Int.mul_one]
  done:=by
    intro X hP hw hK hc i pins s σ H E I hf st hg;subst hP hw hK;obtain ⟨f0,f1,f2,f3,f4,f5⟩:=hf it (by simp);exact wpAny_pyNext_range_end (I.ok.hd hc) st (by have : n≤i:=hg;lia) fun h' eb=>⟨rfl,I.turned (t':=s.toks) (fun b o hb e=>eb b o hb e) f0 f1 f3 f4 f5⟩
  self:=fun _ _ _ _ _ st h=>wpAny_pyIter_rangeiter st h
open PySem PySem.Spec PyProof.Rows
section
variable {X:Cx} {tg:Expr}
def vL (K:aaa) (tl:TE):TI:=fun σ H R=>tl σ H fun x H1=>∃ a,x=.ref a∧(∃ xs,SqL K H1 a xs)∧R (Itl K a) H1
def yD (K:aaa) (tl:TE):TI:=fun σ H R=>tl σ H fun x H1=>∃ a,x=.ref a∧(∃ xs,SqT K H1 a xs)∧R (Itt K a) H1
theorem cY {l:Expr} {tl:TE} (hl:PE X l tl):PI X tg l (vL X.K tl):=by
  intro pins s σ H R I h;refine thn (hl pins s σ H _ I h) fun v s1 ⟨x,H1,I1,r1,q1⟩=>?_;obtain ⟨a,e,⟨xs,hq⟩,q⟩:=q1;subst e;cases r1;obtain ⟨its,rv,p,hz⟩:=I1.list hq;refine wpAny_pyIter_list p.isList ?_;refine ⟨s1.heap.objs.size,[s1.heap.objs.size],_,_,H1,rfl,I1.kept (t':=s1.toks) fun b o e=>aak _ e,qT a _,⟨_,aaJ _ rfl,rfl,rfl⟩,fun b hb=>?_,q⟩;have e:b=s1.heap.objs.size:=by simpa using hb
  subst e;exact I1.fpOk (aab _) (I1.hok.fresh (aab _))
theorem o1 {l:Expr} {tl:TE} (hl:PE X l tl):PI X tg l (yD X.K tl):=by
  intro pins s σ H R I h;refine thn (hl pins s σ H _ I h) fun v s1 ⟨x,H1,I1,r1,q1⟩=>?_;obtain ⟨a,e,⟨xs,hq⟩,q⟩:=q1;subst e;cases r1;obtain ⟨its,rv,p,hz⟩:=I1.tuple hq;refine wpAny_pyIter_tuple (show s1.heap.IsTuple a its.toArray from p) ?_;refine ⟨s1.heap.objs.size,[s1.heap.objs.size],_,_,H1,rfl,I1.kept (t':=s1.toks) fun b o e=>aak _ e,oH a _,⟨_,aaJ _ rfl,rfl,rfl⟩,fun b hb=>?_,q⟩;have e:b=s1.heap.objs.size:=by simpa using hb
  subst e;exact I1.fpOk (aab _) (I1.hok.fresh (aab _))
theorem nj {pins:List (Addr × Obj)} {σ:St} {H:Hp} {s:Shared} {R:It→Hp→Prop} {E:Value→Shared→Prop} {lo hi:Int} {t u v:Tok} {tk:Nat} (I:Inv X pins σ H s) (h1:-(2 ^ 62)≤lo) (h2:lo < 2 ^ 62) (h3:-(2 ^ 62)≤hi) (h4:hi < 2 ^ 62)
    (q:R (Itr lo (hi - lo).toNat) H):wpAny (model X.prog X.w) X.A (pyIter (.ref s.heap.objs.size)) (PIE X pins σ tg R) E { s with heap:=s.heap.push { cls:=.type "range",data:=.fields #[.int lo t,.int hi u,.int 1 v] },toks:=tk }:=by
  refine wpAny_pyIter_range (IsRange.new ..) (small_one h1 h2 h3 h4) ?_;have I1:Inv X pins σ H { s with heap:=s.heap.push { cls:=.type "range",data:=.fields #[.int lo t,.int hi u,.int 1 v] },toks:=tk }:=I.kept fun b o e=>aak _ e;refine ⟨(s.heap.push { cls:=.type "range",data:=.fields #[.int lo t,.int hi u,.int 1 v] }).objs.size,[(s.heap.push { cls:=.type "range",data:=.fields #[.int lo t,.int hi u,.int 1 v] }).objs.size],_,_,H,rfl,
    I1.kept (t':=tk) fun b o e=>aak _ e,oI _ lo (hi - lo).toNat,?_,fun b hb=>?_,q⟩
  · have e1:lo+((0:Nat):Int) * 1=lo:=by simp
    have e2:(((hi - lo).toNat:Nat):Int) - ((0:Nat):Int)=aaR lo hi 1:=by rw [rangeSize_one];split <;> lia
    show IsRangeIter _ _ (lo+((0:Nat):Int) * 1) ((((hi - lo).toNat:Nat):Int) - ((0:Nat):Int)) 1;rw [e1,e2];exact aaJ _ rfl
  · have e:b=(s.heap.push { cls:=.type "range",data:=.fields #[.int lo t,.int hi u,.int 1 v] }).objs.size:=by simpa using hb
    subst e;exact I1.fpOk (aab _) (I1.hok.fresh (aab _))
def x_ (ta:TA):TI:=fun σ H R=>ta σ H fun vs H1=>∃ j:Int,vs=[.int j]∧-(2 ^ 62)≤j∧j < 2 ^ 62∧R (Itr 0 j.toNat) H1
def x9 (ta:TA):TI:=fun σ H R=>ta σ H fun vs H1=>∃ i j:Int,vs=[.int i,.int j]∧(-(2 ^ 62)≤i∧i < 2 ^ 62∧-(2 ^ 62)≤j∧j < 2 ^ 62)∧R (Itr i (j - i).toNat) H1
theorem cz {a:Expr} {ta:TA} {p pos:Pos} (hg:Gl X "range") (hm:X.mg "range" = none) (ha:PA X [a] ta) (hs:starEach [a] X.env=[(false,eval a X.env)]:=by rfl):PI X tg (.Call (.Name "range" p) [a] [] pos) (x_ ta):=by
  intro pins s σ H R I h;refine Call_ (fh I hg hm boot_range (aa3 (thn (ha pos pins s σ H _ I h) fun us s1 ⟨vs,H1,I1,r1,q1⟩=>?_) hs rfl));obtain ⟨j,e,q1,q2,q⟩:=q1;subst e;cases r1 with
  | cons r rr =>
    cases rr;obtain ⟨t,rfl⟩:=r;exact call_range_1 (nj I1 (by lia) (by lia) q1 q2 (by simpa using q))
theorem rf {a b:Expr} {ta:TA} {p pos:Pos} (hg:Gl X "range") (hm:X.mg "range" = none) (ha:PA X [a,b] ta) (hs:starEach [a,b] X.env=[(false,eval a X.env),(false,eval b X.env)]:=by rfl) (hs2:starEach [b] X.env=[(false,eval b X.env)]:=by rfl) :
    PI X tg (.Call (.Name "range" p) [a,b] [] pos) (x9 ta):=by
  intro pins s σ H R I h;refine Call_ (fh I hg hm boot_range (aa3 (thn (ha pos pins s σ H _ I h) fun us s1 ⟨vs,H1,I1,r1,q1⟩=>?_) (by rw [hs,hs2]) (by rw [hs2];rfl)));obtain ⟨i,j,e,⟨q1,q2,q3,q4⟩,q⟩:=q1;subst e;cases r1 with
  | cons r rr =>
    cases rr with
    | cons r' rr =>
      cases rr;obtain ⟨t,rfl⟩:=r;obtain ⟨t',rfl⟩:=r';exact call_range_2 (nj I1 q1 q2 q3 q4 q)
def yu (wi:TI) (g:TG) (tb:TS):TS:=fun D σ H=>wi σ H fun J H1=>∃ W:Nat→Nat→St→Hp→Prop,(∃ m,W 0 m σ H1)∧∀ i m σ H,W i m σ H →
  (J.stop i H∧D.nx σ H)∨(J.go i H∧∃ N:St→Hp→Prop,(∀ σ' H',N σ' H'→∃ m',m' < m∧W (i+1) m' σ' H')∧∀ x H',J.yld i H x H'→g x σ H' fun σ2 H2=>tb { D with nx:=N,ct:=N,bk:=D.nx } σ2 H2)
def de (fp:List Addr) (h:Heap):List (Addr × Obj):=fp.filterMap fun b=>(h.get? b).map fun o=>(b,o)
theorem di {fp:List Addr} {h:Heap} {b:Addr} {o:Obj} (hb:b∈fp) (e:h.get? b=some o):(b,o)∈de fp h:=List.mem_filterMap.mpr ⟨b,hb,by rw [e];rfl⟩
theorem iB {fp:List Addr} {h:Heap} {p:Addr × Obj} (hp:p∈de fp h):p.1∈fp∧h.get? p.1=some p.2:=by
  obtain ⟨b,hb,e⟩:=List.mem_filterMap.mp hp;cases q:h.get? b with
  | none=>rw [q] at e;cases e
  | some o =>
    rw [q] at e;have e':(b,o)=p:=abd e;subst e';exact ⟨hb,q⟩
theorem Inv.pinned {pins:List (Addr × Obj)} {σ:St} {H:Hp} {s:Shared} {fp:List Addr} (I:Inv X pins σ H s) (hf:∀ b∈fp,eI X pins H b) (ho:∀ b∈fp,∃ o,s.heap.get? b=some o∧∀ v,o.data≠.cell v):Inv X (pins++de fp s.heap) σ H s :=
  I.pins_of fun p hp=>(aau.mp hp).elim (fun z=>I.pin p (aag _ z)) fun z=>by
    obtain ⟨hb,e⟩:=iB z;obtain ⟨f0,f1,f2,_⟩:=hf p.1 hb;obtain ⟨o,e',d⟩:=ho p.1 hb;rw [e] at e';cases e';exact ⟨e,f0,f1,f2,d⟩
theorem Inv.unpinned {pins pl:List (Addr × Obj)} {σ:St} {H:Hp} {s:Shared} (I:Inv X (pins++pl) σ H s):Inv X pins σ H s:=I.pins_of fun p hp=>I.pin p (aag _ (aaV _ hp))
theorem cX {iter:Expr} {body:List Stmt} {wi:TI} {g:TG} {tb:TS} {pos:Pos} (hp:PassesOwn (model X.prog X.w) X.A X.env X.xe) (hc:X.calm=true) (hi:PI X tg iter wi) (hg:PG X tg g) (hb:PSs X body tb)
    (hs:∀ x,foldedSetIterable iter X.env x=pure x:=by intro _;rfl):PS X (.For tg iter body [] pos) (yu wi g tb):=by
  intro pins s σ H D I h;refine wpAny_For (thn (hi pins s σ H _ I h) fun v s1 h1=>thn h1 fun itv s2 h2=>?_) hs;obtain ⟨it,fp,tn,J,H2,e,I2,T,st2,f2,W,⟨m0,w0⟩,turn⟩:=h2;subst e;have stat:∀ {H':Hp},(∀ b∈fp,H' b=none)→∀ b∈fp,eI X pins H' b:=fun hn b hb=>⟨hn b hb,(f2 b hb).2⟩
  refine codeAny_forLoop_any (fun n s'=>∃ i σ' H',Inv X pins σ' H' s'∧tn i s'.heap∧(∀ b∈fp,H' b=none)∧W i n σ' H') ?_ m0 ⟨0,σ,H2,I2,st2,fun b hb=>(f2 b hb).1,w0⟩;rintro n s3 ⟨i,σ3,H3,I3,st3,fr3,w3⟩;rcases turn i n σ3 H3 w3 with ⟨stop,qn⟩|⟨go,N,hN,step⟩
  · refine wpAny_passesOwn hp (thn (T.done X rfl rfl rfl hc i pins s3 σ3 H3 X.xe I3 (stat fr3) st3 stop) fun r s4 ⟨hr,I4⟩=>?_);subst hr;exact wpAny_execs_nil ⟨σ3,H3,I4,qn⟩
  · refine wpAny_passesOwn hp (thn (T.item X rfl rfl rfl hc i pins s3 σ3 H3 X.xe I3 (stat fr3) st3 go) fun r s4 ⟨u,hr,h4⟩=>?_);subst hr;refine wpAny_passesOwn hp (thn h4 fun _ s5 ⟨x,H5,I5,r5,y5,st5,fr5⟩=>?_);have I5':=I5.pinned (stat fr5) (T.obj _ _ st5);refine wpAny_passesOwn hp (thn (hg _ s5 σ3 H5 x u _ I5' r5 (step x H5 y5)) fun _ s6 ⟨σ6,H6,I6,q6⟩=>?_);refine wpAny_passesOwn hp (thn (hb _ s6 σ6 H6 _ I6 q6) fun f s7 q7=>?_);have again:∀ {σ7:St} {H7:Hp},Inv X (pins++de fp s5.heap) σ7 H7 s7→N σ7 H7→∃ m,m < n∧∃ i σ' H',Inv X pins σ' H' s7∧tn i s7.heap∧(∀ b∈fp,H' b=none)∧W i m σ' H':=fun {σ7 H7} I7 n7=>by
      obtain ⟨m',hm,w7⟩:=hN σ7 H7 n7;refine ⟨m',hm,i+1,σ7,H7,I7.unpinned,T.keep _ _ _ st5 fun b hb o e=>(I7.pin (b,o) (aag _ (aag _ (di hb e)))).1,fun b hb=>?_,w7⟩;obtain ⟨o,e,d⟩:=T.obj _ _ st5 b hb;exact (I7.pin (b,o) (aag _ (aag _ (di hb e)))).2.1
    cases f with
    | next=>obtain ⟨σ7,H7,I7,n7⟩:=q7;exact again I7 n7
    | cont=>obtain ⟨σ7,H7,I7,n7⟩:=q7;exact again I7 n7
    | brk=>obtain ⟨σ7,H7,I7,q7⟩:=q7;exact ⟨σ7,H7,I7.unpinned,q7⟩
    | ret v=>obtain ⟨x7,σ7,H7,I7,r7,q7⟩:=q7;exact ⟨x7,σ7,H7,I7.unpinned,r7,q7⟩
end
theorem jX {K:aaa} {a:Addr} {xs:List V} {g:TG} {tb:TS} {D:Ends} {σ:St} {H:Hp} (Pv:Nat→St→Hp→Prop) (h0:Pv 0 σ H) (hl:∀ i σ H,i≤xs.length→Pv i σ H→SqL K H a xs)
    (hs:∀ i x σ H,xs[i]?=some x→Pv i σ H→g x σ H fun σ2 H2=>tb { D with nx:=Pv (i+1),ct:=Pv (i+1),bk:=D.nx } σ2 H2) (hd:∀ σ H,Pv xs.length σ H→D.nx σ H) :
    ∃ W:Nat→Nat→St→Hp→Prop,(∃ m,W 0 m σ H)∧∀ i m σ H,W i m σ H →
      ((Itl K a).stop i H∧D.nx σ H)∨((Itl K a).go i H∧∃ N:St→Hp→Prop,(∀ σ' H',N σ' H'→∃ m',m' < m∧W (i+1) m' σ' H')∧∀ x H',(Itl K a).yld i H x H'→g x σ H' fun σ2 H2=>tb { D with nx:=N,ct:=N,bk:=D.nx } σ2 H2):=by
  refine ⟨fun i m σ H=>m=xs.length - i∧i≤xs.length∧Pv i σ H,⟨xs.length,by simp,aaK _,h0⟩,?_⟩;rintro i m σ H ⟨rfl,hi,p⟩;have q:=hl i σ H hi p;by_cases hlt:i < xs.length
  · refine .inr ⟨⟨xs,xs[i],q,by simp [hlt]⟩,Pv (i+1),fun σ' H' p'=>⟨xs.length - (i+1),by lia,rfl,hlt,p'⟩,fun x H' y=>?_⟩;obtain ⟨e,y⟩:=y;subst e;exact hs i x σ _ (y xs q) p
  · have e:i=xs.length:=by lia
    subst e;exact .inl ⟨⟨xs,q,aab _⟩,hd σ H p⟩
theorem cR {lo:Int} {n:Nat} {g:TG} {tb:TS} {D:Ends} {σ:St} {H:Hp} (Pv:Nat→St→Hp→Prop) (h0:Pv 0 σ H)
    (hs:∀ i σ H,i < n→Pv i σ H→g (.int (lo+i)) σ H fun σ2 H2=>tb { D with nx:=Pv (i+1),ct:=Pv (i+1),bk:=D.nx } σ2 H2) (hd:∀ σ H,Pv n σ H→D.nx σ H) :
    ∃ W:Nat→Nat→St→Hp→Prop,(∃ m,W 0 m σ H)∧∀ i m σ H,W i m σ H →
      ((Itr lo n).stop i H∧D.nx σ H)∨((Itr lo n).go i H∧∃ N:St→Hp→Prop,(∀ σ' H',N σ' H'→∃ m',m' < m∧W (i+1) m' σ' H')∧∀ x H',(Itr lo n).yld i H x H'→g x σ H' fun σ2 H2=>tb { D with nx:=N,ct:=N,bk:=D.nx } σ2 H2):=by
  refine ⟨fun i m σ H=>m=n - i∧i≤n∧Pv i σ H,⟨n,by simp,aaK _,h0⟩,?_⟩;rintro i m σ H ⟨rfl,hi,p⟩;by_cases hlt:i < n
  · refine .inr ⟨hlt,Pv (i+1),fun σ' H' p'=>⟨n - (i+1),by lia,rfl,hlt,p'⟩,fun x H' y=>?_⟩;obtain ⟨e,y⟩:=y;subst e y;exact hs i σ _ hlt p
  · have e:i=n:=by lia
    subst e;exact .inl ⟨aab _,hd σ H p⟩
open PySem PySem.Spec PyProof.Rows
abbrev R2:=V→V→Hp→VK→Prop
def OpR (X:Cx) (f:Value→Value→Sem Value) (r:R2):Prop :=
  ∀ (pins:List (Addr × Obj)) (s:Shared) (σ:St) (H:Hp) (x y:V) (v u:Value) (Q:VK),Inv X pins σ H s→RelV x v→RelV y u→r x y H Q →
    wpAny (model X.prog X.w) X.A (f v u) (EP X pins σ Q) X.xe s
def UnR (X:Cx) (f:Value→Sem Value) (r:V→Hp→VK→Prop):Prop :=
  ∀ (pins:List (Addr × Obj)) (s:Shared) (σ:St) (H:Hp) (x:V) (v:Value) (Q:VK),Inv X pins σ H s→RelV x v→r x H Q →
    wpAny (model X.prog X.w) X.A (f v) (EP X pins σ Q) X.xe s
def dF (X:Cx) (f:Value) (r:List V→Hp→VK→Prop):Prop :=
  ∀ (pins:List (Addr × Obj)) (s:Shared) (σ:St) (H:Hp) (xs:List V) (us:List Value) (Q:VK),Inv X pins σ H s→Vals xs us→r xs H Q →
    wpAny (model X.prog X.w) X.A (call f us) (EP X pins σ Q) X.xe s
def yK (X:Cx) (r:V→Hp→(Bool→Hp→Prop)→Prop):Prop :=
  ∀ (pins:List (Addr × Obj)) (s:Shared) (σ:St) (H:Hp) (x:V) (v:Value) (Q:Bool→Hp→Prop),Inv X pins σ H s→RelV x v→r x H Q →
    wpAny (model X.prog X.w) X.A (truthy v) (TP X pins σ Q) X.xe s
def tOp (r:R2) (ta tb:TE):TE:=fun σ H Q=>ta σ H fun x H1=>tb σ H1 fun y H2=>r x y H2 Q
def tUn (r:V→Hp→VK→Prop) (ta:TE):TE:=fun σ H Q=>ta σ H fun x H1=>r x H1 Q
def rI (C:Int→Int→Prop) (g:Int→Int→V):R2:=fun x y H Q=>∃ i j,x=.int i∧y=.int j∧C i j∧Q (g i j) H
def rI0 (g:Int→Int→V):R2:=fun x y H Q=>∃ i j,x=.int i∧y=.int j∧Q (g i j) H
def rU (g:Int→V):V→Hp→VK→Prop:=fun x H Q=>∃ i,x=.int i∧Q (g i) H
section
variable {X:Cx} {a b c:Expr} {ta tb tc:TE} {pos:Pos}
theorem xk (ha:PE X a ta) (hb:PE X b tb) {pins:List (Addr × Obj)} {s:Shared} {σ:St} {H:Hp} {R:V→V→Hp→Prop} (I:Inv X pins σ H s)
    (h:ta σ H fun x H1=>tb σ H1 fun y H2=>R x y H2) {Q:Value→Shared→Prop} {f:Value→Value→Sem Value}
    (hf:∀ v u s2 x y H2,Inv X pins σ H2 s2→RelV x v→RelV y u→R x y H2→wpAny (model X.prog X.w) X.A (f v u) Q X.xe s2) :
    wpAny (model X.prog X.w) X.A (eval a X.env) (fun v s₁=>wpAny (model X.prog X.w) X.A (eval b X.env) (fun u s₂=>wpAny (model X.prog X.w) X.A (f v u) Q X.xe s₂) X.xe s₁) X.xe s:=by
  refine thn (ha pins s σ H _ I h) fun v s1 ⟨x,H1,I1,r1,q1⟩=>?_;refine thn (hb pins s1 σ H1 _ I1 q1) fun u s2 ⟨y,H2,I2,r2,q2⟩=>?_;exact hf v u s2 x y H2 I2 r1 r2 q2
theorem aj {op:Operator} {r:R2} (ho:OpR X (binaryOp op) r) (ha:PE X a ta) (hb:PE X b tb):PE X (.BinOp a op b pos) (tOp r ta tb):=by
  intro pins s σ H Q I h;exact wpAny_BinOp (xk ha hb I h fun v u s2 x y H2 I2 rx ry q=>ho pins s2 σ H2 x y v u Q I2 rx ry q)
theorem g8 {op:UnaryOp} {r:V→Hp→VK→Prop} (ho:UnR X (unaryOp op) r) (ha:PE X a ta):PE X (.UnaryOp op a pos) (tUn r ta):=by
  intro pins s σ H Q I h;exact UnaryOp_ (thn (ha pins s σ H _ I h) fun v s1 ⟨x,H1,I1,r1,q1⟩=>ho pins s1 σ H1 x v Q I1 r1 q1)
theorem opI {f:Value→Value→Sem Value} {C:Int→Int→Prop} {g:Int→Int→Int}
    (rule:∀ (i j:Int) (t u:Tok) (s:Shared) (Q:Value→Shared→Prop) (E:Value→Shared→Prop),C i j→Q (.int (g i j) s.toks) { s with toks:=s.toks+1 }→wpAny (model X.prog X.w) X.A (f (.int i t) (.int j u)) Q E s) :
    OpR X f (rI C fun i j=>.int (g i j)):=by
  intro pins s σ H x y v u Q I rx ry h;obtain ⟨i,j,rfl,rfl,hc,q⟩:=h;obtain ⟨t,rfl⟩:=rx;obtain ⟨t',rfl⟩:=ry;exact rule i j t t' s _ _ hc ⟨.int (g i j),H,I.tok _,⟨_,rfl⟩,q⟩
theorem xV {f:Value→Value→Sem Value} {g:Int→Int→Int}
    (rule:∀ (i j:Int) (t u:Tok) (s:Shared) (Q:Value→Shared→Prop) (E:Value→Shared→Prop),Q (.int (g i j) s.toks) { s with toks:=s.toks+1 }→wpAny (model X.prog X.w) X.A (f (.int i t) (.int j u)) Q E s) :
    OpR X f (rI0 fun i j=>.int (g i j)):=by
  intro pins s σ H x y v u Q I rx ry h;obtain ⟨i,j,rfl,rfl,q⟩:=h;obtain ⟨t,rfl⟩:=rx;obtain ⟨t',rfl⟩:=ry;exact rule i j t t' s _ _ ⟨.int (g i j),H,I.tok _,⟨_,rfl⟩,q⟩
theorem wH {f:Value→Value→Sem Value} {g:Int→Int→Bool}
    (rule:∀ (i j:Int) (t u:Tok) (s:Shared) (Q:Value→Shared→Prop) (E:Value→Shared→Prop),Q (.bool (g i j)) s→wpAny (model X.prog X.w) X.A (f (.int i t) (.int j u)) Q E s) :
    OpR X f (rI0 fun i j=>.bl (g i j)):=by
  intro pins s σ H x y v u Q I rx ry h;obtain ⟨i,j,rfl,rfl,q⟩:=h;obtain ⟨t,rfl⟩:=rx;obtain ⟨t',rfl⟩:=ry;exact rule i j t t' s _ _ ⟨.bl (g i j),H,I,rfl,q⟩
def yM (i j:Int):Prop:=0 < j∧j < 1073741824
def yo (i j:Int):Prop:=0≤j∧j≤1000000∧i.natAbs < 2 ^ 64
def CMul (i j:Int):Prop:=(-(2 ^ 64) < i∧i < 2 ^ 64)∨(-(2 ^ 64) < j∧j < 2 ^ 64)
theorem CMul.ok {i j:Int} (h:CMul i j):IntMulOk i j:=by
  rcases h with ⟨h1,h2⟩|⟨h1,h2⟩
  · exact .of_left (intBits_le_64 h1 h2)
  · exact .of_right (intBits_le_64 h1 h2)
theorem bt:OpR X (binaryOp .Add) (rI0 fun i j=>.int (i+j)):=xV fun _ _ _ _ _ _ _ q=>add_int q
theorem dC:OpR X (binaryOp .Sub) (rI0 fun i j=>.int (i - j)):=xV fun _ _ _ _ _ _ _ q=>sub_int q
theorem fe:OpR X (binaryOp .Mult) (rI CMul fun i j=>.int (i * j)):=opI fun _ _ _ _ _ _ _ hc q=>mul_int q hc.ok
theorem dD:OpR X (binaryOp .Mod) (rI (fun _ j=>0 < j) fun i j=>.int (i % j)):=opI fun i j _ _ _ _ _ hc q=>by
  have h1:(0:Int) < j:=hc;exact mod_int' (by lia) (by rw [Int.fmod_eq_emod_of_nonneg i (by lia)];exact q)
theorem eF:OpR X (binaryOp .Pow) (rI yo fun i j=>.int (i ^ j.toNat)):=opI fun _ _ _ _ _ _ _ hc q=>pow_int_small hc.1 hc.2.1 hc.2.2 q
theorem unI {f:Value→Sem Value} {g:Int→Int}
    (rule:∀ (i:Int) (t:Tok) (s:Shared) (Q:Value→Shared→Prop) (E:Value→Shared→Prop),Q (.int (g i) s.toks) { s with toks:=s.toks+1 }→wpAny (model X.prog X.w) X.A (f (.int i t)) Q E s) :
    UnR X f (rU fun i=>.int (g i)):=by
  intro pins s σ H x v Q I rx h;obtain ⟨i,rfl,q⟩:=h;obtain ⟨t,rfl⟩:=rx;exact rule i t s _ _ ⟨.int (g i),H,I.tok _,⟨_,rfl⟩,q⟩
theorem eU:UnR X (unaryOp .USub) (rU fun i=>.int (-i)):=unI fun _ _ _ _ _ q=>neg_int q
end
def xH:V→V→Bool
  | .non,.non=>true|.non,.int _=>true|.int _,.non=>true|.non,.bl _=>true|.bl _,.non=>true|.non,.str _=>true|.str _,.non=>true
  | .int _,.int _=>true|.bl _,.bl _=>true|.str _,.str _=>true|.byt _,.byt _=>true
  | .int _,.str _=>true|.str _,.int _=>true|.bl _,.str _=>true|.str _,.bl _=>true
  | _,_=>false
def rEq:R2:=fun x y H Q=>xH x y=true∧Q (.bl (decide (x=y))) H
def rNe:R2:=fun x y H Q=>xH x y=true∧Q (.bl (!decide (x=y))) H
theorem qK {i j:Int}:decide (V.int i=V.int j)=(i == j):=by
  rw [aaH];simp
theorem ub {i j:Bool}:decide (V.bl i=V.bl j)=(i == j):=by
  rw [aaH];simp
theorem qJ {i j:Str}:decide (V.str i=V.str j)=(i == j):=by
  rw [aaH];simp
theorem qL {i j:Array UInt8}:decide (V.byt i=V.byt j)=(i.toList == j.toList):=by
  rw [aaH];cases i;cases j;simp
section
variable {X:Cx} {a b c:Expr} {ta tb tc:TE} {pos:Pos}
theorem bf {pins:List (Addr × Obj)} {σ:St} {H:Hp} {s:Shared} {Q:VK} {k k':Bool} (I:Inv X pins σ H s) (q:Q (.bl k) H) (e:k=k'):EP X pins σ Q (.bool k') s:=by
  subst e;exact ⟨.bl k,H,I,rfl,q⟩
theorem bc:OpR X (compareOp .Eq) rEq:=by
  intro pins s σ H x y v u Q I rx ry h;obtain ⟨hs,q⟩:=h;cases x with
  | non =>
    cases rx;cases y with
    | non=>cases ry;exact PySem.EqNone.eq_none_none (bf I q (by simp))
    | bl j=>cases ry;exact PySem.EqNone.eq_none_bool (bf I q (by simp))
    | int j=>obtain ⟨t',rfl⟩:=ry;exact PySem.EqNone.eq_none_int (bf I q (by simp))
    | str j=>obtain ⟨t',rfl⟩:=ry;exact PySem.EqNone.eq_none_str (bf I q (by simp))
    | _=>exact absurd (show false=true from hs) aap
  | bl i =>
    cases rx;cases y with
    | non=>cases ry;exact PySem.EqNone.eq_bool_none (bf I q (by simp))
    | bl j=>cases ry;exact eq_bool (bf I q ub)
    | str j=>obtain ⟨t',rfl⟩:=ry;exact PySem.EqMixed.eq_bool_str (bf I q (by simp))
    | _=>exact absurd (show false=true from hs) aap
  | int i =>
    obtain ⟨t,rfl⟩:=rx;cases y with
    | non=>cases ry;exact PySem.EqNone.eq_int_none (bf I q (by simp))
    | int j=>obtain ⟨t',rfl⟩:=ry;exact eq_int (bf I q qK)
    | str j=>obtain ⟨t',rfl⟩:=ry;exact PySem.EqMixed.eq_int_str (bf I q (by simp))
    | _=>exact absurd (show false=true from hs) aap
  | str i =>
    obtain ⟨t,rfl⟩:=rx;cases y with
    | non=>cases ry;exact PySem.EqNone.eq_str_none (bf I q (by simp))
    | bl j=>cases ry;exact PySem.EqMixed.eq_str_bool (bf I q (by simp))
    | int j=>obtain ⟨t',rfl⟩:=ry;exact PySem.EqMixed.eq_str_int (bf I q (by simp))
    | str j=>obtain ⟨t',rfl⟩:=ry;exact eq_str (bf I q qJ)
    | _=>exact absurd (show false=true from hs) aap
  | byt i =>
    obtain ⟨t,rfl⟩:=rx;cases y with
    | byt j=>obtain ⟨t',rfl⟩:=ry;exact PySem.W.eq_bytes (bf I q qL)
    | _=>exact absurd (show false=true from hs) aap
  | _=>cases y <;> exact absurd (show false=true from hs) aap
theorem dX:OpR X (compareOp .NotEq) rNe:=by
  intro pins s σ H x y v u Q I rx ry h;obtain ⟨hs,q⟩:=h;cases x with
  | non =>
    cases rx;cases y with
    | non=>cases ry;exact PySem.EqNone.ne_none_none (bf I q (by simp))
    | bl j=>cases ry;exact PySem.EqNone.ne_none_bool (bf I q (by simp))
    | int j=>obtain ⟨t',rfl⟩:=ry;exact PySem.EqNone.ne_none_int (bf I q (by simp))
    | str j=>obtain ⟨t',rfl⟩:=ry;exact PySem.EqNone.ne_none_str (bf I q (by simp))
    | _=>exact absurd (show false=true from hs) aap
  | bl i =>
    cases rx;cases y with
    | non=>cases ry;exact PySem.EqNone.ne_bool_none (bf I q (by simp))
    | bl j=>cases ry;exact ne_bool (bf I q (congrArg not ub))
    | str j=>obtain ⟨t',rfl⟩:=ry;exact PySem.EqMixed.ne_bool_str (bf I q (by simp))
    | _=>exact absurd (show false=true from hs) aap
  | int i =>
    obtain ⟨t,rfl⟩:=rx;cases y with
    | non=>cases ry;exact PySem.EqNone.ne_int_none (bf I q (by simp))
    | int j=>obtain ⟨t',rfl⟩:=ry;exact ne_int (bf I q (congrArg not qK))
    | str j=>obtain ⟨t',rfl⟩:=ry;exact PySem.EqMixed.ne_int_str (bf I q (by simp))
    | _=>exact absurd (show false=true from hs) aap
  | str i =>
    obtain ⟨t,rfl⟩:=rx;cases y with
    | non=>cases ry;exact PySem.EqNone.ne_str_none (bf I q (by simp))
    | bl j=>cases ry;exact PySem.EqMixed.ne_str_bool (bf I q (by simp))
    | int j=>obtain ⟨t',rfl⟩:=ry;exact PySem.EqMixed.ne_str_int (bf I q (by simp))
    | str j=>obtain ⟨t',rfl⟩:=ry;exact ne_str (bf I q (congrArg not qJ))
    | _=>exact absurd (show false=true from hs) aap
  | byt i =>
    obtain ⟨t,rfl⟩:=rx;cases y with
    | byt j=>obtain ⟨t',rfl⟩:=ry;exact PySem.W.ne_bytes (bf I q (congrArg not qL))
    | _=>exact absurd (show false=true from hs) aap
  | _=>cases y <;> exact absurd (show false=true from hs) aap
theorem iU:OpR X (compareOp .Lt) (rI0 fun i j=>.bl (decide (i < j))):=wH fun _ _ _ _ _ _ _ q=>lt_int q
theorem gn:OpR X (compareOp .Gt) (rI0 fun i j=>.bl (decide (j < i))):=wH fun _ _ _ _ _ _ _ q=>gt_int q
theorem xU:OpR X (compareOp .GtE) (rI0 fun i j=>.bl (decide (j≤i))):=wH fun _ _ _ _ _ _ _ q=>ge_int q
theorem ir:OpR X (compareOp .In) (fun x y H Q=>∃ i j,x=.str i∧y=.str j∧Q (.bl (!(aaB j i 0 j.length 1).isEmpty)) H):=by
  intro pins s σ H x y v u Q I rx ry h;obtain ⟨i,j,rfl,rfl,q⟩:=h;obtain ⟨t,rfl⟩:=rx;obtain ⟨t',rfl⟩:=ry;exact in_str (bf I q rfl)
theorem dY:OpR X (compareOp .Is) (fun x y H Q=>y=.non∧Q (.bl (decide (x=.non))) H):=by
  intro pins s σ H x y v u Q I rx ry h;obtain ⟨rfl,q⟩:=h;cases ry;refine is_none_gen (bf I q ?_);cases x <;> first
    | (cases rx;rfl)
    | (obtain ⟨t,rfl⟩:=rx;rfl)
theorem l9:OpR X (compareOp .IsNot) (fun x y H Q=>y=.non∧Q (.bl (!decide (x=.non))) H):=by
  intro pins s σ H x y v u Q I rx ry h;obtain ⟨rfl,q⟩:=h;cases ry;refine isnot_none_gen (bf I q ?_);cases x <;> first
    | (cases rx;rfl)
    | (obtain ⟨t,rfl⟩:=rx;rfl)
theorem ak (b:Expr) {op:CmpOp} (h:op≠.In:=by decide) (h2:op≠.NotIn:=by decide):behindInMarks op b=false:=by
  have e1:(op == CmpOp.In)=false:=by cases op <;> first|rfl|exact absurd rfl h
  have e2:(op == CmpOp.NotIn)=false:=by cases op <;> first|rfl|exact absurd rfl h2
  cases b <;> simp [behindInMarks,e1,e2]
theorem bp {op:CmpOp} {r:R2} (ho:OpR X (compareOp op) r) (ha:PE X a ta) (hb:PE X b tb) (hm:behindInMarks op b=false):PE X (.Compare a [op] [b] pos) (tOp r ta tb):=by
  intro pins s σ H Q I h;exact wpAny_Compare1 (xk ha hb I h fun v u s2 x y H2 I2 rx ry q=>ho pins s2 σ H2 x y v u Q I2 rx ry q) hm
def xz (t:TE):TT:=fun σ H Q=>t σ H fun x H'=>∃ k,x=.bl k∧Q k H'
theorem ai {op:CmpOp} {r:R2} (ho:OpR X (compareOp op) r) (ha:PE X a ta) (hb:PE X b tb) (hm:behindInMarks op b=false):PT X (.Compare a [op] [b] pos) (xz (tOp r ta tb)):=by
  intro pins s σ H Q I h;refine wpAny_isTrue_Compare1 (thn (ha pins s σ H _ I h) fun v s1 ⟨x,H1,I1,r1,q1⟩=>thn (hb pins s1 σ H1 _ I1 q1) fun u s2 ⟨y,H2,I2,r2,q2⟩ =>
    thn (ho pins s2 σ H2 x y v u _ I2 r1 r2 q2) fun c s3 ⟨z,H3,I3,r3,k,e,q3⟩=>?_) hm
  subst e;cases r3;exact wpAny_truthy_bool ⟨H3,I3,q3⟩
def yi (K:aaa) (x:V) (H:Hp) (k:Bool):Prop :=
  match x with
  | .non=>k=false
  | .bl b=>k=b
  | .int i=>k=(i != 0)
  | .str y=>y.length≤sizeLine∧k=((y.length:Int) != 0)
  | .byt y=>y.size≤sizeLine∧k=((y.size:Int) != 0)
  | .ref p=>(∃ xs,SqL K H p xs∧k=!xs.isEmpty)∨(∃ xs,SqT K H p xs∧k=!xs.isEmpty)∨∃ kvs,H p=some (.dK kvs)∧k=!kvs.isEmpty
  | _=>False
theorem pE {κ:Type} {kvs:List (κ × V)} {vs:List (κ × Value)} (r:KV kvs vs):(!vs.isEmpty)=!kvs.isEmpty:=by
  cases r <;> rfl
theorem jU {xs:List V} {its:List Value} (r:Vals xs its):(!its.toArray.isEmpty)=!xs.isEmpty:=by
  cases r <;> simp
theorem gN:(sizeLine:Nat) < 2 ^ 63:=by rw [sizeLine_eq];decide
theorem vU:yK X (fun x H Q=>∃ k,yi X.K x H k∧Q k H):=by
  intro pins s σ H x v Q I rx h;obtain ⟨k,e,q⟩:=h;have hl:=gN;have hs:sizeLine=16777216:=sizeLine_eq;cases x with
  | non =>
    cases rx;have e':k=false:=e;subst e';exact truthy_none ⟨H,I,q⟩
  | bl b =>
    cases rx;have e':k=b:=e;subst e';exact wpAny_truthy_bool ⟨H,I,q⟩
  | int i =>
    obtain ⟨t,rfl⟩:=rx;have e':k=(i != 0):=e;subst e';exact PySem.P.truthy_int ⟨H,I,q⟩
  | str y =>
    obtain ⟨t,rfl⟩:=rx;obtain ⟨hy,e'⟩:y.length≤sizeLine∧k=((y.length:Int) != 0):=e;subst e';exact PySem.P.truthy_str (by lia) ⟨H,I.tok _,q⟩
  | byt y =>
    obtain ⟨t,rfl⟩:=rx;obtain ⟨hy,e'⟩:y.size≤sizeLine∧k=((y.size:Int) != 0):=e;subst e';exact PySem.W.truthy_bytes (by lia) ⟨H,I.tok _,q⟩
  | ref p =>
    cases rx;have e':(∃ xs,SqL X.K H p xs∧k=!xs.isEmpty)∨(∃ xs,SqT X.K H p xs∧k=!xs.isEmpty)∨∃ kvs,H p=some (.dK kvs)∧k=!kvs.isEmpty:=e;rcases e' with ⟨xs,hx,e'⟩|⟨xs,hx,e'⟩|⟨kvs,hx,e'⟩
    · subst e';obtain ⟨its,r,pl,hz⟩:=I.list hx;have hlen:=r.length;exact wpAny_truthy_list pl.isList (by simp only [aal];lia) ⟨H,I.tok _,by rw [jU r];exact q⟩
    · subst e';obtain ⟨its,r,pl,hz⟩:=I.tuple hx;have hlen:=r.length;exact truthy_tuple pl (by simp only [aal];lia) ⟨H,I.tok _,by rw [jU r];exact q⟩
    · subst e';obtain ⟨hz,hS,vs,r,m⟩:kvs.length≤sizeLine∧(p == sysModules)=false∧∃ vs,KV kvs vs∧s.heap.DictOf (bz X.prog X.w) p vs:=I.hok p _ hx;have hlen:kvs.length=vs.length:=abg r;exact wpAny_truthy_dict hS m (by lia) ⟨H,I.tok _,by rw [pE r];exact q⟩
  | _=>exact (show False from e).elim
theorem jB (ha:PE X a ta) (he:∀ whole,isTrue a X.env whole=(do let v ← whole;standAt a.pos;holding [v] (truthy v))) :
    PT X a (fun σ H Q=>ta σ H fun x H'=>∃ k,yi X.K x H' k∧Q k H'):=by
  intro pins s σ H Q I h;exact isTrue_plain (thn (ha pins s σ H _ I h) fun v s1 ⟨x,H1,I1,r1,q1⟩=>vU pins s1 σ H1 x v Q I1 r1 q1) (he _)
theorem au:OpR X (binaryOp .Add) (fun x y H Q=>∃ i j,x=.str i∧y=.str j∧i.length+j.length≤sizeLine∧Q (.str (i++j)) H):=by
  intro pins s σ H x y v u Q I rx ry h;obtain ⟨i,j,rfl,rfl,hz,q⟩:=h;obtain ⟨t,rfl⟩:=rx;obtain ⟨t',rfl⟩:=ry;exact add_str (fun t' tk=>⟨.str (i++j),H,I.tok _,⟨_,rfl⟩,q⟩) hz
theorem cH {x:V} {us:List Value} (r:Vals [x] us):∃ u,us=[u]∧RelV x u:=by
  cases r with
  | cons r1 r2=>cases r2;exact ⟨_,rfl,r1⟩
theorem jt {x y:V} {us:List Value} (r:Vals [x,y] us):∃ u w',us=[u,w']∧RelV x u∧RelV y w':=by
  cases r with
  | cons r1 r2 =>
    cases r2 with
    | cons r3 r4=>cases r4;exact ⟨_,_,rfl,r1,r3⟩
theorem ow:dF X (.builtin "abs") (fun xs H Q=>∃ i,xs=[.int i]∧Q (.int (if i < 0 then -i else i)) H):=by
  intro pins s σ H xs us Q I r h;obtain ⟨i,rfl,q⟩:=h;obtain ⟨u,rfl,t,rfl⟩:=cH r;exact call_abs_int fun u tk=>⟨.int (if i < 0 then -i else i),H,I.tok _,⟨_,rfl⟩,q⟩
theorem rQ (hc:X.calm=true):dF X (.builtin "max") (fun xs H Q=>∃ i j,xs=[.int i,.int j]∧Q (.int (if j > i then j else i)) H):=by
  intro pins s σ H xs us Q I r h;obtain ⟨i,j,rfl,q⟩:=h;obtain ⟨u,w',rfl,⟨t,rfl⟩,⟨t',rfl⟩⟩:=jt r;refine max_two_ints (I.ok.hd hc) fun h' tk k=>⟨_,H,I.kept k,?_,q⟩
  by_cases hj:j > i
  · rw [if_pos hj,if_pos hj];exact ⟨_,rfl⟩
  · rw [if_neg hj,if_neg hj];exact ⟨_,rfl⟩
theorem cA:dF X (.type "int") (fun xs H Q=>(∃ i,xs=[.int i]∧Q (.int i) H)∨∃ k,xs=[.bl k]∧Q (.int (if k then 1 else 0)) H):=by
  intro pins s σ H xs us Q I r h;rcases h with ⟨i,rfl,q⟩|⟨k,rfl,q⟩
  · obtain ⟨u,rfl,t,rfl⟩:=cH r;exact call_int_int ⟨.int i,H,I,⟨_,rfl⟩,q⟩
  · obtain ⟨u,rfl,r1⟩:=cH r;cases r1;exact call_int_bool ⟨.int (if k then 1 else 0),H,I.tok _,⟨_,rfl⟩,q⟩
theorem ou:dF X (.builtin "divmod") (fun xs H Q=>∃ i j,xs=[.int i,.int j]∧yM i j∧∀ p,H p=none→Q (.ref p) (upd H p (.tup [.int (i / j),.int (i % j)]))):=by
  intro pins s σ H xs us Q I r h;obtain ⟨i,j,rfl,⟨h1,h2⟩,q⟩:=h;obtain ⟨u,w',rfl,⟨t,rfl⟩,⟨t',rfl⟩⟩:=jt r;refine divmod_int (by lia) ?_ (.inl (PyProof.noPylong_small (by lia)));rw [Int.fdiv_eq_ediv_of_nonneg i (by lia),Int.fmod_eq_emod_of_nonneg i (by lia)];have hn:H s.heap.objs.size=none:=I.hok.fresh (aab _);refine ⟨.ref s.heap.objs.size,_,?_,rfl,q _ hn⟩;refine I.laid (fun b o e=>aak _ e) (aab _) ⟨by simp only [aao,abE];rw [sizeLine_eq];decide,[.int (i / j) s.toks,.int (i % j) (s.toks+1)],.cons ⟨_,rfl⟩ (.cons ⟨_,rfl⟩ .nil),?_⟩;exact ⟨_,aaJ s.heap rfl,rfl,0,rfl⟩
end
open PySem PySem.Spec PyProof.Rows
structure ObjM (h:Heap) (x dx C:Addr) (mA:Str→Option Value):Prop where
  obj:h.get? x=some (PySem.W.instObj C dx)
  ns:h.Ns1 dx mA
  ne:dx≠x
theorem rz {h:Heap} {dx:Addr} {mA:Str→Option Value} (n:h.Ns1 dx mA):∃ od,h.get? dx=some od∧∀ name,PySem.W.lookIn name od=some (mA name):=by
  obtain ⟨o,es,ep,ho,hd,hk,_,hm⟩:=n;refine ⟨o,ho,fun name=>?_⟩;have e:=hm name;unfold nsFind findBy at e;rw [← Array.find?_toList] at e;unfold PySem.W.lookIn;rw [hd];dsimp only;split
  · rename_i y q;rw [q] at e;exact congrArg some e
  · rename_i q;rw [q] at e;have a:es.toList.any (·.refKey)=false:=by
      rw [List.any_eq_false];intro y hy;obtain ⟨z,t,hkey⟩:=hk y (Array.mem_toList_iff.mp hy);simp [DictEntry.refKey,hkey]
    have a':¬ es.toList.any (·.refKey)=true:=by rw [a];exact aap
    rw [if_neg a'];exact congrArg some e
theorem ObjM.look {h:Heap} {x dx C:Addr} {mA:Str→Option Value} (I:ObjM h x dx C mA):∃ od,PySem.W.InstAt h x (PySem.W.instObj C dx) C (some od)∧∀ name,PySem.W.lookIn name od=some (mA name) :=
  let ⟨od,ho,hl⟩:=rz I.ns
  ⟨od,⟨I.obj,rfl,rfl,ho⟩,hl⟩
section
variable {prog:Program} {w:World} {A:Around} {E:Value→Shared→Prop} {s:Shared} {K:aaa} {x dx C f:Addr} {mA:Str→Option Value} {name:Str} {v:Value}
end
section
variable {P:Program} {w:World} {H H':Hp} {h h':Heap} {a C dx:Addr} {fs fs':List (Str × V)}
theorem qy (hok:HOk P w H h) (e:H a=some (.ins C dx fs)):∃ mA,ObjM h a dx C mA∧(∀ f,RelO (fs.lookup f) (mA f))∧PySem.Within mA (fs.map (·.1))∧fs.length≤1000∧H dx=some (.own a):=by
  obtain ⟨d,z,ne,ob,mA,n,r,q⟩:=(show ObjOk P w H h a (.ins C dx fs) from hok a _ e)
  exact ⟨mA,⟨ob,n,ne⟩,r,q,z,d⟩
end
structure Cls (K:aaa) (C:Addr):Prop where
  pg:PySem.W.plainGet K C Str.empty=true
  hd:PySem.W.hasDictIn K C=true
  po:PySem.W.plainOver K C=true
  sa:abl K (.ref C) "__setattr__" = some (some (.builtin "object.__setattr__"))
theorem Cls.get {K:aaa} {C:Addr} (c:Cls K C) (f:Str):PySem.W.plainGet K C f=true:=c.pg
structure Con (K:aaa) (C:Addr) (f:Str) (v:V) (u:Value):Prop where
  at_:abl K (.ref C) f=some (some u)
  rel:RelV v u
  get:PySem.W.specialIn K u "__get__" = some none
  cp:PySem.W.copiedNames.contains f=false
structure Meth (K:aaa) (C:Addr) (m:Str) (f:Addr):Prop where
  at_:abl K (.ref C) m=some (some (.ref f))
  fn:PySem.W.isFn K (.ref f)=true
  kp:abm K (.ref f)=true
section
variable {X:Cx} {pins:List (Addr × Obj)} {σ:St} {H:Hp} {s:Shared} {a C dx:Addr} {fs:List (Str × V)} {f:Str} {v:V} {A:Around} {E:Value→Shared→Prop}
end
section
variable {X:Cx} {o e value:Expr} {f:Str} {pos pos' tpos:Pos} {ta tv:TE}
end
section
variable {X:Cx} {pins:List (Addr × Obj)} {σ:St} {H:Hp} {s:Shared} {A:Around} {E:Value→Shared→Prop} {Q:Value→Shared→Prop} {c:Value} {b:Bool}
inductive TyOf (K:aaa) (H:Hp):V→Value→Prop where
  | non:TyOf K H .non (.type "NoneType")
  | bl (x:Bool):TyOf K H (.bl x) (.type "bool")
  | int (i:Int):TyOf K H (.int i) (.type "int")
  | str (x:Str):TyOf K H (.str x) (.type "str")
  | flt (x:UInt64):TyOf K H (.flt x) (.type "float")
  | lst {a:Addr} {xs:List V} (e:H a=some (.lst xs)):TyOf K H (.ref a) (.type "list")
  | frz {a:Addr} {o:Obj} {xs:List V} (e:H a=some (.frz o (.lst xs))):TyOf K H (.ref a) (.type "list")
  | tup {a:Addr} {xs:List V} (e:H a=some (.tup xs)):TyOf K H (.ref a) (.type "tuple")
  | dK {a:Addr} {kvs:List (Key × V)} (e:H a=some (.dK kvs)):TyOf K H (.ref a) (.type "dict")
  | dT {a:Addr} {kvs:List (List Key × V)} (e:H a=some (.dT kvs)):TyOf K H (.ref a) (.type "dict")
  | ins {a C dx:Addr} {fs:List (Str × V)} (e:H a=some (.ins C dx fs)) (cl:Cls K C) (ha:abl K (.ref C) "__class__" = some (some (.builtin "object.__class__")))
      (hn:PySem.W.specialIn K (.builtin "object.__class__") "__get__" = some (some (.builtin "getset_descriptor.__get__"))) (htk:PySem.W.takesIn K (.builtin "object.__class__")=some true)
      (hm:PySem.W.mroIn K C (.type "object")=some true):TyOf K H (.ref a) (.ref C)
theorem rG {x:V} {u t:Value} (I:Inv X pins σ H s) (rx:RelV x u) (ty:TyOf X.K H x t) (e:aaE X.K t c=some b) (h:∀ tk,Q (.bool b) { s with toks:=tk }) :
    wpAny (model X.prog X.w) A (call (.builtin "isinstance") [u,c]) Q E s:=by
  cases ty with
  | non=>cases (show u=Value.none from rx);exact aa6 acy I.kIn True.intro e (fun z=>nomatch z) h
  | bl y=>cases (show u=Value.bool y from rx);exact aa6 PySem.W.kitx_bool I.kIn True.intro e (fun z=>nomatch z) h
  | int i=>obtain ⟨t,q⟩:=(show ∃ t,u=Value.int i t from rx);cases q;exact aa6 PySem.W.kitx_int I.kIn True.intro e (fun z=>nomatch z) h
  | str y=>obtain ⟨t,q⟩:=(show ∃ t,u=Value.str y t from rx);cases q;exact aa6 PySem.W.kitx_str I.kIn True.intro e (fun z=>nomatch z) h
  | flt y=>obtain ⟨t,q⟩:=(show ∃ t,u=Value.float y t from rx);cases q;exact aa6 PySem.W.kitx_float I.kIn True.intro e (fun z=>nomatch z) h
  | @lst a xs ea =>
    cases (show u=Value.ref a from rx);obtain ⟨_,_,n,_,h1⟩:=(show ObjOk X.prog X.w H s.heap a (.lst xs) from I.hok a _ ea)
    exact aa6 acx I.kIn ⟨_,h1,rfl⟩ e (fun z=>nomatch z) h
  | @frz a ob xs ea =>
    cases (show u=Value.ref a from rx);obtain ⟨_,_,_,n,_,h1⟩:=(show ObjOk X.prog X.w H s.heap a (.frz ob (.lst xs)) from I.hok a _ ea)
    exact aa6 acx I.kIn ⟨_,h1,rfl⟩ e (fun z=>nomatch z) h
  | @tup a xs ea =>
    cases (show u=Value.ref a from rx);obtain ⟨_,_,_,p⟩:=(show ObjOk X.prog X.w H s.heap a (.tup xs) from I.hok a _ ea)
    obtain ⟨o,h1,h2,_⟩:=p;exact aa6 PySem.W.kitx_tuple I.kIn ⟨o,h1,h2⟩ e (fun z=>nomatch z) h
  | @dK a kvs ea =>
    cases (show u=Value.ref a from rx);obtain ⟨_,_,vs,_,p⟩:=(show ObjOk X.prog X.w H s.heap a (.dK kvs) from I.hok a _ ea)
    obtain ⟨o,es,ep,h1,h2,_⟩:=p;exact aa6 acw I.kIn ⟨o,h1,h2.1⟩ e (fun z=>nomatch z) h
  | @dT a kvs ea =>
    cases (show u=Value.ref a from rx);obtain ⟨_,_,xs,_,o,es,ep,h1,h2,_⟩:=(show ObjOk X.prog X.w H s.heap a (.dT kvs) from I.hok a _ ea)
    exact aa6 acw I.kIn ⟨o,h1,h2.1⟩ e (fun z=>nomatch z) h
  | @ins a C dx fs ea cl ha hn htk hm =>
    cases (show u=Value.ref a from rx);obtain ⟨mA,O,_⟩:=qy I.hok ea;obtain ⟨od,J,_⟩:=O.look;exact aa6 (PySem.W.kitx_own (cl.get _) cl.hd ha hn htk hm) I.kIn J e (fun z=>nomatch z) h
end
open PySem PySem.Spec PyProof.Rows
structure Room (k:Nat) (A:Around):Prop where
  hd:A.handled=none
  dp:A.depth+3 * k+5 < recursionLimit
  un:A.units+16 * k+200 < cLine
  gd:A.guards=some []
theorem Room.mono {j k:Nat} {A:Around} (r:Room k A) (h:j≤k):Room j A:=⟨r.hd,by have:=r.dp;lia,by have:=r.un;lia,r.gd⟩
theorem Room.deeper {k:Nat} {A:Around} (r:Room (k+1) A) (env:Env):Room k (A.deeper env) :=
  ⟨r.hd,by have:=r.dp;show A.depth+1+3 * k+5 < _;lia,by have:=r.un;show A.units+3+16 * k+200 < _;lia,r.gd⟩
theorem Room.depth {k:Nat} {A:Around} (r:Room k A):A.depth < recursionLimit:=by have:=r.dp;lia
theorem Room.units {k:Nat} {A:Around} (r:Room k A):A.units+64 < cLine:=by have:=r.un;lia
def uI:TA:=fun _ H Q=>Q [] H
def ju (ta:TE) (tr:TA):TA:=fun σ H Q=>ta σ H fun x H1=>tr σ H1 fun xs H2=>Q (x :: xs) H2
section
variable {X:Cx} {e:Expr} {es:List Expr} {te:TE} {t:TA} {pos:Pos}
theorem ac:PA X [] uI:=fun _ _ _ _ H Q I h=>acb ⟨[],H,I,.nil,h⟩
theorem aa (ha:PE X e te) (hr:PA X es t) (hs:starEach (e :: es) X.env=(false,eval e X.env) :: starEach es X.env:=by rfl):PA X (e :: es) (ju te t):=by
  intro pos pins s σ H Q I h;rw [hs];show wpAny _ _ (spliced ((false,eval e X.env) :: backTo pos (starEach es X.env))) _ _ s;refine abi (thn (ha pins s σ H _ I h) fun u s1 ⟨x,H1,I1,r1,q1⟩=>?_);exact thn (hr pos pins s1 σ H1 _ I1 q1) fun us s2 ⟨xs,H2,I2,r2,q2⟩=>⟨x :: xs,H2,I2,.cons r1 r2,q2⟩
def xy (t:TA):TE:=fun σ H Q=>t σ H fun xs H1=>xs.length≤sizeLine∧∀ p,H1 p=none→Q (.ref p) (upd H1 p (.tup xs))
def uJ (t:TA):TE:=fun σ H Q=>t σ H fun xs H1=>xs.length≤sizeLine∧∀ p,H1 p=none→Q (.ref p) (upd H1 p (.lst xs))
theorem bT {x1} (h:PA X es t):PE X (.Tuple es x1 pos) (xy t):=by
  intro pins s σ H Q I hq;refine wpAny_Tuple_spliced (thn (h pos pins s σ H _ I hq) fun us s1 ⟨xs,H1,I1,r,z,q⟩=>⟨by rw [← r.length];exact z,?_⟩);have hf:H1 s1.heap.objs.size=none:=I1.hok.fresh (aab _);refine ⟨.ref s1.heap.objs.size,upd H1 s1.heap.objs.size (.tup xs),I1.laid (t':=s1.toks) (fun b u e=>aak _ e) (aab _) ?_,rfl,q _ hf⟩;exact ⟨z,us,r,⟨_,aaJ _ rfl,rfl,_,rfl⟩⟩
theorem a9 (h:PA X es t):PE X (.List es pos) (uJ t):=by
  intro pins s σ H Q I hq;refine wpAny_List_spliced (thn (h pos pins s σ H _ I hq) fun us s1 ⟨xs,H1,I1,r,z,q⟩=>⟨by rw [← r.length];exact z,?_⟩);have hf:H1 s1.heap.objs.size=none:=I1.hok.fresh (aab _);refine ⟨.ref s1.heap.objs.size,upd H1 s1.heap.objs.size (.lst xs),I1.laid (t':=s1.toks) (fun b u e=>aak _ e) (aab _) ?_,rfl,q _ hf⟩;exact ⟨z,us,0,r,aaJ _ rfl⟩
end
abbrev Sp:=List V→Hp→VK→XK→Prop
abbrev CXT:=List Env→Hp→Shared→XK→Value→Shared→Prop
structure Env0 (P:Program) (w:World) (K:aaa) (mg:Str→Option Value) (base:Heap) (A:Around) (outer:List Env) (s:Shared) (H:Hp):Prop where
  frames:A.frames=some outer
  mod:Mod K mg base
  bs:∀ b o,base.get? b=some o→s.heap.get? b=some o∧H b=none
  bsz:base.objs.size≤s.heap.objs.size
  funs:s.heap.FunFrames base outer
  frf:∀ b∈frs outer,H b=none
  hok:HOk P w H s.heap
  bare:AllBare s.gens
def CE (outer:List Env) (P:Program) (w:World) (H:Hp) (s:Shared) (Q:VK) (u:Value) (s':Shared):Prop :=
  ∃ v H',s'.os=s.os∧AllBare s'.gens∧Un (frs outer) [] H H' s.heap s'.heap∧HOk P w H' s'.heap∧RelV v u∧Q v H'
def CR (CX:CXT) (outer:List Env) (P:Program) (w:World) (H:Hp) (s:Shared) (Q:VK) (E:XK) (r:Result) (s':Shared):Prop :=
  match r with
  | .ok (.ret u)=>CE outer P w H s Q u s'
  | .ok _=>False
  | .error e=>CX outer H s E e s'
structure FnOk (P:Program) (w:World) (K:aaa) (mg:Str→Option Value) (base:Heap) (CX:CXT) (k:Nat) (f:Addr) (fd:FuncData) (ps:List Str) (sp:Sp):Prop where
  len:∀ vs H Q E,sp vs H Q E→vs.length=ps.length
  run:∀ (A:Around) (outer:List Env) (s:Shared) (H:Hp) (args:Args) (us:List Value) (vs:List V) (Q:VK) (E:XK),Room k A→Env0 P w K mg base A outer s H→BindsTo s fd args (ps.zip us)→Vals vs us→sp vs H Q E →
    codeAny (model P w) A (.call (.ref f) args) (CR CX outer P w H s Q E) s
section
variable {X:Cx} {pins:List (Addr × Obj)} {σ:St} {H:Hp} {s s':Shared}
theorem Inv.env0 (I:Inv X pins σ H s):Env0 X.prog X.w X.K X.mg X.base X.A X.stack s H :=
  ⟨I.ok.frames,I.ok.mod,I.bs,aa9 I.ok.bsz I.sz,I.stack,I.stkFree,I.hok,I.bare⟩
theorem Inv.after {Q:VK} {u:Value} (I:Inv X pins σ H s) (h:CE X.stack X.prog X.w H s Q u s'):EP X pins σ Q u s':=by
  obtain ⟨v,H',os,bare,un,hok,r,q⟩:=h;obtain ⟨hh,g,d,t,os'⟩:=s';obtain rfl:os'=s.os:=os;exact ⟨v,H',I.call (h':=hh) (g':=g) (d':=d) (t':=t) (ch:=[]) un hok bare (fun b z=>absurd z (by simp)),r,q⟩
end
def sh (sp:Sp) (dvs:List V) (E:XK) (t:TA):TE:=fun σ H Q=>t σ H fun vs H1=>sp (vs++dvs) H1 Q E
def Binds (K:aaa) (fd:FuncData) (ps:List Str) (ds:List Value):Prop :=
  ∀ (s:Shared) (us:List Value),K.In s.heap→(us++ds).length=ps.length→BindsTo s fd ⟨us,[]⟩ (ps.zip (us++ds))
theorem Binds.all {K:aaa} {fd:FuncData} {ps:List Str} (h:∀ us:List Value,us.length=ps.length→bindArgs fd ⟨us,[]⟩=pure (ps.zip us)):Binds K fd ps []:=fun s us _ hl=>by
  rw [abC] at hl ⊢;exact .of_eq (h us hl)
def kh (CX:CXT) (X:Cx) (E:XK):Prop:=∀ (pins:List (Addr × Obj)) (σ:St) (H:Hp) (s:Shared) (e:Value) (s':Shared),Inv X pins σ H s→CX X.stack H s E e s'→X.xe e s'
section
variable {X:Cx} {CX:CXT} {k:Nat} {f C:Addr} {fd:FuncData} {ps:List Str} {sp:Sp} {dvs:List V} {ds:List Value} {E:XK} {x m:Str} {p pos apos:Pos} {e o:Expr} {es:List Expr} {ta:TE} {t:TA}
theorem wm {pins:List (Addr × Obj)} {σ:St} {H:Hp} {s:Shared} {Q:VK} {us:List Value} {vs:List V} (F:FnOk X.prog X.w X.K X.mg X.base CX k f fd ps sp) (hr:Room k X.A) (hb:Binds X.K fd ps ds) (hd:Vals dvs ds) (hx:kh CX X E)
    (I:Inv X pins σ H s) (r:Vals vs us) (h:sp (vs++dvs) H Q E):wpAny (model X.prog X.w) X.A (call (.ref f) us) (EP X pins σ Q) X.xe s:=by
  have r2:Vals (vs++dvs) (us++ds):=r.append hd;have hl:(us++ds).length=ps.length:=by rw [← r2.length];exact F.len _ _ _ _ h
  refine wpAny_call (codeAny_mono (F.run X.A X.stack s H ⟨us,[]⟩ (us++ds) (vs++dvs) Q E hr I.env0 (hb s us I.kIn hl) r2 h) fun r s' hq=>?_);cases r with
  | error e=>exact hx pins σ H s e s' I hq
  | ok fl =>
    cases fl with
    | ret u=>exact I.after hq
    | next=>exact abq hq
    | brk=>exact abq hq
    | cont=>exact abq hq
theorem qo (F:FnOk X.prog X.w X.K X.mg X.base CX k f fd ps sp) (hr:Room k X.A) (hg:Gl X x) (hm:X.mg x=some (.ref f)) (hk:abm X.K (.ref f)=true) (hb:Binds X.K fd ps ds) (hd:Vals dvs ds) (hx:kh CX X E)
    (ha:PA X (e :: es) t) (hdb:(x == ("__debug__":Str))=false:=by decide) (he:starEach (e :: es) X.env=(false,eval e X.env) :: starEach es X.env:=by rfl) (hpl:(backTo pos (starEach es X.env)).any (·.1)=false:=by rfl) :
    PE X (.Call (.Name x p) (e :: es) [] pos) (sh sp dvs E t):=by
  intro pins s σ H Q I h;refine wpAny_Call_Name_kw (hV I hg hm ?_ hdb);refine PySem.W.callWith_K (h₀:=X.base) I.ok.mod.kin hk (thn (ha pos pins s σ H _ I h) fun us s1 ⟨vs,H1,I1,r,q⟩=>⟨I1.kIn,?_⟩) he hpl;exact wm F hr hb hd hx I1 r q
structure Mk (K:aaa) (C f:Addr):Prop where
  makes:PySem.W.makesIn K C=true
  init:abl K (.ref C) "__init__" = some (some (.ref f))
  fn:PySem.W.isFn K (.ref f)=true
  kp:abm K (.ref C)=true
end
section
variable {X:Cx} {CX:CXT} {k:Nat} {f C:Addr} {fd:FuncData} {ps ks:List Str} {sp:Sp} {E:XK} {x m:Str} {p pos apos kpos:Pos} {e o:Expr} {es:List Expr} {kws:List Keyword} {te ta:TE} {t tk:TA} {nm:Option Str}
structure KBinds (K:aaa) (fd:FuncData) (ps ks:List Str) (g:List Value→List Value→List Value) (gV:List V→List V→List V):Prop where
  to:∀ (s:Shared) (us ws:List Value),K.In s.heap→(g us ws).length=ps.length→BindsTo s fd ⟨us,ks.zip ws⟩ (ps.zip (g us ws))
  rel:∀ {vs:List V} {us:List Value} {zs:List V} {ws:List Value},Vals vs us→Vals zs ws→Vals (gV vs zs) (g us ws)
variable {g:List Value→List Value→List Value} {gV:List V→List V→List V}
end
structure FnScope (N P:List Str) (sc:Scope):Prop where
  kind:sc.kind=.function
  co:sc.isCoroutine=false
  gen:sc.isGenerator=false
  nd:N.Nodup
  pre:N.take P.length=P
  par:∀ x∈P,sc.names.lookup x=some .local∨sc.names.lookup x=some .cell
  nofree:∀ y∈sc.names,y.2≠.free
theorem lB {kindOf:Str→Option NameKind} {x:Str}:∀ {binds:List (Str × Value)} {m:Str→Option Value},(∀ v,(x,v)∉binds)→bindL kindOf binds m x=m x
  | [],_,_=>rfl
  | (n,v) :: r,m,h=>by
    unfold bindL;rw [lB fun w hw=>h w (aae _ hw)];split
    · have : x≠n:=by rintro rfl;exact h v aai
      simp [this]
    · rfl
theorem lD {kindOf:Str→Option NameKind} {x:Str}:∀ {binds:List (Str × Value)} {m:Str→Option Value},(∀ v,(x,v)∉binds)→bindC kindOf binds m x=m x
  | [],_,_=>rfl
  | (n,v) :: r,m,h=>by
    unfold bindC;rw [lD fun w hw=>h w (aae _ hw)];split
    · rfl
    · have : x≠n:=by rintro rfl;exact h v aai
      simp [this]
theorem lC {kindOf:Str→Option NameKind} {x:Str} {v:Value}:∀ {P:List Str} {vs:List Value} {i:Nat} {m:Str→Option Value},P.Nodup→P[i]?=some x→vs[i]?=some v→kindOf x=some .local →
    bindL kindOf (P.zip vs) m x=some v
  | [],_,_,_,_,h,_,_=>by simp at h
  | _ :: _,[],_,_,_,_,h,_=>by simp at h
  | p :: P,w :: vs,0,m,nd,h1,h2,hk=>by
    simp at h1 h2;subst h1;subst h2;show bindL kindOf ((p,w) :: P.zip vs) m p=_;unfold bindL;rw [lB fun v hv=>(acL.mp nd).1 (List.of_mem_zip hv).1,if_pos hk];simp
  | p :: P,w :: vs,i+1,m,nd,h1,h2,hk=>by
    show bindL kindOf ((p,w) :: P.zip vs) m x=_;unfold bindL;exact lC (i:=i) (acL.mp nd).2 (by simpa using h1) (by simpa using h2) hk
theorem lE {kindOf:Str→Option NameKind} {x:Str} {v:Value}:∀ {P:List Str} {vs:List Value} {i:Nat} {m:Str→Option Value},P.Nodup→P[i]?=some x→vs[i]?=some v→kindOf x≠some .local →
    bindC kindOf (P.zip vs) m x=some v
  | [],_,_,_,_,h,_,_=>by simp at h
  | _ :: _,[],_,_,_,_,h,_=>by simp at h
  | p :: P,w :: vs,0,m,nd,h1,h2,hk=>by
    simp at h1 h2;subst h1;subst h2;show bindC kindOf ((p,w) :: P.zip vs) m p=_;unfold bindC;rw [lD fun v hv=>(acL.mp nd).1 (List.of_mem_zip hv).1,if_neg hk];simp
  | p :: P,w :: vs,i+1,m,nd,h1,h2,hk=>by
    show bindC kindOf ((p,w) :: P.zip vs) m x=_;unfold bindC;exact lE (i:=i) (acL.mp nd).2 (by simpa using h1) (by simpa using h2) hk
def gX (N:List Str) (vs:List V):St:=vs.map some++abB (N.length - vs.length) none
def ke (CX:CXT) (P:Program) (w:World) (K:aaa) (mg:Str→Option Value) (base:Heap) (N:List Str) (qual:Str) (scope:Scope) (f:Addr) (cd:Value) (A:Around) (outer:List Env) (s:Shared) (H:Hp) (E:XK):Cx where
  prog:=P
  w:=w
  K:=K
  mg:=mg
  base:=base
  A:=A.deeper (envOfC qual scope s.heap.objs.size f cd)
  N:=N
  s₀:=s
  H₀:=H
  env:=envOfC qual scope s.heap.objs.size f cd
  outer:=outer
  stack:=envOfC qual scope s.heap.objs.size f cd :: outer
  ex:=[]
  calm:=true
  fn:=fun _=>true
  pn:=[]
  xe:=fun e s'=>wpAny (model P w) (A.deeper (envOfC qual scope s.heap.objs.size f cd)) (leaving (envOfC qual scope s.heap.objs.size f cd) e) (fun _ s''=>CX outer H s E e s'') (fun e' s''=>CX outer H s E e' s'') s'
theorem oo {sc:Scope} {n:Nat} {x:Str} (h:sc.names.lookup x=some .cell):∃ c,(cellsFrom n sc.names []).lookup x=some c:=by
  have q:=PySem.W.cellsFrom_some sc.names n [] (.inl h);exact acj.mp q
theorem rJ {CX:CXT} {P:Program} {w:World} {K:aaa} {mg:Str→Option Value} {base:Heap} {N ps:List Str} {qual:Str} {scope:Scope} {f:Addr} {cd:Value} {A:Around} {outer:List Env} {s s1:Shared} {H:Hp} {E:XK} {us:List Value} {vs:List V}
    (S:FnScope N ps scope) (hd:A.handled=none) (e0:Env0 P w K mg base A outer s H) (hl:vs.length=ps.length) (r:Vals vs us)
    (x:InCallC s s.heap.objs.size (bindL (envOfC qual scope s.heap.objs.size f cd).kindOf (ps.zip us) fun _=>none) (cellsFrom (s.heap.objs.size+1) scope.names []) (bindC (envOfC qual scope s.heap.objs.size f cd).kindOf (ps.zip us) fun _=>none) s1) :
    Inv (ke CX P w K mg base N qual scope f cd A outer s H E) [] (gX N vs) H s1:=by
  have hpl:ps.length≤N.length:=by have:=congrArg aa2 S.pre;rw [aav] at this;lia
  obtain ⟨h1,tk,rfl,hk⟩:=x.done;have noA:∀ b:Addr,b∉(ke CX P w K mg base N qual scope f cd A outer s H E).ex:=fun b z=>absurd (show b∈([]:List Addr) from z) (by simp);refine ⟨⟨e0.mod,S.kind,rfl,rfl,aab _,fun y z c h1 h2=>?_,fun y hy=>?_,fun y c _ h=>?_,fun _=>hd,Around.frames_deeper e0.frames,.inr ⟨rfl,rfl⟩,fun b z=>absurd z (noA b),e0.bs,e0.bsz,fun b _ _=>noA b,fun b z=>absurd z (noA b),e0.funs,e0.frf⟩,
    rfl,e0.bare,Un.kept hk,⟨_,x.toInCall.ns,fun i y v h1 h2 h3=>?_⟩,fun y c h=>⟨_,x.cell y c h⟩,e0.hok.fresh (aab _),fun y c h=>?_,fun p hp=>absurd (show p∈([]:List (Addr × Obj)) from hp) (by simp),e0.hok.kept hk,?_⟩
  · exact name_of_addr x.apart (abt h1) (abt h2)
  · have hy:scope.names.lookup y=some .cell∨scope.names.lookup y=some .free:=hy;rcases hy with hy|hy
    · exact oo hy
    · exact absurd rfl (S.nofree _ (abt hy))
  · exact abS (x.above y c (abt h))
  · have hi:i < vs.length:=by
      unfold gX at h2;by_cases hi:i < vs.length
      · exact hi
      · rw [acd (by simpa using hi)] at h2;rw [List.getElem?_replicate] at h2;split at h2 <;> cases h2
    have ha:vs[i]?=some v:=by
      unfold gX at h2;rw [List.getElem?_append_left (by simpa using hi),aar] at h2;cases e:vs[i]? with
      | none=>rw [e] at h2;cases h2
      | some a=>rw [e] at h2;cases h2;rfl
    obtain ⟨u,hu,rv⟩:=r.get ha;have hp:ps[i]?=some y:=by
      rw [← S.pre,List.getElem?_take_of_lt (by lia)];exact h1
    have ndP:ps.Nodup:=by rw [← S.pre];exact S.nd.sublist (List.take_sublist _ _)
    refine ⟨u,rv,?_⟩;rcases S.par y (aaM hp) with k|k
    · exact .inl ⟨k,lC ndP hp hu k⟩
    · obtain ⟨c,e⟩:=oo (n:=s.heap.objs.size+1) k;refine .inr ⟨.inl k,c,e,?_⟩;have q:=x.cell y c e;rw [lE ndP hp hu (by show scope.names.lookup y≠_;rw [k];decide)] at q;exact q
  · exact e0.hok.fresh (abS (x.above y c (abt h)))
  · unfold gX;show _=N.length;rw [aah,aaf,List.length_replicate];lia
theorem vM {CX:CXT} {P:Program} {w:World} {K:aaa} {mg:Str→Option Value} {base:Heap} {k:Nat} {f:Addr} {name qual:Str} {params:Arguments} {body:List Stmt} {scope:Scope} {dV kV doc pm cdv ct oc:Value} {an od:Option Addr}
    {osl:Array (Option Value)} {N ps:List Str} {sp:Sp} (lk:K.lookup f=some ⟨oc,od,.func (abw name qual params body scope dV kV doc pm an cdv ct),osl⟩) (hcd:abX K cdv qual=true) (S:FnScope N ps scope)
    (len:∀ vs H Q E,sp vs H Q E→vs.length=ps.length)
    (hbody:∀ (A:Around) (outer:List Env) (s:Shared) (H:Hp) (vs:List V) (Q:VK) (E:XK),Room k (A.deeper (envOfC qual scope s.heap.objs.size f cdv))→sp vs H Q E →
      ∃ t,PSs (ke CX P w K mg base N qual scope f cdv A outer s H E) body t∧t { nx:=fun _ H'=>Q .non H',rt:=Q } (gX N vs) H) :
    FnOk P w K mg base CX (k+1) f (abw name qual params body scope dV kV doc pm an cdv ct) ps sp:=by
  refine ⟨len,fun A outer s H args us vs Q E hr e0 hb r hsp=>?_⟩;have hl:=len _ _ _ _ hsp;have KX:K.In s.heap:=e0.mod.kin.keeps fun b o e=>(e0.bs b o e).1;have lim:s.heap.NoLimit:=e0.mod.nolimit.keeps fun b o e=>(e0.bs b o e).1;have hkind:∀ y∈ps.zip us,scope.names.lookup y.1=some .local∨(scope.names.lookup y.1=some .cell∧((cellsFrom (s.heap.objs.size+1) scope.names []).lookup y.1).isSome=true):=fun ⟨n,v⟩ hy=>by
    rcases S.par n (List.of_mem_zip hy).1 with q|q
    · exact .inl q
    · exact .inr ⟨q,PySem.W.cellsFrom_some _ _ _ (.inl q)⟩
  refine codeAny_call_function hr.depth (KX _ _ lk) rfl S.co S.gen rfl (PySem.W.codeRec_of KX hcd) (hb _ _ _ _ ?_);refine wpAny_newFunctionEnv_cells S.kind hkind fun env he s1 x=>?_;subst he;refine ⟨lim.keeps x.toInCall.keep,codeAny_func ?_⟩;obtain ⟨t,ht,hq⟩:=hbody A outer s H vs Q E (hr.deeper _) hsp;have I:Inv (ke CX P w K mg base N qual scope f cdv A outer s H E) [] (gX N vs) H s1:=rJ S hr.hd e0 hl r x;refine wpAny_mono (ht [] s1 (gX N vs) H _ I hq) (fun fl s' hs=>?_) fun e s' hs=>hs;have fin:∀ {σ':St} {H':Hp} {v:V} {u:Value},Inv (ke CX P w K mg base N qual scope f cdv A outer s H E) [] σ' H' s'→RelV v u→Q v H'→CE outer P w H s Q u s' :=
    fun {σ' H' v u} J rv q=>⟨v,H',J.os,J.bare,J.base,J.hok,rv,q⟩
  cases fl with
  | ret u =>
    obtain ⟨v,σ',H',J,rv,q⟩:=hs;exact fin J rv q
  | next =>
    obtain ⟨σ',H',J,q⟩:=hs;exact fin (v:=V.non) (u:=Value.none) J rfl q
  | brk =>
    obtain ⟨_,_,_,q⟩:=hs;exact abq q
  | cont =>
    obtain ⟨_,_,_,q⟩:=hs;exact abq q
open PySem PySem.Spec PyProof.Rows
section
variable {X:Cx} {x:Str} {p pos:Pos} {e:Expr} {es:List Expr} {t:TA} {id T:String} {r:List V→Hp→VK→Prop}
def tCB (r:List V→Hp→VK→Prop) (t:TA):TE:=fun σ H Q=>t σ H fun vs H1=>r vs H1 Q
theorem ap (hc:dF X (.builtin id) r) (hg:Gl X x) (hm:X.mg x=none) (hv:bootBuiltins x=some (.builtin id)) (ha:PA X (e :: es) t) (hn:x ≠ "__name__":=by decide) (hdb:(x == ("__debug__":Str))=false:=by decide)
    (he:starEach (e :: es) X.env=(false,eval e X.env) :: starEach es X.env:=by rfl) (hpl:(backTo pos (starEach es X.env)).any (·.1)=false:=by rfl):PE X (.Call (.Name x p) (e :: es) [] pos) (tCB r t):=by
  intro pins s σ H Q I h;refine wpAny_Call_Name_kw (fh I hg hm hv ?_ hn hdb);exact PyProof.Rows.callWith_builtin1 (thn (ha pos pins s σ H _ I h) fun us s1 ⟨vs,H1,I1,r1,q1⟩=>hc pins s1 σ H1 vs us Q I1 r1 q1) he hpl
theorem bn (hc:dF X (.type T) r) (hg:Gl X x) (hm:X.mg x=none) (hv:bootBuiltins x=some (.type T)) (ha:PA X (e :: es) t) (hn:x ≠ "__name__":=by decide) (hdb:(x == ("__debug__":Str))=false:=by decide)
    (he:starEach (e :: es) X.env=(false,eval e X.env) :: starEach es X.env:=by rfl) (hpl:(backTo pos (starEach es X.env)).any (·.1)=false:=by rfl):PE X (.Call (.Name x p) (e :: es) [] pos) (tCB r t):=by
  intro pins s σ H Q I h;refine wpAny_Call_Name_kw (fh I hg hm hv ?_ hn hdb);exact aa3 (thn (ha pos pins s σ H _ I h) fun us s1 ⟨vs,H1,I1,r1,q1⟩=>hc pins s1 σ H1 vs us Q I1 r1 q1) he hpl
end
end L2
namespace HT
open PySem PyProof.Rows
section
open PySem.SeqAt
open PySem.AutoSeq1 (wpAny_loadPart')
open PySem.MeetsSeq PySem.MeetsSeq2 PySem.MeetsSeq3
end
section
variable {prog:Program} {w:World} {A:Around} {E:Value→Shared→Prop} {s:Shared}
def sIx (n d:Nat):Option Int→Nat
  | none=>d
  | some v=>if v < 0 then (v+(n:Int)).toNat else min v.toNat n
end
end HT
namespace L2
open PySem PySem.Spec PyProof.Rows
abbrev TO:=St→Hp→(Option Int→Hp→Prop)→Prop
def PO (X:Cx) (e:Option Expr) (t:TO):Prop :=
  ∀ (pins:List (Addr × Obj)) (s:Shared) (σ:St) (H:Hp) (Q:Option Int→Hp→Prop),Inv X pins σ H s→t σ H Q →
    wpAny (model X.prog X.w) X.A (evalPart e X.env) (fun u s'=>∃ o H',Inv X pins σ H' s'∧IsPart u o∧Q o H') X.xe s
def uH:TO:=fun _ H Q=>Q none H
def xB (t:TE):TO:=fun σ H Q=>t σ H fun x H1=>∃ i,x=.int i∧Q (some i) H1
section
variable {X:Cx} {e:Expr} {te:TE} {lo hi:Option Expr} {tl th:TO} {pos p2:Pos}
theorem bi:PO X none uH:=by
  intro pins s σ H Q I h;rw [evalPart_none];exact wpAny_pure ⟨none,H,I,.none,h⟩
theorem aY (h:PE X e te):PO X (some e) (xB te):=by
  intro pins s σ H Q I hw;rw [evalPart_some];refine thn (h pins s σ H _ I hw) fun u s1 ⟨x,H1,I1,r1,q1⟩=>?_;obtain ⟨i,rfl,q⟩:=q1;obtain ⟨t,rfl⟩:=r1;exact ⟨some i,H1,I1,.int i t,q⟩
def SlR (X:Cx) (r:V→Option Int→Option Int→Hp→VK→Prop):Prop :=
  ∀ (pins:List (Addr × Obj)) (s:Shared) (σ:St) (H:Hp) (x:V) (v vl vu:Value) (lo hi:Option Int) (sl:Addr) (Q:VK),Inv X pins σ H s→RelV x v→s.heap.IsSliceOf sl vl vu .none→IsPart vl lo→IsPart vu hi→r x lo hi H Q →
    ∃ T id,typeLookup (.type T) "__getitem__" = pure (some (.builtin id))∧s.TypeIs v T∧wpAny (model X.prog X.w) X.A (getItem v (.ref sl)) (EP X pins σ Q) X.xe s
def tSl (r:V→Option Int→Option Int→Hp→VK→Prop) (te:TE) (tl th:TO):TE:=fun σ H Q=>te σ H fun x H1=>tl σ H1 fun l H2=>th σ H2 fun u H3=>r x l u H3 Q
theorem aX {r:V→Option Int→Option Int→Hp→VK→Prop} (hr:SlR X r) (he:PE X e te) (hl:PO X lo tl) (hu:PO X hi th):PE X (.Subscript e (.Slice lo hi none p2) pos) (tSl r te tl th):=by
  intro pins s σ H Q I h;refine Subscript_ (thn (he pins s σ H _ I h) fun v s1 ⟨x,H1,I1,r1,q1⟩=>?_);refine wpAny_Slice (thn (hl pins s1 σ H1 _ I1 q1) fun vl s2 ⟨l,H2,I2,pl,q2⟩=>thn (hu pins s2 σ H2 _ I2 q2) fun vu s3 ⟨u,H3,I3,pu,q3⟩=>?_);rw [evalPart_none];refine wpAny_pure ?_;have I4:Inv X pins σ H3 { s3 with heap:=s3.heap.push { cls:=.type "slice",data:=.fields #[vl,vu,.none] } }:=I3.kept (t':=s3.toks) fun b ob q=>aak _ q;obtain ⟨T,id,hT,ht,hg⟩:=hr pins { s3 with heap:=s3.heap.push { cls:=.type "slice",data:=.fields #[vl,vu,.none] } } σ H3 x v vl vu l u s3.heap.objs.size Q I4 r1 (Heap.IsSliceOf.new ..) pl pu q3;show wpAny (model X.prog X.w) X.A (subscriptTail e (.Slice lo hi none p2) v (.ref s3.heap.objs.size)) (EP X pins σ Q) X.xe { s3 with heap:=s3.heap.push { cls:=.type "slice",data:=.fields #[vl,vu,.none] } };exact tail_any (ops:=[.ref s3.heap.objs.size,v]) ht hT hg (by with_unfolding_all rfl)
def eR (xs:List V) (lo hi:Option Int):List V:=(xs.drop (HT.sIx xs.length 0 lo)).take (HT.sIx xs.length xs.length hi - HT.sIx xs.length 0 lo)
theorem ol (xs:List V) (lo hi:Option Int):(eR xs lo hi).length≤xs.length:=by
  unfold eR;rw [aav,aay];lia
end
open PySem PySem.Spec PyProof.Rows
def ixN (n:Nat) (i:Int):Option Nat:=if 0≤i then (if i < n then some i.toNat else none) else if -(n:Int)≤i then some (i+n).toNat else none
def atI {α:Type} (xs:List α) (i:Int):Option α:=(ixN xs.length i).bind fun j=>xs[j]?
theorem mx {n:Nat} {i:Int} {j:Nat} (h:ixN n i=some j):seqIndex? i n=some j∧j < n∧-(n:Int)≤i∧i < n:=by
  unfold ixN at h;by_cases h0:0≤i
  · rw [if_pos h0] at h;by_cases h1:i < n
    · rw [if_pos h1] at h;have e:i.toNat=j:=abd h;exact ⟨by rw [seqIndex_of h0 h1,e],by lia,by lia,h1⟩
    · rw [if_neg h1] at h;cases h
  · rw [if_neg h0] at h;by_cases h1:-(n:Int)≤i
    · rw [if_pos h1] at h;have e:(i+n).toNat=j:=abd h;exact ⟨by rw [seqIndex_neg (by lia) h1,e],by lia,h1,by lia⟩
    · rw [if_neg h1] at h;cases h
theorem mL {α:Type} {xs:List α} {i:Int} {v:α} (h:atI xs i=some v):∃ j,seqIndex? i xs.length=some j∧xs[j]?=some v∧j < xs.length∧-(xs.length:Int)≤i∧i < xs.length:=by
  unfold atI at h;cases e:ixN xs.length i with
  | none=>rw [e] at h;cases h
  | some j =>
    rw [e] at h;obtain ⟨h1,h2,h3,h4⟩:=mx e;exact ⟨j,h1,h,h2,h3,h4⟩
theorem bA {α:Type} {xs:List α} {j:Nat} {v:α} (h:xs[j]?=some v):atI xs (j:Int)=some v:=by
  have hj:j < xs.length:=(aam.mp h).1;have e:ixN xs.length (j:Int)=some j:=by
    unfold ixN;rw [if_pos (by lia),if_pos (by lia)];simp
  unfold atI;rw [e];exact h
theorem uv {α:Type} (xs:List α) (v:α):atI (xs++[v]) (-1)=some v:=by
  have hl:(xs++[v]).length=xs.length+1:=by simp
  have e:ixN (xs++[v]).length (-1)=some xs.length:=by
    unfold ixN;rw [hl,if_neg (by decide),if_pos (by lia)];congr 1;lia
  unfold atI;rw [e];show (xs++[v])[xs.length]?=some v;simp
def vC (b:Expr):Prop:=∀ o i,subscripted b false o i=operate [o,i] (getItem o i)
def IxR (X:Cx) (r:R2):Prop :=
  ∀ (value slice:Expr) (pins:List (Addr × Obj)) (s:Shared) (σ:St) (H:Hp) (x y:V) (v u:Value) (Q:VK),Inv X pins σ H s→RelV x v→RelV y u→r x y H Q →
    subscripted slice false v u=operate [v,u] (getItem v u)→wpAny (model X.prog X.w) X.A (subscriptTail value slice v u) (EP X pins σ Q) X.xe s
def MtR (X:Cx) (id:String) (r:V→List V→Hp→VK→Prop):Prop :=
  ∀ (pins:List (Addr × Obj)) (s:Shared) (σ:St) (H:Hp) (x:V) (xs:List V) (v:Value) (us:List Value) (Q:VK),Inv X pins σ H s→RelV x v→Vals xs us→r x xs H Q →
    wpAny (model X.prog X.w) X.A (call (.builtin id) (v :: us)) (EP X pins σ Q) X.xe s
section
variable {X:Cx} {a b:Expr} {ta tb:TE} {pos:Pos}
theorem IxR.or {r r':R2} (h:IxR X r) (h':IxR X r'):IxR X (fun x y H Q=>r x y H Q∨r' x y H Q):=by
  intro value slice pins s σ H x y v u Q I rx ry q hs;rcases q with q|q
  · exact h value slice pins s σ H x y v u Q I rx ry q hs
  · exact h' value slice pins s σ H x y v u Q I rx ry q hs
theorem aK {r:R2} (hr:IxR X r) (ha:PE X a ta) (hb:PE X b tb) (hs:vC b):PE X (.Subscript a b pos) (tOp r ta tb):=by
  intro pins s σ H Q I h;exact Subscript_ (xk ha hb I h fun v u s2 x y H2 I2 rx ry q=>hr a b pins s2 σ H2 x y v u Q I2 rx ry q (hs _ _))
def wt (K:aaa):R2:=fun x y H Q=>∃ p xs i v,x=.ref p∧y=.int i∧SqL K H p xs∧atI xs i=some v∧Q v H
def xK (K:aaa):R2:=fun x y H Q=>∃ p xs i v,x=.ref p∧y=.int i∧SqT K H p xs∧atI xs i=some v∧Q v H
def xL:R2:=fun x y H Q=>∃ z i c,x=.str z∧y=.int i∧z.length≤sizeLine∧atI z.cps.toList i=some c∧Q (.str ⟨#[c]⟩) H
theorem ix_list:IxR X (wt X.K):=by
  intro value slice pins s σ H x y v u Q I rx ry h hs;obtain ⟨p,xs,i,z,rfl,rfl,hq,he,q⟩:=h;cases rx;obtain ⟨t,rfl⟩:=ry;obtain ⟨its,r,pl,hz⟩:=I.list hq;obtain ⟨j,h1,h2,h3,h4,h5⟩:=mL he;obtain ⟨w,ew,rw'⟩:=r.get h2;have hl:=r.length;have hn:=gN;have fin:EP X pins σ Q w s:=⟨z,H,I,rw',q⟩
  by_cases h0:0≤i
  · have hj:i.toNat=j:=by
      rw [seqIndex_of h0 h5] at h1;exact abd h1
    exact item_listR pl.isList h0 (by lia) (by rw [hj];simpa using ew) fin hs
  · have hj:(i+(its.toArray.size:Int)).toNat=j:=by
      rw [seqIndex_neg (by lia) h4] at h1;rw [aal,← hl];exact abd h1
    exact subscriptTail_builtinR (x:=w) pl.isList.typeIs slot_list_getitem.lookup
      (wpAny_getItem_list_neg (Q:=fun r s'=>r=w∧EP X pins σ Q r s') pl.isList (by lia) (by rw [aal] <;> lia) (by lia) (by rw [hj];simpa using ew) ⟨rfl,fin⟩) hs
theorem ix_tup:IxR X (xK X.K):=by
  intro value slice pins s σ H x y v u Q I rx ry h hs;obtain ⟨p,xs,i,z,rfl,rfl,hq,he,q⟩:=h;cases rx;obtain ⟨t,rfl⟩:=ry;obtain ⟨its,r,pl,hz⟩:=I.tuple hq;obtain ⟨j,h1,h2,h3,h4,h5⟩:=mL he;obtain ⟨w,ew,rw'⟩:=r.get h2;have hl:=r.length;have hn:=gN;have fin:EP X pins σ Q w s:=⟨z,H,I,rw',q⟩
  exact subscriptTail_builtinR (x:=w) pl.typeIs slot_tuple_getitem.lookup
    (getItem_tuple (j:=j) (Q:=fun r s'=>r=w∧EP X pins σ Q r s') pl (by lia) (by lia) (by rw [aal,← hl];exact h1) (by simpa using ew) ⟨rfl,fin⟩) hs
theorem bG:IxR X xL:=by
  intro value slice pins s σ H x y v u Q I rx ry h hs;obtain ⟨z,i,c,rfl,rfl,hz,he,q⟩:=h;obtain ⟨t,rfl⟩:=rx;obtain ⟨t',rfl⟩:=ry;obtain ⟨j,h1,h2,h3,h4,h5⟩:=mL he;have hl:z.cps.toList.length=z.length:=by simp [Str.length]
  rw [hl] at h1 h4 h5;have hn:=gN;exact tail_any (typeIs_str s z t) slot_str_getitem.lookup (getItem_str (c:=c) (by
    have e1:decide (i < -(2 ^ 63:Int))=false:=decide_eq_false (by lia);have e2:decide (i ≥ 2 ^ 63)=false:=decide_eq_false (by lia);rw [e1,e2,Bool.or_false]) (by rw [h1];simpa using h2) ⟨.str ⟨#[c]⟩,H,I.tok _,⟨_,rfl⟩,q⟩) hs
def rIx (K:aaa):R2:=fun x y H Q=>wt K x y H Q∨xK K x y H Q∨xL x y H Q
theorem wU:IxR X (rIx X.K):=ix_list.or (ix_tup.or bG)
theorem ph (its:List Value) (n j:Nat) (u:Value):Obj.mapSeq (·.setIfInBounds j u) { cls:=.type "list",data:=.seq its.toArray n }={ cls:=.type "list",data:=.seq (its.set j u).toArray n }:=by
  simp [Obj.mapSeq]
theorem Inv.lst {pins:List (Addr × Obj)} {σ:St} {H:Hp} {s:Shared} {p:Addr} {xs:List V} (I:Inv X pins σ H s) (h:H p=some (.lst xs)) :
    ∃ (its:List Value) (n:Nat),Vals xs its∧s.heap.get? p=some { cls:=.type "list",data:=.seq its.toArray n }∧xs.length≤sizeLine:=by
  obtain ⟨z,its,n,r,e⟩:=I.hok p _ h;exact ⟨its,n,r,e,z⟩
theorem Inv.lstUpd {pins:List (Addr × Obj)} {σ:St} {H:Hp} {s:Shared} {p:Addr} {xs ys:List V} {its its':List Value} {n n':Nat} {f:Obj→Obj} (I:Inv X pins σ H s) (h:H p=some (.lst xs))
    (ho:s.heap.get? p=some { cls:=.type "list",data:=.seq its.toArray n }) (hf:f { cls:=.type "list",data:=.seq its.toArray n }={ cls:=.type "list",data:=.seq its'.toArray n' }) (r:Vals ys its') (hz:ys.length≤sizeLine) (t:Nat) :
    Inv X pins σ (upd H p (.lst ys)) { s with heap:=s.heap.update p f,toks:=t }:=by
  have e:(s.heap.update p f).get? p=some { cls:=.type "list",data:=.seq its'.toArray n' }:=by
    rw [Heap.get?_update_self f ho (by rw [hf] <;> rfl),hf]
  refine I.write (x:=p) (e:=p) (by rw [h];trivial) (.inl rfl) (fun b u hb q=>(Heap.get?_update_other _ _ (abM hb)).trans q) ⟨_,e⟩ ?_;exact ⟨hz,its',n',r,e⟩
def xJ:V→V→V→Hp→(Hp→Prop)→Prop:=fun o i v H Q=>∃ p xs k j,o=.ref p∧i=.int k∧H p=some (.lst xs)∧ixN xs.length k=some j∧Q (upd H p (.lst (xs.set j v)))
theorem gY:yl X xJ:=by
  intro pins s σ H o i v ov iv u Q I ro ri rv h;obtain ⟨p,xs,k,j,rfl,rfl,hp,hj,q⟩:=h;cases ro;obtain ⟨t,rfl⟩:=ri;obtain ⟨its,n,r,ho,hz⟩:=I.lst hp;obtain ⟨h1,h2,h3,h4⟩:=mx hj;have hl:=r.length;have hn:=gN;have I':Inv X pins σ (upd H p (.lst (xs.set j v))) { s with heap:=s.heap.update p (Obj.mapSeq (·.setIfInBounds j u)) } :=
    I.lstUpd hp ho (ph its n j u) (r.set rv j) (by rw [List.length_set];exact hz) s.toks
  by_cases h0:0≤k
  · have hk:k.toNat=j:=by
      rw [seqIndex_of h0 h4] at h1;exact abd h1
    exact PySem.W.ki_setAt ho h0 (by lia) (by rw [aal,← hl];exact h4) (by rw [hk];exact ⟨_,I',q⟩)
  · have hk:(k+(its.toArray.size:Int)).toNat=j:=by
      rw [seqIndex_neg (by lia) h3] at h1;rw [aal,← hl];exact abd h1
    exact PySem.W.ki_setBack ho (by lia) (by rw [aal,← hl];exact h3) (by lia) (by rw [hk];exact ⟨_,I',q⟩)
theorem lO (lo hi:Option Int) (n:Nat):(sliceBounds lo hi none n).1=((HT.sIx n 0 lo:Nat):Int)∧(sliceBounds lo hi none n).2.1=((HT.sIx n n hi:Nat):Int)∧(sliceBounds lo hi none n).2.2=1:=by
  refine ⟨?_,?_,rfl⟩
  · cases lo with
    | none=>simp [sliceBounds,HT.sIx]
    | some i =>
      simp only [sliceBounds,HT.sIx,Option.getD_none,show (1:Int) > 0 by decide,if_true];by_cases h:i < 0
      · simp only [h,if_true] <;> lia
      · simp only [h,if_false] <;> lia
  · cases hi with
    | none=>simp [sliceBounds,HT.sIx]
    | some i =>
      simp only [sliceBounds,HT.sIx,Option.getD_none,show (1:Int) > 0 by decide,if_true];by_cases h:i < 0
      · simp only [h,if_true] <;> lia
      · simp only [h,if_false] <;> lia
theorem kj (its:List Value) (lo hi:Option Int):slicePick its.toArray lo hi none=((its.drop (HT.sIx its.length 0 lo)).take (HT.sIx its.length its.length hi - HT.sIx its.length 0 lo)).toArray:=by
  obtain ⟨h1,h2,h3⟩:=lO lo hi its.toArray.size;unfold slicePick;rw [h1,h2,h3];simp only [sliceRange_one,pick_run,aal] <;> rfl
def yz (K:aaa):V→Option Int→Option Int→Hp→VK→Prop:=fun x lo hi H Q=>∃ a xs,x=.ref a∧SqL K H a xs∧∀ p,H p=none→Q (.ref p) (upd H p (.lst (eR xs lo hi)))
theorem dj:SlR X (yz X.K):=by
  intro pins s σ H x v vl vu lo hi sl Q I rx hs pl pu h;obtain ⟨a,xs,rfl,hx,q⟩:=h;cases rx;obtain ⟨its,r,ht,hz⟩:=I.list hx;have hlen:=r.length;refine ⟨"list",_,slot_list_getitem.lookup,ht.isList.typeIs,?_⟩;refine wpAny_getItem_list_slice ht.isList hs pl pu .none (by simp) ?_ (by rw [aal] <;> lia);rw [kj,← hlen];refine ⟨.ref s.heap.objs.size,_,I.laid (t':=s.toks) (o:=.lst (eR xs lo hi)) (fun b ob q=>aak _ q) (aab _) ?_,rfl,q _ (I.hok.fresh (aab _))⟩;exact ⟨aa9 (ol xs lo hi) hz,_,0,(r.drop (HT.sIx xs.length 0 lo)).take (HT.sIx xs.length xs.length hi - HT.sIx xs.length 0 lo),aaJ _ rfl⟩
def eP:V→Bool
  | .non=>true
  | .bl _=>true
  | .int _=>true
  | .str _=>true
  | _=>false
def eqV:V→V→Bool
  | .non,.non=>true
  | .bl a,.bl b=>a == b
  | .bl a,.int b=>(if a then 1 else 0) == b
  | .int a,.bl b=>a == (if b then 1 else 0)
  | .int a,.int b=>a == b
  | .str a,.str b=>a == b
  | _,_=>false
theorem tX {A:Around} {s:Shared} {y x:V} {u v:Value} (ry:RelV y u) (rx:RelV x v) (fy:eP y=true) (fx:eP x=true):SeqAt.EqAt A s u v (eqV y x):=by
  cases y with
  | non =>
    cases ry;cases x with
    | non=>cases rx;exact acq _
    | bl b=>cases rx;exact SeqAt.EqAt.none_bool b
    | int b=>obtain ⟨t,rfl⟩:=rx;exact SeqAt.EqAt.none_int b t
    | str b=>obtain ⟨t,rfl⟩:=rx;exact SeqAt.EqAt.none_str b t
    | _=>exact absurd (show false=true from fx) aap
  | bl a =>
    cases ry;cases x with
    | non=>cases rx;exact SeqAt.EqAt.bool_none a
    | bl b=>cases rx;exact SeqAt.EqAt.bool_bool a b
    | int b=>obtain ⟨t,rfl⟩:=rx;exact SeqAt.EqAt.bool_int a b t
    | str b=>obtain ⟨t,rfl⟩:=rx;exact SeqAt.EqAt.bool_str a b t
    | _=>exact absurd (show false=true from fx) aap
  | int a =>
    obtain ⟨t',rfl⟩:=ry;cases x with
    | non=>cases rx;exact SeqAt.EqAt.int_none a t'
    | bl b=>cases rx;exact SeqAt.EqAt.int_bool a t' b
    | int b=>obtain ⟨t,rfl⟩:=rx;exact SeqAt.EqAt.int_int a t' b t
    | str b=>obtain ⟨t,rfl⟩:=rx;exact SeqAt.EqAt.int_str a t' b t
    | _=>exact absurd (show false=true from fx) aap
  | str a =>
    obtain ⟨t',rfl⟩:=ry;cases x with
    | non=>cases rx;exact SeqAt.EqAt.str_none a t'
    | bl b=>cases rx;exact SeqAt.EqAt.str_bool a t' b
    | int b=>obtain ⟨t,rfl⟩:=rx;exact SeqAt.EqAt.str_int a t' b t
    | str b=>obtain ⟨t,rfl⟩:=rx;exact SeqAt.EqAt.str_str a t' b t
    | _=>exact absurd (show false=true from fx) aap
  | _=>exact absurd (show false=true from fy) aap
def eqU (x:V) (u:Value):Bool:=match u with
  | .none=>eqV .non x
  | .bool b=>eqV (.bl b) x
  | .int i _=>eqV (.int i) x
  | .str z _=>eqV (.str z) x
  | _=>false
theorem tW {x y:V} {u:Value} (r:RelV y u) (f:eP y=true):eqU x u=eqV y x:=by
  cases y with
  | non=>cases r;rfl
  | bl b=>cases r;rfl
  | int i=>obtain ⟨t,rfl⟩:=r;rfl
  | str z=>obtain ⟨t,rfl⟩:=r;rfl
  | _=>exact absurd (show false=true from f) aap
theorem mM {x:V}:∀ {xs:List V} {us:List Value},Vals xs us→xs.all eP=true→us.any (eqU x)=xs.any fun y=>eqV y x
  | _,_,.nil,_=>rfl
  | y :: xs,u :: us,.cons r t,f=>by
    rw [List.all_cons,abk] at f;rw [abU,abU,tW r f.1,mM t f.2]
theorem fS {A:Around} {s:Shared} {x:V} {v:Value} (rx:RelV x v) (fx:eP x=true):∀ {xs:List V} {us:List Value},Vals xs us→xs.all eP=true→∀ u∈us,SeqAt.EqAt A s u v (eqU x u)
  | _,_,.nil,_=>fun u hu=>by cases hu
  | y :: xs,u :: us,.cons r t,f=>fun u' hu=>by
    rw [List.all_cons,abk] at f;rcases aaj.mp hu with rfl|hu
    · rw [tW r f.1];exact tX r rx f.1 fx
    · exact fS rx fx t f.2 u' hu
def inV (x:V) (xs:List V):Bool:=xs.any fun y=>eqV y x
def rIn (K:aaa) (neg:Bool):R2:=fun x y H Q=>∃ p xs,y=.ref p∧(SqL K H p xs∨SqT K H p xs)∧eP x=true∧xs.all eP=true∧Q (.bl (if neg then !inV x xs else inV x xs)) H
theorem eM:OpR X (compareOp .In) (rIn X.K false):=by
  intro pins s σ H x y v u Q I rx ry h;obtain ⟨p,xs,rfl,hq,fx,fs,q⟩:=h;cases ry;rcases hq with hq|hq
  · obtain ⟨its,r,pl,hz⟩:=I.list hq;refine SeqAt.in_listAt (eqU x) pl.isList (fun w hw=>fS rx fx r fs w (by simpa using hw)) ⟨.bl _,H,I,rfl,?_⟩;rw [show its.toArray.any (eqU x)=its.any (eqU x) by simp,mM r fs];exact q
  · obtain ⟨its,r,pl,hz⟩:=I.tuple hq;refine SeqAt.in_tupleAt (eqU x) pl (fun w hw=>fS rx fx r fs w (by simpa using hw)) ⟨.bl _,H,I,rfl,?_⟩;rw [show its.toArray.any (eqU x)=its.any (eqU x) by simp,mM r fs];exact q
theorem dJ:OpR X (compareOp .NotIn) (fun x y H Q=>∃ i j,x=.str i∧y=.str j∧Q (.bl (!(!(aaB j i 0 j.length 1).isEmpty))) H):=by
  intro pins s σ H x y v u Q I rx ry h;obtain ⟨i,j,rfl,rfl,q⟩:=h;obtain ⟨t,rfl⟩:=rx;obtain ⟨t',rfl⟩:=ry;exact notIn_str ⟨.bl _,H,I,rfl,q⟩
theorem a6:dF X (.builtin "len") (fun xs H Q=>∃ p ys,xs=[.ref p]∧(SqL X.K H p ys∨SqT X.K H p ys)∧Q (.int ys.length) H):=by
  intro pins s σ H xs us Q I r h;obtain ⟨p,ys,rfl,hq,q⟩:=h;obtain ⟨u,rfl,rx⟩:=cH r;cases rx;have hn:=gN;rcases hq with hq|hq
  · obtain ⟨its,r',pl,hz⟩:=I.list hq;have hlen:=r'.length;exact Calls.call_len_list pl.isList (by simp only [aal] <;> lia) ⟨.int ys.length,H,I.tok _,⟨s.toks+1,by rw [aal,hlen]⟩,q⟩
  · obtain ⟨its,r',pl,hz⟩:=I.tuple hq;have hlen:=r'.length;exact len_tuple pl (by simp only [aal] <;> lia) ⟨.int ys.length,H,I.tok _,⟨s.toks+1,by rw [aal,hlen]⟩,q⟩
theorem bH:dF X (.builtin "len") (fun xs H Q=>∃ z,xs=[.str z]∧z.length≤sizeLine∧Q (.int z.length) H):=by
  intro pins s σ H xs us Q I r h;obtain ⟨z,rfl,hz,q⟩:=h;obtain ⟨u,rfl,t,rfl⟩:=cH r;have hn:=gN;exact len_str (by lia) ⟨.int z.length,H,I.tok _,⟨_,rfl⟩,q⟩
def tyV (K:aaa) (T:String) (x:V) (H:Hp):Prop:=match x with
  | .str _=>T = "str"
  | .int _=>T = "int"
  | .ref p=>(T = "list"∧∃ xs,SqL K H p xs)∨(T = "tuple"∧∃ o,K.lookup p=some o∧o.cls=.type "tuple"∧o.dict=none) ∨
      (T = "dict"∧((∃ kvs,H p=some (.dK kvs))∨∃ kvs,H p=some (.dT kvs)))∨(T = "set"∧∃ S n,H p=some (.set S n))
  | _=>False
theorem rZ {pins:List (Addr × Obj)} {σ:St} {H:Hp} {s:Shared} {T:String} {x:V} {v:Value} (I:Inv X pins σ H s) (r:RelV x v) (ty:tyV X.K T x H) :
    s.TypeIs v T∧∀ a,v=.ref a→∃ ob,s.heap.get? a=some ob∧ob.dict=none:=by
  cases x with
  | str z =>
    obtain ⟨t,rfl⟩:=r;cases (show T = "str" from ty);exact ⟨typeIs_str s z t,fun _ e=>nomatch e⟩
  | int i =>
    obtain ⟨t,rfl⟩:=r;cases (show T = "int" from ty);exact ⟨typeIs_int s i t,fun _ e=>nomatch e⟩
  | ref p =>
    cases r;rcases ty with ⟨rfl,xs,hq⟩|⟨rfl,o,hk,hc,hd⟩|⟨rfl,hk⟩|⟨rfl,S,n,hk⟩
    · obtain ⟨its,_,pl,_⟩:=I.list hq;refine ⟨pl.isList.typeIs,fun a e=>?_⟩;cases e;obtain ⟨o,n,e,c,hd,_⟩:=pl;exact ⟨o,e,hd⟩
    · refine ⟨⟨o,I.kIn p o hk,hc⟩,fun a e=>?_⟩;cases e;exact ⟨o,I.kIn _ o hk,hd⟩
    · have z:∃ o,s.heap.get? p=some o∧o.ExactDict:=by
        rcases hk with ⟨kvs,hk⟩|⟨kvs,hk⟩
        · obtain ⟨_,_,_,_,o,_,_,e,ex,_⟩:=I.hok p _ hk;exact ⟨o,e,ex⟩
        · obtain ⟨_,_,_,_,o,_,_,e,ex,_⟩:=I.hok p _ hk;exact ⟨o,e,ex⟩
      obtain ⟨o,e,ex⟩:=z;refine ⟨⟨o,e,ex.1⟩,fun a e2=>?_⟩;cases e2;exact ⟨o,e,ex.2.1⟩
    · obtain ⟨o,_,_,_,e,ex,_⟩:=I.hok p _ hk;refine ⟨⟨o,e,ex.1⟩,fun a e2=>?_⟩;cases e2;exact ⟨o,e,ex.2.1⟩
  | _=>exact abq ty
def tBM (K:aaa) (T:String) (r:V→List V→Hp→VK→Prop) (to:TE) (t:TA):TE:=fun σ H Q=>to σ H fun x H1=>tyV K T x H1∧t σ H1 fun xs H2=>r x xs H2 Q
variable {o e:Expr} {es:List Expr} {to:TE} {t:TA} {name:Str} {apos cpos:Pos} {T id:String} {r:V→List V→Hp→VK→Prop}
theorem bV (pa:PlainAttrs T) (slot:Slot T name id) (hty:typeOf (.builtin id)=pure (.type "method_descriptor")) (hm:MtR X id r) (ho:PE X o to) (ha:PA X (e :: es) t)
    (hbase:attributeBase o name X.env (eval o X.env)=eval o X.env:=by rfl)
    (hfew:((backTo cpos (starEach (e :: es) X.env)).all (fun x=>!x.1) && (backToKw cpos (keywordEach [] X.env)).all (fun x=>x.1.isSome)
      && decide ((e :: es).length+([]:List Keyword).length+(if ([]:List Keyword).isEmpty then 0 else 1) < 30))=true:=by rfl)
    (hline:(apos.endLine == cpos.line)=true:=by rfl) (hs:starEach (e :: es) X.env=(false,eval e X.env) :: starEach es X.env:=by rfl) (hplain:(backTo cpos (starEach es X.env)).any (·.1)=false:=by rfl) :
    PE X (.Call (.Attribute o name apos) (e :: es) [] cpos) (tBM X.K T r to t):=by
  intro pins s σ H Q I h;refine wpAny_Call_method_late hbase hfew hline rfl (thn (ho pins s σ H _ I h) fun v s1 ⟨x,H1,I1,r1,ty,q1⟩=>?_);obtain ⟨h1,h2⟩:=rZ I1 r1 ty;refine ⟨T,id,pa,slot,hty,h1,h2,?_⟩;have hA:=ha cpos pins s1 σ H1 _ I1 q1;rw [hs] at hA ⊢;refine abY (by show (false || (backTo cpos (starEach es X.env)).any (·.1))=false;rw [hplain] <;> rfl) (abN ?_);exact thn hA fun us s2 ⟨vs,H2,I2,r2,q2⟩=>hm pins s2 σ H2 x vs v us Q I2 r1 r2 q2
end
open PySem PySem.Spec PyProof.Rows
def MtM (X:Cx) (id:String) (r:V→List V→Hp→VK→Prop):Prop :=
  ∀ (pins:List (Addr × Obj)) (s:Shared) (σ:St) (H:Hp) (x:V) (xs:List V) (v:Value) (us:List Value) (Q:VK),Inv X pins σ H s→RelV x v→Vals xs us→r x xs H Q →
    wpAny (model X.prog X.w) X.A (call (.builtin id) (v :: us)) (EP X pins σ Q) X.xe s
theorem Vals.one {x:V} {us:List Value} (h:Vals [x] us):∃ u,us=[u]∧RelV x u:=by
  cases h with
  | cons r t=>cases t;exact ⟨_,rfl,r⟩
theorem Vals.eraseIdx:∀ {xs:List V} {us:List Value} (i:Nat),Vals xs us→Vals (xs.eraseIdx i) (us.eraseIdx i)
  | _,_,_,.nil=>.nil
  | _,_,0,.cons _ t=>t
  | _,_,i+1,.cons r t=>.cons r (Vals.eraseIdx i t)
theorem kX {α:Type}:∀ (l:List α) (i:Nat),(l.eraseIdx i).length≤l.length
  | [],_=>aab _
  | _ :: _,0=>Nat.le_succ _
  | _ :: r,i+1=>Nat.succ_le_succ (kX r i)
section
variable {X:Cx} {pins:List (Addr × Obj)} {σ:St} {H:Hp} {s:Shared} {l b:Addr} {xs ys zs:List V}
theorem Inv.lset {its its':List Value} {n:Nat} {f:Array Value→Array Value} {t':Nat} (I:Inv X pins σ H s) (hH:H l=some (.lst xs))
    (e:s.heap.get? l=some { cls:=.type "list",data:=.seq its.toArray n }) (hf:f its.toArray=its'.toArray) (hv:Vals ys its') (hz:ys.length≤sizeLine) :
    Inv X pins σ (upd H l (.lst ys)) { s with heap:=s.heap.update l (Obj.mapSeq f),toks:=t' }:=by
  have q:=PySem.IsL.update e f;rw [hf] at q;refine I.write (x:=l) (e:=l) (by rw [hH];exact trivial) (.inl rfl) (fun b' u hb hu=>(Heap.get?_update_other s.heap (Obj.mapSeq f) (abM hb)).trans hu) ⟨_,q⟩ ?_;exact ⟨hz,its',_,hv,q⟩
theorem Inv.lnew {its:List Value} {t':Nat} (I:Inv X pins σ H s) (hv:Vals ys its) (hz:ys.length≤sizeLine) :
    Inv X pins σ (upd H s.heap.objs.size (.lst ys)) { s with heap:=s.heap.push { cls:=.type "list",data:=.seq its.toArray },toks:=t' } :=
  I.laid (fun _ _ q=>aak _ q) (aab _) ⟨hz,its,0,hv,aaJ _ rfl⟩
theorem Inv.fresh (I:Inv X pins σ H s):H s.heap.objs.size=none:=I.hok.fresh (aab _)
theorem Inv.lstM (I:Inv X pins σ H s) (hH:H l=some (.lst xs)):xs.length≤sizeLine∧∃ (its:List Value) (n:Nat),Vals xs its∧xs.length=its.length∧s.heap.get? l=some { cls:=.type "list",data:=.seq its.toArray n }:=by
  obtain ⟨z,its,n,r,e⟩:=I.hok l _ hH;exact ⟨z,its,n,r,r.length,e⟩
end
section
variable {X:Cx}
def uS:V→List V→Hp→VK→Prop:=fun x vs H Q=>∃ l xs y,x=.ref l∧vs=[y]∧H l=some (.lst xs)∧xs.length < sizeLine∧Q .non (upd H l (.lst (xs++[y])))
theorem dh:MtM X "list.append" uS:=by
  intro pins s σ H x vs v us Q I rx rv h;obtain ⟨l,xs,y,rfl,rfl,hH,hz,q⟩:=h;cases rx;obtain ⟨u,rfl,ru⟩:=rv.one;obtain ⟨z,its,n,r,hl,e⟩:=I.lstM hH;refine call_meets F.slot_list_append ⟨_,e,rfl⟩ F.entry_list_append (F.args_list_append_2 _ _) (PySem.list_append l its.toArray n u (by rw [aal];lia)) ⟨e,?_⟩;refine ⟨.non,_,I.lset (its':=its++[u]) hH e (by simp) (r.append (.cons ru .nil)) ?_,rfl,q⟩;rw [aah,ab4];lia
def wq:V→List V→Hp→VK→Prop:=fun x vs H Q=>∃ l xs i k y,x=.ref l∧vs=[.int i]∧H l=some (.lst xs)∧-(2 ^ 63)≤i∧i < 2 ^ 63∧seqIndex? i xs.length=some k∧xs[k]?=some y∧Q y (upd H l (.lst (xs.eraseIdx k)))
theorem sZ:MtM X "list.pop" wq:=by
  intro pins s σ H x vs v us Q I rx rv h;obtain ⟨l,xs,i,k,y,rfl,rfl,hH,h1,h2,hk,hy,q⟩:=h;cases rx;obtain ⟨u,rfl,ru⟩:=rv.one;obtain ⟨t,rfl⟩:=ru;obtain ⟨z,its,n,r,hl,e⟩:=I.lstM hH;obtain ⟨w,hw,rw'⟩:=r.get hy;refine call_meets F.slot_list_pop ⟨_,e,rfl⟩ F.entry_list_pop (F.args_list_pop_2 _ _)
    (MeetsSeq.list_pop_at l its.toArray n i t k w (fitsIndex_both h1 h2) (by rw [aal,← hl];exact hk) (by rw [← Array.getElem?_toList];exact hw) (by rw [aal];lia)) ⟨e,?_⟩
  refine ⟨y,_,I.lset (its':=its.eraseIdx k) hH e ?_ (r.eraseIdx k) ?_,rw',q⟩
  · show its.toArray.eraseIdxIfInBounds k=(its.eraseIdx k).toArray;rw [List.eraseIdxIfInBounds_toArray]
  · have:=kX xs k;lia
def xO:R2:=fun x y H Q=>∃ l b xs zs,x=.ref l∧y=.ref b∧H l=some (.lst xs)∧H b=some (.lst zs)∧xs.length+zs.length≤sizeLine∧∀ p,H p=none→Q (.ref p) (upd H p (.lst (xs++zs)))
theorem cG:OpR X (binaryOp .Add) xO:=by
  intro pins s σ H x y v u Q I rx ry h;obtain ⟨l,b,xs,zs,rfl,rfl,hH,hB,hz,q⟩:=h;cases rx;cases ry;obtain ⟨z,its,n,r,hl,e⟩:=I.lstM hH;obtain ⟨z2,its2,n2,r2,hl2,e2⟩:=I.lstM hB;refine PySem.P.add_list e e2 ?_ (by rw [aal,aal];lia);have ea:its.toArray++its2.toArray=(its++its2).toArray:=by simp
  rw [ea];exact ⟨.ref _,_,I.lnew (t':=s.toks) (r.append r2) (by rw [aah];lia),rfl,q _ I.fresh⟩
end
section
variable {prog:Program} {w:World} {A:Around} {E:Value→Shared→Prop} {s:Shared}
end
section
variable {X:Cx}
end
end L2
namespace Att
open PySem PySem.W PySem.Calls PyProof.Rows
theorem i3 {P:Params} {h:Heap}:∀ (ns:List Int) (vs:List Value),WellAll P h vs (ns.map WData.int)→IntsAre vs ns:=by
  intro ns
  induction ns with
  | nil =>
    intro vs w;rw [List.map_nil] at w;cases w;exact .nil
  | cons n ns ih =>
    intro vs w;rw [aax] at w;cases w with
    | cons a b =>
      cases a;exact .cons _ _ (ih _ b)
theorem qY {l:OpenLaw} {n:Nat} (hn:l.most=some n) {P:Params} {h:Heap} {args:List WData} {vals:List Value}
    (hpre:l.row.toRowW.claim.pre args=true) (hwl:WellAll P h vals args) :
    ∃ a vs ns,vals=[Value.ref a]∧args=[WData.list (ns.map WData.int)]∧h.get? a=some { cls:=.type "list",data:=.seq vs.toArray }∧IntsAre vs ns∧ns.length≤n:=by
  have hsh:WShape.hasAll [] args [.list .int]=true:=(pre_splitW hpre).1;have hc:l.pre.holds [] { args:=args }=true:=(pre_splitW hpre).2;obtain ⟨d,r,rfl,h1,h2⟩:=hasAllW_cons hsh;obtain rfl:=hasAllW_nil h2;obtain ⟨xs,rfl,h3⟩:=hasW_list h1;obtain ⟨ns,rfl⟩:=items_int h3;have hlen:ns.length≤n:=by
    unfold OpenLaw.pre at hc;have h4:(WTm.not (.lt (.lit (.int (n:Int))) (.len (.arg 0)))).holds [] { args:=[.list (ns.map .int)] }=true:=by
      have h4:=(holds_andW hc).1;rw [hn] at h4;exact h4
    have h5:=condW_of h4 (w_not (w_lt w_lit (w_len_list (w_arg rfl))));rw [aaf] at h5;refine Nat.le_of_not_lt fun q=>?_;have q':(n:Int) < ((ns.length:Nat):Int):=by lia
    first
      | (rw [decide_eq_true q'] at h5;exact absurd h5 (by decide))
      | (simp at h5;lia)
  cases hwl with
  | cons w1 w2 =>
    cases w2;cases w1 with
    | list ho hall=>exact ⟨_,_,ns,rfl,rfl,ho,i3 ns _ hall,hlen⟩
theorem q_ (l:OpenLaw) (args:List WData):l.row.toRowW.claim.post args (.bool true) args=true :=
  postW_of (r:=l.row.toRowW) (X:=(true == true))
    (show WShape.has [] (.bool true) .bool=true by first|rfl|decide|simp [WShape.has,WShape.arms,WShape.armsAll])
    (show (WTm.eq .res (.lit (.bool true))).value [] { args:=args,res:=some (.bool true),after:=args }=some (.bool (true == true)) from w_eq_bool (w_res rfl) w_lit) rfl
theorem attach_call {l:OpenLaw} {n:Nat} {q:Program} {loose:List Str} {XP:(Str→Option Value)→Heap→Prop} {YP:World→Heap→Prop} {d:DefRec}
    (hn:l.most=some n) (hdf:d.params.defaults=[])
    (call:∀ (w:World) (s₀ s₁:Shared) (mg mb:Str→Option Value) (fa:Addr) (o:Obj) (pm cd doc:Value) (a:Addr) (vs:List Value) (ns:List Int),
      Ground q loose [] XP w s₀ mg mb s₁.heap→YP w s₁.heap →
      s₁.heap.get? fa=some o→o.data=.func (docDef d.name d.params d.body d.scope pm cd doc)→s₁.heap.CodeRec cd d.name→mg d.name=some (.ref fa) →
      s₁.heap.get? a=some { cls:=.type "list",data:=.seq vs.toArray }→IntsAre vs ns→ns.length≤n→s₁.gens=#[] →
      codeAny (model l.prog w) callerA (.call (.ref fa) ⟨[.ref a],[]⟩) (fun r s'=>r=.ok (.ret (.bool true))∧OldK s₁.heap s'.heap∧s'.os=s₁.os∧AllBare s'.gens) s₁) :
    WalkO q loose XP YP l.row.toRowW d [] (fun f vs=>PySem.call f vs):=by
  intro w s₀ s₁ mg mb G Y fa o pm cd doc dV kV ho hd hcd hD hmg hg args vals as hpre hlay hrd hwl hlo;obtain rfl:dV=.none:=Dflts.none hD hdf;obtain rfl:kV=.none:=Dflts.noKw hD;obtain ⟨a,vs,ns,rfl,rfl,hobj,hints,hlen⟩:=qY hn hpre hwl;refine enter_call (codeAny_mono (call w s₀ s₁ mg mb fa o pm cd doc a vs ns G Y ho (fd_plain hd) hcd hmg hobj hints hlen hg) fun r s' hq=>?_);obtain ⟨rfl,h2,h3,h4⟩:=hq;exact ⟨.inl ⟨.bool true,.bool true,[],rfl,fun _=>rfl,.bool true,q_ l _,fun _=>⟨List.Pairwise.nil,fun _ hm=>(nomatch hm)⟩⟩,h2,h3,h4⟩
section
variable {prog:Program} {w:World} {A:Around} {E:Value→Shared→Prop} {s:Shared} {K:Frag}
end
end Att
namespace L2
open PySem PySem.Spec PyProof.Rows
theorem kK:∀ {vs:List Value} {ns:List Int},IntsAre vs ns→Vals (ns.map V.int) vs
  | _,_,.nil=>.nil
  | _,_,.cons n t h=>.cons ⟨t,rfl⟩ (kK h)
def xo (H:Hp):Prop:=∀ b,H b=none∨∃ o xs,H b=some (.frz o (.lst xs))
theorem tz {P:Program} {w:World} {K:aaa} {mg mb:Str→Option Value} {CX:CXT} {k:Nat} {fa a:Addr} {fd:FuncData} {x:Str} {sp:Sp} {s₁:Shared} {vs:List Value} {ns:List Int}
    (KX:K.In s₁.heap) (hns:s₁.heap.Ns mainGlobals mg) (hb:s₁.heap.Ns builtinsNs mb) (hbb:∀ x:Str,x ≠ "__name__"→mb x=bootBuiltins x) (hlim:s₁.heap.NoLimit) (hsm:∃ mm,s₁.heap.Ns sysModules mm) (hg:s₁.gens=#[])
    (ha:s₁.heap.get? a=some { cls:=.type "list",data:=.seq vs.toArray }) (hi:IntsAre vs ns) (hl:ns.length≤sizeLine) (hr:Room k callerA)
    (F:∀ base:Heap,K.In base→base.Ns mainGlobals mg→FnOk P w K mg base CX k fa fd [x] sp) (hbind:∀ (s:Shared) (u:Value),BindsTo s fd ⟨[u],[]⟩ [(x,u)])
    (hsp:∀ H:Hp,xo H→SqL K H a (ns.map V.int)→sp [.ref a] H (fun v _=>v=.bl true) fun _ _ _=>False)
    (hCX:∀ H e s',CX [] H s₁ (fun _ _ _=>False) e s'→False) :
    codeAny (model P w) callerA (.call (.ref fa) ⟨[.ref a],[]⟩) (fun r s'=>r=.ok (.ret (.bool true))∧OldK s₁.heap s'.heap∧s'.os=s₁.os∧AllBare s'.gens) s₁:=by
  have rv:=kK hi;have lenV:=hi.length;have core:∀ H:Hp,xo H→SqL K H a (ns.map V.int)→HOk P w H s₁.heap→(∀ b,H b≠none→b=a)→(H a≠none→K.lookup a=none) →
      codeAny (model P w) callerA (.call (.ref fa) ⟨[.ref a],[]⟩) (fun r s'=>r=.ok (.ret (.bool true))∧OldK s₁.heap s'.heap∧s'.os=s₁.os∧AllBare s'.gens) s₁:=by
    intro H hO hS hok hA hK;have base_of:∀ {b:Addr} {o:Obj},s₁.heap.get? b=some o→H b=none→(mz s₁.heap H).get? b=some o:=fun e n=>tQ e n;have noA:∀ {b:Addr} {o:Obj} {es:Array DictEntry} {ep:Nat},s₁.heap.get? b=some o→o.data=.dict es ep→H b=none:=fun {b o es ep} e d=>by
      cases q:H b with
      | none=>rfl
      | some u =>
        have e':b=a:=hA b (by rw [q];simp);subst e';rw [ha] at e;cases e;have d':Data.seq vs.toArray _=Data.dict es ep:=d;cases d'
    have nsK:∀ {b:Addr} {m:Str→Option Value},s₁.heap.Ns b m→(mz s₁.heap H).Ns b m:=fun {b m} ⟨o,es,ep,e,d,r⟩=>⟨o,es,ep,base_of e (noA e d),d,r⟩
    have hKb:K.In (mz s₁.heap H):=fun b o e=>base_of (KX b o e) (by
      cases q:H b with
      | none=>rfl
      | some u =>
        have e':b=a:=hA b (by rw [q];simp);subst e';rw [hK (by rw [q];simp)] at e;cases e)
    have hM:Mod K mg (mz s₁.heap H):=⟨hKb,nsK hns,⟨mb,nsK hb,hbb⟩,let ⟨mc,h1,h2⟩:=hlim;⟨mc,nsK h1,h2⟩,let ⟨mm,h1⟩:=hsm;⟨mm,nsK h1⟩⟩
    have e0:Env0 P w K mg (mz s₁.heap H) callerA [] s₁ H:=⟨rfl,hM,fun b o e=>vb e,Nat.le_of_eq (rK _ _),trivial,fun b hb=>absurd (show b∈([]:List Addr) from hb) (by simp),hok,.of_eq hg⟩
    refine codeAny_mono ((F _ hKb (nsK hns)).run callerA [] s₁ H ⟨[.ref a],[]⟩ [.ref a] [.ref a] _ _ hr e0 (hbind s₁ (.ref a)) (.cons rfl .nil) (hsp H hO hS)) fun r s' h=>?_;cases r with
    | error e=>exact (hCX H e s' h).elim
    | ok fl =>
      cases fl with
      | next=>exact abq h
      | brk=>exact abq h
      | cont=>exact abq h
      | ret u =>
        obtain ⟨v,H',os,bare,un,hok',r',q⟩:=h;have q':v=.bl true:=q;subst q';obtain rfl:u=Value.bool true:=r';refine ⟨rfl,OldK.of_keep fun b o e=>?_,os,bare⟩;cases q:H b with
        | none=>exact un.keep b o e q (by intro z;exact absurd (show b∈([]:List Addr) from z) (by simp)) (by simp)
        | some u =>
          rcases hO b with z|⟨ob,xs,z⟩
          · rw [q] at z;cases z
          · have z2:=un.frzs b ob _ z;obtain ⟨e1,_⟩:=hok b _ z;obtain ⟨e2,_⟩:=hok' b _ z2;rw [e] at e1;cases e1;exact e2
  cases hk:K.lookup a with
  | some o =>
    have e:=KX a o hk;rw [ha] at e;cases e;refine core (fun _=>none) (fun _=>.inl rfl) (.inr ⟨_,vs.toArray,_,hk,rfl,rfl,rfl,by rw [aal,lenV];exact hl,by simpa using rv⟩) (fun b u z=>by have z':(none:Option HO)=some u:=z;cases z') (fun b z=>absurd rfl z) fun z=>absurd rfl z
  | none =>
    refine core (fun b=>if b=a then some (.frz { cls:=.type "list",data:=.seq vs.toArray } (.lst (ns.map V.int))) else none) (fun b=>?_) (.inl (.inr ⟨{ cls:=.type "list",data:=.seq vs.toArray },if_pos rfl⟩)) (fun b u z=>?_) (fun b z=>?_) fun _=>hk
    · by_cases hb:b=a
      · exact .inr ⟨_,_,if_pos hb⟩
      · exact .inl (if_neg hb)
    · by_cases hb:b=a
      · have z':=(if_pos hb).symm.trans z;cases z';subst hb;exact ⟨ha,by rw [aaf];exact hl,vs,_,rv,ha⟩
      · have z':=(if_neg hb).symm.trans z;cases z'
    · by_cases hb:b=a
      · exact hb
      · exact absurd (if_neg hb) z
open PySem PySem.Spec PyProof.Rows
theorem walk_of {l:PySem.W.OpenLaw} {n k:Nat} {q:Program} {loose:List Str} {XP:(Str→Option Value)→Heap→Prop} {YP:World→Heap→Prop} {d:DefRec} {K:Params→aaa} {CX:World→CXT} {sp:World→Sp} {x:Str}
    (hn:l.most=some n) (hn2:n≤sizeLine) (hdf:d.params.defaults=[]) (hr:Room k callerA) (hi:PyProof.Rows.importsNone q=true)
    (hY:∀ (w:World) (h:Heap),YP w h→(K w.params).In h)
    (F:∀ (w:World) (mg:Str→Option Value) (fa:Addr) (h:Heap),(K w.params).In h→h.Ns mainGlobals mg→mg d.name=some (.ref fa) →
      ∃ fd:FuncData,(∀ (s:Shared) (u:Value),BindsTo s fd ⟨[u],[]⟩ [(x,u)]) ∧
        ∀ base:Heap,(K w.params).In base→base.Ns mainGlobals mg→FnOk l.prog w (K w.params) mg base (CX w) k fa fd [x] (sp w))
    (hsp:∀ (w:World) (H:Hp) (a:Addr) (ns:List Int),ns.length≤n→xo H→SqL (K w.params) H a (ns.map V.int)→sp w [.ref a] H (fun v _=>v=.bl true) fun _ _ _=>False)
    (hCX:∀ (w:World) (H:Hp) (s:Shared) (e:Value) (s':Shared),CX w [] H s (fun _ _ _=>False) e s'→False) :
    PySem.W.WalkO q loose XP YP l.row.toRowW d [] (fun f vs=>PySem.call f vs):=by
  refine Att.attach_call hn hdf fun w s₀ s₁ mg mb fa o pm cd doc a vs ns G Y ho hd hcd hmg hobj hints hlen hg=>?_;have KX:=hY w _ Y;obtain ⟨fd,hb,hF⟩:=F w mg fa _ KX G.T.g hmg;exact tz KX G.T.g G.T.b G.T.builtins G.T.nolimit (let ⟨mm,h1,_⟩:=(G.T.seer hi).mods;⟨mm,h1⟩) hg hobj hints (aa9 hlen hn2) hr hF hb (fun H hO hS=>hsp w H a ns hlen hO hS) fun H e s'=>hCX w H s₁ e s'
open PySem PySem.Spec PyProof.Rows
def dq (s:Stmt):Arguments:=match s with
  | .FunctionDef _ a _ _ _ _ _ _ _ _=>a
  | _=>{ posonlyargs:=[],args:=[],vararg:=none,kwonlyargs:=[],kw_defaults:=[],kwarg:=none,defaults:=[] }
def cK (s:Stmt):List Stmt:=match s with
  | .FunctionDef _ _ b _ _ _ _ _ _ _=>b
  | _=>[]
def aq (s:Stmt):Scope:=match s with
  | .FunctionDef _ _ _ _ _ _ sc _ _ _=>sc
  | _=>{ kind:=.function,names:=[],isGenerator:=false,isCoroutine:=false }
abbrev CX0:CXT:=fun _ _ _ _ _ _=>False
abbrev E0:XK:=fun _ _ _=>False
theorem xS {X:Cx}:kh CX0 X E0:=fun _ _ _ _ _ _ _ h=>h.elim
structure Fun (K:aaa) (x qual:Str) (st:Stmt) (f:Addr) (fd:FuncData):Prop where
  ex:∃ (oc:Value) (od:Option Addr) (kV doc pm:Value) (an:Option Addr) (cdv ct:Value) (osl:Array (Option Value)),
    fd=abw x qual (dq st) (cK st) (aq st) .none kV doc pm an cdv ct∧K.lookup f=some ⟨oc,od,.func fd,osl⟩∧abX K cdv qual=true
  kp:abm K (.ref f)=true
section
variable {P:Program} {w:World} {K:aaa} {mg:Str→Option Value} {base:Heap}
theorem Fun.ok {x qual:Str} {st:Stmt} {f:Addr} {fd:FuncData} {N ps:List Str} {k:Nat} {sp:Sp} (F:Fun K x qual st f fd) (S:FnScope N ps (aq st)) (len:∀ vs H Q E,sp vs H Q E→vs.length=ps.length)
    (hbody:∀ (cdv:Value) (A:Around) (outer:List Env) (s:Shared) (H:Hp) (vs:List V) (Q:VK) (E:XK),Room k (A.deeper (envOfC qual (aq st) s.heap.objs.size f cdv))→sp vs H Q E →
      ∃ t,PSs (ke CX0 P w K mg base N qual (aq st) f cdv A outer s H E).nox (cK st) t∧t { nx:=fun _ H'=>Q .non H',rt:=Q } (gX N vs) H):FnOk P w K mg base CX0 (k+1) f fd ps sp:=by
  obtain ⟨oc,od,kV,doc,pm,an,cdv,ct,osl,rfl,lk,hcd⟩:=F.ex;refine vM lk hcd S len fun A outer s H vs Q E hr hsp=>?_;obtain ⟨t,h,q⟩:=hbody cdv A outer s H vs Q E hr hsp;exact ⟨t,h.nox,q⟩
theorem Fun.binds {x qual:Str} {st:Stmt} {f:Addr} {fd:FuncData} {ps:List Str} (F:Fun K x qual st f fd)
    (h:∀ (kV doc pm:Value) (an:Option Addr) (cdv ct:Value) (us:List Value),us.length=ps.length→bindArgs (abw x qual (dq st) (cK st) (aq st) .none kV doc pm an cdv ct) ⟨us,[]⟩=pure (ps.zip us)):Binds K fd ps []:=by
  obtain ⟨oc,od,kV,doc,pm,an,cdv,ct,osl,rfl,lk,hcd⟩:=F.ex;exact .all (h kV doc pm an cdv ct)
theorem tT {x qual:Str} {st:Stmt} {f:Addr} {oc:Value} {od an:Option Addr} {osl:Array (Option Value)} {kV doc pm cdv ct:Value} (l:K.lookup f=some ⟨oc,od,.func (abw x qual (dq st) (cK st) (aq st) .none kV doc pm an cdv ct),osl⟩)
    (c:abX K cdv qual=true) (k:abm K (.ref f)=true):Fun K x qual st f (abw x qual (dq st) (cK st) (aq st) .none kV doc pm an cdv ct):=⟨⟨oc,od,kV,doc,pm,an,cdv,ct,osl,rfl,l,c⟩,k⟩
end
theorem aQ {n:Nat} (h:n≤1000):n < sizeLine:=Nat.lt_of_le_of_lt h (by decide)
section
variable {X:Cx}
theorem pv (i:Nat) {x:Str} {pos:Pos} (hN:X.N[i]?=some x:=by rfl) (hv:Vis X.env.scope x:=by first|exact Or.inl rfl|exact Or.inr (Or.inl rfl)|exact Or.inr (Or.inr rfl)) (hd:(x == ("__debug__":Str))=false:=by decide)
    (hcd:(x == ("__classdict__":Str))=false:=by decide):PE X (.Name x pos) (vW i):=wz hN hv hd hcd
end
theorem av {A B:Prop} (h:B):if false=true then A else B:=by
  rw [if_neg aap];exact h
theorem aC {A B:Prop} (h:A):if true=true then A else B:=by
  rw [if_pos rfl];exact h
theorem kE {c A B:Prop} [Decidable c] (h1:c→A) (h2:¬ c→B):if c then A else B:=by
  by_cases h:c
  · rw [if_pos h];exact h1 h
  · rw [if_neg h];exact h2 h
theorem x6 {c A B:Prop} [Decidable c] (hc:c) (h:B):if (!decide c)=true then A else B:=by
  rw [decide_eq_true hc];exact av h
def Same (H H':Hp):Prop:=∀ b o,H b=some o→H' b=some o
theorem Same.refl (H:Hp):Same H H:=fun _ _ h=>h
theorem Same.trans {H H1 H2:Hp} (a:Same H H1) (b:Same H1 H2):Same H H2:=fun c o h=>b c o (a c o h)
theorem Same.free {H H':Hp} (e:Same H H') {l:Addr} (h:H' l=Option.none):H l=Option.none:=by
  cases q:H l with
  | none=>rfl
  | some o =>
    rw [e l o q] at h;cases h
theorem Same.seq {K:aaa} {H H':Hp} {a:Addr} {xs:List V} (e:Same H H') (h:SqL K H a xs):SqL K H' a xs:=by
  rcases h with (h|⟨o,h⟩)|h
  · exact .inl (.inl (e _ _ h))
  · exact .inl (.inr ⟨o,e _ _ h⟩)
  · exact .inr h
open PySem PySem.Spec PyProof.Rows
section
variable {κ:Type} [DecidableEq κ]
def dG (kvs:List (κ × V)) (k:κ):Option V:=(kvs.find? fun kv=>decide (kv.1=k)).map (·.2)
def gI (kvs:List (κ × V)) (k:κ) (v:V):List (κ × V) :=
  if (kvs.any fun kv=>decide (kv.1=k))=true then kvs.map (fun kv=>if kv.1=k then (kv.1,v) else kv) else kvs++[(k,v)]
theorem cq {p:κ × V} {r:List (κ × V)} {k:κ} (e:p.1=k):dG (p :: r) k=some p.2:=by simp [dG,ab3,e]
theorem cr {p:κ × V} {r:List (κ × V)} {k:κ} (e:¬ p.1=k):dG (p :: r) k=dG r k:=by simp [dG,ab3,e]
theorem gU (k:κ):∀ kvs:List (κ × V),(kvs.any fun kv=>decide (kv.1=k))=(dG kvs k).isSome
  | []=>rfl
  | p :: r=>by
    rw [abU];by_cases e:p.1=k
    · simp only [cq e,decide_eq_true e,Bool.true_or,Option.isSome_some]
    · rw [cr e,decide_eq_false e,Bool.false_or];exact gU k r
theorem mR (k j:κ) (y:V):∀ kvs:List (κ × V),dG (kvs.map fun kv=>if kv.1=k then (kv.1,y) else kv) j=(dG kvs j).map fun x=>if j=k then y else x
  | []=>rfl
  | p :: r=>by
    have ih:=mR k j y r;rw [aax];by_cases h:p.1=k
    · rw [if_pos h];by_cases e:p.1=j
      · rw [cq (p:=(p.1,y)) e,cq e,acl,if_pos (e.symm.trans h)]
      · rw [cr (p:=(p.1,y)) e,cr e,ih]
    · rw [if_neg h];by_cases e:p.1=j
      · rw [cq (p:=p) e,cq e,acl,if_neg (fun z=>h (e.trans z))]
      · rw [cr (p:=p) e,cr e,ih]
theorem kL (k j:κ) (y:V):∀ kvs:List (κ × V),dG kvs k=none→dG (kvs++[(k,y)]) j=if j=k then some y else dG kvs j
  | [],_=>by
    by_cases e:k=j
    · rw [if_pos e.symm];exact cq (p:=(k,y)) e
    · rw [if_neg (fun z=>e z.symm)];exact cr (p:=(k,y)) e
  | p :: r,hn=>by
    rw [abG];have hk:¬ p.1=k:=fun z=>by rw [cq z] at hn;cases hn
    rw [cr hk] at hn;have ih:=kL k j y r hn;by_cases e:p.1=j
    · rw [cq e,cq e,if_neg (fun z=>hk (e.trans z))]
    · rw [cr e,cr e,ih]
theorem rY (kvs:List (κ × V)) (k j:κ) (y:V):dG (gI kvs k y) j=if j=k then some y else dG kvs j:=by
  unfold gI;by_cases a:(kvs.any fun kv=>decide (kv.1=k))=true
  · rw [if_pos a,mR];rw [gU] at a;by_cases e:j=k
    · obtain ⟨x,hx⟩:=acj.mp a;rw [if_pos e,e,hx,acl,if_pos rfl]
    · rw [if_neg e];cases dG kvs j with
      | none=>rfl
      | some x=>rw [acl,if_neg e]
  · rw [if_neg a];refine kL k j y kvs ?_;rw [gU] at a;cases q:dG kvs k with
    | none=>rfl
    | some x=>rw [q] at a;exact (a rfl).elim
theorem fT (kvs:List (κ × V)) (k:κ) (v:V):(gI kvs k v).length≤kvs.length+1:=by
  unfold gI;split
  · rw [aaf];lia
  · rw [aah,aao,abE];lia
theorem RelO.isSome_eq {o:Option V} {u:Option Value} (r:RelO o u):o.isSome=u.isSome:=by
  cases o with
  | none=>cases u with
    | none=>rfl
    | some _=>exact (show False from r).elim
  | some _=>cases u with
    | none=>exact (show False from r).elim
    | some _=>rfl
theorem RelO.getD {o:Option V} {u:Option Value} {d:V} {d':Value} (r:RelO o u) (rd:RelV d d'):RelV (o.getD d) (u.getD d'):=by
  cases o with
  | none=>cases u with
    | none=>exact rd
    | some _=>exact (show False from r).elim
  | some _=>cases u with
    | none=>exact (show False from r).elim
    | some _=>exact r
theorem KV.val {kvs:List (κ × V)} {vs:List (κ × Value)} (r:KV kvs vs) (k:κ):RelO (dG kvs k) (valueAt vs k):=by
  unfold KV at r
  induction r with
  | nil=>exact True.intro
  | @cons p q ps qs h t ih =>
    obtain ⟨h1,h2⟩:=h;by_cases e:p.1=k
    · have e':q.1=k:=h1.symm.trans e;have b:valueAt (q :: qs) k=some q.2:=by simp [valueAt,ab3,e']
      rw [cq e,b];exact h2
    · have e':¬ q.1=k:=fun z=>e (h1.trans z);have b:valueAt (q :: qs) k=valueAt qs k:=by simp [valueAt,ab3,e']
      rw [cr e,b];exact ih
theorem KV.any {kvs:List (κ × V)} {vs:List (κ × Value)} (r:KV kvs vs) (k:κ):(kvs.any fun kv=>decide (kv.1=k))=vs.any fun kv=>decide (kv.1=k):=by
  unfold KV at r
  induction r with
  | nil=>rfl
  | cons h t ih=>rw [abU,abU,ih,h.1]
theorem KV.repl {kvs:List (κ × V)} {vs:List (κ × Value)} (r:KV kvs vs) (k:κ) {y:V} {u:Value} (ry:RelV y u) :
    KV (kvs.map fun kv=>if kv.1=k then (kv.1,y) else kv) (vs.map fun kv=>if kv.1=k then (kv.1,u) else kv):=by
  unfold KV at r ⊢
  induction r with
  | nil=>exact .nil
  | @cons p q ps qs h t ih =>
    rw [aax,aax];refine .cons ?_ ih;obtain ⟨h1,h2⟩:=h;by_cases e:p.1=k
    · rw [if_pos e,if_pos (h1.symm.trans e)];exact ⟨h1,ry⟩
    · rw [if_neg e,if_neg (fun z=>e (h1.trans z))];exact ⟨h1,h2⟩
theorem KV.put {kvs:List (κ × V)} {vs:List (κ × Value)} (r:KV kvs vs) (k:κ) {y:V} {u:Value} (ry:RelV y u):KV (gI kvs k y) (stored vs k u):=by
  unfold gI stored;rw [r.any k];by_cases e:(vs.any fun kv=>decide (kv.1=k))=true
  · rw [if_pos e,if_pos e];exact r.repl k ry
  · rw [if_neg e,if_neg e];exact Paired.snoc r ⟨rfl,ry⟩
theorem KV.length {kvs:List (κ × V)} {vs:List (κ × Value)} (r:KV kvs vs):kvs.length=vs.length:=abg r
end
theorem tH {P:Program} {w:World} {k:Key} {u:Value} (r:RelV (kV k) u):(bz P w).is k u=true:=by
  cases k with
  | inl i=>obtain ⟨t,e⟩:=(show ∃ t,u=Value.int i t from r);subst e;exact nM P w i t
  | inr x=>obtain ⟨t,e⟩:=(show ∃ t,u=Value.str x t from r);subst e;exact nK P w x t
theorem kZ {P:Program} {w:World}:∀ {ks:List Key} {us:List Value},Vals (ks.map kV) us→ItemsAre (bz P w) ks us
  | [],_,r=>by rw [List.map_nil] at r;cases r;exact .nil
  | k :: ks,_,r=>by
    rw [aax] at r;cases r with
    | cons h t=>exact .cons (tH h) (kZ t)
abbrev KT (H:Hp):List (List Key × V)→List (List Key × Addr × Value)→Prop:=Paired fun p q=>p.1=q.1∧H q.2.1=some (.tup (p.1.map kV))∧RelV p.2 q.2.2
theorem KT.val {H:Hp} {kvs:List (List Key × V)} {xs:List (List Key × Addr × Value)} (r:KT H kvs xs) (k:List Key):RelO (dG kvs k) ((atKey xs k).map (·.2)):=by
  induction r with
  | nil=>exact True.intro
  | @cons p q ps qs h t ih =>
    obtain ⟨h1,_,h2⟩:=h;by_cases e:p.1=k
    · have e':q.1=k:=h1.symm.trans e;have b:atKey (q :: qs) k=some q.2:=by simp [atKey,ab3,e']
      rw [cq e,b];exact h2
    · have e':¬ q.1=k:=fun z=>e (h1.trans z);have b:atKey (q :: qs) k=atKey qs k:=by simp [atKey,ab3,e']
      rw [cr e,b];exact ih
theorem KT.repl {H:Hp} {kvs:List (List Key × V)} {xs:List (List Key × Addr × Value)} (r:KT H kvs xs) (k:List Key) {y:V} {u:Value} (ry:RelV y u) :
    KT H (kvs.map fun kv=>if kv.1=k then (kv.1,y) else kv) (xs.map (putAt k u)):=by
  induction r with
  | nil=>exact .nil
  | @cons p q ps qs h t ih =>
    rw [aax,aax];refine .cons ?_ ih;obtain ⟨h1,h2,h3⟩:=h;unfold putAt;by_cases e:p.1=k
    · rw [if_pos e,if_pos (h1.symm.trans e)];exact ⟨h1,h2,ry⟩
    · rw [if_neg e,if_neg (fun z=>e (h1.trans z))];exact ⟨h1,h2,h3⟩
theorem KT.put {H:Hp} {kvs:List (List Key × V)} {xs:List (List Key × Addr × Value)} (r:KT H kvs xs) (k:List Key) {b:Addr} {y:V} {u:Value} (hb:H b=some (.tup (k.map kV))) (ry:RelV y u) :
    KT H (gI kvs k y) (storedH xs k b u):=by
  have e:(kvs.any fun kv=>decide (kv.1=k))=(atKey xs k).isSome:=by
    rw [gU,(r.val k).isSome_eq,Option.isSome_map]
  unfold gI storedH;rw [e];by_cases q:(atKey xs k).isSome=true
  · rw [if_pos q,if_pos q];exact r.repl k ry
  · rw [if_neg q,if_neg q];exact Paired.snoc r ⟨rfl,hb,ry⟩
theorem KT.keeps {H H':Hp} {kvs:List (List Key × V)} {xs:List (List Key × Addr × Value)} (r:KT H kvs xs) (ht:∀ b ys,H b=some (.tup ys)→H' b=some (.tup ys)):KT H' kvs xs :=
  Paired.mapP r fun _ _ z=>⟨z.1,ht _ _ z.2.1,z.2.2⟩
section
variable {P:Program} {w:World} {H:Hp} {h:Heap} {a:Addr}
theorem vF {u:HO} (ok:HOk P w H h) (e:Rd H a u):ObjOk P w H h a u:=e.ok ok
theorem t8 {kvs:List (Key × V)} (ok:HOk P w H h) (e:Rd H a (.dK kvs)):kvs.length≤sizeLine∧(a == sysModules)=false∧∃ vs,KV kvs vs∧h.DictOf (bz P w) a vs :=
  show ObjOk P w H h a (.dK kvs) from vF ok e
theorem vN {kvs:List (Key × V)} (ok:HOk P w H h) (e:H a=some (.dK kvs)):kvs.length≤sizeLine∧(a == sysModules)=false∧∃ vs,KV kvs vs∧h.DictOf (bz P w) a vs:=t8 ok (.inl e)
theorem pA {ks:List Key} (ok:HOk P w H h) (e:H a=some (.tup (ks.map kV))):(tupleKind (bz P w)).is h ks a:=by
  obtain ⟨_,its,r,o,h1,h2,n,h3⟩:=(show ObjOk P w H h a (.tup (ks.map kV)) from ok a _ e)
  exact ⟨o,its.toArray,n,h1,h2,h3,by simpa using kZ r⟩
theorem t6 {kvs:List (List Key × V)} (ok:HOk P w H h) (e:Rd H a (.dT kvs)):kvs.length≤sizeLine∧(a == sysModules)=false ∧
    ∃ xs,KT H kvs xs∧h.DictOfH (tupleKind (bz P w)) a xs:=by
  obtain ⟨z,y,xs,r,o,es,ep,h1,h2,h3,h4,h5⟩:=(show ObjOk P w H h a (.dT kvs) from vF ok e)
  refine ⟨z,y,xs,r,o,es,ep,h1,h2,h3,h4,fun x hx=>?_,h5⟩;have all:∀ {l:List (List Key × V)} {m:List (List Key × Addr × Value)},KT H l m→∀ x∈m,(tupleKind (bz P w)).is h x.1 x.2.1:=by
    intro l m q
    induction q with
    | nil=>intro x hx;exact nomatch hx
    | @cons p q ps qs hq t ih =>
      intro x hx;rcases aaj.mp hx with e|hx
      · subst e;exact pA ok (by rw [← hq.1];exact hq.2.1)
      · exact ih x hx
  exact all r x hx
theorem yf {kvs:List (List Key × V)} (ok:HOk P w H h) (e:H a=some (.dT kvs)):kvs.length≤sizeLine∧(a == sysModules)=false ∧
    ∃ xs,KT H kvs xs∧h.DictOfH (tupleKind (bz P w)) a xs:=t6 ok (.inl e)
end
def DGet (H:Hp) (a:Addr) (y:V) (r:Option V):Prop :=
  (∃ kvs k,Rd H a (.dK kvs)∧y=kV k∧r=dG kvs k)∨∃ kvs k b,Rd H a (.dT kvs)∧y=.ref b∧H b=some (.tup (k.map kV))∧r=dG kvs k
def DPut (H:Hp) (a:Addr) (y v:V) (H':Hp):Prop :=
  (∃ kvs k,H a=some (.dK kvs)∧y=kV k∧kvs.length < sizeLine∧H'=upd H a (.dK (gI kvs k v))) ∨
  ∃ kvs k b,H a=some (.dT kvs)∧y=.ref b∧H b=some (.tup (k.map kV))∧kvs.length < sizeLine∧H'=upd H a (.dT (gI kvs k v))
theorem DGet.k {H:Hp} {a:Addr} {kvs:List (Key × V)} {k:Key} (e:H a=some (.dK kvs)):DGet H a (kV k) (dG kvs k):=.inl ⟨kvs,k,.inl e,rfl,rfl⟩
theorem DPut.k {H:Hp} {a:Addr} {kvs:List (Key × V)} {k:Key} {v:V} (e:H a=some (.dK kvs)) (hl:kvs.length < sizeLine):DPut H a (kV k) v (upd H a (.dK (gI kvs k v))):=.inl ⟨kvs,k,e,rfl,hl,rfl⟩
section
variable {X:Cx} {pins:List (Addr × Obj)} {σ:St} {H:Hp} {s:Shared} {a:Addr} {y v:V} {u r:Value} {o:Option V} {A:Around} {E:Value→Shared→Prop}
theorem Inv.big (I:Inv X pins σ H s):sysModules < s.heap.objs.size:=by
  have h:mainGlobals < s.heap.objs.size:=(I.mod.glob.keeps I.bk).lt;exact Nat.lt_trans (by decide) h
theorem qN {h':Heap} {t':Nat} {ob:HO} (I:Inv X pins σ H s) (mu:Mut (H a)) (hs:acA a s.heap h') (he:∃ q,h'.get? a=some q) (new:ObjOk X.prog X.w (upd H a ob) h' a ob) :
    Inv X pins σ (upd H a ob) { s with heap:=h',toks:=t' } :=
  I.write (x:=a) (e:=a) mu (.inl rfl) (fun b q hb z=>(hs.2 b hb).trans z) he new
theorem xc {P:Program} {w:World} {H':Hp} {h':Heap} {kvs:List (Key × V)} {vs:List (Key × Value)} (z:kvs.length≤sizeLine) (hd:(a == sysModules)=false) (rel:KV kvs vs) (dd:h'.DictOf (bz P w) a vs) :
    ObjOk P w H' h' a (.dK kvs):=⟨z,hd,vs,rel,dd⟩
end
section
variable {X:Cx} {pins:List (Addr × Obj)} {σ:St} {H:Hp} {s:Shared} {a:Addr} {kvs:List (Key × V)} {k:Key} {u:Value} {A:Around} {E:Value→Shared→Prop}
end
section
variable {X:Cx} {o i e value:Expr} {pos pos' tpos:Pos} {td ty tv:TE}
end
theorem oi {P:Program} {w:World} {H:Hp} (h:Heap) (hb:sysModules < h.objs.size):ObjOk P w H (h.push { cls:=.type "dict",data:=.dict #[] }) h.objs.size (.dK []) :=
  ⟨aaK _,beq_eq_false_iff_ne.mpr (abM (aaD hb)),[],.nil,Heap.DictOf.new h⟩
theorem t7 {P:Program} {w:World} {H:Hp} (h:Heap) (hb:sysModules < h.objs.size):ObjOk P w H (h.push { cls:=.type "dict",data:=.dict #[] }) h.objs.size (.dT []) :=
  ⟨aaK _,beq_eq_false_iff_ne.mpr (abM (aaD hb)),[],.nil,_,#[],0,aaJ _ rfl,⟨rfl,rfl,rfl⟩,rfl,rfl,List.nodup_nil⟩
def sg:TE:=fun _ H Q=>∀ p,H p=none→Q (.ref p) (upd H p (.dK []))
section
variable {X:Cx} {pos:Pos}
theorem sN:PE X (.Dict [] [] pos) sg:=fun pins s σ H Q I h =>
  wpAny_Dict_empty ⟨.ref s.heap.objs.size,_,I.laid (a:=s.heap.objs.size) (o:=.dK []) (t':=s.toks) (fun _ _ q=>aak _ q) (aab _) (oi s.heap I.big),rfl,h _ (I.hok.fresh (aab _))⟩
end
structure M1 (X:Cx) (o:Expr) (m:Str) (apos:Pos) (e:Expr) (cpos:Pos):Prop where
  base:attributeBase o m X.env (eval o X.env)=eval o X.env
  few:((backTo cpos (starEach [e] X.env)).all (fun x=>!x.1) && (backToKw cpos (keywordEach [] X.env)).all (fun x=>x.1.isSome)
    && decide (([e]:List Expr).length+([]:List Keyword).length+(if ([]:List Keyword).isEmpty then 0 else 1) < 30))=true
  line:(apos.endLine == cpos.line)=true
  trees:backTo cpos (starEach [e] X.env)=[(false,eval e X.env)]
structure M2 (X:Cx) (o:Expr) (m:Str) (apos:Pos) (e f:Expr) (cpos:Pos):Prop where
  base:attributeBase o m X.env (eval o X.env)=eval o X.env
  few:((backTo cpos (starEach [e,f] X.env)).all (fun x=>!x.1) && (backToKw cpos (keywordEach [] X.env)).all (fun x=>x.1.isSome)
    && decide (([e,f]:List Expr).length+([]:List Keyword).length+(if ([]:List Keyword).isEmpty then 0 else 1) < 30))=true
  line:(apos.endLine == cpos.line)=true
  trees:backTo cpos (starEach [e,f] X.env)=[(false,eval e X.env),(false,eval f X.env)]
def IsD (H:Hp) (a:Addr):Prop:=(∃ kvs,Rd H a (.dK kvs))∨∃ kvs,Rd H a (.dT kvs)
theorem wV {X:Cx} {pins:List (Addr × Obj)} {σ:St} {H:Hp} {s:Shared} {a:Addr} (I:Inv X pins σ H s) (d:IsD H a) :
    s.TypeIs (.ref a) "dict"∧(∀ b,Value.ref a=.ref b→∃ ob,s.heap.get? b=some ob∧ob.dict=none)∧(a == sysModules)=false:=by
  rcases d with ⟨kvs,e⟩|⟨kvs,e⟩
  · obtain ⟨_,hd,vs,_,dd⟩:=t8 I.hok e;refine ⟨dd.typeIs,fun b q=>?_,hd⟩;cases q;obtain ⟨ob,_,_,h1,h2,_⟩:=dd;exact ⟨ob,h1,h2.2.1⟩
  · obtain ⟨_,hd,xs,_,dd⟩:=t6 I.hok e;refine ⟨dd.typeIs,fun b q=>?_,hd⟩;cases q;obtain ⟨ob,_,_,h1,h2,_⟩:=dd;exact ⟨ob,h1,h2.2.1⟩
section
variable {X:Cx} {pins:List (Addr × Obj)} {σ:St} {H:Hp} {s:Shared} {a:Addr} {y d:V} {u r:Value} {o:Option V} {A:Around} {E:Value→Shared→Prop}
theorem xi {Q:Value→Shared→Prop} (hu:A.units+1 < cLine) (I:Inv X pins σ H s) (g:DGet H a y o) (ry:RelV y u) (h:∀ w' s',Inv X pins σ H s'→RelV (o.getD .non) w'→Q w' s') :
    wpAny (model X.prog X.w) A (call (.builtin "dict.get") [.ref a,u]) Q E s:=by
  rcases g with ⟨kvs,k,e,ey,l⟩|⟨kvs,k,b,e,ey,eb,l⟩
  · subst ey;obtain ⟨z,hd,vs,rel,dd⟩:=t8 I.hok e;refine call_meetsIn acD dd.typeIs PySem.F.entry_dict_get (PySem.F.args_dict_get_2 _ _) (meets_dict_get (bz X.prog X.w) a (tH ry) hd) ⟨_,dd.mapOf,h _ _ (I.tok _) ?_⟩;rw [l];exact (rel.val k).getD rfl
  · subst ey;cases (show u=Value.ref b from ry);obtain ⟨z,hd,xs,rel,dd⟩:=t6 I.hok e;refine call_meetsIn acD dd.typeIs PySem.F.entry_dict_get (PySem.F.args_dict_get_2 _ _) (meetsH_dict_get (tupleKind (bz X.prog X.w)) a b hd) ⟨tupleKind_room_in1 hu,k,xs,pA I.hok eb,dd,h _ _ (I.tok _) ?_⟩;rw [l];exact (rel.val k).getD rfl
end
def vY (td ty:TE):TE:=fun σ H Q=>td σ H fun x H1=>∃ a,x=.ref a∧IsD H1 a∧ty σ H1 fun y H2=>∃ o,DGet H2 a y o∧Q (o.getD .non) H2
section
variable {X:Cx} {o e f:Expr} {apos cpos:Pos} {td ty tx:TE}
theorem sO (hu:X.A.units+1 < cLine) (ho:PE X o td) (he:PE X e ty) (m:M1 X o "get" apos e cpos):PE X (.Call (.Attribute o "get" apos) [e] [] cpos) (vY td ty):=by
  intro pins s σ H Q I h;refine wpAny_Call_method m.base m.few m.line PySem.F.plainAttrs_dict acD PySem.F.type_dict_get (thn (ho pins s σ H _ I h) fun u s1 ⟨x,H1,I1,rx,a,ex,d,q1⟩=>?_);subst ex;obtain rfl:u=Value.ref a:=rx;obtain ⟨t1,t2,_⟩:=wV I1 d;refine ⟨t1,t2,?_⟩;rw [m.trees];refine abY rfl (abN (abi (thn (he pins s1 σ H1 _ I1 q1) fun iv s2 ⟨y,H2,I2,ry,ov,g,q2⟩=>acb ?_)));exact xi hu I2 g ry fun w' s3 I3 rw'=>⟨_,H2,I3,rw',q2⟩
end
section
variable {X:Cx} {pins:List (Addr × Obj)} {σ:St} {H:Hp} {s:Shared} {a:Addr} {kvs:List (Key × V)} {A:Around} {E:Value→Shared→Prop}
end
section
variable {X:Cx} {pins:List (Addr × Obj)} {σ:St} {H:Hp} {s:Shared} {a:Addr} {y:V} {u:Value} {A:Around} {E:Value→Shared→Prop}
end
open PySem PySem.Spec PyProof.Rows
section
variable {X:Cx}
end
section
variable {κ:Type} [DecidableEq κ]
end
end L2
set_option maxHeartbeats 4000000
namespace L2
open PySem PySem.Spec PyProof.Rows
theorem Inv.adopt {X:Cx} {pins:List (Addr × Obj)} {σ:St} {H:Hp} {s:Shared} {a:Addr} {o:HO} (I:Inv X pins σ H s) (hn:H a=none) (hs:X.s₀.heap.objs.size≤a) (hL:a≠X.env.locals) (hC:∀ x c,X.env.cells.lookup x=some c→c≠a) (hp:∀ p∈X.pn++pins,p.1≠a)
    (new:ObjOk X.prog X.w (upd H a o) s.heap a o):Inv X pins σ (upd H a o) s:=by
  have ne:∀ b u,X.s₀.heap.get? b=some u→b≠a:=fun b u e=>aaD (aaq (aas e) hs);refine ⟨I.ok,I.os,I.bare,⟨I.base.keep,I.base.slot,fun b u e n hx=>?_,I.base.there,fun b xs e=>?_,fun b u xs e=>?_,fun b ps e=>?_⟩,I.loc,I.cell,?_,fun x c e=>?_,fun p hq=>?_,fun b u e=>?_,I.len⟩
  · rw [aI (ne b u e)];exact I.base.free b u e n hx
  · have q:=I.base.tups b xs e;rw [aI (ba q hn)];exact q
  · have q:=I.base.frzs b u xs e;rw [aI (ba q hn)];exact q
  · obtain ⟨m,q⟩:=I.base.tbls b ps e;exact ⟨m,by rw [aI (ba q hn)];exact q⟩
  · rw [aI (abM hL)];exact I.free
  · rw [aI (hC x c e)];exact I.freeC x c e
  · obtain ⟨h1,h2,h3⟩:=I.pin p hq;exact ⟨h1,by rw [aI (hp p hq)];exact h2,h3⟩
  · by_cases hb:b=a
    · subst hb;rw [upd_same] at e;cases e;exact new
    · rw [aI hb] at e;exact (I.hok b u e).stay (fun c v _ q=>q) (fun c q=>by rw [aI (ba q hn)];exact q) fun c xs q=>by rw [aI (ba q hn)];exact q
def CellsIn (E:Env):List (Str × Addr)→Prop
  | []=>True
  | p :: r=>E.cells.lookup p.1=some p.2∧CellsIn E r
theorem CellsIn.get {E:Env}:∀ {cl:List (Str × Addr)} {x:Str} {c:Addr},CellsIn E cl→cl.lookup x=some c→E.cells.lookup x=some c:=by
  intro cl x c h e;have hm:=abt e;clear e
  induction cl with
  | nil=>exact nomatch hm
  | cons p r ih =>
    rcases aaj.mp hm with q|q
    · have:=h.1;rw [← q] at this;exact this
    · exact ih h.2 q
def CapOk (XE:Env) (sc:Scope) (XN:List Str):List Str→List (Option Nat)→Prop
  | [],[]=>True
  | _ :: n,none :: c=>CapOk XE sc XN n c
  | x :: n,some i :: c=>(XN[i]?=some x∧(XE.kindOf x=some .cell∨XE.kindOf x=some .free)∧(sc.names.lookup x=some .cell∨sc.names.lookup x=some .free))∧CapOk XE sc XN n c
  | _,_=>False
def yh (σ:St) (o:Option Nat):Option V:=match o with
  | none=>none
  | some i=>(σ[i]?).join
def cm (cap:List (Option Nat)) (σ:St):St:=cap.map (yh σ)
theorem CapOk.len {XE:Env} {sc:Scope} {XN:List Str}:∀ {n:List Str} {c:List (Option Nat)},CapOk XE sc XN n c→c.length=n.length
  | [],[],_=>rfl
  | _ :: _,none :: _,h=>congrArg (·+1) (CapOk.len (n:=_) (c:=_) h)
  | _ :: _,some _ :: _,h=>congrArg (·+1) (CapOk.len h.2)
  | [],_ :: _,h=>(show False from h).elim
  | _ :: _,[],h=>(show False from h).elim
theorem CapOk.get {XE:Env} {sc:Scope} {XN:List Str} {σ:St} {n:List Str} {c:List (Option Nat)} {j:Nat} {x:Str} {v:V} (h:CapOk XE sc XN n c) (h1:n[j]?=some x) (e:(cm c σ)[j]?=some (some v)) :
    ∃ i:Nat,XN[i]?=some x∧σ[i]?=some (some v)∧(XE.kindOf x=some .cell∨XE.kindOf x=some .free)∧(sc.names.lookup x=some .cell∨sc.names.lookup x=some .free):=by
  induction n generalizing c j with
  | nil=>cases h1
  | cons y n ih =>
    cases c with
    | nil=>exact h.elim
    | cons o c =>
      cases j with
      | zero =>
        cases h1;cases o with
        | none=>cases e
        | some i =>
          refine ⟨i,h.1.1,?_,h.1.2⟩;have e:some ((σ[i]?).join)=some (some v):=e;cases q:σ[i]? with
          | none=>rw [q] at e;cases e
          | some w=>rw [q] at e;injection e with e;exact congrArg some e
      | succ j =>
        cases o with
        | none=>exact ih (c:=c) (j:=j) h h1 e
        | some i=>exact ih (c:=c) (j:=j) h.2 h1 e
def eQ (X:Cx) (E:Env) (fn:Str→Bool) (NY:List Str) (fp:List Addr) (s:Shared) (H:Hp):Cx where
  prog:=X.prog
  w:=X.w
  K:=X.K
  mg:=X.mg
  base:=X.base
  A:=X.A
  N:=NY
  s₀:=s
  H₀:=H
  env:=E
  outer:=X.stack
  stack:=X.stack
  ex:=fp
  fn:=fn
  calm:=X.calm
  pn:=[]
  xe:=fun _ _=>False
abbrev bh (X:Cx) (scope:Scope) (cl:List (Str × Addr)) (NY:List Str) (fp:List Addr) (s:Shared) (H:Hp) (C:Addr):Cx:=eQ X (compEnvC scope cl C X.env) (fun _=>false) NY fp s H
def i6 (X:Cx) (ifs:List Expr) (t:TT):Prop :=
  ∀ (pins:List (Addr × Obj)) (s:Shared) (σ:St) (H:Hp) (Q:Bool→Hp→Prop),Inv X pins σ H s→t σ H Q →
    wpAny (model X.prog X.w) X.A (forIn ifs true fun c r=>if r=true then do let ok ← isTrue c X.env (eval c X.env);pure (ForInStep.yield ok) else pure (ForInStep.yield r)) (TP X pins σ Q) X.xe s
theorem bB {X:Cx}:i6 X [] (fun _ H Q=>Q true H):=fun _ _ _ H _ I h=>wpAny_tests_nil ⟨H,I,h⟩
theorem jD {X:Cx} {c:Expr} {t:TT} (h:PT X c t):i6 X [c] t:=fun pins s σ H Q I q=>wpAny_tests_one (h pins s σ H Q I q)
theorem kF {elt tg2 iter2:Expr} {ifs2:List Expr} {G:List Comprehension} {k:Nat} (hk:G[k]?=some ⟨tg2,iter2,ifs2,0⟩) (hk2:G[k+1]?=none) {scope:Scope} {pos:Pos} {it acc:Value} {env:Env} :
    compTurn (.ListComp elt G scope pos) k it acc env=(do
      standAt iter2.pos
      match ← pyNext it with
      | none=>pure (.done .next)
      | some v =>
        letOwnedTupleGo tg2 it v
        assign tg2 env v
        let mut ok:=true
        for c in ifs2 do
          if ok then ok ← isTrue c env (eval c env)
        if ok then
          (do let _ ← call (.builtin "list.append") [acc,← eval elt env])
        again (.compLoop (.ListComp elt G scope pos) k it acc env)):=by
  unfold compTurn;simp only [hk,hk2];rfl
theorem pM {prog:Program} {w:World} {A:Around} {R:Result→Shared→Prop} {s:Shared} {elt tg2 iter2:Expr} {ifs2:List Expr} {G:List Comprehension} {k:Nat} (hk:G[k]?=some ⟨tg2,iter2,ifs2,0⟩) (hk2:G[k+1]?=none) {scope:Scope} {pos:Pos} {it acc:Value} {env:Env} (J:Nat→Shared→Prop)
    (turn:∀ n s,J n s→wpAny (model prog w) A (pyNext it) (fun r s₁=>match r with
      | none=>R (.ok .next) s₁
      | some v=>wpAny (model prog w) A (letOwnedTupleGo tg2 it v) (fun _ s₁'=>wpAny (model prog w) A (assign tg2 env v) (fun _ s₂ =>
          wpAny (model prog w) A (forIn ifs2 true fun c r=>if r=true then do let ok ← isTrue c env (eval c env);pure (ForInStep.yield ok) else pure (ForInStep.yield r)) (fun ok s₃ =>
            if ok=true then wpAny (model prog w) A (eval elt env) (fun x s₄ =>
              wpAny (model prog w) A (call (.builtin "list.append") [acc,x]) (fun _ s₅=>∃ m,m < n∧J m s₅) (fun _ _=>False) s₄) (fun _ _=>False) s₃
            else ∃ m,m < n∧J m s₃) (fun _ _=>False) s₂) (fun _ _=>False) s₁') (fun _ _=>False) s₁) (fun _ _=>False) s)
    (n:Nat) (h:J n s) :
    codeAny (model prog w) A (.compLoop (.ListComp elt G scope pos) k it acc env) R s:=by
  refine codeAny_loop rfl J (fun n s hI=>?_) n h;show wpAny _ A ((compTurn (.ListComp elt G scope pos) k it acc env).onRaise (fun x=>do noteFrame x env;theTreesLotGoes x)) _ _ s;refine wpAny_noted ?_;rw [kF hk hk2];refine wpAny_bind (wpAny_standAt (wpAny_bind (wpAny_mono (turn n s hI) (fun r s₁ h₁=>?_) fun _ _ h'=>h'.elim)));cases r with
  | none=>exact wpAny_pure h₁
  | some v =>
    refine wpAny_bind (wpAny_mono h₁ (fun _ s₁' h₁'=>?_) fun _ _ h'=>h'.elim);refine wpAny_bind (wpAny_mono h₁' (fun _ s₂ h₂=>wpAny_bind (wpAny_mono h₂ (fun ok s₃ h₃=>?_) fun _ _ h'=>h'.elim)) fun _ _ h'=>h'.elim);cases ok with
    | false=>exact wpAny_pure ⟨rfl,h₃⟩
    | true =>
      exact wpAny_bind (wpAny_bind (wpAny_mono h₃ (fun x s₄ h₄=>wpAny_bind (wpAny_mono h₄ (fun _ s₅ h₅=>wpAny_pure (wpAny_pure ⟨rfl,h₅⟩)) fun _ _ h'=>h'.elim)) fun _ _ h'=>h'.elim))
abbrev Lp (D:Addr) (its:List Value) (k:Nat):Addr × Obj:=(D,{ cls:=.type "list",data:=.seq its.toArray k })
section
variable {X:Cx} {pins:List (Addr × Obj)} {σ:St} {H2:Hp} {s2:Shared}
theorem Inv.cellLt (I2:Inv X pins σ H2 s2):∀ x c,X.env.cells.lookup x=some c→c < s2.heap.objs.size:=fun x c e=>by
  obtain ⟨v,q⟩:=I2.cell x c e;exact q.lt
theorem Inv.notStk (I2:Inv X pins σ H2 s2) {b:Addr} (hb:s2.heap.objs.size≤b):b∉frs X.stack:=fun hz=>by
  rcases aaj.mp (I2.stkSub b hz) with z|z
  · have:=I2.lt;rw [← z] at this;exact absurd (aaq this hb) (abu _)
  · exact I2.nofs hb z
theorem Inv.offC (I2:Inv X pins σ H2 s2) {C:Addr} (hC:s2.heap.objs.size≤C) {σ':St} {H:Hp} {s:Shared} {h':Heap} (I:Inv X pins σ' H s) (hn:H C=none) (he:∀ b o,b≠C→s.heap.get? b=some o→h'.get? b=some o):Inv X pins σ' H { s with heap:=h' } :=
  I.turned (t':=s.toks) (it:=C) he hn (abv (aaq I2.lt hC)) (.inr (aa9 I2.sz hC)) (fun x c e z=>absurd (I2.cellLt x c e) (by rw [z];exact acO.mpr hC)) (fun p hp z=>absurd (aas (I2.pin p hp).1) (by rw [z];exact acO.mpr hC))
theorem Inv.takeD (I2:Inv X pins σ H2 s2) {D:Addr} (hD:s2.heap.objs.size≤D) {σ':St} {H:Hp} {s:Shared} {o:HO} (I:Inv X pins σ' H s) (hn:H D=none) (ok:ObjOk X.prog X.w (upd H D o) s.heap D o):Inv X pins σ' (upd H D o) s :=
  I.adopt hn (aa9 I2.sz hD) (abv (aaq I2.lt hD)) (fun x c e=>aaD (aaq (I2.cellLt x c e) hD)) (fun p hp=>aaD (aaq (aas (I2.pin p hp).1) hD)) ok
variable {E:Env} {fn:Str→Bool} {NY:List Str} {fp:List Addr}
theorem Inv.outB (I2:Inv X pins σ H2 s2) (f2:∀ b∈fp,eI X pins H2 b) {P:List (Addr × Obj)} {σ':St} {H3:Hp} {s4:Shared} (I4:Inv (eQ X E fn NY fp s2 H2) P σ' H3 s4):Inv X pins σ H3 s4 :=
  I2.call' (ch:=fp) I4.os (show Un (frs X.stack) fp H2 H3 s2.heap s4.heap from I4.base) I4.hok I4.bare fun b hb=>⟨(f2 b hb).2.2.2.1,(f2 b hb).2.1,(f2 b hb).2.2.2.2.1,(f2 b hb).2.2.2.2.2⟩
structure BlkC (X:Cx) (s2:Shared) (h₁:Heap) (E:Env) (fn:Str→Bool):Prop where
  kind:E.scope.kind=.function
  glob:E.globals=X.env.globals
  blt:E.builtins=X.env.builtins
  loc:s2.heap.objs.size≤E.locals
  old:∀ b o,s2.heap.get? b=some o→h₁.get? b=some o
  ns:∃ m,h₁.Ns E.locals m
  cell:∀ x c,E.cells.lookup x=some c→(fn x=false∧X.env.cells.lookup x=some c)∨(fn x=true∧s2.heap.objs.size≤c∧c≠E.locals∧h₁.get? c=some { cls:=.type "cell",data:=.cell none }∧∀ y,E.cells.lookup y=some c→y=x)
  has:∀ x,E.kindOf x=some .cell∨E.kindOf x=some .free→∃ c,E.cells.lookup x=some c
theorem CapOk.noFn {fn:Str→Bool} {n:List Str} {c:List (Option Nat)} {j:Nat} {x:Str} {v:V} {σ:St} (h:((n.zip c).all fun p=>!fn p.1 || p.2 == none)=true) (h1:n[j]?=some x) (e:(cm c σ)[j]?=some (some v)):fn x=false:=by
  rw [cm,aar] at e;cases q:c[j]? with
  | none=>rw [q] at e;cases e
  | some o =>
    rw [q] at e;cases o with
    | none=>simp [yh] at e
    | some i =>
      have m:(x,some i)∈n.zip c:=aaM (i:=j) (by rw [List.getElem?_zip_eq_some];exact ⟨h1,q⟩);have:=aaU.mp h _ m;simpa using this
variable {h₁:Heap}
theorem Inv.fps (I2:Inv X pins σ H2 s2) (f2:∀ b∈fp,eI X pins H2 b) (fpl:∀ b∈fp,b < s2.heap.objs.size) (B:BlkC X s2 h₁ E fn) {P:List (Addr × Obj)} (hP:∀ p∈P,s2.heap.objs.size≤p.1) {H':Hp} (hn:∀ b∈fp,H' b=none):∀ b∈fp,eI (eQ X E fn NY fp s2 H2) P H' b:=fun b hb=>by
  refine ⟨hn b hb,aaD (aaq (fpl b hb) B.loc),fun hz=>?_,.inl hb,fun x c e=>?_,fun p hp=>?_⟩
  · rcases aaj.mp (I2.stkSub b hz) with z|z
    · exact (f2 b hb).2.1 z
    · exact (f2 b hb).2.2.1 z
  · rcases B.cell x c e with z|z
    · exact (f2 b hb).2.2.2.2.1 x c z.2
    · exact abv (aaq (fpl b hb) z.2.1)
  · exact abv (aaq (fpl b hb) (hP p hp))
theorem Inv.blkLoc (I2:Inv X pins σ H2 s2) (B:BlkC X s2 h₁ E fn) {cap:List (Option Nat)} (hcap:CapOk X.env E.scope X.N NY cap) (hx:((NY.zip cap).all fun p=>!fn p.1 || p.2 == none)=true) {h:Heap} (hk:∀ x c o,X.env.cells.lookup x=some c→s2.heap.get? c=some o→∃ o',h.get? c=some o'∧o'.data=o.data) {m:Str→Option Value} :
    ∀ (i:Nat) (x:Str) (v:V),NY[i]?=some x→(cm cap σ)[i]?=some (some v)→∃ u,RelV v u∧xq E h m x u:=fun j x v e1 e2=>by
  obtain ⟨i,h1,h2,h3,h4⟩:=CapOk.get (σ:=σ) hcap e1 e2;have nf:=CapOk.noFn hx e1 e2;obtain ⟨m',hn,hl⟩:=I2.loc;have vis:Vis X.env.scope x:=by rcases h3 with z|z;exact .inr (.inl z);exact .inr (.inr z)
  obtain ⟨u,r,l⟩:=hl i x v h1 h2 vis;refine ⟨u,r,.inr ⟨h4,?_⟩⟩;rcases l with ⟨k,_⟩|⟨_,c,e,z⟩
  · rcases h3 with z|z <;> (rw [k] at z;cases z)
  · obtain ⟨c',e'⟩:=B.has x h4;rcases B.cell x c' e' with q|q
    · have e'':=q.2;rw [e] at e'';cases e'';obtain ⟨o,ho,hd⟩:=z;obtain ⟨o',h',d'⟩:=hk x c o e ho;exact ⟨c,e',o',h',d'.trans hd⟩
    · rw [nf] at q;exact absurd q.1 aap
theorem Inv.blk (I2:Inv X pins σ H2 s2) (f2:∀ b∈fp,eI X pins H2 b) (fpl:∀ b∈fp,b < s2.heap.objs.size) (B:BlkC X s2 h₁ E fn) {cap:List (Option Nat)} (hcap:CapOk X.env E.scope X.N NY cap) (hx:((NY.zip cap).all fun p=>!fn p.1 || p.2 == none)=true)
    {P:List (Addr × Obj)} (hP:∀ p∈P,h₁.get? p.1=some p.2∧s2.heap.objs.size≤p.1∧p.1≠E.locals∧∀ v,p.2.data≠.cell v) {t':Nat}:Inv (eQ X E fn NY fp s2 H2) P (cm cap σ) H2 { s2 with heap:=h₁,toks:=t' }:=by
  refine ⟨⟨I2.ok.mod,B.kind,B.glob.trans I2.ok.glob,B.blt.trans I2.ok.blt,B.loc,fun x y c e1 e2=>?_,B.has,fun x c hf e=>?_,I2.ok.hd,I2.ok.frames,.inl rfl,fun b hb=>⟨aaD (aaq (fpl b hb) B.loc),fun x c e z=>?_⟩,I2.bs,aa9 I2.ok.bsz I2.sz,fun b o e hb=>?_,fun b hb hz=>?_,I2.stack,I2.stkFree⟩,
    rfl,I2.bare,Un.kept B.old,⟨B.ns.choose,B.ns.choose_spec,fun j x v e1 e2 _=>I2.blkLoc B hcap hx (fun x c o _ ho=>⟨o,B.old _ _ ho,rfl⟩) j x v e1 e2⟩,fun x c e=>?_,I2.hok.fresh B.loc,fun x c e=>?_,fun p hp=>?_,I2.hok.kept B.old,?_⟩
  · rcases B.cell x c e1 with z|z
    · rcases B.cell y c e2 with q|q
      · exact I2.ok.inj x y c z.2 q.2
      · exact absurd (I2.cellLt x c z.2) (acO.mpr q.2.1)
    · exact (z.2.2.2.2 y e2).symm
  · rcases B.cell x c e with z|z
    · have hf:fn x=true:=hf;rw [z.1] at hf;cases hf
    · exact z.2.1
  · rcases B.cell x c e with q|q
    · exact (f2 b hb).2.2.2.2.1 x c q.2 z
    · exact absurd (fpl b hb) (by rw [← z];exact acO.mpr q.2.1)
  · rcases (f2 b hb).2.2.2.1 with z|z
    · exact I2.ok.noex b o e z
    · exact absurd (aaq (aas (I2.ok.bs b o e).1) z) (abu _)
  · rcases aaj.mp (I2.stkSub b hz) with z|z
    · exact (f2 b hb).2.1 z
    · exact (f2 b hb).2.2.1 z
  · rcases B.cell x c e with q|q
    · obtain ⟨v,o,ho,hd⟩:=I2.cell x c q.2;exact ⟨v,o,B.old _ _ ho,hd⟩
    · exact ⟨none,_,q.2.2.2.1,rfl⟩
  · rcases B.cell x c e with q|q
    · exact I2.freeC x c q.2
    · exact I2.hok.fresh q.2.1
  · obtain ⟨h1,h2,h3,h4⟩:=hP p hp;exact ⟨h1,I2.hok.fresh h2,h3,I2.notStk h2,h4⟩
  · show (cm cap σ).length=NY.length;unfold cm;rw [aaf];exact hcap.len
theorem Inv.recap (I2:Inv X pins σ H2 s2) (f2:∀ b∈fp,eI X pins H2 b) (B:BlkC X s2 h₁ E fn) {cap:List (Option Nat)} (hcap:CapOk X.env E.scope X.N NY cap) (hx:((NY.zip cap).all fun p=>!fn p.1 || p.2 == none)=true) {pn:List (Addr × Obj)} {σ':St} {H':Hp} {s':Shared} (Z:Inv (eQ X E fn NY fp s2 H2) pn σ' H' s'):Inv (eQ X E fn NY fp s2 H2) pn (cm cap σ) H' s':=by
  refine ⟨Z.ok,Z.os,Z.bare,Z.base,?_,Z.cell,Z.free,Z.freeC,Z.pin,Z.hok,?_⟩
  · obtain ⟨m,hn,_⟩:=Z.loc;refine ⟨m,hn,fun j x v e1 e2 _=>I2.blkLoc B hcap hx (fun x c o e ho=>?_) j x v e1 e2⟩;have nfp:c∉fp:=fun hz=>(f2 c hz).2.2.2.2.1 x c e rfl;obtain ⟨sl,q⟩:=Z.base.any (show s2.heap.get? c=some o from ho) (I2.freeC x c e) nfp;exact ⟨_,q,rfl⟩
  · show (cm cap σ).length=NY.length;unfold cm;rw [aaf];exact hcap.len
theorem Inv.blkC (I2:Inv X pins σ H2 s2) {scope:Scope} {cl:List (Str × Addr)} (hci:CellsIn X.env cl) (hkind:scope.kind=.function) (hhas:((relabel scope X.env).names.all fun p=>(p.2 != .cell && p.2 != .free) || (cl.lookup p.1).isSome)=true) {C:Addr} (hC:s2.heap.objs.size≤C)
    (old:∀ b o,s2.heap.get? b=some o→h₁.get? b=some o) (hns:∃ m,h₁.Ns C m):BlkC X s2 h₁ (compEnvC scope cl C X.env) (fun _=>false):=by
  refine ⟨hkind,rfl,rfl,hC,old,hns,fun x c e=>.inl ⟨rfl,hci.get e⟩,fun x hx=>?_⟩;have hx':(relabel scope X.env).names.lookup x=some .cell∨(relabel scope X.env).names.lookup x=some .free:=hx;have key:∀ k,(relabel scope X.env).names.lookup x=some k→(k=.cell∨k=.free)→∃ c,cl.lookup x=some c:=fun k e hk=>by
    have q:=aaU.mp hhas (x,k) (abt e);have q':(cl.lookup x).isSome=true:=by
      rcases hk with rfl|rfl <;> simpa using q
    exact acj.mp q'
  rcases hx' with e|e
  · exact key _ e (.inl rfl)
  · exact key _ e (.inr rfl)
theorem df {NY:List Str} {cap:List (Option Nat)}:((NY.zip cap).all fun p=>!(fun _:Str=>false) p.1 || p.2 == none)=true:=List.all_eq_true.mpr fun _ _=>rfl
theorem mO {scope:Scope} (h:(scope.names.all fun y=>y.2 != .cell)=true):∀ y∈scope.names,y.2≠.cell:=fun y hy=>by
  have q:=aaU.mp h y hy;simpa using q
theorem jp {scope:Scope} (h:(scope.names.all fun y=>y.2 != .local || scope.names.lookup y.1 == some .local)=true):∀ y∈scope.names,y.2=.local→scope.names.lookup y.1=some .local:=fun y hy e=>by
  have q:=aaU.mp h y hy;rw [e] at q;simpa using q
theorem Inv.lstDone (I2:Inv X pins σ H2 s2) (f2:∀ b∈fp,eI X pins H2 b) {D C:Addr} (hD:s2.heap.objs.size≤D) (hC:s2.heap.objs.size≤C) (eC:E.locals=C) {P:List (Addr × Obj)} {σ':St} {H3:Hp} {s4:Shared} {ys:List V} {its:List Value} {k:Nat} (I4:Inv (eQ X E fn NY fp s2 H2) (Lp D its k :: P) σ' H3 s4) (rv:Vals ys its) (hz:ys.length≤sizeLine) :
    Inv X pins σ (upd H3 D (.lst ys)) s4∧H3 D=none∧upd H3 D (.lst ys) C=none∧∃ m,s4.heap.Ns C m:=by
  subst eC;have pD:=I4.pin (Lp D its k) (aag _ aai);obtain ⟨m,hnC,_⟩:=id I4.loc;refine ⟨I2.takeD hD (I2.outB f2 I4) pD.2.1 ⟨hz,its,k,rv,pD.1⟩,pD.2.1,?_,m,hnC⟩;have z:D≠E.locals:=pD.2.2.1;rw [aI (abM z)];exact I4.free
theorem Inv.lstEnd (I2:Inv X pins σ H2 s2) (f2:∀ b∈fp,eI X pins H2 b) {D C:Addr} (hD:s2.heap.objs.size≤D) (hC:s2.heap.objs.size≤C) (eC:E.locals=C) {P:List (Addr × Obj)} {σ':St} {H3:Hp} {s4:Shared} {ys:List V} {its:List Value} {k:Nat} (I4:Inv (eQ X E fn NY fp s2 H2) (Lp D its k :: P) σ' H3 s4) (rv:Vals ys its) (hz:ys.length≤sizeLine)
    {Q:VK} (qn:∀ p,H3 p=none→Q (.ref p) (upd H3 p (.lst ys))):compPost (model X.prog X.w) X.A X.xe none (EP X pins σ Q) (.ref D) C (.ok .next) s4:=by
  obtain ⟨I5,hD3,hC3,m,hn⟩:=I2.lstDone f2 hD hC eC I4 rv hz;exact ⟨m,hn,fun h' hsb=>⟨.ref D,_,I2.offC hC I5 hC3 fun b o hb e=>hsb.extBut b o hb e,rfl,qn D hD3⟩⟩
end
theorem qz {Y:Cx} {τ:Type} {val:τ→St} {nx:St→τ} (hc:Y.calm=true) (hxe:Y.xe=fun _ _=>False) (hrs:∀ {pn:List (Addr × Obj)} {σ':St} {H':Hp} {s':Shared},Inv Y pn σ' H' s'→Inv Y pn (val (nx σ')) H' s')
    {D:Addr} (hDx:D∈Y.ex∨Y.s₀.heap.objs.size≤D) (hDc:∀ x c,Y.env.cells.lookup x=some c→c≠D) (hDp:∀ p∈Y.pn,p.1≠D)
    {elt tg iter:Expr} {ifs:List Expr} {te:TE} {g:TG} {tt:TT} {G:List Comprehension} {scope:Scope} {pos:Pos} {k:Nat} (hbe:PE Y elt te) (hk:G[k]?=some ⟨tg,iter,ifs,0⟩) (hk2:G[k+1]?=none) (htg:PG Y tg g) (hfs:i6 Y ifs tt)
    {P:List (Addr × Obj)} (hP:∀ p∈P,p.1≠D) {it:Addr} {fp:List Addr} {tn:Nat→Heap→Prop} {J:It} (T:Turn Y.prog Y.w Y.K tg J fp it tn) (neD:∀ b∈fp,D≠b) (fpY:∀ {H':Hp} {n:Nat} {its:List Value},(∀ b∈fp,H' b=none)→∀ b∈fp,eI Y (Lp D its n :: P) H' b)
    {R:Result→Shared→Prop} {Fin:List V→τ→Hp→Prop} (hR:∀ ys its k t H s,Inv Y (Lp D its k :: P) (val t) H s→Vals ys its→ys.length≤sizeLine→Fin ys t H→R (.ok .next) s)
    {W:Nat→Nat→List V→τ→Hp→Prop} (turn:∀ i m ys t H,W i m ys t H→(J.stop i H∧Fin ys t H) ∨
      (J.go i H∧ys.length < sizeLine∧∀ x H',J.yld i H x H'→g x (val t) H' fun σ3 H5=>tt σ3 H5 fun b H6=>if b=true then te σ3 H6 fun v H7=>∃ m',m' < m∧W (i+1) m' (ys++[v]) (nx σ3) H7 else ∃ m',m' < m∧W (i+1) m' ys (nx σ3) H6))
    {m0 kk:Nat} {ys:List V} {its:List Value} {t:τ} {H:Hp} {s:Shared} (I:Inv Y (Lp D its kk :: P) (val t) H s) (rv:Vals ys its) (hz:ys.length≤sizeLine) (st:tn 0 s.heap) (fr:∀ b∈fp,H b=none) (w0:W 0 m0 ys t H) :
    codeAny (model Y.prog Y.w) Y.A (.compLoop (.ListComp elt G scope pos) k (.ref it) (.ref D) Y.env) R s:=by
  have xe:∀ e s,Y.xe e s→False:=fun e s z=>by rw [hxe] at z;exact z
  refine pM hk hk2 (fun n s'=>∃ i ys its k t H',Inv Y (Lp D its k :: P) (val t) H' s'∧Vals ys its∧ys.length≤sizeLine∧tn i s'.heap∧(∀ b∈fp,H' b=none)∧W i n ys t H') ?_ m0 ⟨0,ys,its,kk,t,H,I,rv,hz,st,fr,w0⟩;rintro n s3 ⟨i,ys3,its3,k3,t3,H3,I3,rv3,hz3,st3,fr3,w3⟩;rcases turn i n ys3 t3 H3 w3 with ⟨stop,qn⟩|⟨go,hlt,step⟩
  · refine wpAny_mono (T.done Y rfl rfl rfl hc i _ s3 _ H3 (fun _ _=>False) I3 (fpY fr3) st3 stop) (fun r s4 ⟨hr,I4⟩=>?_) fun _ _ z=>z;subst hr;exact hR ys3 its3 k3 t3 H3 s4 I4 rv3 hz3 qn
  · refine wpAny_mono (T.item Y rfl rfl rfl hc i _ s3 _ H3 (fun _ _=>False) I3 (fpY fr3) st3 go) (fun r s4 ⟨u,hr,h4⟩=>?_) fun _ _ z=>z;subst hr;refine wpAny_mono h4 (fun _ s5 ⟨x,H5,I5,r5,y5,st5,fr5⟩=>?_) fun _ _ z=>z;have I5':=I5.pinned (fpY fr5) (T.obj _ _ st5);refine wpAny_mono (htg _ s5 _ H5 x u _ I5' r5 (step x H5 y5)) (fun _ s6 ⟨σ6,H6,I6,q6⟩=>?_) fun e s z=>(xe e s z).elim;refine wpAny_mono (hfs _ s6 σ6 H6 _ I6 q6) (fun ok s7 ⟨H7,I7,q7⟩=>?_) fun e s z=>(xe e s z).elim;have again:∀ {ys':List V} {its':List Value} {k':Nat} {σ':St} {H':Hp} {s':Shared},Inv Y (Lp D its' k' :: (P++de fp s5.heap)) σ' H' s'→Vals ys' its'→ys'.length≤sizeLine→(∃ m',m' < n∧W (i+1) m' ys' (nx σ') H') →
        ∃ m,m < n∧∃ i ys its k t H',Inv Y (Lp D its k :: P) (val t) H' s'∧Vals ys its∧ys.length≤sizeLine∧tn i s'.heap∧(∀ b∈fp,H' b=none)∧W i m ys t H':=fun {ys' its' k' σ' H' s'} Z rv' hz' hw=>by
      obtain ⟨m',hm,w'⟩:=hw;have pn:∀ {b:Addr} {o:Obj},b∈fp→s5.heap.get? b=some o→_:=fun {b o} hb e=>Z.pin (b,o) (aag _ (aae _ (aag _ (di hb e))));refine ⟨m',hm,i+1,ys',its',k',nx σ',H',hrs (Inv.unpinned (pl:=de fp s5.heap) Z),rv',hz',T.keep _ _ _ st5 fun b hb o e=>(pn hb e).1,fun b hb=>?_,w'⟩;obtain ⟨o,e,d⟩:=T.obj _ _ st5 b hb;exact (pn hb e).2.1
    cases ok with
    | false =>
      rw [if_neg aap] at q7 ⊢;exact again I7 rv3 hz3 q7
    | true =>
      rw [if_pos rfl] at q7 ⊢;refine wpAny_mono (hbe _ s7 σ6 H7 _ I7 q7) (fun xv s15 ⟨v,H15,I15,r15,q15⟩=>?_) fun e s z=>(xe e s z).elim;have pD:=I15.pin (Lp D its3 k3) (aag _ aai);have hlen:=rv3.length;refine append_at pD.1 (fun h16 hs16 hD16=>?_) (by rw [aal];lia);have I16:Inv Y (P++de fp s5.heap) σ6 H15 s15:=I15.pins_of fun p hp=>I15.pin p (aag _ (aae _ hp));have I17:Inv Y (P++de fp s5.heap) σ6 H15 { s15 with heap:=h16 }:=I16.turned (t':=s15.toks) (it:=D) (fun b o hb e=>hs16.extBut b o hb e) pD.2.1 pD.2.2.1 hDx hDc fun p hp=>by
        rcases aau.mp hp with z|z
        · exact hDp p z
        · rcases aau.mp z with z|z
          · exact hP p z
          · exact abM (neD _ (iB z).1)
      have I18:Inv Y (Lp D (its3++[xv]) (k3+1) :: (P++de fp s5.heap)) σ6 H15 { s15 with heap:=h16 }:=I17.pins_of fun p hp=>by
        rcases aaj.mp hp with z|z
        · rw [z];refine ⟨?_,pD.2.1,pD.2.2.1,pD.2.2.2.1,fun v z=>by cases z⟩;rw [List.push_toArray] at hD16;exact hD16
        · exact I17.pin p (aag _ z)
      exact again I18 (rv3.append (.cons r15 .nil)) (by rw [aah,ab4];exact hlt) q15
theorem Turn.lt {P:Program} {w:World} {K:aaa} {tg:Expr} {J:It} {fp:List Addr} {it:Addr} {tn:Nat→Heap→Prop} (T:Turn P w K tg J fp it tn) {h:Heap} {i:Nat} (st:tn i h):∀ b∈fp,b < h.objs.size:=fun b hb=>by
  obtain ⟨o,e,_⟩:=T.obj _ _ st b hb;exact aas e
theorem BlkC.neD {X:Cx} {s2:Shared} {h₁:Heap} {E:Env} {fn:Str→Bool} (B:BlkC X s2 h₁ E fn) (hc:∀ x c,X.env.cells.lookup x=some c→c < s2.heap.objs.size) {D:Addr} (hD:s2.heap.objs.size≤D) {o:Obj} (h:h₁.get? D=some o) (ho:∀ v,o.data≠.cell v):∀ x c,E.cells.lookup x=some c→c≠D:=fun x c e z=>by
  rcases B.cell x c e with q|q
  · exact absurd (hc x c q.2) (by rw [z];exact acO.mpr hD)
  · have:=q.2.2.2.1;rw [z,h] at this;cases this;exact ho _ rfl
theorem Inv.newC {X:Cx} {pins:List (Addr × Obj)} {σ:St} {H2:Hp} {s2:Shared} {h₁:Heap} (I2:Inv X pins σ H2 s2) {scope:Scope} {cl:List (Str × Addr)} (hci:CellsIn X.env cl) (hkind:scope.kind=.function) (hhas:((relabel scope X.env).names.all fun p=>(p.2 != .cell && p.2 != .free) || (cl.lookup p.1).isSome)=true) {o:Obj}
    {m:Str→Option Value} (hns:h₁.Ns (s2.heap.push o).objs.size m) (ext:∀ b u,b≠(s2.heap.push o).objs.size→(s2.heap.push o).get? b=some u→h₁.get? b=some u) (hof:o.isFreed=false:=by rfl) :
    s2.heap.objs.size < (s2.heap.push o).objs.size∧BlkC X s2 h₁ (compEnvC scope cl (s2.heap.push o).objs.size X.env) (fun _=>false)∧h₁.get? s2.heap.objs.size=some o:=by
  have hC:s2.heap.objs.size < (s2.heap.push o).objs.size:=by rw [Heap.size_push];exact acg _
  exact ⟨hC,I2.blkC hci hkind hhas (abS hC) (fun b u e=>ext b u (aaD (Nat.lt_trans (aas e) hC)) (aak _ e)) ⟨m,hns⟩,ext _ _ (aaD hC) (aaJ _ hof)⟩
theorem Inv.goLast {X:Cx} {pins:List (Addr × Obj)} {σ:St} {H2:Hp} {s2:Shared} {h₁:Heap} {E:Env} {fn:Str→Bool} {NY:List Str} {fp:List Addr} (I2:Inv X pins σ H2 s2) (f2:∀ b∈fp,eI X pins H2 b) (fpl:∀ b∈fp,b < s2.heap.objs.size) (B:BlkC X s2 h₁ E fn) {cap:List (Option Nat)} (hcap:CapOk X.env E.scope X.N NY cap)
    (hx:((NY.zip cap).all fun p=>!fn p.1 || p.2 == none)=true) (hc:X.calm=true) {C:Addr} (hC:s2.heap.objs.size < C) (eC:E.locals=C) (hD:h₁.get? s2.heap.objs.size=some { cls:=.type "list",dict:=none,data:=.seq ([]:List Value).toArray })
    {tg elt iter:Expr} {ifs:List Expr} {g:TG} {tt:TT} {te:TE} {J:It} {it:Addr} {tn:Nat→Heap→Prop} (T:Turn X.prog X.w X.K tg J fp it tn) (st:tn 0 h₁) (hbe:PE (eQ X E fn NY fp s2 H2) elt te) (hbg:PG (eQ X E fn NY fp s2 H2) tg g) (hbt:i6 (eQ X E fn NY fp s2 H2) ifs tt)
    {G:List Comprehension} (hk:G[0]?=some ⟨tg,iter,ifs,0⟩) (hk2:G[1]?=none) {scope:Scope} {pos:Pos} {t':Nat} {W:Nat→Nat→List V→Hp→Prop} {Fin:List V→Hp→Prop}
    (turn:∀ i m ys H,W i m ys H→(J.stop i H∧Fin ys H)∨(J.go i H∧ys.length < sizeLine∧∀ x H',J.yld i H x H'→g x (cm cap σ) H' fun σ2 H2=>tt σ2 H2 fun b H3=>if b=true then te σ2 H3 fun v H4=>∃ m',m' < m∧W (i+1) m' (ys++[v]) H4 else ∃ m',m' < m∧W (i+1) m' ys H3))
    {m0:Nat} (w0:W 0 m0 [] H2) {R:Result→Shared→Prop} (hR:∀ ys its k H s,Inv (eQ X E fn NY fp s2 H2) [Lp s2.heap.objs.size its k] (cm cap σ) H s→Vals ys its→ys.length≤sizeLine→Fin ys H→R (.ok .next) s) :
    codeAny (model X.prog X.w) X.A (.compLoop (.ListComp elt G scope pos) 0 (.ref it) (.ref s2.heap.objs.size) E) R { s2 with heap:=h₁,toks:=t' }:=by
  subst eC;exact qz (τ:=Unit) (val:=fun _=>cm cap σ) (nx:=fun _=>()) (Y:=eQ X E fn NY fp s2 H2) hc rfl (fun Z=>I2.recap f2 B hcap hx Z) (.inr (aab _)) (B.neD I2.cellLt (aab _) hD fun v z=>by cases z) (fun p hp=>by cases hp) hbe hk hk2 hbg hbt (P:=[]) (fun p hp=>by cases hp) T
    (fun b hb=>abv (fpl b hb)) (fun hn=>I2.fps f2 fpl B (fun p hp=>by rw [aaN.mp hp];exact aab _) hn) (Fin:=fun ys _ H=>Fin ys H) (fun ys its k _ H s=>hR ys its k H s)
    (W:=fun i m ys _ H=>W i m ys H) (fun i m ys _ H=>turn i m ys H) (t:=()) (I2.blk f2 fpl B hcap hx (fun p hp=>by rw [aaN.mp hp];exact ⟨hD,aab _,aaD hC,fun v z=>by cases z⟩)) .nil (aaK _) st (fun b hb=>(f2 b hb).1) w0
abbrev vD (cap:List (Option Nat)) (g:TG) (tt:TT) (te:TE) (σ:St) (Q:VK) (J:It) (H1:Hp):Prop:=∃ W:Nat→Nat→List V→Hp→Prop,(∃ m,W 0 m [] H1)∧∀ i m ys H,W i m ys H →
  (J.stop i H∧∀ p,H p=none→Q (.ref p) (upd H p (.lst ys))) ∨
  (J.go i H∧ys.length < sizeLine∧∀ x H',J.yld i H x H'→g x (cm cap σ) H' fun σ2 H2=>tt σ2 H2 fun b H3=>if b=true then te σ2 H3 fun v H4=>∃ m',m' < m∧W (i+1) m' (ys++[v]) H4 else ∃ m',m' < m∧W (i+1) m' ys H3)
def tLc (cap:List (Option Nat)) (wi:TI) (g:TG) (tt:TT) (te:TE):TE:=fun σ H Q=>wi σ H (vD cap g tt te σ Q)
section
variable {X:Cx}
theorem gm {elt tg iter:Expr} {ifs:List Expr} {scope:Scope} {pos:Pos} {cl:List (Str × Addr)} {NY:List Str} {cap:List (Option Nat)} {wi:TI} {g:TG} {tt:TT} {te:TE} (hc:X.calm=true) (hi:PI X tg iter wi)
    (hclos:closureFor scope X.env=pure cl) (hci:CellsIn X.env cl) (hcap:CapOk X.env (relabel scope X.env) X.N NY cap)
    (hb:∀ fp s H C,PG (bh X scope cl NY fp s H C) tg g∧i6 (bh X scope cl NY fp s H C) ifs tt∧PE (bh X scope cl NY fp s H C) elt te)
    (hkind:scope.kind=.function:=by rfl) (hnc:(scope.names.all fun y=>y.2 != .cell)=true:=by rfl)
    (hnames:(scope.names.all fun y=>y.2 != .local || scope.names.lookup y.1 == some .local)=true:=by rfl)
    (hhas:((relabel scope X.env).names.all fun p=>(p.2 != .cell && p.2 != .free) || (cl.lookup p.1).isSome)=true:=by rfl)
    (hs:∀ x,foldedSetIterable iter X.env x=pure x:=by intro _;rfl) :
    PE X (.ListComp elt [⟨tg,iter,ifs,0⟩] scope pos) (tLc cap wi g tt te):=by
  intro pins s σ H Q I h;rw [eval_ListComp];refine wpAny_comprehension_free (use:=none) rfl hs hclos hkind (jp hnames) (wpAny_mono (hi pins s σ H _ I h) (fun v s1 h1=>wpAny_mono h1 (fun itv s2 h2=>?_) fun _ _ e=>e) fun _ _ e=>e);obtain ⟨it,fp,tn,J,H2,e,I2,T,st2,f2,W,⟨m0,w0⟩,turn⟩:=h2;subst e;refine wpAny_newObj_type (wpAny_newFunctionEnv (mO hnc) (by intro y hy;simp at hy) (fun h₁ hns₁ hsb₁=>?_) hkind);dsimp only at hns₁ hsb₁ ⊢;obtain ⟨hC,B,hD⟩:=I2.newC hci hkind hhas hns₁ fun b o hb e=>hsb₁.extBut b o hb (aak _ e);generalize (s2.heap.push { cls:=.type "list",dict:=none,data:=.seq ([]:List Value).toArray }).objs.size=C at hC B ⊢;obtain ⟨hbg,hbt,hbe⟩:=hb fp s2 H2 C;have stW:=T.keep _ _ h₁ st2 fun b _ o e=>B.old b o e;have loop:=I2.goLast f2 (T.lt st2) B hcap df hc hC rfl hD T stW hbe hbg hbt (G:=[⟨tg,iter,ifs,0⟩]) rfl rfl (scope:=scope) (pos:=pos) (iter:=iter) (t':=s2.toks+([]:List (Str × Value)).length) turn w0 (R:=compPost (model X.prog X.w) X.A X.xe none (EP X pins σ Q) (.ref s2.heap.objs.size) C) fun ys its k H s I4 rv hz fin=>I2.lstEnd f2 (aab _) (abS hC) rfl I4 rv hz fin;exact codeAny_compStart_list loop (T.self _ 0 _ _ _ stW loop)
end
open PySem PySem.Spec PyProof.Rows
section
variable {X:Cx}
theorem a8 {n:String}:dF X (.builtin "isinstance") (fun xs H Q=>∃ x t b,xs=[x,.ty n]∧TyOf X.K H x t∧aaE X.K t (.type n)=some b∧Q (.bl b) H):=by
  intro pins s σ H xs us Q I r h;obtain ⟨x,t,b,rfl,ty,e,q⟩:=h;obtain ⟨u,w',rfl,rx,rt⟩:=jt r;cases rt;exact rG I rx ty e fun tk=>⟨.bl b,H,I.tok _,rfl,q⟩
theorem hE:OpR X (binaryOp .FloorDiv) (rI (fun _ j=>0 < j∧j < 2 ^ 64) fun i j=>.int (i / j)):=opI fun i j _ _ _ _ _ hc q=>by
  have h1:(0:Int) < j:=hc.1;have h2:j < 2 ^ 64:=hc.2;refine floordiv_int (by lia) (by rw [Int.fdiv_eq_ediv_of_nonneg i (by lia)];exact q) (.inl (PyProof.noPylong_of_log2 ?_));have h3:j.natAbs < 2 ^ 64:=by lia
  have h4:j.natAbs≠0:=by lia
  have h5:j.natAbs.log2 < 64:=(Nat.log2_lt h4).mpr h3;lia
def Cal (P:Program) (w:World) (K:aaa) (mg:Str→Option Value) (base:Heap) (x:Str) (k:Nat) (ps:List Str) (sp:Sp):Prop :=
  ∃ f fd,FnOk P w K mg base CX0 k f fd ps sp∧Binds K fd ps []∧abm K (.ref f)=true∧mg x=some (.ref f)
theorem am {x:Str} {k k':Nat} {ps:List Str} {sp:Sp} {e:Expr} {es:List Expr} {t:TA} {p pos:Pos} (C:Cal X.prog X.w X.K X.mg X.base x k ps sp) (hr:Room k' X.A) (hk:k≤k') (hg:Gl X x) (ha:PA X (e :: es) t)
    (hdb:(x == ("__debug__":Str))=false:=by decide) (he:starEach (e :: es) X.env=(false,eval e X.env) :: starEach es X.env:=by rfl) (hpl:(backTo pos (starEach es X.env)).any (·.1)=false:=by rfl) :
    PE X (.Call (.Name x p) (e :: es) [] pos) (sh sp [] E0 t):=by
  obtain ⟨f,fd,F,b,kp,m⟩:=C;exact qo F (hr.mono hk) hg m kp b .nil xS ha hdb he hpl
end
theorem Same.new {H:Hp} {p:Addr} (h:H p=none) (o:HO):Same H (upd H p o):=fun b u q=>by rw [aI (ba q h)];exact q
def But (w:Addr) (H H':Hp):Prop:=∀ b o,b≠w→H b=some o→H' b=some o
theorem But.refl {w:Addr} {H:Hp}:But w H H:=fun _ _ _ h=>h
theorem But.trans {w:Addr} {H H1 H2:Hp} (a:But w H H1) (b:But w H1 H2):But w H H2:=fun c o n h=>b c o n (a c o n h)
theorem But.of {w:Addr} {H H':Hp} (a:Same H H'):But w H H':=fun c o _ h=>a c o h
theorem But.new {w:Addr} {H:Hp} {p:Addr} (h:H p=none) (o:HO):But w H (upd H p o):=But.of (Same.new h o)
theorem But.put {w:Addr} {H:Hp} {o:HO}:But w H (upd H w o):=fun b u n q=>by rw [aI n];exact q
end L2
namespace Srt
open PySem PySem.W PyProof.Rows
def run {α:Type} (lt:Nat→Nat→Bool):KasT α→α
  | .ret a=>a
  | .ask i j k=>run lt (k (lt i j))
section
variable (key:Nat→Int)
abbrev lt:Nat→Nat→Bool:=fun i j=>decide (key i < key j)
def kp (p:Array Nat) (x:Nat):Int:=key (p.getD x 0)
def Up (p:Array Nat) (m:Nat):Prop:=∀ i j,i < j→j < m→kp key p i < kp key p j
variable {key}
end
end Srt
namespace Srt
open PySem PySem.W PyProof.Rows
def Ent (n:Nat) (p:Array Nat):Prop:=∀ x,p.getD x 0 < n
section
variable {prog:Program} {w:World} {A:Around} {E:Value→Shared→Prop} {s:Shared}
end
end Srt
set_option maxHeartbeats 2000000
namespace L2
open PySem PySem.Spec PyProof.Rows
inductive EqR (K:aaa) (H:Hp):Nat→V→V→Bool→Prop
  | flat {n:Nat} {x y:V} (fx:eP x=true) (fy:eP y=true):EqR K H n x y (eqV x y)
  | lens {n:Nat} {a b:Addr} {xs ys:List V} (ha:SqL K H a xs) (hb:SqL K H b ys) (hl:xs.length≠ys.length):EqR K H (n+1) (.ref a) (.ref b) false
  | lst {n:Nat} {a b:Addr} {xs ys:List V} {e:Nat→Bool} (ha:SqL K H a xs) (hb:SqL K H b ys) (hl:xs.length=ys.length) (h:∀ (j:Nat) x y,xs[j]?=some x→ys[j]?=some y→EqR K H n x y (e j)):EqR K H (n+1) (.ref a) (.ref b) ((aby xs.length).all e)
  | tup {n:Nat} {a b:Addr} {xs ys:List V} {e:Nat→Bool} (ha:SqT K H a xs) (hb:SqT K H b ys) (h:∀ (j:Nat) x y,xs[j]?=some x→ys[j]?=some y→EqR K H n x y (e j)) :
      EqR K H (n+1) (.ref a) (.ref b) ((aby (min xs.length ys.length)).all e && xs.length == ys.length)
theorem tV {x:V} (f:eP x=true):eqV x x=true:=by
  cases x <;> first|rfl|(simp [eqV];done)|exact absurd (show false=true from f) aap
section
variable {X:Cx} {pins:List (Addr × Obj)} {σ:St} {H:Hp} {s:Shared}
theorem EqR.self (I:Inv X pins σ H s) {n:Nat} {x y:V} {b:Bool} (h:EqR X.K H n x y b):x=y→b=true:=by
  induction h with
  | flat fx fy=>intro e;subst e;exact tV fx
  | lens ha hb hl =>
    intro e;injection e with e;subst e
    exact absurd (by rw [I.list_inj ha hb]) hl
  | @lst n a b xs ys e ha hb hl h ih =>
    intro q;injection q with q;subst q
    obtain rfl:=I.list_inj ha hb;rw [aaU];intro j hj;have hj':j < xs.length:=List.mem_range.mp hj;exact ih j _ _ (aac hj') (aac hj') rfl
  | @tup n a b xs ys e ha hb h ih =>
    intro q;injection q with q;subst q
    obtain rfl:=I.tuple_inj ha hb;rw [abk,aaU];refine ⟨fun j hj=>?_,beq_self_eq_true _⟩;have hj':j < xs.length:=by have:=List.mem_range.mp hj;lia
    exact ih j _ _ (aac hj') (aac hj') rfl
theorem cg {xs:List V} {its:List Value} (r:Vals xs its) {j:Nat} (h:j < its.toArray.size):∃ x,xs[j]?=some x∧RelV x its.toArray[j]:=by
  have hl:=r.length;have h':j < xs.length:=by rw [hl];simpa using h
  obtain ⟨u,hu,ru⟩:=r.get (aac h');refine ⟨_,aac h',?_⟩;have e:its.toArray[j]=u:=by
    have : its[j]?=some u:=hu;rw [aac (by simpa using h)] at this;simpa using abd this
  rw [e];exact ru
theorem EqR.at (I:Inv X pins σ H s) {n:Nat} {x y:V} {b:Bool} (h:EqR X.K H n x y b):∀ {A:Around} {u v:Value},RelV x u→RelV y v→A.units+n < cLine→SeqAt.EqAt A s u v b:=by
  induction h with
  | flat fx fy=>intro A u v rx ry hu;exact tX rx ry fx fy
  | @lens n a b xs ys ha hb hl =>
    intro A u v rx ry hu;cases rx;cases ry;obtain ⟨its,r,pl,_⟩:=I.list ha;obtain ⟨its2,r2,pl2,_⟩:=I.list hb;have ne:a≠b:=fun e=>by subst e;exact hl (by rw [I.list_inj ha hb])
    refine .of_refs ne (.lists_lengths pl.isList pl2.isList ?_ (by lia));rw [aal,aal,← r.length,← r2.length];exact bne_iff_ne.mpr hl
  | @lst n a b xs ys e ha hb hl h ih =>
    intro A u v rx ry hu;by_cases q:a=b
    · have:=(EqR.lst ha hb hl h).self I (by rw [q]);cases rx;cases ry;rw [this];subst q;exact acq _
    · cases rx;cases ry;obtain ⟨its,r,pl,_⟩:=I.list ha;obtain ⟨its2,r2,pl2,_⟩:=I.list hb;have e1:its.toArray.size=xs.length:=by rw [aal,r.length]
      rw [← e1];refine .of_refs q (.lists pl.isList pl2.isList (by rw [aal,aal,← r.length,← r2.length];exact hl) (by lia) fun j h1 h2=>?_);obtain ⟨x,hx,rx⟩:=cg r h1;obtain ⟨y,hy,ry⟩:=cg r2 h2;exact ih j x y hx hy rx ry (by show A.units+1+n < cLine;lia)
  | @tup n a b xs ys e ha hb h ih =>
    intro A u v rx ry hu;by_cases q:a=b
    · have:=(EqR.tup ha hb h).self I (by rw [q]);cases rx;cases ry;rw [this];subst q;exact acq _
    · cases rx;cases ry;obtain ⟨its,r,pl,_⟩:=I.tuple ha;obtain ⟨its2,r2,pl2,_⟩:=I.tuple hb;have e1:its.toArray.size=xs.length:=by rw [aal,r.length]
      have e2:its2.toArray.size=ys.length:=by rw [aal,r2.length]
      rw [← e1,← e2];refine .of_refs q (.tuples pl pl2 (by lia) fun j h1 h2=>?_);obtain ⟨x,hx,rx⟩:=cg r h1;obtain ⟨y,hy,ry⟩:=cg r2 h2;exact ih j x y hx hy rx ry (by show A.units+1+n < cLine;lia)
def xN (K:aaa) (neg:Bool):R2:=fun x y H Q=>∃ n a b xs ys,n≤60∧x=.ref a∧y=.ref b∧SqL K H a xs∧SqL K H b ys ∧
  ((xs.length≠ys.length∧Q (.bl neg) H)∨∃ e:Nat→Bool,xs.length=ys.length∧(∀ (j:Nat) x y,xs[j]?=some x→ys[j]?=some y→EqR K H n x y (e j))∧Q (.bl (if neg then !(aby xs.length).all e else (aby xs.length).all e)) H)
theorem wG (hu:X.A.units+64 < cLine):OpR X (compareOp .Eq) (xN X.K false):=by
  intro pins s σ H x y v u Q I rx ry h;obtain ⟨n,a,b,xs,ys,hn,rfl,rfl,ha,hb,h⟩:=h;cases rx;cases ry;obtain ⟨its,r,pl,_⟩:=I.list ha;obtain ⟨its2,r2,pl2,_⟩:=I.list hb;have e1:its.toArray.size=xs.length:=by rw [aal,r.length]
  have e2:its2.toArray.size=ys.length:=by rw [aal,r2.length]
  rcases h with ⟨hl,q⟩|⟨e,hl,he,q⟩
  · exact SeqAt.eq_list_lengthsAt pl.isList pl2.isList (by rw [e1,e2];exact bne_iff_ne.mpr hl) (by lia) ⟨.bl false,H,I,rfl,q⟩
  · refine SeqAt.eq_listAt (e:=e) pl.isList pl2.isList (by rw [e1,e2];exact hl) (by lia) (fun j h1 h2=>?_) ?_
    · obtain ⟨x,hx,rx⟩:=cg r h1;obtain ⟨y,hy,ry⟩:=cg r2 h2;exact (he j x y hx hy).at I rx ry (by show X.A.units+1+n < cLine;lia)
    · rw [e1];exact ⟨.bl _,H,I,rfl,q⟩
theorem wF (hu:X.A.units+64 < cLine):OpR X (compareOp .NotEq) (xN X.K true):=by
  intro pins s σ H x y v u Q I rx ry h;obtain ⟨n,a,b,xs,ys,hn,rfl,rfl,ha,hb,h⟩:=h;cases rx;cases ry;obtain ⟨its,r,pl,_⟩:=I.list ha;obtain ⟨its2,r2,pl2,_⟩:=I.list hb;have e1:its.toArray.size=xs.length:=by rw [aal,r.length]
  have e2:its2.toArray.size=ys.length:=by rw [aal,r2.length]
  rcases h with ⟨hl,q⟩|⟨e,hl,he,q⟩
  · exact SeqAt.RcNeAt.lists_lengths pl.isList pl2.isList (by rw [e1,e2];exact bne_iff_ne.mpr hl) (by lia) _ _ _ _ ⟨.bl true,H,I,rfl,q⟩
  · refine SeqAt.RcNeAt.lists (e:=e) pl.isList pl2.isList (by rw [e1,e2];exact hl) (by lia) (fun j h1 h2=>?_) _ _ _ _ ?_
    · obtain ⟨x,hx,rx⟩:=cg r h1;obtain ⟨y,hy,ry⟩:=cg r2 h2;exact (he j x y hx hy).at I rx ry (by show X.A.units+1+n < cLine;lia)
    · rw [e1];exact ⟨.bl _,H,I,rfl,q⟩
end
abbrev fW (H:Hp) (p:Int × Int) (v:V):Prop:=∃ a,v=.ref a∧H a=some (.tup [.int p.1,.int p.2])
abbrev PairsIn (H:Hp):List (Int × Int)→List V→Prop:=Paired (fW H)
theorem Inv.adopt2 {X:Cx} {pins:List (Addr × Obj)} {σ:St} {H:Hp} {s:Shared} {a:Addr} {o:HO} (I:Inv X pins σ H s) (hn:H a=none) (hx:∀ u,X.s₀.heap.get? a≠some u) (hL:a≠X.env.locals) (hC:∀ x c,X.env.cells.lookup x=some c→c≠a) (hp:∀ p∈X.pn++pins,p.1≠a)
    (new:ObjOk X.prog X.w (upd H a o) s.heap a o):Inv X pins σ (upd H a o) s:=by
  have ne:∀ b u,X.s₀.heap.get? b=some u→b≠a:=fun b u e z=>hx u (by rw [← z];exact e);refine ⟨I.ok,I.os,I.bare,⟨I.base.keep,I.base.slot,fun b u e n hx=>?_,I.base.there,fun b xs e=>?_,fun b u xs e=>?_,fun b ps e=>?_⟩,I.loc,I.cell,?_,fun x c e=>?_,fun p hq=>?_,fun b u e=>?_,I.len⟩
  · rw [aI (ne b u e)];exact I.base.free b u e n hx
  · have q:=I.base.tups b xs e;rw [aI (ba q hn)];exact q
  · have q:=I.base.frzs b u xs e;rw [aI (ba q hn)];exact q
  · obtain ⟨m,q⟩:=I.base.tbls b ps e;exact ⟨m,by rw [aI (ba q hn)];exact q⟩
  · rw [aI (abM hL)];exact I.free
  · rw [aI (hC x c e)];exact I.freeC x c e
  · obtain ⟨h1,h2,h3⟩:=I.pin p hq;exact ⟨h1,by rw [aI (hp p hq)];exact h2,h3⟩
  · by_cases hb:b=a
    · subst hb;rw [upd_same] at e;cases e;exact new
    · rw [aI hb] at e;exact (I.hok b u e).stay (fun c v _ q=>q) (fun c q=>by rw [aI (ba q hn)];exact q) fun c xs q=>by rw [aI (ba q hn)];exact q
open PySem PySem.Spec PyProof.Rows
theorem ObjOk.get {P:Program} {w:World} {H:Hp} {h:Heap} {a:Addr} {o:HO} (x:ObjOk P w H h a o):∃ u,h.get? a=some u:=by
  cases o with
  | lst xs=>obtain ⟨_,_,_,_,e⟩:=x;exact ⟨_,e⟩
  | tup xs=>obtain ⟨_,_,_,o,e,_⟩:=x;exact ⟨_,e⟩
  | dK kvs=>obtain ⟨_,_,_,_,o,_,_,e,_⟩:=x;exact ⟨_,e⟩
  | dT kvs=>obtain ⟨_,_,_,_,o,_,_,e,_⟩:=x;exact ⟨_,e⟩
  | set S n=>obtain ⟨o,_,_,_,e,_⟩:=x;exact ⟨_,e⟩
  | ins C dx fs=>obtain ⟨_,_,_,e,_⟩:=x;exact ⟨_,e⟩
  | own y=>obtain ⟨_,e⟩:=x;exact ⟨_,e⟩
  | xd fs=>obtain ⟨_,⟨_,_,_,e,_⟩,_⟩:=x;exact ⟨_,e⟩
  | rng lo hi=>obtain ⟨_,_,_,e⟩:=x;exact ⟨_,e⟩
  | frz ob u=>obtain ⟨e,_⟩:=x;exact ⟨_,e⟩
  | tbl ps=>exact ⟨_,(show h.get? a=some _ from x)⟩
  | met f y=>exact ⟨_,(show h.get? a=some _ from x)⟩
  | ext φ=>obtain ⟨_,⟨_,e⟩,_⟩:=x;exact ⟨_,e⟩
section
variable {X:Cx}
end
open PySem PySem.Spec PyProof.Rows
theorem tN {c A B:Prop} [Decidable c] (hc:c) (h:A):if decide c=true then A else B:=by
  rw [if_pos (decide_eq_true hc)];exact h
theorem k8 {c A B:Prop} [Decidable c] (hc:¬ c) (h:B):if decide c=true then A else B:=by
  rw [if_neg (fun e=>hc (of_decide_eq_true e))];exact h
section
variable {X:Cx} {K:aaa}
theorem tL (hK:X.K=K):IxR X (wt K):=by subst hK;exact ix_list
theorem lY {es:List Expr} {k:Nat} {pos:Pos} {t:TGs} {n:Nat} (hK:X.K=K) (hc:X.calm=true) (h:PGs X es t)
    (hn:(assignEach es X.env).length=n:=by rfl) (hst:(assignEach es X.env).findIdx? (·.1)=none:=by rfl):PG X (.Tuple es k pos) (yc K n t):=by subst hK;exact jF hc h hn hst
theorem nv {tg l:Expr} {tl:TE} (hK:X.K=K) (hl:PE X l tl):PI X tg l (vL K tl):=by subst hK;exact cY hl
end
def Nxt (n i:Nat) (P:Prop):Prop:=∃ m',m' < n - i∧m'=n - (i+1)∧i+1≤n∧P
theorem wO {K:aaa} {a:Addr} {xs:List V} {cap:List (Option Nat)} {g:TG} {tt:TT} {te:TE} {σ:St} {H:Hp} {Q:VK} (Pv:Nat→List V→Hp→Prop) (h0:Pv 0 [] H) (hl:∀ i ys H,i≤xs.length→Pv i ys H→SqT K H a xs∧ys.length < sizeLine)
    (hs:∀ i x ys H,xs[i]?=some x→Pv i ys H→(∀ {P:Prop},P→Nxt xs.length i P)→g x (cm cap σ) H fun σ2 H2=>tt σ2 H2 fun b H3=>if b=true then te σ2 H3 fun v H4=>Nxt xs.length i (Pv (i+1) (ys++[v]) H4) else Nxt xs.length i (Pv (i+1) ys H3)) (hd:∀ ys H,Pv xs.length ys H→∀ p,H p=none→Q (.ref p) (upd H p (.lst ys))) :
    vD cap g tt te σ Q (Itt K a) H:=by
  refine ⟨fun i m ys H=>m=xs.length - i∧i≤xs.length∧Pv i ys H,⟨xs.length,by simp,aaK _,h0⟩,?_⟩;rintro i m ys H ⟨rfl,hi,p⟩;have q:=hl i ys H hi p;by_cases hlt:i < xs.length
  · refine .inr ⟨⟨xs,xs[i],q.1,by simp [hlt]⟩,q.2,fun x H' y=>?_⟩;obtain ⟨e,y⟩:=y;subst e;exact hs i x ys _ (y xs q.1) p fun h=>⟨_,by lia,rfl,hlt,h⟩
  · have e:i=xs.length:=by lia
    subst e;exact .inl ⟨⟨xs,q.1,aab _⟩,hd ys H p⟩
theorem nA {H:Hp} {ps:List (Int × Int)} {vs:List V} (p:PairsIn H ps vs):∀ {j:Nat} {x:V},vs[j]?=some x→∃ p,ps[j]?=some p∧fW H p x:=by
  induction p with
  | nil=>intro j x h;cases h
  | cons a b ih =>
    intro j x h;cases j with
    | zero=>cases h;exact ⟨_,rfl,a⟩
    | succ j=>exact ih (j:=j) h
open PySem PySem.Spec PyProof.Rows
def xZ:Key→PyData
  | .inl i=>.int i
  | .inr x=>.str x
mutual
def Dat (H:Hp):PyData→V→Prop
  | .none,v=>v=.non
  | .bool b,v=>v=.bl b
  | .int i,v=>v=.int i
  | .str x,v=>v=.str x
  | .list ds,v=>∃ a xs,v=.ref a∧H a=some (.lst xs)∧DatAll H ds xs
  | .tuple ds,v=>∃ a xs,v=.ref a∧H a=some (.tup xs)∧DatAll H ds xs
  | .dict kvs,v=>∃ a ks,v=.ref a∧H a=some (.dK ks)∧DatKv H kvs ks
def DatAll (H:Hp):List PyData→List V→Prop
  | [],vs=>vs=[]
  | d :: ds,vs=>∃ v r,vs=v :: r∧Dat H d v∧DatAll H ds r
def DatKv (H:Hp):List (PyData × PyData)→List (Key × V)→Prop
  | [],ks=>ks=[]
  | (k,d) :: r,ks=>∃ q v t,ks=(q,v) :: t∧k=xZ q∧Dat H d v∧DatKv H r t
end
mutual
theorem Dat.mono {H H':Hp} (g:Same H H'):∀ (d:PyData) (v:V),Dat H d v→Dat H' d v
  | .none,v,h=>h
  | .bool b,v,h=>h
  | .int i,v,h=>h
  | .str x,v,h=>h
  | .list ds,v,h=>by
    simp only [Dat] at h ⊢;obtain ⟨a,xs,e,h1,h2⟩:=h;exact ⟨a,xs,e,g _ _ h1,DatAll.mono g ds xs h2⟩
  | .tuple ds,v,h=>by
    simp only [Dat] at h ⊢;obtain ⟨a,xs,e,h1,h2⟩:=h;exact ⟨a,xs,e,g _ _ h1,DatAll.mono g ds xs h2⟩
  | .dict kvs,v,h=>by
    simp only [Dat] at h ⊢;obtain ⟨a,xs,e,h1,h2⟩:=h;exact ⟨a,xs,e,g _ _ h1,DatKv.mono g kvs xs h2⟩
theorem DatAll.mono {H H':Hp} (g:Same H H'):∀ (ds:List PyData) (vs:List V),DatAll H ds vs→DatAll H' ds vs
  | [],vs,h=>h
  | d :: ds,vs,h=>by
    simp only [DatAll] at h ⊢;obtain ⟨v,r,e,h1,h2⟩:=h;exact ⟨v,r,e,Dat.mono g d v h1,DatAll.mono g ds r h2⟩
theorem DatKv.mono {H H':Hp} (g:Same H H'):∀ (kvs:List (PyData × PyData)) (ks:List (Key × V)),DatKv H kvs ks→DatKv H' kvs ks
  | [],ks,h=>h
  | (k,d) :: r,ks,h=>by
    simp only [DatKv] at h ⊢;obtain ⟨q,v,t,e1,e2,h1,h2⟩:=h;exact ⟨q,v,t,e1,e2,Dat.mono g d v h1,DatKv.mono g r t h2⟩
end
theorem DatAll.len {H:Hp}:∀ {ds:List PyData} {vs:List V},DatAll H ds vs→ds.length=vs.length
  | [],vs,h=>by simp only [DatAll] at h;rw [h];rfl
  | d :: ds,vs,h=>by
    simp only [DatAll] at h;obtain ⟨v,r,rfl,_,h2⟩:=h;rw [aao,aao,DatAll.len h2]
def off (w:Addr) (H:Hp):Hp:=fun b=>if b=w then none else H b
theorem gL {w b:Addr} {H:Hp} (h:b≠w):off w H b=H b:=if_neg h
theorem off_le {w:Addr} {H:Hp}:Same (off w H) H:=fun b o h=>by
  unfold off at h;by_cases c:b=w
  · rw [if_pos c] at h;cases h
  · rw [if_neg c] at h;exact h
theorem jm {w:Addr} {H H':Hp} (g:But w H H'):Same (off w H) (off w H'):=fun b o h=>by
  by_cases c:b=w
  · unfold off at h;rw [if_pos c] at h;cases h
  · rw [gL c] at h ⊢;exact g b o c h
def r_:PyData→String
  | .none=>"NoneType"
  | .bool _=>"bool"
  | .int _=>"int"
  | .str _=>"str"
  | .list _=>"list"
  | .tuple _=>"tuple"
  | .dict _=>"dict"
theorem Dat.ty {K:aaa} {H:Hp} {d:PyData} {v:V} (h:Dat H d v):TyOf K H v (.type (r_ d)):=by
  cases d with
  | none=>simp only [Dat] at h;subst h;exact .non
  | bool b=>simp only [Dat] at h;subst h;exact .bl b
  | int i=>simp only [Dat] at h;subst h;exact .int i
  | str x=>simp only [Dat] at h;subst h;exact .str x
  | list ds=>simp only [Dat] at h;obtain ⟨a,xs,rfl,e,_⟩:=h;exact .lst e
  | tuple ds=>simp only [Dat] at h;obtain ⟨a,xs,rfl,e,_⟩:=h;exact .tup e
  | dict kvs=>simp only [Dat] at h;obtain ⟨a,xs,rfl,e,_⟩:=h;exact .dK e
section
variable {X:Cx} {pins:List (Addr × Obj)} {σ:St} {H:Hp} {s:Shared}
theorem Inv.nosys (I:Inv X pins σ H s) {a:Addr} {o:HO} (h:H a=some o):a≠sysModules:=fun e=>by
  obtain ⟨mm,ob,es,ep,g,_⟩:=I.mod.sysm;have:=(I.bs _ _ g).2;rw [← e,h] at this;cases this
theorem rD {P:Program} {w:World} {h:Heap} {q:Key} {v:Value} (e:(bz P w).is q v=true):Reads h v (xZ q) []:=by
  rw [pe] at e;rcases bI e with ⟨i,t,rfl,rfl⟩|⟨x,t,rfl,rfl⟩
  · exact .int i t
  · exact .str x t
mutual
theorem Dat.reads (I:Inv X pins σ H s):∀ (d:PyData) (v:V) (u:Value),Dat H d v→RelV v u→∃ as,Reads s.heap u d as∧sysModules∉as
  | .none,v,u,h,r=>by
    simp only [Dat] at h;subst h;cases r;exact ⟨_,.none,by simp⟩
  | .bool b,v,u,h,r=>by
    simp only [Dat] at h;subst h;cases r;exact ⟨_,.bool b,by simp⟩
  | .int i,v,u,h,r=>by
    simp only [Dat] at h;subst h;obtain ⟨t,rfl⟩:=r;exact ⟨_,.int i t,by simp⟩
  | .str x,v,u,h,r=>by
    simp only [Dat] at h;subst h;obtain ⟨t,rfl⟩:=r;exact ⟨_,.str x t,by simp⟩
  | .list ds,v,u,h,r=>by
    simp only [Dat] at h;obtain ⟨a,xs,rfl,hr,hd⟩:=h;cases r;obtain ⟨its,rv,⟨o,n,e1,e2,_,e3⟩,_⟩:=I.list (SqL.of hr);obtain ⟨as,ra,na⟩:=DatAll.reads I ds xs its hd rv;have ho:=hr;refine ⟨_,.list e1 e2 e3 (by simpa using ra),fun z=>?_⟩;rcases aaj.mp z with z|z
    · exact I.nosys ho z.symm
    · exact na z
  | .tuple ds,v,u,h,r=>by
    simp only [Dat] at h;obtain ⟨a,xs,rfl,hr,hd⟩:=h;cases r;obtain ⟨its,rv,⟨o,e1,e2,n,e3⟩,_⟩:=I.tuple (SqT.of hr);obtain ⟨as,ra,na⟩:=DatAll.reads I ds xs its hd rv;exact ⟨_,.tuple e1 e2 e3 (by simpa using ra),na⟩
  | .dict kvs,v,u,h,r=>by
    simp only [Dat] at h;obtain ⟨a,ks,rfl,hr,hd⟩:=h;cases r;obtain ⟨_,_,vs,rel,o,es,ep,e1,ex,e3,_,pr,_⟩:=vN I.hok hr;obtain ⟨as,bs,ra,rb,na,nb⟩:=DatKv.reads I kvs ks vs es.toList hd rel pr;have ho:=hr;refine ⟨_,.dict e1 ex.1 e3 ra rb,fun z=>?_⟩;rcases aau.mp z with z|z
    · rcases aaj.mp z with z|z
      · exact I.nosys ho z.symm
      · exact na z
    · exact nb z
theorem DatAll.reads (I:Inv X pins σ H s):∀ (ds:List PyData) (vs:List V) (us:List Value),DatAll H ds vs→Vals vs us→∃ as,ReadsAll s.heap us ds as∧sysModules∉as
  | [],vs,us,h,r=>by
    simp only [DatAll] at h;subst h;cases r;exact ⟨_,.nil,by simp⟩
  | d :: ds,vs,us,h,r=>by
    simp only [DatAll] at h;obtain ⟨v,t,rfl,h1,h2⟩:=h;cases r with
    | cons r1 r2 =>
      obtain ⟨as,ra,na⟩:=Dat.reads I d v _ h1 r1;obtain ⟨bs,rb,nb⟩:=DatAll.reads I ds t _ h2 r2;exact ⟨_,.cons ra rb,fun z=>(aau.mp z).elim na nb⟩
theorem DatKv.reads (I:Inv X pins σ H s):∀ (kvs:List (PyData × PyData)) (ks:List (Key × V)) (vs:List (Key × Value)) (es:List DictEntry),DatKv H kvs ks→KV ks vs→Pairs (bz X.prog X.w) es vs →
    ∃ as bs,ReadsAll s.heap (es.map (·.key)) (kvs.map (·.1)) as∧ReadsAll s.heap (es.map (·.val)) (kvs.map (·.2)) bs∧sysModules∉as∧sysModules∉bs
  | [],ks,vs,es,h,r,p=>by
    simp only [DatKv] at h;subst h;cases r;cases p;exact ⟨_,_,.nil,.nil,by simp,by simp⟩
  | (k,d) :: kr,ks,vs,es,h,r,p=>by
    simp only [DatKv] at h;obtain ⟨q,v,t,rfl,rfl,h1,h2⟩:=h;cases r with
    | cons r1 r2 =>
      cases p with
      | cons p1 p2 p3 =>
        obtain ⟨rk,rv⟩:=r1;obtain ⟨as,bs,ra,rb,na,nb⟩:=DatKv.reads I kr t _ _ h2 r2 p3;obtain ⟨cs,rc,nc⟩:=Dat.reads I d v _ h1 rv;have rk':q=_:=rk;subst rk';have kd:=rD (h:=s.heap) p1;refine ⟨[]++as,cs++bs,.cons kd ra,.cons (by dsimp only;rw [p2];exact rc) rb,by simpa using na,fun z=>(aau.mp z).elim nc nb⟩
end
theorem lA (hg:X.A.guards=some []) (hu:X.A.units+64 < cLine):dF X (.builtin "repr") (fun xs H Q=>∃ x d,xs=[x]∧Dat H d x∧d.showable=true∧d.depth≤60∧d.shown.length≤sizeLine∧Q (.str d.shown) H):=by
  intro pins s σ H xs us Q I r h;obtain ⟨x,d,rfl,hd,hs,hdp,hl,q⟩:=h;obtain ⟨u,rfl,ru⟩:=cH r;have key:∀ a,u=.ref a→wpAny (model X.prog X.w) X.A (call (.builtin "repr") [u]) (EP X pins σ Q) X.xe s:=fun a e=>by
    subst e;obtain ⟨as,ra,na⟩:=Dat.reads I d x _ hd ru;refine repr_of_reads' ra hs (fun _=>na) hg (by lia) (fun _ _ e=>e) (fun h' u tk hk=>?_) hl;exact ⟨.str d.shown,H,I.kept hk,⟨u,rfl⟩,q⟩
  cases d with
  | none =>
    simp only [Dat] at hd;subst hd;cases ru;rw [PyData.shown_none] at q;exact PySem.P.repr_of_none ⟨.str "None",H,I.tok _,⟨_,rfl⟩,q⟩
  | bool b =>
    simp only [Dat] at hd;subst hd;cases ru;rw [PyData.shown_bool] at q;exact PySem.P.repr_of_bool ⟨.str _,H,I.tok _,⟨_,rfl⟩,q⟩
  | int i =>
    simp only [Dat] at hd;subst hd;obtain ⟨t,rfl⟩:=ru;rw [PyData.shown_int] at q;exact PySem.P.repr_of_int (by simpa [PyData.showable] using hs) ⟨.str _,H,I.tok _,⟨_,rfl⟩,q⟩
  | str z =>
    simp only [Dat] at hd;subst hd;obtain ⟨t,rfl⟩:=ru;rw [PyData.shown_str] at q hl;exact PySem.P.repr_of_str ⟨.str _,H,I.tok _,⟨_,rfl⟩,q⟩ hl
  | list ds =>
    have hd':=hd;simp only [Dat] at hd';obtain ⟨a,_,rfl,_⟩:=hd';exact key a ru
  | tuple ds =>
    have hd':=hd;simp only [Dat] at hd';obtain ⟨a,_,rfl,_⟩:=hd';exact key a ru
  | dict kvs =>
    have hd':=hd;simp only [Dat] at hd';obtain ⟨a,_,rfl,_⟩:=hd';exact key a ru
end
open PySem PySem.Spec PyProof.Rows
section
variable {X:Cx}
end
open PySem PySem.Spec PyProof.Rows
theorem Inv.turnedL {X:Cx} {pins:List (Addr × Obj)} {σ:St} {H:Hp} {s:Shared} {h':Heap} {t':Nat} {fp:List Addr} (I:Inv X pins σ H s) (k:∀ b o,b∉fp→s.heap.get? b=some o→h'.get? b=some o) (hf:∀ b∈fp,eI X pins H b):Inv X pins σ H { s with heap:=h',toks:=t' }:=by
  have nit:∀ b u,H b=some u→b∉fp:=fun b u e z=>by rw [(hf b z).1] at e;cases e
  refine I.step (g':=s.gens) (d':=s.drawn) (ch:=fp) (fun b hb=>⟨(hf b hb).2.2.2.1,(hf b hb).2.1,(hf b hb).2.2.2.2.1,(hf b hb).2.2.2.2.2⟩) (fun b o _ _ hc e _=>k b o hc e) (fun b o _ _ hc e _=>⟨o.slots,k b o hc e⟩) (fun _ _ _ _ n=>n)
    (fun b o hc e=>⟨o,k b o hc e⟩) (fun _ _ e=>e) (fun _ _ _ e=>e) (fun b ps e=>⟨#[],by rw [e];simp⟩) (fun m hm=>?_) (fun b u e=>?_) I.bare
  · obtain ⟨o,es,ep,ho,r⟩:=hm;exact ⟨o,es,ep,k _ o (fun z=>(hf _ z).2.1 rfl) ho,r⟩
  · refine (I.hok b u e).stay (fun c v hc q=>k c v ?_ q) (fun _ q=>q) fun _ _ q=>q;rcases hc with z|z
    · rw [z];exact nit b u e
    · exact nit c _ z
def xr (K:aaa) (a:Addr):It :=
  ⟨fun i H=>∃ xs x,SqL K H a xs∧xs[i]?=some x,fun i H x H'=>∃ p y,H p=none∧x=.ref p∧H'=upd H p (.tup [.int i,y])∧∀ xs,SqL K H a xs→xs[i]?=some y,fun i H=>∃ xs,SqL K H a xs∧xs.length≤i⟩
theorem qU {P:Program} {w:World} {K:aaa} {elts:List Expr} {k:Nat} {pos:Pos} (a e it:Addr) (hei:e≠it):Turn P w K (.Tuple elts k pos) (xr K a) [e,it] e (fun i h=>(∃ old,IsEnum h e it i old)∧h.IsListIter it a i) where
  mem:=by simp
  obj:=fun i h st b hb=>by
    obtain ⟨⟨old,he⟩,o,e1,c,d⟩:=st;rcases aaj.mp hb with z|z
    · subst z;exact ⟨_,he,fun v z=>by cases z⟩
    · have z:b=it:=by simpa using z
      subst z;exact ⟨o,e1,fun v z=>by rw [d] at z;cases z⟩
  keep:=fun i h h' st kp=>⟨let ⟨old,he⟩:=st.1;⟨old,kp e (by simp) _ he⟩,st.2.at fun o x=>kp it (by simp) o x⟩
  item:=by
    intro X hP hw hK hc i pins s σ H E I hf st hg;subst hP hw hK;obtain ⟨xs,x,hq,hx⟩:=hg;obtain ⟨its,rv,p,hz⟩:=I.list hq;obtain ⟨u,hu,ru⟩:=rv.get hx;obtain ⟨⟨old,he⟩,hit⟩:=st;have helt:e < s.heap.objs.size:=aas he;have hilt:it < s.heap.objs.size:=by obtain ⟨_,x,_⟩:=hit;exact aas x
    refine wpAny_pyNext_enum_item he hit p.isList (x:=u) (by simpa using hu) hei fun h' ho hit' hT hsz hk=>?_;refine ⟨_,rfl,wpAny_letOwnedTupleGo_enum ho fun h'' he' hs'=>?_⟩;have hs2:acA e h' h'':=hs';have keep:∀ b o,b∉[e,it]→s.heap.get? b=some o→h''.get? b=some o:=fun b o hb q=>by
      have b1:b≠e:=fun z=>hb (by simp [z]);have b2:b≠it:=fun z=>hb (by simp [z]);exact (hs2.2 b b1).trans (hk b o b1 b2 q)
    have I1:Inv X pins σ H { s with heap:=h'',toks:=s.toks+1 }:=I.turnedL keep hf;have gT:h''.get? s.heap.objs.size=some { cls:=.type "tuple",data:=.seq #[.int i s.toks,u] }:=(hs2.2 _ (abv helt)).trans hT;have fresh:H s.heap.objs.size=none:=I.hok.fresh (aab _);have I2:=I1.adopt (a:=s.heap.objs.size) (o:=.tup [.int i,x]) fresh I.sz (abv I.lt) (fun y c e1=>by
        obtain ⟨v,q⟩:=I.cell y c e1;exact aaD q.lt) (fun q hq=>aaD (aas (I.pin q hq).1)) ⟨by show 2≤sizeLine;decide,[.int i s.toks,u],.cons ⟨_,rfl⟩ (.cons ru .nil),⟨_,gT,rfl,_,rfl⟩⟩
    refine ⟨.ref s.heap.objs.size,_,I2,rfl,⟨_,x,fresh,rfl,rfl,fun ys hy=>by rw [I.list_inj hy hq];exact hx⟩,⟨⟨u,by simpa using he'⟩,hit'.at fun o y=>(hs2.2 it hei.symm).trans y⟩,fun b hb=>?_⟩;rw [aI]
    · exact (hf b hb).1
    · rcases aaj.mp hb with z|z
      · rw [z];exact aaD helt
      · have z:b=it:=by simpa using z
        rw [z];exact aaD hilt
  done:=by
    intro X hP hw hK hc i pins s σ H E I hf st hg;subst hP hw hK;obtain ⟨xs,hq,hx⟩:=hg;obtain ⟨its,rv,p,hz⟩:=I.list hq;obtain ⟨⟨old,he⟩,hit⟩:=st;have hl:=rv.length;refine wpAny_pyNext_enum_end (I.ok.hd hc) he hit p.isList (by simp;lia) fun h' eb=>⟨rfl,I.turnedL (t':=s.toks) (fp:=[e,it]) (fun b o hb q=>eb b o (fun z=>hb (by simp [z])) q) hf⟩
  self:=fun _ _ _ _ _ st h=>by
    obtain ⟨⟨old,he⟩,_⟩:=st;exact wpAny_pyIter_enum he h
def ya (K:aaa) (ta:TA):TI:=fun σ H R=>ta σ H fun vs H1=>∃ a,vs=[.ref a]∧(∃ xs,SqL K H1 a xs)∧R (xr K a) H1
theorem uV {X:Cx} {elts:List Expr} {k:Nat} {tpos:Pos} {a:Expr} {ta:TA} {p pos:Pos} (hg:Gl X "enumerate") (hm:X.mg "enumerate" = none) (ha:PA X [a] ta) (hs:starEach [a] X.env=[(false,eval a X.env)]:=by rfl):PI X (.Tuple elts k tpos) (.Call (.Name "enumerate" p) [a] [] pos) (ya X.K ta):=by
  intro pins s σ H R I h;refine Call_ (fh I hg hm boot_enumerate (aa3 (thn (ha pos pins s σ H _ I h) fun us s1 ⟨vs,H1,I1,r1,q1⟩=>?_) hs rfl));obtain ⟨l,e,⟨xs,hq⟩,q⟩:=q1;subst e;cases r1 with
  | cons r rr =>
    cases rr;cases r;obtain ⟨its,rv,pl,hz⟩:=I1.list hq;refine call_enumerate_list pl.isList fun h' he hit hsz hk=>?_;refine wpAny_pyIter_enum (s:={ s1 with heap:=h' }) he ?_;have I2:Inv X pins σ H1 { s1 with heap:=h' }:=I1.kept (t':=s1.toks) hk;refine ⟨s1.heap.objs.size+1,[s1.heap.objs.size+1,s1.heap.objs.size],_,_,H1,rfl,I2,qU l _ _ (Nat.succ_ne_self _),⟨⟨_,he⟩,hit⟩,fun b hb=>?_,q⟩;have hb2:s1.heap.objs.size≤b:=by
      rcases aaj.mp hb with z|z
      · rw [z];exact Nat.le_succ _
      · have z:b=s1.heap.objs.size:=by simpa using z
        rw [z];exact aab _
    exact I1.fpOk hb2 (I1.hok.fresh hb2)
open PySem PySem.Spec PyProof.Rows
section
variable {prog:Program} {w:World} {κ:Type} [DecidableEq κ] {knd:HeapKind prog w κ} {A:Around} {E:Value→Shared→Prop} {s:Shared}
end
open PySem PySem.Spec PyProof.Rows
section
variable {prog:Program} {w:World} {κ:Type} [DecidableEq κ] {knd:HeapKind prog w κ} {A:Around} {E:Value→Shared→Prop} {s:Shared}
inductive HitsH (A:Around) (s:Shared) (kb:List (κ × Addr × Value)):List (κ × Addr × Value)→Bool→Prop
  | nil:HitsH A s kb [] true
  | miss {k:κ} {a:Addr} {v:Value} {r:List (κ × Addr × Value)}:atKey kb k=none→HitsH A s kb ((k,a,v) :: r) false
  | hit {k:κ} {a c:Addr} {v y:Value} {r:List (κ × Addr × Value)} {e b:Bool}:atKey kb k=some (c,y)→SeqAt.EqAt A s v y e→HitsH A s kb r b→HitsH A s kb ((k,a,v) :: r) (e && b)
end
open PySem PySem.Spec PyProof.Rows
inductive HitsV (K:aaa) (H:Hp) (n:Nat) (kb:List (List Key × V)):List (List Key × V)→Bool→Prop
  | nil:HitsV K H n kb [] true
  | miss {k:List Key} {v:V} {r:List (List Key × V)}:dG kb k=none→HitsV K H n kb ((k,v) :: r) false
  | hit {k:List Key} {v y:V} {r:List (List Key × V)} {e b:Bool}:dG kb k=some y→EqR K H n v y e→HitsV K H n kb r b→HitsV K H n kb ((k,v) :: r) (e && b)
open PySem PySem.Spec PyProof.Rows
section
variable {prog:Program} {w:World} {κ:Type} [DecidableEq κ] {knd:HeapKind prog w κ} {A:Around} {E:Value→Shared→Prop}
variable {s:Shared}
end
open PySem PySem.Spec PyProof.Rows
section
variable {prog:Program} {w:World} {A:Around} {E:Value→Shared→Prop} {s:Shared}
end
end L2
namespace L2
open PySem PySem.Spec PyProof.Rows PySem.W
section
variable {prog:Program} {w:World} {A:Around} {E:Value→Shared→Prop} {s:Shared}
end
end L2
namespace L2
theorem u1 {a:Nat} (h:a+64 < PySem.cLine):a+1 < PySem.cLine:=by lia
open PySem PySem.Spec PyProof.Rows
section
variable {prog:Program} {w:World} {A:Around} {E:Value→Shared→Prop} {s:Shared}
end
open PySem PySem.Spec PyProof.Rows
open PySem PySem.Spec PyProof.Rows
def Its (z:Str):It :=
  ⟨fun i _=>i < z.cps.size,fun i H x H'=>H'=H∧∃ c,z.cps[i]?=some c∧x=.str ⟨#[c]⟩,fun i _=>z.cps.size≤i⟩
theorem sf {P:Program} {w:World} {K:aaa} {tg:Expr} (it:Addr) (z:Str) (t:Tok):Turn P w K tg (Its z) [it] it (fun i h=>h.IsStrIter it "str_ascii_iterator" z t i) where
  mem:=by simp
  obj:=fun i h st b hb=>by
    have e:b=it:=by simpa using hb
    subst e;obtain ⟨o,e,c,d⟩:=st;exact ⟨o,e,fun v z=>by rw [d] at z;cases z⟩
  keep:=fun i h h' st k=>by
    obtain ⟨o,e,r⟩:=st;exact ⟨o,k it (by simp) o e,r⟩
  item:=by
    intro X hP hw hK hc i pins s σ H E I hf st hg;subst hP hw hK;have hg:i < z.cps.size:=hg;obtain ⟨f0,f1,f2,f3,f4,f5⟩:=hf it (by simp);have hx:z.cps[i]?=some z.cps[i]:=by simp [hg]
    refine wpAny_pyNext_ascii_item st (c:=z.cps[i]) hx fun h' st' sb=>?_;have I1:Inv X pins σ H { s with heap:=h',toks:=s.toks+1 }:=I.turned (t':=s.toks+1) (fun b o hb e=>(sb.2 b hb).trans e) f0 f1 f3 f4 f5;obtain ⟨o,e,c,d⟩:=id st';exact ⟨_,rfl,nW (s:={ s with heap:=h',toks:=s.toks+1 }) e c d (by decide) ⟨.str ⟨#[z.cps[i]]⟩,H,I1,⟨_,rfl⟩,⟨rfl,_,hx,rfl⟩,st',fun b hb=>(hf b hb).1⟩⟩
  done:=by
    intro X hP hw hK hc i pins s σ H E I hf st hg;subst hP hw hK;have hg:z.cps.size≤i:=hg;obtain ⟨f0,f1,f2,f3,f4,f5⟩:=hf it (by simp);exact wpAny_pyNext_ascii_end (I.ok.hd hc) st (by simp [hg]) fun h' eb=>⟨rfl,I.turned (t':=s.toks) (fun b o hb e=>eb b o hb e) f0 f1 f3 f4 f5⟩
  self:=fun _ _ _ _ _ st h=>wpAny_pyIter_striter_ascii st h
def yE (tl:TE):TI:=fun σ H R=>tl σ H fun x H1=>∃ z,x=.str z∧z.cps.all (· < 128)=true∧R (Its z) H1
theorem lX {X:Cx} {tg l:Expr} {tl:TE} (hl:PE X l tl):PI X tg l (yE tl):=by
  intro pins s σ H R I h;refine thn (hl pins s σ H _ I h) fun v s1 ⟨x,H1,I1,r1,q1⟩=>?_;obtain ⟨z,e,ha,q⟩:=q1;subst e;obtain ⟨t,rfl⟩:=r1;refine wpAny_pyIter_ascii ha ?_;refine ⟨s1.heap.objs.size,[s1.heap.objs.size],_,_,H1,rfl,I1.kept (t':=s1.toks) fun b o e=>aak _ e,sf _ z t,⟨_,aaJ _ rfl,rfl,rfl⟩,fun b hb=>?_,q⟩;have e:b=s1.heap.objs.size:=by simpa using hb
  subst e;exact I1.fpOk (aab _) (I1.hok.fresh (aab _))
theorem tu {z:Str} {cap:List (Option Nat)} {g:TG} {tt:TT} {te:TE} {σ:St} {H:Hp} {Q:VK} (Pv:Nat→List V→Hp→Prop) (h0:Pv 0 [] H) (hl:∀ i ys H,i≤z.cps.size→Pv i ys H→ys.length < sizeLine)
    (hs:∀ i c ys H,z.cps[i]?=some c→Pv i ys H→(∀ {P:Prop},P→Nxt z.cps.size i P)→g (.str ⟨#[c]⟩) (cm cap σ) H fun σ2 H2=>tt σ2 H2 fun b H3=>if b=true then te σ2 H3 fun v H4=>Nxt z.cps.size i (Pv (i+1) (ys++[v]) H4) else Nxt z.cps.size i (Pv (i+1) ys H3)) (hd:∀ ys H,Pv z.cps.size ys H→∀ p,H p=none→Q (.ref p) (upd H p (.lst ys))) :
    vD cap g tt te σ Q (Its z) H:=by
  refine ⟨fun i m ys H=>m=z.cps.size - i∧i≤z.cps.size∧Pv i ys H,⟨z.cps.size,by simp,aaK _,h0⟩,?_⟩;rintro i m ys H ⟨rfl,hi,p⟩;have q:=hl i ys H hi p;by_cases hlt:i < z.cps.size
  · refine .inr ⟨hlt,q,fun x H' y=>?_⟩;obtain ⟨e,c,y,ex⟩:=y;subst e ex;exact hs i c ys _ y p fun h=>⟨_,by lia,rfl,hlt,h⟩
  · have e:i=z.cps.size:=by lia
    subst e;exact .inl ⟨aab _,hd ys H p⟩
theorem qB {z:Str} {g:TG} {tb:TS} {D:Ends} {σ:St} {H:Hp} (Pv:Nat→St→Hp→Prop) (h0:Pv 0 σ H)
    (hs:∀ i c σ H,z.cps[i]?=some c→Pv i σ H→g (.str ⟨#[c]⟩) σ H fun σ2 H2=>tb { D with nx:=Pv (i+1),ct:=Pv (i+1),bk:=D.nx } σ2 H2) (hd:∀ σ H,Pv z.cps.size σ H→D.nx σ H) :
    ∃ W:Nat→Nat→St→Hp→Prop,(∃ m,W 0 m σ H)∧∀ i m σ H,W i m σ H →
      ((Its z).stop i H∧D.nx σ H)∨((Its z).go i H∧∃ N:St→Hp→Prop,(∀ σ' H',N σ' H'→∃ m',m' < m∧W (i+1) m' σ' H')∧∀ x H',(Its z).yld i H x H'→g x σ H' fun σ2 H2=>tb { D with nx:=N,ct:=N,bk:=D.nx } σ2 H2):=by
  refine ⟨fun i m σ H=>m=z.cps.size - i∧i≤z.cps.size∧Pv i σ H,⟨z.cps.size,by simp,aaK _,h0⟩,?_⟩;rintro i m σ H ⟨rfl,hi,p⟩;by_cases hlt:i < z.cps.size
  · refine .inr ⟨hlt,Pv (i+1),fun σ' H' p'=>⟨z.cps.size - (i+1),by lia,rfl,hlt,p'⟩,fun x H' y=>?_⟩;obtain ⟨e,c,y,ex⟩:=y;subst e ex;exact hs i c σ _ y p
  · have e:i=z.cps.size:=by lia
    subst e;exact .inl ⟨aab _,hd σ H p⟩
def yv (t u:TS):TS:=fun D σ H=>∃ J:St→Hp→Prop,t { D with nx:=J } σ H∧∀ σ' H',J σ' H'→u D σ' H'
theorem qm {X:Cx} {st:Stmt} {rest:List Stmt} {t u:TS} (h1:PS X st t) (h2:PSs X rest u):PSs X (st :: rest) (yv t u):=by
  intro pins s σ H D I h;obtain ⟨J,h,hJ⟩:=h;refine wpAny_execs_cons (thn (h1 pins s σ H { D with nx:=J } I h) fun f s1 q=>?_);cases f with
  | next =>
    obtain ⟨σ',H',I',q⟩:=q;exact h2 pins s1 σ' H' D I' (hJ σ' H' q)
  | ret v=>exact q
  | brk=>exact q
  | cont=>exact q
end L2
namespace PySem
open Sem (wp)
namespace F
end F
section
variable {prog:Program} {w:World} {A:Around} {E:Value→Shared→Prop} {h:Heap} {g:Array GenState} {d:Drawn} {t:Nat} {os:OsState} {a:Addr} {vs:Array Value}
end
end PySem
namespace L2
open PySem PySem.Spec PyProof.Rows
section
variable {prog:Program} {w:World} {A:Around} {E:Value→Shared→Prop} {s:Shared}
end
open PySem PySem.Spec PyProof.Rows
theorem ur {X:Cx} (hc:X.calm=true):dF X (.builtin "all") (fun xs H Q=>∃ (p:Addr) (bs:List Bool),xs=[.ref p]∧SqL X.K H p (bs.map V.bl)∧Q (.bl (bs.all id)) H):=by
  intro pins s σ H xs us Q I r h;obtain ⟨p,bs,rfl,hq,q⟩:=h;obtain ⟨u,rfl,rx⟩:=cH r;cases rx;obtain ⟨its,r',pl,hz⟩:=I.list hq;have hlen:=r'.length;rw [aaf] at hlen;have hps:p < s.heap.objs.size:=by obtain ⟨o,n,ho,_⟩:=pl;exact aas ho
  refine call_all_walk (wpAny_pyIter_list pl.isList ?_);refine ⟨s.heap.objs.size,_,_,_,_,_,fun i=>bs.getD i true,rfl,Walks.list (A:=X.A.in1) (I.ok.hd hc) s.heap.objs.size p (aaD hps) its.toArray,⟨⟨_,aaJ _ rfl,rfl,rfl⟩,pl.isList.at fun o x=>aak _ x⟩,?_,?_⟩
  · intro i v s' Q' E' hP hQ';have hv:its.toArray[i]?=some v:=hP;have hv2:its[i]?=some v:=by simpa using hv
    have hi:i < bs.length:=by
      have:=(aam.mp hv2).1;lia
    have hb:(bs.map V.bl)[i]?=some (.bl bs[i]):=by rw [aar,aac hi];rfl
    obtain ⟨u,hu,ru⟩:=r'.get hb;rw [hv2] at hu;cases hu;cases ru;have e:bs.getD i true=bs[i]:=by rw [aaW,aac hi];rfl
    have hQ2:Q' (bs.getD i true) s':=hQ';rw [e] at hQ2;exact wpAny_pure hQ2
  · intro h' tk k;have I2:Inv X pins σ H { s with heap:=h',toks:=tk }:=by
      refine I.turnedL (fp:=[s.heap.objs.size]) (t':=tk) (fun b o hb x=>k b o (by simpa using hb) (aak _ x)) fun b hb=>?_;have e:b=s.heap.objs.size:=by simpa using hb
      subst e;exact I.fpOk (aab _) (I.hok.fresh (aab _))
    have e:(aby its.toArray.size).all (fun i=>bs.getD i true)=bs.all id:=by
      have e1:its.toArray.size=bs.length:=by simp;lia
      rw [e1];apply Bool.eq_iff_iff.mpr;rw [aaU,aaU];constructor
      · intro hh b hb;obtain ⟨i,hi,e⟩:=List.getElem_of_mem hb;have:=hh i (acM.mpr hi);rw [aaW,aac hi] at this;rw [← e];exact this
      · intro hh i hi;have hi:=List.mem_range.mp hi;rw [aaW,aac hi];exact hh _ (acG hi)
    rw [e];exact ⟨.bl (bs.all id),H,I2,rfl,q⟩
open PySem PySem.Spec PyProof.Rows
open PySem PySem.Spec PyProof.Rows
theorem mJ {elt tg iter tg2 iter2:Expr} {ifs ifs2:List Expr} {G:List Comprehension} {k:Nat} (hk:G[k]?=some ⟨tg,iter,ifs,0⟩) (hk2:G[k+1]?=some ⟨tg2,iter2,ifs2,0⟩) {scope:Scope} {pos:Pos} {it acc:Value} {env:Env} :
    compTurn (.ListComp elt G scope pos) k it acc env=(do
      standAt iter.pos
      match ← pyNext it with
      | none=>pure (.done .next)
      | some v =>
        letOwnedTupleGo tg it v
        assign tg env v
        let mut ok:=true
        for c in ifs do
          if ok then ok ← isTrue c env (eval c env)
        if ok then do
          let x ← eval iter2 env
          standAt iter2.pos
          let x ← foldedSetIterable iter2 env x
          let i ← holding [x] (pyIter x)
          let _ ← runOwn (.compStart (.ListComp elt G scope pos) (k+1) i acc env) env
          again (.compLoop (.ListComp elt G scope pos) k it acc env)
        else again (.compLoop (.ListComp elt G scope pos) k it acc env)):=by
  unfold compTurn;simp only [hk,hk2];rfl
theorem pN {prog:Program} {w:World} {A:Around} {R:Result→Shared→Prop} {s:Shared} {elt tg iter tg2 iter2:Expr} {ifs ifs2:List Expr} {G:List Comprehension} {k:Nat} (hk:G[k]?=some ⟨tg,iter,ifs,0⟩) (hk2:G[k+1]?=some ⟨tg2,iter2,ifs2,0⟩) {scope:Scope} {pos:Pos} {it acc:Value} {env:Env} (J:Nat→Shared→Prop) (hs2:∀ x,foldedSetIterable iter2 env x=pure x)
    (turn:∀ n s,J n s→wpAny (model prog w) A (pyNext it) (fun r s₁=>match r with
      | none=>R (.ok .next) s₁
      | some v=>wpAny (model prog w) A (letOwnedTupleGo tg it v) (fun _ s₁'=>wpAny (model prog w) A (assign tg env v) (fun _ s₂ =>
          wpAny (model prog w) A (forIn ifs true fun c r=>if r=true then do let ok ← isTrue c env (eval c env);pure (ForInStep.yield ok) else pure (ForInStep.yield r)) (fun ok s₃ =>
            if ok=true then wpAny (model prog w) A (eval iter2 env) (fun x s₄=>wpAny (model prog w) A (pyIter x) (fun it2 s₅ =>
              codeAny (model prog w) A (.compStart (.ListComp elt G scope pos) (k+1) it2 acc env) (fun r s₆=>match r with|.ok _=>∃ m,m < n∧J m s₆|.error _=>False) s₅) (fun _ _=>False) s₄) (fun _ _=>False) s₃
            else ∃ m,m < n∧J m s₃) (fun _ _=>False) s₂) (fun _ _=>False) s₁') (fun _ _=>False) s₁) (fun _ _=>False) s)
    (n:Nat) (h:J n s) :
    codeAny (model prog w) A (.compLoop (.ListComp elt G scope pos) k it acc env) R s:=by
  refine codeAny_loop rfl J (fun n s hI=>?_) n h;show wpAny _ A ((compTurn (.ListComp elt G scope pos) k it acc env).onRaise (fun x=>do noteFrame x env;theTreesLotGoes x)) _ _ s;refine wpAny_noted ?_;rw [mJ hk hk2];refine wpAny_bind (wpAny_standAt (wpAny_bind (wpAny_mono (turn n s hI) (fun r s₁ h₁=>?_) fun _ _ h'=>h'.elim)));cases r with
  | none=>exact wpAny_pure h₁
  | some v =>
    refine wpAny_bind (wpAny_mono h₁ (fun _ s₁' h₁'=>?_) fun _ _ h'=>h'.elim);refine wpAny_bind (wpAny_mono h₁' (fun _ s₂ h₂=>wpAny_bind (wpAny_mono h₂ (fun ok s₃ h₃=>?_) fun _ _ h'=>h'.elim)) fun _ _ h'=>h'.elim);cases ok with
    | false=>exact wpAny_pure ⟨rfl,h₃⟩
    | true =>
      refine wpAny_bind (wpAny_mono h₃ (fun x s₄ h₄=>?_) fun _ _ h'=>h'.elim);refine wpAny_bind (wpAny_standAt (wpAny_bind (wpAny_of_eq (hs2 x) (wpAny_bind (wpAny_holding (wpAny_mono h₄ (fun it2 s₅ h₅=>?_) fun _ _ h'=>h'.elim))))));refine wpAny_bind (wpAny_runOwn (codeAny_mono h₅ fun r s₆ h₆=>?_));cases r with
      | ok f=>exact wpAny_pure ⟨rfl,h₆⟩
      | error e=>exact h₆.elim
theorem kg {prog:Program} {w:World} {A:Around} {R:Result→Shared→Prop} {s:Shared} {elt tg2 iter2:Expr} {ifs2:List Expr} {G:List Comprehension} {k:Nat} (hk:G[k]?=some ⟨tg2,iter2,ifs2,0⟩) {scope:Scope} {pos:Pos} {it acc:Value} {env:Env}
    (h0:codeAny (model prog w) A (.compLoop (.ListComp elt G scope pos) k it acc env) R s)
    (h:wpAny (model prog w) A (pyIter it) (fun it' s'=>codeAny (model prog w) A (.compLoop (.ListComp elt G scope pos) k it' acc env) R s')
      (notedBy (model prog w) A env fun x s'=>R (.error x) s') s) :
    codeAny (model prog w) A (.compStart (.ListComp elt G scope pos) k it acc env) R s:=by
  refine codeAny_of_tree ?_;show wpAny _ _ ((compStart (.ListComp elt G scope pos) k it acc env).onRaise (fun x=>do noteFrame x env;standAt theWindowsPlace)) _ _ s;refine wpAny_notedAt ?_;unfold compStart;rw [show (clausesOf (.ListComp elt G scope pos))[k]?=some ⟨tg2,iter2,ifs2,0⟩ from hk];show wpAny _ _ (ask >>= _) _ _ s;refine wpAny_bind (wpAny_askSetting (wpAny_ite ?_));split
  · first
      | exact wpAny_bind (wpAny_pure (wpAny_pure (And.intro rfl h0)))
      | exact wpAny_pure (And.intro rfl h0)
  · first
      | exact wpAny_bind (wpAny_rule (wpAny_bind (wpAny_standAt (wpAny_bind (wpAny_mono h (fun it' s' h'=>wpAny_pure (And.intro rfl h')) fun _ _ x=>x)))))
      | (refine wpAny_bind (wpAny_rule ?_);show wpAny _ _ (standAt iter2.pos >>= _) _ _ s;exact wpAny_bind (wpAny_standAt (wpAny_bind (wpAny_mono h (fun it' s' h'=>wpAny_pure (And.intro rfl h')) fun _ _ x=>x))))
structure PCl (Y:Cx) (c:Comprehension) (r:TI × TG × TT):Prop where
  as:c.is_async=0
  it:PI Y c.target c.iter r.1
  tg:PG Y c.target r.2.1
  fs:i6 Y c.ifs r.2.2
  st:∀ E x,foldedSetIterable c.iter E x=pure x
abbrev uz (g2:TG) (tt2:TT) (te:TE) (ys:List V) (σ2:St) (Fin:List V→St→Hp→Prop) (J2:It) (H4:Hp):Prop:=∃ W2:Nat→Nat→List V→St→Hp→Prop,(∃ m,W2 0 m ys σ2 H4)∧∀ i m ys σ H,W2 i m ys σ H →
  (J2.stop i H∧Fin ys σ H) ∨
  (J2.go i H∧ys.length < sizeLine∧∀ x H',J2.yld i H x H'→g2 x σ H' fun σ3 H5=>tt2 σ3 H5 fun b H6=>if b=true then te σ3 H6 fun v H7=>∃ m',m' < m∧W2 (i+1) m' (ys++[v]) σ3 H7 else ∃ m',m' < m∧W2 (i+1) m' ys σ3 H6)
abbrev LcT:List (TI × TG × TT)→TG→TT→TE→List V→St→(List V→St→Hp→Prop)→It→Hp→Prop
  | [],g,tt,te,ys,σ,Fn,J,H=>uz g tt te ys σ Fn J H
  | r :: rs,g,tt,te,ys,σ2,Fn,J2,H4=>∃ W2:Nat→Nat→List V→St→Hp→Prop,(∃ m,W2 0 m ys σ2 H4)∧∀ i m ys σ H,W2 i m ys σ H →
    (J2.stop i H∧Fn ys σ H) ∨
    (J2.go i H∧∀ x H',J2.yld i H x H'→g x σ H' fun σ3 H5=>tt σ3 H5 fun b H6=>if b=true then r.1 σ3 H6 (LcT rs r.2.1 r.2.2 te ys σ3 fun ys' σ' H7=>∃ m',m' < m∧W2 (i+1) m' ys' σ' H7) else ∃ m',m' < m∧W2 (i+1) m' ys σ3 H6)
def xt (Y:Cx) (D:Addr) (P:List (Addr × Obj)) (Fin:List V→St→Hp→Prop) (s:Shared):Prop:=∃ ys its k σ H,Inv Y (Lp D its k :: P) σ H s∧Vals ys its∧ys.length≤sizeLine∧Fin ys σ H
def vR (Y:Cx) (D:Addr) (elt:Expr) (te:TE) (G:List Comprehension) (scope:Scope) (pos:Pos) (rs:List (TI × TG × TT)) (c:Comprehension) (r:TI × TG × TT) (k:Nat):Prop :=
    ∀ (P:List (Addr × Obj)),(∀ p∈P,p.1≠D)→∀ {σ:St} {H:Hp} {s:Shared} {ys:List V} {its:List Value} {kk:Nat} {Fin:List V→St→Hp→Prop},Inv Y (Lp D its kk :: P) σ H s→Vals ys its→ys.length≤sizeLine →
      r.1 σ H (LcT rs r.2.1 r.2.2 te ys σ Fin) →
      wpAny (model Y.prog Y.w) Y.A (eval c.iter Y.env) (fun x s₄=>wpAny (model Y.prog Y.w) Y.A (pyIter x) (fun it2 s₅ =>
        codeAny (model Y.prog Y.w) Y.A (.compStart (.ListComp elt G scope pos) k it2 (.ref D) Y.env) (fun r s₆=>match r with|.ok _=>xt Y D P Fin s₆|.error _=>False) s₅) (fun _ _=>False) s₄) (fun _ _=>False) s
theorem tR {Y:Cx} {τ:Type} {val:τ→St} {nx:St→τ} (hc:Y.calm=true) (hxe:Y.xe=fun _ _=>False) (hrs:∀ {pn:List (Addr × Obj)} {σ':St} {H':Hp} {s':Shared},Inv Y pn σ' H' s'→Inv Y pn (val (nx σ')) H' s')
    {D:Addr} (hDx:D∈Y.ex∨Y.s₀.heap.objs.size≤D) (hDc:∀ x c,Y.env.cells.lookup x=some c→c≠D) (hDp:∀ p∈Y.pn,p.1≠D)
    {elt tg iter tg2 iter2:Expr} {ifs ifs2:List Expr} {te:TE} {g:TG} {tt:TT} {G:List Comprehension} {scope:Scope} {pos:Pos} {k:Nat} {r2:TI × TG × TT} {rs:List (TI × TG × TT)} (hk:G[k]?=some ⟨tg,iter,ifs,0⟩) (hk2:G[k+1]?=some ⟨tg2,iter2,ifs2,0⟩) (hst:∀ x,foldedSetIterable iter2 Y.env x=pure x) (htg:PG Y tg g) (hfs:i6 Y ifs tt)
    {P:List (Addr × Obj)} (hP:∀ p∈P,p.1≠D) (inn:vR Y D elt te G scope pos rs ⟨tg2,iter2,ifs2,0⟩ r2 (k+1)) {it:Addr} {fp:List Addr} {tn:Nat→Heap→Prop} {J:It} (T:Turn Y.prog Y.w Y.K tg J fp it tn) (neD:∀ b∈fp,D≠b) (fpY:∀ {H':Hp} {n:Nat} {its:List Value},(∀ b∈fp,H' b=none)→∀ b∈fp,eI Y (Lp D its n :: P) H' b)
    {R:Result→Shared→Prop} {Fin:List V→τ→Hp→Prop} (hR:∀ ys its k t H s,Inv Y (Lp D its k :: P) (val t) H s→Vals ys its→ys.length≤sizeLine→Fin ys t H→R (.ok .next) s)
    {W:Nat→Nat→List V→τ→Hp→Prop} (turn:∀ i m ys t H,W i m ys t H→(J.stop i H∧Fin ys t H) ∨
      (J.go i H∧∀ x H',J.yld i H x H'→g x (val t) H' fun σ3 H5=>tt σ3 H5 fun b H6=>if b=true then r2.1 σ3 H6 (LcT rs r2.2.1 r2.2.2 te ys σ3 fun ys' σ' H7=>∃ m',m' < m∧W (i+1) m' ys' (nx σ') H7) else ∃ m',m' < m∧W (i+1) m' ys (nx σ3) H6))
    {m0 kk:Nat} {ys:List V} {its:List Value} {t:τ} {H:Hp} {s:Shared} (I:Inv Y (Lp D its kk :: P) (val t) H s) (rv:Vals ys its) (hz:ys.length≤sizeLine) (st:tn 0 s.heap) (fr:∀ b∈fp,H b=none) (w0:W 0 m0 ys t H) :
    codeAny (model Y.prog Y.w) Y.A (.compLoop (.ListComp elt G scope pos) k (.ref it) (.ref D) Y.env) R s:=by
  have xe:∀ e s,Y.xe e s→False:=fun e s z=>by rw [hxe] at z;exact z
  refine pN hk hk2 (fun n s'=>∃ i ys its k t H',Inv Y (Lp D its k :: P) (val t) H' s'∧Vals ys its∧ys.length≤sizeLine∧tn i s'.heap∧(∀ b∈fp,H' b=none)∧W i n ys t H') hst ?_ m0 ⟨0,ys,its,kk,t,H,I,rv,hz,st,fr,w0⟩;rintro n s3 ⟨i,ys3,its3,k3,t3,H3,I3,rv3,hz3,st3,fr3,w3⟩;rcases turn i n ys3 t3 H3 w3 with ⟨stop,qn⟩|⟨go,step⟩
  · refine wpAny_mono (T.done Y rfl rfl rfl hc i _ s3 _ H3 (fun _ _=>False) I3 (fpY fr3) st3 stop) (fun r s4 ⟨hr,I4⟩=>?_) fun _ _ z=>z;subst hr;exact hR ys3 its3 k3 t3 H3 s4 I4 rv3 hz3 qn
  · refine wpAny_mono (T.item Y rfl rfl rfl hc i _ s3 _ H3 (fun _ _=>False) I3 (fpY fr3) st3 go) (fun r s4 ⟨u,hr,h4⟩=>?_) fun _ _ z=>z;subst hr;refine wpAny_mono h4 (fun _ s5 ⟨x,H5,I5,r5,y5,st5,fr5⟩=>?_) fun _ _ z=>z;have I5':=I5.pinned (fpY fr5) (T.obj _ _ st5);refine wpAny_mono (htg _ s5 _ H5 x u _ I5' r5 (step x H5 y5)) (fun _ s6 ⟨σ6,H6,I6,q6⟩=>?_) fun e s z=>(xe e s z).elim;refine wpAny_mono (hfs _ s6 σ6 H6 _ I6 q6) (fun ok s7 ⟨H7,I7,q7⟩=>?_) fun e s z=>(xe e s z).elim;have again:∀ {ys':List V} {its':List Value} {k':Nat} {σ':St} {H':Hp} {s':Shared},Inv Y (Lp D its' k' :: (P++de fp s5.heap)) σ' H' s'→Vals ys' its'→ys'.length≤sizeLine→(∃ m',m' < n∧W (i+1) m' ys' (nx σ') H') →
        ∃ m,m < n∧∃ i ys its k t H',Inv Y (Lp D its k :: P) (val t) H' s'∧Vals ys its∧ys.length≤sizeLine∧tn i s'.heap∧(∀ b∈fp,H' b=none)∧W i m ys t H':=fun {ys' its' k' σ' H' s'} Z rv' hz' hw=>by
      obtain ⟨m',hm,w'⟩:=hw;have pn:∀ {b:Addr} {o:Obj},b∈fp→s5.heap.get? b=some o→_:=fun {b o} hb e=>Z.pin (b,o) (aag _ (aae _ (aag _ (di hb e))));refine ⟨m',hm,i+1,ys',its',k',nx σ',H',hrs (Inv.unpinned (pl:=de fp s5.heap) Z),rv',hz',T.keep _ _ _ st5 fun b hb o e=>(pn hb e).1,fun b hb=>?_,w'⟩;obtain ⟨o,e,d⟩:=T.obj _ _ st5 b hb;exact (pn hb e).2.1
    cases ok with
    | false =>
      rw [if_neg aap] at q7 ⊢;exact again I7 rv3 hz3 q7
    | true =>
      rw [if_pos rfl] at q7 ⊢;refine wpAny_mono (inn (P++de fp s5.heap) (fun p hp=>?_) I7 rv3 hz3 q7) (fun x s8 h8=>wpAny_mono h8 (fun it2 s9 h9=>codeAny_mono h9 fun r s10 h10=>?_) fun _ _ z=>z) fun _ _ z=>z
      · rcases aau.mp hp with z|z
        · exact hP p z
        · exact abM (neD _ (iB z).1)
      · cases r with
        | error e=>exact h10.elim
        | ok f =>
          obtain ⟨ys',its',k',σ',H',Z,rv',hz',w'⟩:=h10;exact again Z rv' hz' w'
theorem tP {Y:Cx} (hc:Y.calm=true) (hxe:Y.xe=fun _ _=>False) {D:Addr} (hDx:D∈Y.ex∨Y.s₀.heap.objs.size≤D) (hDc:∀ x c,Y.env.cells.lookup x=some c→c≠D) (hDp:∀ p∈Y.pn,p.1≠D)
    {elt:Expr} {te:TE} {G:List Comprehension} {scope:Scope} {pos:Pos} (hbe:PE Y elt te) :
    ∀ (rs:List (TI × TG × TT)) (c:Comprehension) (r:TI × TG × TT) (k:Nat),G[k]?=some c→PCl Y c r→Paired (PCl Y) (G.drop (k+1)) rs →
    vR Y D elt te G scope pos rs c r k:=by
  intro rs;have xe:∀ e s,Y.xe e s→False:=fun e s z=>by rw [hxe] at z;exact z
  have fpx:∀ {fp:List Addr} {P:List (Addr × Obj)} {its:List Value} {kk:Nat} {H2:Hp},(∀ b∈fp,eI Y (Lp D its kk :: P) H2 b)→(∀ b∈fp,D≠b)∧∀ {H':Hp} {n:Nat} {its':List Value},(∀ b∈fp,H' b=none)→∀ b∈fp,eI Y (Lp D its' n :: P) H' b:=fun {fp P its kk H2} f2=>by
    have neD:∀ b∈fp,D≠b:=fun b hb=>(f2 b hb).2.2.2.2.2 (Lp D its kk) (aag _ aai);refine ⟨neD,fun {H' n its'} hn b hb=>⟨hn b hb,(f2 b hb).2.1,(f2 b hb).2.2.1,(f2 b hb).2.2.2.1,(f2 b hb).2.2.2.2.1,fun p hp=>?_⟩⟩;rcases aau.mp hp with z|z
    · exact (f2 b hb).2.2.2.2.2 p (aaV _ z)
    · rcases aaj.mp z with z|z
      · rw [z];exact neD b hb
      · exact (f2 b hb).2.2.2.2.2 p (aag _ (aae _ z))
  induction rs with
  | nil =>
    intro c r k hk hcl hG P hP σ H s ys its kk Fin I rv hz h;have hk2:G[k+1]?=none:=by
      have l:=abg hG;rw [aay] at l;exact abI (by simp at l;lia)
    obtain ⟨tg,iter,ifs,as⟩:=c;have as0:as=0:=hcl.as;subst as0;refine wpAny_mono (hcl.it _ s σ H _ I h) (fun v s1 h1=>wpAny_mono h1 (fun itv s2 h2=>?_) fun e s z=>(xe e s z).elim) fun e s z=>(xe e s z).elim;obtain ⟨it,fp,tn,J,H2,e,I2,T,st2,f2,W,⟨m0,w0⟩,turn⟩:=h2;subst e;have loop:=qz (τ:=St) (val:=fun z=>z) (nx:=fun z=>z) hc hxe (fun Z=>Z) hDx hDc hDp (scope:=scope) (pos:=pos) hbe hk hk2 hcl.tg hcl.fs hP T (fpx f2).1 (fpx f2).2 (R:=fun r s₆=>match r with|.ok _=>xt Y D P Fin s₆|.error _=>False) (fun ys its k t H s I4 rv hz fin=>⟨ys,its,k,t,H,I4,rv,hz,fin⟩) turn I2 rv hz st2 (fun b hb=>(f2 b hb).1) w0;exact kg hk loop (T.self _ 0 _ _ _ st2 loop)
  | cons r2 rs ih =>
    intro c r k hk hcl hG P hP σ H s ys its kk Fin I rv hz h;obtain ⟨c2,hk2,hcl2,hG2⟩:∃ c2,G[k+1]?=some c2∧PCl Y c2 r2∧Paired (PCl Y) (G.drop (k+1+1)) rs:=by
      cases e:G.drop (k+1) with
      | nil=>rw [e] at hG;cases hG
      | cons c2 l =>
        rw [e] at hG;have e1:G[k+1]?=some c2:=by
          have:=congrArg (·[0]?) e;simpa using this
        have e2:G.drop (k+1+1)=l:=by rw [← List.drop_drop,e];rfl
        cases hG with
        | cons a b=>exact ⟨c2,e1,a,by rw [e2];exact b⟩
    obtain ⟨tg,iter,ifs,as⟩:=c;have as0:as=0:=hcl.as;subst as0;obtain ⟨tg2,iter2,ifs2,as2⟩:=c2;have as20:as2=0:=hcl2.as;subst as20;refine wpAny_mono (hcl.it _ s σ H _ I h) (fun v s1 h1=>wpAny_mono h1 (fun itv s2 h2=>?_) fun e s z=>(xe e s z).elim) fun e s z=>(xe e s z).elim;obtain ⟨it,fp,tn,J,H2,e,I2,T,st2,f2,W,⟨m0,w0⟩,turn⟩:=h2;subst e;have loop:=tR (τ:=St) (val:=fun z=>z) (nx:=fun z=>z) hc hxe (fun Z=>Z) hDx hDc hDp (scope:=scope) (pos:=pos) hk hk2 (hcl2.st _) hcl.tg hcl.fs hP (ih _ r2 (k+1) hk2 hcl2 hG2) T (fpx f2).1 (fpx f2).2 (R:=fun r s₆=>match r with|.ok _=>xt Y D P Fin s₆|.error _=>False) (fun ys its k t H s I4 rv hz fin=>⟨ys,its,k,t,H,I4,rv,hz,fin⟩) turn I2 rv hz st2 (fun b hb=>(f2 b hb).1) w0;exact kg hk loop (T.self _ 0 _ _ _ st2 loop)
abbrev vP (cap:List (Option Nat)) (g:TG) (tt:TT) (r2:TI × TG × TT) (rs:List (TI × TG × TT)) (te:TE) (σ:St) (Q:VK) (J:It) (H1:Hp):Prop:=∃ W:Nat→Nat→List V→Hp→Prop,(∃ m,W 0 m [] H1)∧∀ i m ys H,W i m ys H →
  (J.stop i H∧∀ p,H p=none→Q (.ref p) (upd H p (.lst ys))) ∨
  (J.go i H∧∀ x H',J.yld i H x H'→g x (cm cap σ) H' fun σ2 H2=>tt σ2 H2 fun b H3=>if b=true then r2.1 σ2 H3 (LcT rs r2.2.1 r2.2.2 te ys σ2 fun ys' _ H4=>∃ m',m' < m∧W (i+1) m' ys' H4) else ∃ m',m' < m∧W (i+1) m' ys H3)
def yr (cap:List (Option Nat)) (wi:TI) (g:TG) (tt:TT) (r2:TI × TG × TT) (rs:List (TI × TG × TT)) (te:TE):TE:=fun σ H Q=>wi σ H (vP cap g tt r2 rs te σ Q)
section
variable {X:Cx}
theorem wA {elt tg iter:Expr} {ifs:List Expr} {G:List Comprehension} {r2:TI × TG × TT} {rs:List (TI × TG × TT)} {scope:Scope} {pos:Pos} {cl:List (Str × Addr)} {NY:List Str} {cap:List (Option Nat)} {wi:TI} {g:TG} {tt:TT} {te:TE} (hc:X.calm=true) (hi:PI X tg iter wi)
    (hclos:closureFor scope X.env=pure cl) (hci:CellsIn X.env cl) (hcap:CapOk X.env (relabel scope X.env) X.N NY cap)
    (hb:∀ fp s H C,PG (bh X scope cl NY fp s H C) tg g∧i6 (bh X scope cl NY fp s H C) ifs tt∧Paired (PCl (bh X scope cl NY fp s H C)) G (r2 :: rs)∧PE (bh X scope cl NY fp s H C) elt te)
    (hkind:scope.kind=.function:=by rfl) (hnc:(scope.names.all fun y=>y.2 != .cell)=true:=by rfl)
    (hnames:(scope.names.all fun y=>y.2 != .local || scope.names.lookup y.1 == some .local)=true:=by rfl)
    (hhas:((relabel scope X.env).names.all fun p=>(p.2 != .cell && p.2 != .free) || (cl.lookup p.1).isSome)=true:=by rfl)
    (hs:∀ x,foldedSetIterable iter X.env x=pure x:=by intro _;rfl) :
    PE X (.ListComp elt (⟨tg,iter,ifs,0⟩ :: G) scope pos) (yr cap wi g tt r2 rs te):=by
  intro pins s σ H Q I h;rw [eval_ListComp];refine wpAny_comprehension_free (use:=none) rfl hs hclos hkind (jp hnames) (wpAny_mono (hi pins s σ H _ I h) (fun v s1 h1=>wpAny_mono h1 (fun itv s2 h2=>?_) fun _ _ e=>e) fun _ _ e=>e);obtain ⟨it,fp,tn,J,H2,e,I2,T,st2,f2,W,⟨m0,w0⟩,turn⟩:=h2;subst e;refine wpAny_newObj_type (wpAny_newFunctionEnv (mO hnc) (by intro y hy;simp at hy) (fun h₁ hns₁ hsb₁=>?_) hkind);dsimp only at hns₁ hsb₁ ⊢;obtain ⟨hC,B,hD⟩:=I2.newC hci hkind hhas hns₁ fun b o hb e=>hsb₁.extBut b o hb (aak _ e);generalize (s2.heap.push { cls:=.type "list",dict:=none,data:=.seq ([]:List Value).toArray }).objs.size=C at hC B ⊢;obtain ⟨hbg,hbt,hbG,hbe⟩:=hb fp s2 H2 C;obtain ⟨c2,G',eG,hcl2,hG'⟩:∃ c2 G',G=c2 :: G'∧PCl (bh X scope cl NY fp s2 H2 C) c2 r2∧Paired (PCl (bh X scope cl NY fp s2 H2 C)) G' rs:=by
    cases hbG with
    | cons a b=>exact ⟨_,_,rfl,a,b⟩
  obtain ⟨tg2,iter2,ifs2,as2⟩:=c2;have as20:as2=0:=hcl2.as;subst as20;have stW:=T.keep _ _ h₁ st2 fun b _ o e=>B.old b o e;have fpl:=T.lt st2;have hDc:=B.neD I2.cellLt (aab _) hD fun v z=>by cases z
  have loop:=tR (τ:=Unit) (val:=fun _=>cm cap σ) (nx:=fun _=>()) (Y:=bh X scope cl NY fp s2 H2 C) hc rfl (fun Z=>I2.recap f2 B hcap df Z) (.inr (aab _)) hDc (fun p hp=>by cases hp) (elt:=elt) (te:=te) (G:=⟨tg,iter,ifs,0⟩ :: G) (scope:=scope) (pos:=pos) (k:=0) rfl (show (⟨tg,iter,ifs,0⟩ :: G:List Comprehension)[1]?=some ⟨tg2,iter2,ifs2,0⟩ by rw [eG];rfl) (hcl2.st _) hbg hbt (P:=[]) (fun p hp=>by cases hp)
    (tP (Y:=bh X scope cl NY fp s2 H2 C) hc rfl (.inr (aab _)) hDc (fun p hp=>by cases hp) hbe rs _ r2 1 (by rw [eG];rfl) hcl2 (by rw [eG];exact hG')) T
    (fun b hb=>abv (fpl b hb)) (fun hn=>I2.fps f2 fpl B (fun p hp=>by rw [aaN.mp hp];exact aab _) hn) (R:=compPost (model X.prog X.w) X.A X.xe none (EP X pins σ Q) (.ref s2.heap.objs.size) C) (fun ys its k _ H s I4 rv hz fin=>I2.lstEnd f2 (aab _) (abS hC) rfl I4 rv hz fin)
    (W:=fun i m ys _ H=>W i m ys H) (fun i m ys _ H=>turn i m ys H) (t:=()) (I2.blk f2 fpl B hcap df (fun p hp=>by rw [aaN.mp hp];exact ⟨hD,aab _,aaD hC,fun v z=>by cases z⟩) (t':=s2.toks+([]:List (Str × Value)).length)) .nil (aaK _) stW (fun b hb=>(f2 b hb).1) w0
  exact codeAny_compStart_list loop (T.self _ 0 _ _ _ stW loop)
end
abbrev vO (g2:TG) (tt2:TT) (te:TE) (ys:List V) (σ2:St) (Fin:List V→Hp→Prop) (J2:It) (H4:Hp):Prop:=uz g2 tt2 te ys σ2 (fun ys _ H=>Fin ys H) J2 H4
abbrev vQ (cap:List (Option Nat)) (g:TG) (tt:TT) (wi2:TI) (g2:TG) (tt2:TT) (te:TE) (σ:St) (Q:VK) (J:It) (H1:Hp):Prop:=vP cap g tt (wi2,g2,tt2) [] te σ Q J H1
def yt (cap:List (Option Nat)) (wi:TI) (g:TG) (tt:TT) (wi2:TI) (g2:TG) (tt2:TT) (te:TE):TE:=fun σ H Q=>wi σ H (vQ cap g tt wi2 g2 tt2 te σ Q)
section
variable {X:Cx}
theorem wB {elt tg iter tg2 iter2:Expr} {ifs ifs2:List Expr} {scope:Scope} {pos:Pos} {cl:List (Str × Addr)} {NY:List Str} {cap:List (Option Nat)} {wi wi2:TI} {g g2:TG} {tt tt2:TT} {te:TE} (hc:X.calm=true) (hi:PI X tg iter wi)
    (hclos:closureFor scope X.env=pure cl) (hci:CellsIn X.env cl) (hcap:CapOk X.env (relabel scope X.env) X.N NY cap)
    (hb:∀ fp s H C,PG (bh X scope cl NY fp s H C) tg g∧i6 (bh X scope cl NY fp s H C) ifs tt∧PI (bh X scope cl NY fp s H C) tg2 iter2 wi2∧PG (bh X scope cl NY fp s H C) tg2 g2∧i6 (bh X scope cl NY fp s H C) ifs2 tt2∧PE (bh X scope cl NY fp s H C) elt te)
    (hkind:scope.kind=.function:=by rfl) (hnc:(scope.names.all fun y=>y.2 != .cell)=true:=by rfl)
    (hnames:(scope.names.all fun y=>y.2 != .local || scope.names.lookup y.1 == some .local)=true:=by rfl)
    (hhas:((relabel scope X.env).names.all fun p=>(p.2 != .cell && p.2 != .free) || (cl.lookup p.1).isSome)=true:=by rfl)
    (hs:∀ x,foldedSetIterable iter X.env x=pure x:=by intro _;rfl) (hs2:∀ E x,foldedSetIterable iter2 E x=pure x:=by intro _ _;rfl) :
    PE X (.ListComp elt [⟨tg,iter,ifs,0⟩,⟨tg2,iter2,ifs2,0⟩] scope pos) (yt cap wi g tt wi2 g2 tt2 te) :=
  wA (r2:=(wi2,g2,tt2)) (rs:=[]) hc hi hclos hci hcap (fun fp s H C=>by obtain ⟨hbg,hbt,i2,t2,f2,hbe⟩:=hb fp s H C;exact ⟨hbg,hbt,(.cons ⟨rfl,i2,t2,f2,hs2⟩ .nil),hbe⟩) hkind hnc hnames hhas hs
end
open PySem PySem.Spec PyProof.Rows
def iD (h:Heap) (S:List Addr):Heap:=⟨h.objs.mapIdx fun i o=>if i∈S then { o with data:=.freed } else o,h.life⟩
theorem d6 {h:Heap} {S:List Addr} {b:Addr} (hb:b∈S):(iD h S).get? b=none:=by
  unfold iD Heap.get?;simp only [Array.getElem?_mapIdx];cases e:h.objs[b]? with
  | none=>rfl
  | some o=>simp [hb]
theorem jR {h:Heap} {S:List Addr} {b:Addr} (hb:b∉S):(iD h S).get? b=h.get? b:=by
  unfold iD Heap.get?;simp only [Array.getElem?_mapIdx];cases e:h.objs[b]? with
  | none=>rfl
  | some o=>simp [hb]
theorem fi (h:Heap) (S:List Addr):(iD h S).StaysIn h:=fun b o e=>by
  by_cases hb:b∈S
  · rw [d6 hb] at e;cases e
  · rw [jR hb] at e;exact e
theorem dv {h h1 base:Heap} {S:List Addr}:∀ {l:List Env},(∀ b∈l.filterMap (·.frame),b∈S)→h1.FunFrames base l→h1.FunFrames (iD h S) l
  | [],_,_=>trivial
  | env :: rest,hs,⟨hk,⟨L,o,hf,hn,ho,hd⟩,hr⟩=>by
    refine ⟨hk,⟨L,o,hf,d6 (hs L ?_),ho,hd⟩,dv (fun b hb=>hs b ?_) hr⟩
    · rw [abr,hf];exact aai
    · rw [abr,hf];exact aae _ hb
def Trc (h:Heap) (e T:Addr) (cls:Value):Prop:=∃ oe vs oT ts a0,h.get? e=some oe∧(oe.cls=cls∧vs[0]?=some a0)∧oe.data=.fields vs∧vs[1]?=some (.ref T)∧T≠e∧h.get? T=some oT∧oT.data=.fields ts∧ts[3]?=some .none
section
variable {M:Model} {A:Around} {E:Value→Shared→Prop} {s:Shared}
structure Lft (l:List Env) (e:Addr) (x:List Addr) (h h':Heap):Prop where
  keep:∀ b o,b∉l.filterMap (·.frame)→b≠e→b∉x→h.get? b=some o→h'.get? b=some o
  slot:∀ b o,b∈l.filterMap (·.frame)→h.get? b=some o→∃ sl,h'.get? b=some { o with slots:=sl }
theorem mr {base b0:Heap} {l:List Env} {e:Addr} {x:List Addr} {cls:Value} {h h':Heap} (hl:h.FunFrames b0 l) {a0:Value} (L:Heap.LeftW (iD h (e :: x++l.filterMap (·.frame))) l e cls a0 h h') (he:h.get? e≠none) :
    Lft l e x h h'∧∃ T,Trc h' e T cls∧(T∈x∨h.get? T=none):=by
  obtain ⟨k1,k2,k3,k4⟩:=L;refine ⟨⟨fun b o hb hbe hx ho=>k1 b o (by rw [jR];exact ho;simp [hb,hbe,hx]),fun b o hb ho=>?_⟩,?_⟩
  · obtain ⟨_,o',ho',hd⟩:=hl.mem hb;rw [ho] at ho';cases ho';exact k4 b o ho hd
  · obtain ⟨oe,vs,T,oT,ts,h1,h2,h3,h4,h5,h6,h7,h8,h9⟩:=k3;refine ⟨T,⟨oe,vs,oT,ts,a0,h1,h2,h3,h4,h6,h7,h8,h9⟩,?_⟩;by_cases hT:T∈x
    · exact .inl hT
    · refine .inr ?_;have nf:T∉l.filterMap (·.frame):=fun z=>by
        obtain ⟨_,o,ho,hd⟩:=k2.mem z;rw [h7] at ho;cases ho;exact hd ts h8
      rw [jR (by simp [hT,h6,nf])] at h5;exact h5
theorem nO {b0:Heap} {env:Env} {outer:List Env} {L e:Addr} {oe:Obj} {vs:Array Value} {Q:Unit→Shared→Prop} (hfr:A.frames=some (env :: outer)) (hl:s.heap.FunFrames b0 (env :: outer)) (hf:env.frame=some L)
    (he:s.heap.get? e=some oe) (hd:oe.data=.fields vs) (h1:vs[1]?=some .none) {a0:Value} (h0:vs[0]?=some a0)
    (h:∀ h' T,Lft (env :: outer) e [] s.heap h'→Trc h' e T oe.cls→s.heap.get? T=none→Q () { s with heap:=h' }):wpAny M A (leaving env (.ref e)) Q E s:=by
  refine wpAny_leaving_firstW (a0:=a0) (base:=iD s.heap (e :: []++(env :: outer).filterMap (·.frame))) hfr (dv (fun b hb=>aag _ hb) hl) hf he (fi _ _) (d6 (by simp)) hd h1 h0 fun h' L'=>?_;obtain ⟨l',T,t,z⟩:=mr (base:=b0) hl L' (by rw [he];simp);rcases z with z|z
  · exact absurd z (by simp)
  · exact h h' T l' t z
theorem pj {b0:Heap} {env:Env} {outer:List Env} {L e T:Addr} {cls:Value} {Q:Unit→Shared→Prop} (hfr:A.frames=some (env :: outer)) (hl:s.heap.FunFrames b0 (env :: outer)) (hf:env.frame=some L)
    (ht:Trc s.heap e T cls)
    (h:∀ h' T',Lft (env :: outer) e [T] s.heap h'→Trc h' e T' cls→(T'=T∨s.heap.get? T'=none)→Q () { s with heap:=h' }):wpAny M A (leaving env (.ref e)) Q E s:=by
  obtain ⟨oe,vs,oT,ts,a0,h1,h2,h3,h4,h6,h7,h8,h9⟩:=ht;refine wpAny_leaving_nextW (a0:=a0) (base:=iD s.heap (e :: [T]++(env :: outer).filterMap (·.frame))) (cls:=cls) hfr (dv (fun b hb=>aag _ hb) hl) hf ⟨oe,vs,T,oT,ts,h1,h2,h3,h4,d6 (by simp),h6,h7,h8,h9⟩ (fi _ _) (d6 (by simp)) fun h' L'=>?_;obtain ⟨l',T',t,z⟩:=mr (base:=b0) hl L' (by rw [h1];simp);refine h h' T' l' t ?_;rcases z with z|z
  · exact .inl (by simpa using z)
  · exact .inr z
end
def CX1 (P:Program) (w:World):CXT:=fun outer H s E e s'=>∃ (ea T C:Addr) (H':Hp),e=.ref ea∧s'.os=s.os∧AllBare s'.gens∧Un (frs outer) [] H H' s.heap s'.heap∧HOk P w H' s'.heap∧s.heap.get? ea=none∧s.heap.get? T=none∧H' ea=none∧H' T=none∧Trc s'.heap ea T (.ref C)∧E (.ref C) none H'
theorem iG {h h' base:Heap}:∀ {l:List Env},(∀ b∈frs l,∀ o,h.get? b=some o→∃ sl,h'.get? b=some { o with slots:=sl })→h.FunFrames base l→h'.FunFrames base l
  | [],_,_=>trivial
  | env :: rest,k,⟨hk,⟨L,o,hf,hn,ho,hd⟩,hr⟩=>by
    have m:∀ b,b=L∨b∈frs rest→b∈frs (env :: rest):=fun b hb=>by
      show b∈(env :: rest).filterMap (·.frame);rw [abr,hf];rcases hb with rfl|hb
      · exact aai
      · exact aae _ hb
    obtain ⟨sl,e⟩:=k L (m L (.inl rfl)) o ho;exact ⟨hk,⟨L,_,hf,hn,e,hd⟩,iG (fun b hb=>k b (m b (.inr hb))) hr⟩
theorem jW {env:Env} {outer:List Env} {L:Addr} (hf:env.frame=some L):frs (env :: outer)=L :: frs outer:=by
  show (env :: outer).filterMap (·.frame)=_;rw [abr,hf];rfl
theorem pY {env:Env} {outer:List Env} {L e:Addr} {x:List Addr} {H0 H':Hp} {h0 h1 h2:Heap} (hf:env.frame=some L) (u:Un (frs (env :: outer)) [] H0 H' h0 h1) (l:Lft (env :: outer) e x h1 h2) (hL:h0.get? L=none) (he:h0.get? e=none) (hx:∀ b∈x,h0.get? b=none) :
    Un (frs outer) [] H0 H' h0 h2:=by
  have ne:∀ b o,h0.get? b=some o→b≠L∧b≠e∧b∉x:=fun b o q=>⟨(fun z=>by rw [z,hL] at q;cases q),(fun z=>by rw [z,he] at q;cases q),(fun z=>by rw [hx b z] at q;cases q)⟩
  have fr:∀ b,b∈frs (env :: outer)↔b=L∨b∈frs outer:=fun b=>by rw [jW hf,aaj]
  have fwd:∀ b o,h0.get? b=some o→∀ o',h1.get? b=some o'→∃ sl,h2.get? b=some { o' with slots:=sl }:=fun b o q o' q'=>by
    by_cases hb:b∈frs (env :: outer)
    · exact l.slot b o' hb q'
    · exact ⟨o'.slots,l.keep b o' hb (ne b o q).2.1 (ne b o q).2.2 q'⟩
  refine ⟨fun b o q n hb _=>?_,fun b o q n hb _=>?_,fun b o q n h=>u.free b o q n h,fun b o q h=>?_,u.tups,u.frzs,u.tbls⟩
  · have nb:b∉frs (env :: outer):=fun z=>((fr b).mp z).elim (ne b o q).1 hb;exact l.keep b o nb (ne b o q).2.1 (ne b o q).2.2 (u.keep b o q n nb (by simp))
  · obtain ⟨sl,e1⟩:=u.slot b o q n ((fr b).mpr (.inr hb)) (by simp);obtain ⟨sl',e2⟩:=fwd b o q _ e1;exact ⟨sl',e2⟩
  · obtain ⟨o',e1⟩:=u.there b o q h;obtain ⟨sl,e2⟩:=fwd b o q o' e1;exact ⟨_,e2⟩
theorem nV {P:Program} {w:World} {l:List Env} {e:Addr} {x:List Addr} {H:Hp} {h1 h2:Heap} (ok:HOk P w H h1) (f:Lft l e x h1 h2) (hl:∀ b∈frs l,H b=none) (he:H e=none) (hx:∀ b∈x,H b=none):HOk P w H h2:=fun b u q =>
  (ok b u q).stay (fun c v hc r=>by
    have hn:H c≠none:=by rcases hc with rfl|hc;rw [q];simp;rw [hc];simp
    exact f.keep c v (fun z=>hn (hl c z)) (fun z=>hn (by rw [z];exact he)) (fun z=>hn (hx c z)) r) (fun _ r=>r) fun _ _ r=>r
section
variable {P:Program} {w:World} {K:aaa} {mg:Str→Option Value} {base:Heap} {N:List Str} {qual:Str} {scope:Scope} {f:Addr} {cd:Value} {A:Around} {outer:List Env} {s0:Shared} {H0:Hp} {E:XK}
theorem wo {pins:List (Addr × Obj)} {σ:St} {H:Hp} {s:Shared} {h':Heap} {e C:Addr} {args:List Value} (I:Inv (ke (CX1 P w) P w K mg base N qual scope f cd A outer s0 H0 E) pins σ H s) (mk:Heap.MadeExcOf s.heap h' e (.ref C) args) (q:E (.ref C) none H) :
    (ke (CX1 P w) P w K mg base N qual scope f cd A outer s0 H0 E).xe (.ref e) { s with heap:=h' }:=by
  have hf:(envOfC qual scope s0.heap.objs.size f cd).frame=some s0.heap.objs.size:=rfl;obtain ⟨t,he,ht,_⟩:=mk.there;have fr:h'.FunFrames base (envOfC qual scope s0.heap.objs.size f cd :: outer):=iG (fun b _ o ho=>⟨o.slots,mk.keeps b o ho⟩) I.stack;have un1:Un (frs (envOfC qual scope s0.heap.objs.size f cd :: outer)) [] H0 H s0.heap h':=(Un.mono I.base (fun b hb=>by rw [jW hf];exact aae _ hb) (fun b hb=>hb)).trans (Un.kept mk.keeps);have none_of:∀ b,s.heap.get? b=none→s0.heap.get? b=none∧H b=none:=fun b hb=>by
    constructor
    · cases z:s0.heap.get? b with
      | none=>rfl
      | some o =>
        obtain ⟨o',z'⟩:=I.base.there b o z (fun z=>nomatch z);rw [hb] at z';cases z'
    · cases z:H b with
      | none=>rfl
      | some o =>
        obtain ⟨u,hu⟩:=(I.hok b o z).get;rw [hb] at hu;cases hu
  refine nO (b0:=base) (s:={ s with heap:=h' }) (oe:={ cls:=.ref C,data:=.fields #[.ref t,.none,.none,.none,.bool false,.none] }) I.ok.frames fr hf he rfl rfl (a0:=.ref t) rfl fun h2 T lf tr hT=>?_;have hT':s.heap.get? T=none:=by
    cases z:s.heap.get? T with
    | none=>rfl
    | some o =>
      have:=mk.keeps T o z;have hT:h'.get? T=none:=hT;rw [hT] at this;cases this
  have hL:s0.heap.get? s0.heap.objs.size=none:=by
    cases z:s0.heap.get? s0.heap.objs.size with
    | none=>rfl
    | some o=>exact absurd (aas z) (abu _)
  exact ⟨e,T,C,H,rfl,I.os,I.bare,pY hf un1 lf hL (none_of e mk.new).1 (fun b hb=>nomatch hb),nV (I.hok.kept mk.keeps) lf I.stkFree (none_of e mk.new).2 (fun b hb=>nomatch hb),(none_of e mk.new).1,(none_of T hT').1,(none_of e mk.new).2,(none_of T hT').2,tr,q⟩
theorem nz:kh (CX1 P w) (ke (CX1 P w) P w K mg base N qual scope f cd A outer s0 H0 E) E:=by
  rintro pins σ H s e s' I ⟨ea,T,C,H',rfl,os,bare,un,hok,n1,n2,m1,m2,tr,q⟩;have hf:(envOfC qual scope s0.heap.objs.size f cd).frame=some s0.heap.objs.size:=rfl;have un:Un (frs (envOfC qual scope s0.heap.objs.size f cd :: outer)) [] H H' s.heap s'.heap:=un;have fr:s'.heap.FunFrames base (envOfC qual scope s0.heap.objs.size f cd :: outer):=iG (fun b hb o ho=>un.any ho (I.stkFree b hb) (fun z=>nomatch z)) I.stack;have un1:Un (frs (envOfC qual scope s0.heap.objs.size f cd :: outer)) [] H0 H' s0.heap s'.heap:=(Un.mono I.base (fun b hb=>by rw [jW hf];exact aae _ hb) (fun b hb=>hb)).trans un;have none_of:∀ b,s.heap.get? b=none→s0.heap.get? b=none:=fun b hb=>by
    cases z:s0.heap.get? b with
    | none=>rfl
    | some o =>
      obtain ⟨o',z'⟩:=I.base.there b o z (fun z=>nomatch z);rw [hb] at z';cases z'
  have hL:s0.heap.get? s0.heap.objs.size=none:=by
    cases z:s0.heap.get? s0.heap.objs.size with
    | none=>rfl
    | some o=>exact absurd (aas z) (abu _)
  have frN:∀ b∈frs (envOfC qual scope s0.heap.objs.size f cd :: outer),H' b=none:=fun b hb=>by
    obtain ⟨_,o,ho,_⟩:=(show s.heap.FunFrames base (envOfC qual scope s0.heap.objs.size f cd :: outer) from I.stack).mem hb;exact un.free b o ho (I.stkFree b hb) (fun z=>nomatch z)
  refine pj (b0:=base) I.ok.frames fr hf tr fun h2 T' lf tr' hT=>?_;have x1:∀ b∈[T],s0.heap.get? b=none:=fun b hb=>by rw [aaN.mp hb];exact none_of T n2
  have x2:∀ b∈[T],H' b=none:=fun b hb=>by rw [aaN.mp hb];exact m2
  refine ⟨ea,T',C,H',rfl,os.trans I.os,bare,pY hf un1 lf hL (none_of ea n1) x1,nV hok lf frN m1 x2,none_of ea n1,?_,m1,?_,tr',q⟩
  · rcases hT with rfl|hT
    · exact none_of _ n2
    · cases z:s0.heap.get? T' with
      | none=>rfl
      | some o =>
        obtain ⟨o',z'⟩:=un1.there T' o z (fun z=>nomatch z);rw [hT] at z';cases z'
  · rcases hT with rfl|hT
    · exact m2
    · cases z:H' T' with
      | none=>rfl
      | some o =>
        obtain ⟨u,hu⟩:=(hok T' o z).get;rw [hT] at hu;cases hu
end
structure EC (K:aaa) (C:Addr):Prop where
  ex:∃ nm q N bs bm hdct sn sub ab col dd k0 k1 k2 k3 k5 B newId initId bmB mN,ExcBaseFacts B newId initId bmB∧bm.contains (.type "BaseException")=true∧mN ("__init__":Str)=none ∧
    ∀ h,K.In h→h.get? C=some (excClassObj nm q C N bs bm hdct sn sub ab col dd k0 k1 k2 k3 k5 newId)∧h.Ns N mN∧OwnTail h bmB bm
def Rz (X:Cx) (E:XK):Prop:=∀ (pins:List (Addr × Obj)) (σ:St) (H:Hp) (s:Shared) (h':Heap) (e C:Addr) (args:List Value),Inv X pins σ H s→Heap.MadeExcOf s.heap h' e (.ref C) args→E (.ref C) none H→X.xe (.ref e) { s with heap:=h' }
theorem rz1 {P:Program} {w:World} {K:aaa} {mg:Str→Option Value} {base:Heap} {N:List Str} {qual:Str} {scope:Scope} {f:Addr} {cd:Value} {A:Around} {outer:List Env} {s0:Shared} {H0:Hp} {E:XK} :
    Rz (ke (CX1 P w) P w K mg base N qual scope f cd A outer s0 H0 E) E:=fun _ _ _ _ _ _ _ _ I mk q=>wo I mk q
theorem fM {X:Cx} {E:XK} {C:Addr} {x t:Str} {np p cpos pos:Pos} {j:Nat} (hz:Rz X E) (ec:EC X.K C) (hc:X.calm=true) (hg:Gl X x) (hm:X.mg x=some (.ref C))
    (hs:backTo cpos (starEach [.Constant (.str t) j p] X.env)=[(false,eval (.Constant (.str t) j p) X.env)]:=by rfl) (hdb:(x == ("__debug__":Str))=false:=by decide) :
    PS X (.Raise (some (.Call (.Name x np) [.Constant (.str t) j p] [] cpos)) none pos) (fun _ _ H=>E (.ref C) none H):=by
  intro pins s σ H D I h;obtain ⟨nm,q,N,bs,bm,hdct,sn,sub,ab,col,dd,k0,k1,k2,k3,k5,B,newId,initId,bmB,mN,F,hb,hni,hK⟩:=ec.ex;refine wpAny_Raise_call_subT (nm:=nm) (q:=q) (N:=N) (bs:=bs) (hdct:=hdct) (sn:=sn) (sub:=sub) (ab:=ab) (col:=col) (dd:=dd) (k0:=k0) (k1:=k1) (k2:=k2) (k3:=k3) (k5:=k5) F hb (I.ok.hd hc) (by rw [hs];rfl) hni (hV I hg hm ⟨rfl,?_⟩ hdb);rw [hs];refine abN (abi (ab2 (acb ?_)));have I1:Inv X pins σ H { s with toks:=s.toks+1 }:=I.tok _;obtain ⟨h1,h2,h3⟩:=hK _ I1.kIn;exact ⟨rfl,(by show 1≤sizeLine;decide),h1,h2,h3,fun h' e mk=>hz pins σ H _ h' e C _ I1 mk h⟩
theorem Fun.ok1 {P:Program} {w:World} {K:aaa} {mg:Str→Option Value} {base:Heap} {x qual:Str} {st:Stmt} {f:Addr} {fd:FuncData} {N ps:List Str} {k:Nat} {sp:Sp} (F:Fun K x qual st f fd) (S:FnScope N ps (aq st)) (len:∀ vs H Q E,sp vs H Q E→vs.length=ps.length)
    (hbody:∀ (cdv:Value) (A:Around) (outer:List Env) (s:Shared) (H:Hp) (vs:List V) (Q:VK) (E:XK),Room k (A.deeper (envOfC qual (aq st) s.heap.objs.size f cdv))→sp vs H Q E →
      ∃ t,PSs (ke (CX1 P w) P w K mg base N qual (aq st) f cdv A outer s H E) (cK st) t∧t { nx:=fun _ H'=>Q .non H',rt:=Q } (gX N vs) H):FnOk P w K mg base (CX1 P w) (k+1) f fd ps sp:=by
  obtain ⟨oc,od,kV,doc,pm,an,cdv,ct,osl,rfl,lk,hcd⟩:=F.ex;exact vM lk hcd S len fun A outer s H vs Q E hr hsp=>hbody cdv A outer s H vs Q E hr hsp
def hZ (P:Program) (w:World) (K:aaa) (mg:Str→Option Value) (base:Heap) (x:Str) (k:Nat) (ps:List Str) (sp:Sp):Prop :=
  ∃ f fd,FnOk P w K mg base (CX1 P w) k f fd ps sp∧Binds K fd ps []∧abm K (.ref f)=true∧mg x=some (.ref f)
theorem g9 {X:Cx} {E:XK} {x:Str} {k k':Nat} {ps:List Str} {sp:Sp} {e:Expr} {es:List Expr} {t:TA} {p pos:Pos} (C:hZ X.prog X.w X.K X.mg X.base x k ps sp) (hx:kh (CX1 X.prog X.w) X E) (hr:Room k' X.A) (hk:k≤k') (hg:Gl X x) (ha:PA X (e :: es) t)
    (hdb:(x == ("__debug__":Str))=false:=by decide) (he:starEach (e :: es) X.env=(false,eval e X.env) :: starEach es X.env:=by rfl) (hpl:(backTo pos (starEach es X.env)).any (·.1)=false:=by rfl) :
    PE X (.Call (.Name x p) (e :: es) [] pos) (sh sp [] E t):=by
  obtain ⟨f,fd,F,b,kp,m⟩:=C;exact qo F (hr.mono hk) hg m kp b .nil hx ha hdb he hpl
def ki (X:Cx) (pins:List (Addr × Obj)) (a:Addr):Prop:=X.s₀.heap.get? a=none∧a≠X.env.locals∧(∀ x c,X.env.cells.lookup x=some c→c≠a)∧∀ p∈X.pn++pins,p.1≠a
def rT (X:Cx) (pins0:List (Addr × Obj)) (Cat:St→Addr→Hp→Prop):Cx :=
  { X with pn:=X.pn++pins0,xe:=fun e s'=>∃ ea T C H' σ,e=Value.ref ea∧Inv X pins0 σ H' s'∧Trc s'.heap ea T (.ref C)∧H' ea=none∧H' T=none∧ki X pins0 ea∧ki X pins0 T∧Cat σ C H' }
section
variable {X:Cx} {pins0 pins:List (Addr × Obj)} {Cat:St→Addr→Hp→Prop} {σ:St} {H:Hp} {s:Shared}
theorem vm (I:Inv X pins0 σ H s):Inv (rT X pins0 Cat) [] σ H s :=
  ⟨⟨I.ok.mod,I.ok.kind,I.ok.glob,I.ok.blt,I.ok.above,I.ok.inj,I.ok.has,I.ok.cab,I.ok.hd,I.ok.frames,I.ok.stk,I.ok.exf,I.ok.bs,I.ok.bsz,I.ok.noex,I.ok.exfs,I.ok.funs,I.ok.frf⟩,I.os,I.bare,I.base,I.loc,I.cell,I.free,I.freeC,fun p hp=>I.pin p (by
    have hp:p∈(X.pn++pins0)++[]:=hp
    rwa [abC] at hp),I.hok,I.len⟩
theorem eO (I:Inv (rT X pins0 Cat) pins σ H s):Inv X pins0 σ H s :=
  ⟨⟨I.ok.mod,I.ok.kind,I.ok.glob,I.ok.blt,I.ok.above,I.ok.inj,I.ok.has,I.ok.cab,I.ok.hd,I.ok.frames,I.ok.stk,I.ok.exf,I.ok.bs,I.ok.bsz,I.ok.noex,I.ok.exfs,I.ok.funs,I.ok.frf⟩,I.os,I.bare,I.base,I.loc,I.cell,I.free,I.freeC,fun p hp=>I.pin p (show p∈(X.pn++pins0)++pins from aaV _ hp),I.hok,I.len⟩
theorem Inv.fresh_of (I:Inv X pins σ H s) {a:Addr} (hx:X.ex=[]) (h:s.heap.get? a=none):ki X pins a:=by
  refine ⟨?_,fun z=>?_,fun x c e z=>?_,fun p hp z=>?_⟩
  · cases q:X.s₀.heap.get? a with
    | none=>rfl
    | some o =>
      obtain ⟨o',q'⟩:=I.base.there a o q (by rw [hx];exact fun z=>nomatch z);rw [h] at q';cases q'
  · obtain ⟨m,⟨o,_,_,ho,_⟩,_⟩:=I.loc;rw [← z,h] at ho;cases ho
  · obtain ⟨v,o,ho,_⟩:=I.cell x c e;rw [z,h] at ho;cases ho
  · have:=(I.pin p hp).1;rw [z,h] at this;cases this
def vZ (sp:Sp) (Cat:St→Addr→Hp→Prop) (t:TA):TE:=fun σ H Q=>t σ H fun vs H1=>sp vs H1 Q fun v _ H'=>∀ C,v=Value.ref C→Cat σ C H'
theorem l6 {x:Str} {k k':Nat} {ps:List Str} {sp:Sp} {e:Expr} {es:List Expr} {t:TA} {p pos:Pos} (C:hZ X.prog X.w X.K X.mg X.base x k ps sp) (hx:X.ex=[]) (hr:Room k' X.A) (hk:k≤k') (hg:Gl X x) (ha:PA (rT X pins0 Cat) (e :: es) t)
    (hdb:(x == ("__debug__":Str))=false:=by decide) (he:starEach (e :: es) X.env=(false,eval e X.env) :: starEach es X.env:=by rfl) (hpl:(backTo pos (starEach es X.env)).any (·.1)=false:=by rfl) :
    PE (rT X pins0 Cat) (.Call (.Name x p) (e :: es) [] pos) (vZ sp Cat t):=by
  obtain ⟨f,fd,F,b,kp,m⟩:=C;intro pins s σ H Q I h;refine wpAny_Call_Name_kw (hV I hg m ?_ hdb);refine PySem.W.callWith_K (h₀:=X.base) I.ok.mod.kin kp (thn (ha pos pins s σ H _ I h) fun us s1 ⟨vs,H1,I1,r,q⟩=>⟨I1.kIn,?_⟩) he hpl;have r2:Vals vs (us++[]):=by rw [abC];exact r
  have hl:(us++[]).length=ps.length:=by rw [← r2.length];exact F.len _ _ _ _ q
  refine wpAny_call (codeAny_mono (F.run X.A X.stack s1 H1 ⟨us,[]⟩ (us++[]) vs Q _ (hr.mono hk) I1.env0 (b s1 us I1.kIn hl) r2 q) fun r s' hq=>?_);cases r with
  | ok fl =>
    cases fl with
    | ret u=>exact I1.after hq
    | next=>exact abq hq
    | brk=>exact abq hq
    | cont=>exact abq hq
  | error e =>
    obtain ⟨ea,T,C,H',rfl,os,bare,un,hok,n1,n2,m1,m2,tr,q⟩:=hq;have J:=eO I1;exact ⟨ea,T,C,H',σ,rfl,J.call' os un hok bare (fun b z=>nomatch z),tr,m1,m2,J.fresh_of hx n1,J.fresh_of hx n2,q C rfl⟩
end
section
variable {M:Model} {A:Around} {E:Value→Shared→Prop} {s:Shared}
theorem rj {b0:Heap} {env:Env} {outer:List Env} {L e T:Addr} {cls:Value} {Q:Unit→Shared→Prop} (hfr:A.frames=some (env :: outer)) (hl:s.heap.FunFrames b0 (env :: outer)) (hf:env.frame=some L) (ht:Trc s.heap e T cls)
    (h:∀ h' T',Lft (env :: outer) e [T] s.heap h'→Trc h' e T' cls→(T'=T∨s.heap.get? T'=none)→Q () { s with heap:=h' }) :
    wpAny M A (noteFrame (.ref e) env) (fun _ s2=>wpAny M A (setFlight (.ref e) none) Q E s2) E s:=by
  obtain ⟨oe,vs,oT,ts,a0,h1,h2,h3,h4,h6,h7,h8,h9⟩:=ht;refine wpAny_noteFrame_onW (a0:=a0) (base:=iD s.heap (e :: [T]++(env :: outer).filterMap (·.frame))) (cls:=cls) hfr (dv (fun b hb=>aag _ hb) hl) hf ⟨oe,vs,T,oT,ts,h1,h2,h3,h4,d6 (by simp),h6,h7,h8,h9⟩ (fi _ _) (d6 (by simp)) fun h1' N=>?_;obtain ⟨k1,k2,k3,k4⟩:=N;refine wpAny_setFlight_noneW (s:={ s with heap:=h1' }) k1 k2 k3 fun h2' j1 j2 j3 j4=>?_;have L':Heap.LeftW (iD s.heap (e :: [T]++(env :: outer).filterMap (·.frame))) (env :: outer) e cls a0 s.heap h2':=⟨j1,j2,j3,fun b o hb hn=>by
    obtain ⟨sl,q⟩:=k4 b o hb hn;exact ⟨sl,j4 b _ q hn⟩⟩
  obtain ⟨l',T',t,z⟩:=mr (base:=b0) hl L' (by rw [h1];simp);refine h h2' T' l' t ?_;rcases z with z|z
  · exact .inl (by simpa using z)
  · exact .inr z
end
def bX (a C:Addr):HO:=.ext fun h=>∃ o vs,h.get? a=some o∧o.cls=.ref C∧o.data=.fields vs
structure Und (K:aaa) (C P:Addr):Prop where
  ex:∃ nm q N bs bm hdct sn sub ab col dd k0 k1 k2 k3 k5 newId nm' q' N' bs' bm' hdct' sn' sub' ab' col' dd' k0' k1' k2' k3' k5' newId',(Value.ref C :: bm).contains (.ref P)=true∧bm'.contains (.type "BaseException")=true ∧
    ∀ h,K.In h→h.get? C=some (excClassObj nm q C N bs bm hdct sn sub ab col dd k0 k1 k2 k3 k5 newId)∧h.get? P=some (excClassObj nm' q' P N' bs' bm' hdct' sn' sub' ab' col' dd' k0' k1' k2' k3' k5' newId')
theorem rN {M:Model} {A:Around} {E:Value→Shared→Prop} {K:aaa} {C P e:Addr} {oe:Obj} {s:Shared} {Q:Bool→Shared→Prop} (u:Und K C P) (hk:K.In s.heap) (he:s.heap.get? e=some oe) (hcls:oe.cls=.ref C) (hq:Q true s):wpAny M A (excMatches (.ref e) (.ref P)) Q E s:=by
  obtain ⟨nm,q,N,bs,bm,hdct,sn,sub,ab,col,dd,k0,k1,k2,k3,k5,newId,nm',q',N',bs',bm',hdct',sn',sub',ab',col',dd',k0',k1',k2',k3',k5',newId',h1,h2,h3⟩:=u.ex;obtain ⟨hC,hP⟩:=h3 _ hk;obtain ⟨h,g,d,t,os⟩:=s;have hcB:(Value.ref P :: bm').contains (.type "BaseException")=true:=by rw [List.contains_cons,h2,Bool.or_true]
  have f:=tc_notTuple;unfold excMatches
  repeat (first|(with_reducible refine wpAny_loadPart_at he ?_;rw [hcls])|with_reducible refine wpAny_loadPart_at hP ?_|(with_reducible refine wpAny_isSubtype_exc hP ?_;rw [hcB])|(with_reducible refine wpAny_isSubtype_exc hC ?_;rw [h1])|wp_step)
  exact hq
section
variable {X:Cx} {pins:List (Addr × Obj)} {σ:St} {H:Hp} {s:Shared}
theorem uo {ea T C:Addr} (I:Inv X pins σ H s) (tr:Trc s.heap ea T (.ref C)) (m1:H ea=none) (f1:ki X pins ea):Inv X pins σ (upd H ea (bX ea C)) s:=by
  obtain ⟨oe,vs,oT,ts,a0,h1,h2,h3,h4,h6,h7,h8,h9⟩:=tr;exact I.adopt2 m1 (fun u z=>by rw [f1.1] at z;cases z) f1.2.1 f1.2.2.1 f1.2.2.2 ⟨⟨oe,vs,h1,h2.1,h3⟩,⟨oe,h1⟩,fun g1 g2 ⟨o,ws,z1,z2,z3⟩ k=>⟨o,ws,k o z1,z2,z3⟩⟩
theorem oq {ea C:Addr} {x:List Addr} {h':Heap} (I:Inv X pins σ (upd H ea (bX ea C)) s) (f1:ki X pins ea) (fx:∀ T∈x,ki X pins T∧upd H ea (bX ea C) T=none) (lf:Lft X.stack ea x s.heap h') (hea:∃ o vs,h'.get? ea=some o∧o.cls=.ref C∧o.data=.fields vs) :
    Inv X pins σ (upd H ea (bX ea C)) { s with heap:=h' }:=by
  have tk:∀ b,upd H ea (bX ea C) b=none→b≠ea:=fun b hb z=>by rw [z,upd_same] at hb;cases hb
  have old:∀ b o,X.s₀.heap.get? b=some o→b≠ea∧b∉x∧b≠X.env.locals:=fun b o q=>by
    refine ⟨fun z=>?_,fun z=>?_,fun z=>?_⟩
    · rw [z,f1.1] at q;cases q
    · rw [(fx b z).1.1] at q;cases q
    · have h1:=aas q;rw [z] at h1;exact absurd I.ok.above (Nat.not_le.mpr h1)
  have one:∀ b o,b≠ea→b∉x→s.heap.get? b=some o→∃ sl,h'.get? b=some { o with slots:=sl }:=fun b o z1 z2 q=>by
    by_cases hb:b∈frs X.stack
    · exact lf.slot b o hb q
    · exact ⟨o.slots,lf.keep b o hb z1 z2 q⟩
  have nstk:∀ b,b≠X.env.locals→b∉X.fs→b∉frs X.stack:=fun b z1 z2 z=>by
    rcases aaj.mp (I.stkSub b z) with z|z
    · exact z1 z
    · exact z2 z
  have cl:∀ x' c,X.env.cells.lookup x'=some c→∀ v,s.heap.IsCell c v→h'.IsCell c v:=fun x' c e v ⟨o,ho,hd⟩=>by
    obtain ⟨sl,z⟩:=one c o (f1.2.2.1 x' c e) (fun z=>(fx c z).1.2.2.1 x' c e rfl) ho;exact ⟨_,z,hd⟩
  refine ⟨I.ok,I.os,I.bare,⟨fun b o q n hb hx=>?_,fun b o q n hb hx=>?_,I.base.free,fun b o q hx=>?_,I.base.tups,I.base.frzs,I.base.tbls⟩,?_,fun x' c e=>?_,I.free,I.freeC,fun p hp=>?_,fun b u q=>?_,I.len⟩
  · exact lf.keep b o (nstk b (old b o q).2.2 hb) (old b o q).1 (old b o q).2.1 (I.base.keep b o q n hb hx)
  · obtain ⟨sl,z⟩:=I.base.slot b o q n hb hx;obtain ⟨sl',z'⟩:=one b _ (old b o q).1 (old b o q).2.1 z;exact ⟨sl',z'⟩
  · obtain ⟨o',z⟩:=I.base.there b o q hx;obtain ⟨sl',z'⟩:=one b _ (old b o q).1 (old b o q).2.1 z;exact ⟨_,z'⟩
  · obtain ⟨m,⟨o,es,ep,ho,hd,r⟩,hl⟩:=I.loc;obtain ⟨sl,z⟩:=one X.env.locals o (abM f1.2.1) (fun z=>(fx _ z).1.2.1 rfl) ho;refine ⟨m,⟨_,es,ep,z,hd,r⟩,fun i y v e1 e2 e3=>?_⟩;obtain ⟨u,ru,l⟩:=hl i y v e1 e2 e3;refine ⟨u,ru,?_⟩;rcases l with l|⟨k,c,e,z⟩
    · exact .inl l
    · exact .inr ⟨k,c,e,cl y c e _ z⟩
  · obtain ⟨v,z⟩:=I.cell x' c e;exact ⟨v,cl x' c e v z⟩
  · obtain ⟨z1,z2,z3,z4,z5⟩:=I.pin p hp;exact ⟨lf.keep _ _ (nstk _ z3 z4) (f1.2.2.2 p hp) (fun z=>(fx _ z).1.2.2.2 p hp rfl) z1,z2,z3,z4,z5⟩
  · by_cases z1:b=ea
    · subst z1;rw [upd_same] at q;cases q;obtain ⟨o,vs,y1,y2,y3⟩:=hea;exact ⟨⟨o,vs,y1,y2,y3⟩,⟨o,y1⟩,fun g1 g2 ⟨o,ws,y1,y2,y3⟩ k=>⟨o,ws,k o y1,y2,y3⟩⟩
    · have tr:∀ c v,upd H ea (bX ea C) c=some v→c≠ea→∀ o,s.heap.get? c=some o→h'.get? c=some o:=fun c v hc z o r=>lf.keep c o (fun y=>by rw [I.stkFree c y] at hc;cases hc) z (fun y=>by rw [(fx c y).2] at hc;cases hc) r;refine (I.hok b u q).stay (fun c v hc r=>?_) (fun _ r=>r) fun _ _ r=>r;rcases hc with rfl|hc
      · exact tr c u q z1 v r
      · refine tr c _ hc (fun z=>?_) v r;rw [z,upd_same] at hc;cases hc
end
section
variable {M:Model} {A:Around} {E:Value→Shared→Prop} {s:Shared}
theorem rB {b0:Heap} {l:List Env} {e T:Addr} {cls:Value} {Q:Unit→Shared→Prop} (hl:s.heap.FunFrames b0 l) (ht:Trc s.heap e T cls)
    (h:∀ h' T',Lft l e [T] s.heap h'→Trc h' e T' cls→(T'=T∨s.heap.get? T'=none)→Q () { s with heap:=h' }):wpAny M A (setFlight (.ref e) none) Q E s:=by
  obtain ⟨oe,vs,oT,ts,a0,h1,h2,h3,h4,h6,h7,h8,h9⟩:=ht;refine wpAny_setFlight_noneW (base:=iD s.heap (e :: [T]++l.filterMap (·.frame))) (cls:=cls) (a0:=a0) (fl:=.none) (fi _ _) (dv (fun b hb=>aag _ hb) hl) ⟨oe,vs,T,oT,ts,h1,h2,h3,h4,d6 (by simp),h6,h7,h8,h9⟩ fun h2' j1 j2 j3 j4=>?_;have L':Heap.LeftW (iD s.heap (e :: [T]++l.filterMap (·.frame))) l e cls a0 s.heap h2':=⟨j1,j2,j3,fun b o hb hn=>⟨o.slots,j4 b o hb hn⟩⟩
  obtain ⟨l',T',t,z⟩:=mr (base:=b0) hl L' (by rw [h1];simp);refine h h2' T' l' t ?_;rcases z with z|z
  · exact .inl (by simpa using z)
  · exact .inr z
end
section
variable {X:Cx} {pins:List (Addr × Obj)} {σ:St} {H:Hp} {s:Shared}
theorem Inv.unset {i:Nat} {n:Str} {v:Option Value} {m:Str→Option Value} {h':Heap} {t':Nat} (I:Inv X pins σ H s) (hN:X.N.Nodup) (hi:X.N[i]?=some n) (hl:∀ (i:Nat) (x:Str) (v:V),X.N[i]?=some x→σ[i]?=some (some v)→Vis X.env.scope x→∃ u,RelV v u∧xq X.env s.heap m x u)
    (hn:h'.Ns X.env.locals (fun x=>if x=n then v else m x)) (hs:acA X.env.locals s.heap h'):Inv X pins (σ.set i none) H { s with heap:=h',toks:=t' }:=by
  have cne:∀ x c,X.env.cells.lookup x=some c→c≠X.env.locals:=fun x c e z=>by
    obtain ⟨v,o,ho,hd⟩:=I.cell x c e;obtain ⟨m,⟨o',es,ep,ho',hd',_⟩,_⟩:=I.loc;rw [z,ho'] at ho;cases ho;rw [hd'] at hd;cases hd
  have old:∀ b o,X.s₀.heap.get? b=some o→b≠X.env.locals:=fun b o q z=>by
    have h1:=aas q;rw [z] at h1;exact absurd I.ok.above (Nat.not_le.mpr h1)
  refine ⟨I.ok,I.os,I.bare,⟨fun b o q n hb hx=>hs.extBut b o (old b o q) (I.base.keep b o q n hb hx),fun b o q n hb hx=>?_,I.base.free,fun b o q hx=>?_,I.base.tups,I.base.frzs,I.base.tbls⟩,⟨_,hn,fun j y w e1 e2 e3=>?_⟩,fun x c e=>?_,I.free,I.freeC,fun p hp=>?_,fun b u q=>?_,?_⟩
  · obtain ⟨sl,z⟩:=I.base.slot b o q n hb hx;exact ⟨sl,hs.extBut b _ (old b o q) z⟩
  · obtain ⟨o',z⟩:=I.base.there b o q hx;exact ⟨o',hs.extBut b _ (old b o q) z⟩
  · by_cases hj:j=i
    · subst hj;rw [List.getElem?_set_self'] at e2;cases z:σ[j]? with
      | none=>rw [z] at e2;simp at e2
      | some _=>rw [z] at e2;simp at e2
    · rw [List.getElem?_set_ne (abM hj)] at e2;obtain ⟨u,ru,l⟩:=hl j y w e1 e2 e3;refine ⟨u,ru,?_⟩;rcases l with ⟨k,l⟩|⟨k,c,e,o,ho,hd⟩
      · refine .inl ⟨k,?_⟩;have : y≠n:=fun z=>hj (jN hN e1 (by rw [z];exact hi));show (if y=n then v else m y)=some u;rw [if_neg this];exact l
      · exact .inr ⟨k,c,e,o,hs.extBut c o (cne y c e) ho,hd⟩
  · obtain ⟨v,o,ho,hd⟩:=I.cell x c e;exact ⟨v,o,hs.extBut c o (cne x c e) ho,hd⟩
  · obtain ⟨z1,z2,z3,z4,z5⟩:=I.pin p hp;exact ⟨hs.extBut _ _ z3 z1,z2,z3,z4,z5⟩
  · refine (I.hok b u q).stay (fun c v hc r=>hs.extBut c v (fun z=>?_) r) (fun _ r=>r) fun _ _ r=>r;rcases hc with rfl|hc
    · rw [z,I.free] at q;cases q
    · rw [z,I.free] at hc;cases hc
  · rw [List.length_set];exact I.len
def pV (X:Cx) (v:Value):Cx:={ X with A:=X.A.mark (some v),calm:=false,xe:=fun _ _=>False }
theorem nT {v:Value} (I:Inv X pins σ H s):Inv (pV X v) pins σ H s :=
  ⟨⟨I.ok.mod,I.ok.kind,I.ok.glob,I.ok.blt,I.ok.above,I.ok.inj,I.ok.has,I.ok.cab,(fun z=>absurd (show false=true from z) aap),I.ok.frames,I.ok.stk,I.ok.exf,I.ok.bs,I.ok.bsz,I.ok.noex,I.ok.exfs,I.ok.funs,I.ok.frf⟩,I.os,I.bare,I.base,I.loc,I.cell,I.free,I.freeC,I.pin,I.hok,I.len⟩
theorem pF {v:Value} (c:X.calm=true→X.A.handled=none) (fr:X.A.frames=some X.stack) (I:Inv (pV X v) pins σ H s):Inv X pins σ H s :=
  ⟨⟨I.ok.mod,I.ok.kind,I.ok.glob,I.ok.blt,I.ok.above,I.ok.inj,I.ok.has,I.ok.cab,c,fr,I.ok.stk,I.ok.exf,I.ok.bs,I.ok.bsz,I.ok.noex,I.ok.exfs,I.ok.funs,I.ok.frf⟩,I.os,I.bare,I.base,I.loc,I.cell,I.free,I.freeC,I.pin,I.hok,I.len⟩
end
theorem Trc.there {h:Heap} {e T C:Addr} (t:Trc h e T (.ref C)):∃ o vs,h.get? e=some o∧o.cls=.ref C∧o.data=.fields vs:=by
  obtain ⟨oe,vs,oT,ts,a0,h1,h2,h3,_⟩:=t;exact ⟨oe,vs,h1,h2.1,h3⟩
theorem Trc.ne {h:Heap} {e T:Addr} {c:Value} (t:Trc h e T c):T≠e:=by
  obtain ⟨oe,vs,oT,ts,a0,h1,h2,h3,h4,h6,_⟩:=t;exact h6
def yy (K:aaa) (Pa:Addr) (iE:Nat) (tb:(St→Addr→Hp→Prop)→TS) (ts:TS):TS:=fun D σ H =>
  tb (fun σ' C H'=>Und K C Pa∧∀ ea,H' ea=none→ts { nx:=fun σ2 H2=>D.nx (σ2.set iE none) H2,rt:=fun _ _=>False } (σ'.set iE (some (.ref ea))) (upd H' ea (bX ea C))) D σ H
theorem wu {X:Cx} {body:List Stmt} {tb:(St→Addr→Hp→Prop)→TS} {ts:TS} {iE:Nat} {n x:Str} {Pa:Addr} {b₀:Stmt} {suite:List Stmt} {tp hpos pos:Pos} (hx:X.ex=[]) (hst:X.stack=X.env :: X.outer) (hfr:X.env.frame=some X.env.locals)
    (hg:Gl X x) (hm:X.mg x=some (.ref Pa)) (hN:X.N.Nodup) (hi:X.N[iE]?=some n) (hl:X.env.scope.names.lookup n=some .local) (hb:∀ pins0 Cat,PSs (rT X pins0 Cat) body (tb Cat)) (hs:∀ v,PSs (pV X v) (b₀ :: suite) ts) (hdb:(x == ("__debug__":Str))=false:=by decide) :
    PS X (.Try body [.ExceptHandler (some (.Name x tp)) (some n) (b₀ :: suite) hpos] [] [] pos) (yy X.K Pa iE tb ts):=by
  intro pins s σ H D I h;refine wpAny_Try_except (wpAny_mono (hb pins _ [] s σ H D (vm I) h) (fun f s1 q=>?_) (fun e s1 q=>?_))
  · cases f with
    | next=>obtain ⟨σ',H',I',q⟩:=q;exact wpAny_execs_nil ⟨σ',H',eO I',q⟩
    | brk=>obtain ⟨σ',H',I',q⟩:=q;exact ⟨σ',H',eO I',q⟩
    | cont=>obtain ⟨σ',H',I',q⟩:=q;exact ⟨σ',H',eO I',q⟩
    | ret u=>obtain ⟨v,σ',H',I',r,q⟩:=q;exact ⟨v,σ',H',eO I',r,q⟩
  · obtain ⟨ea,T,C,H',σ',rfl,J,tr,m1,m2,f1,f2,und,cat⟩:=q;have fr:X.A.frames=some (X.env :: X.outer):=by rw [← hst];exact J.ok.frames
    have stk:s1.heap.FunFrames X.base (X.env :: X.outer):=by rw [← hst];exact J.stack
    refine rj (b0:=X.base) fr stk hfr tr fun h2 T2 lf tr2 hT2=>?_;have J1:=uo J tr m1 f1;have mT:upd H' ea (bX ea C) T=none:=by rw [aI tr.ne];exact m2
    have J2:Inv X pins σ' (upd H' ea (bX ea C)) { s1 with heap:=h2 }:=oq J1 f1 (x:=[T]) (fun b hb=>by rw [aaN.mp hb];exact ⟨f2,mT⟩) (by rw [hst];exact lf) tr2.there;have fT2:ki X pins T2∧upd H' ea (bX ea C) T2=none:=by
      rcases hT2 with rfl|z
      · exact ⟨f2,mT⟩
      · refine ⟨J1.fresh_of hx z,?_⟩;cases q:upd H' ea (bX ea C) T2 with
        | none=>rfl
        | some o =>
          obtain ⟨u,hu⟩:=(J1.hok T2 o q).get;rw [z] at hu;cases hu
    refine wpAny_handleBy_cons (codeAny_handlers_test ?_) (by intro q;cases q);refine hV (X:=pV X (.ref ea)) (nT J2) hg hm ?_ hdb;obtain ⟨oe,vs,he2,hc2,_⟩:=tr2.there;refine rN (s:={ s1 with heap:=h2 }) und J2.kIn he2 hc2 ?_;show codeAny _ _ _ _ _;refine codeAny_handlers_suite_as ?_;have stk2:h2.FunFrames X.base (X.env :: X.outer):=by rw [← hst];exact J2.stack
    refine rB (s:={ s1 with heap:=h2 }) (b0:=X.base) (l:=X.env :: X.outer) stk2 tr2 fun h3 T3 lf3 tr3 hT3=>?_;have J3:Inv X pins σ' (upd H' ea (bX ea C)) { s1 with heap:=h3 }:=oq (s:={ s1 with heap:=h2 }) J2 f1 (x:=[T2]) (fun b hb=>by rw [aaN.mp hb];exact fT2) (by rw [hst];exact lf3) tr3.there;refine dM (v:=.ref ea) J3 hN hi (.inl hl) rfl (fun s4 J4=>?_) (.inr hl);refine wpAny_mono (hs (.ref ea) pins s4 _ _ _ (nT J4) (cat ea m1)) (fun f s5 q5=>?_) (fun _ _ z=>z.elim);cases f with
    | next =>
      obtain ⟨σ5,H5,I5,q5⟩:=q5;have I5:=pF J.ok.hd J.ok.frames I5;obtain ⟨m,hn,hlk⟩:=id I5.loc;exact wpAny_nameGoes_keeps hl hn (by rw [I5.ok.kind];rfl) fun h6 v hn6 hs6=>⟨_,H5,I5.unset hN hi hlk hn6 hs6,q5⟩
    | brk=>obtain ⟨_,_,_,q⟩:=q5;exact abq q
    | cont=>obtain ⟨_,_,_,q⟩:=q5;exact abq q
    | ret u=>obtain ⟨_,_,_,_,_,q⟩:=q5;exact abq q
open PySem PySem.Spec PyProof.Rows
structure Lkp (M:Model) (h:Heap) (C:Addr):Prop where
  ga:acJ M h (typeLookup (.ref C) "__getattribute__") (some (.builtin "BaseException.__getattribute__"))
  no:acJ M h (typeLookup (.ref C) "__getattr__") none
  cls:acJ M h (typeLookup (.ref C) "__class__") (some (.builtin "object.__class__"))
  be:acJ M h (isSubtype (.ref C) (.type "BaseException")) true
  obj:acJ M h (isSubtype (.ref C) (.type (".".intercalate ("object.__class__".cutAt '.').dropLast))) true
section
variable {prog:Program} {w:World} {A:Around} {E:Value→Shared→Prop} {h:Heap} {g:Array GenState} {d:Drawn} {t:Nat} {os:OsState} {a C:Addr} {o:Obj}
theorem vy {R:Result→Shared→Prop} (L:Lkp (model prog w) h C) (hx:h.get? a=some o) (hc:o.cls=.ref C) (hq:R (.ok (.ret (.ref C))) ⟨h,g,d,t,os⟩) :
    codeAny (model prog w) A (.call (.builtin "getset_descriptor.__get__") ⟨[.builtin "object.__class__",.ref a,.ref C],[]⟩) R ⟨h,g,d,t,os⟩:=by
  have hT5:(⟨h,g,d,t,os⟩:Shared).TypeIs (.builtin "object.__class__") "getset_descriptor":=acz;refine codeAny_call_builtin F.slot_gs_get.plain F.entry_gs_get (F.slot_gs_get.check _ _ _ _ _ _ _ _ hT5 (F.args_gs_get _ _ _) ?_)
  repeat (any_goals (first|assumption|(with_reducible refine wpAny_loadPart_at hx ?_;rw [hc])|(refine L.obj _ _ _ _ (fun _ _ e=>e) ?_)|wp_step))
  refine ⟨Code.quiet_builtin _ (by decide +kernel),codeAny_builtin F.entry_object_class ?_⟩
  repeat (any_goals (first|assumption|(with_reducible refine wpAny_loadPart_at hx ?_;rw [hc])|wp_step))
theorem rP {M:Model} {nameV:Value} {Q:Unit→Shared→Prop} (L:Lkp M h C) (hx:h.get? a=some o) (hc:o.cls=.ref C) (hq:Q () ⟨h,g,d,t,os⟩):wpAny M A (checkBuiltinCall "BaseException.__getattribute__" ⟨[.ref a,nameV],[]⟩) Q E ⟨h,g,d,t,os⟩:=by
  have hk:builtinKind "BaseException.__getattribute__" = some .slot:=by decide +kernel
  have hsplit:splitId "BaseException.__getattribute__" = some ("BaseException","__getattribute__"):=by decide +kernel
  have ha:=F.args_bexc_ga (.ref a) nameV;simp only [checkBuiltinCall,hk,hsplit];refine wpAny_bind ?_;unfold isInstance
  repeat (first|(with_reducible refine wpAny_loadPart_at hx ?_;rw [hc])|(refine L.be _ _ _ _ (fun _ _ e=>e) ?_)|wp_step)
  exact hq
theorem rO {tk:Tok} {Q:Fin→Shared→Prop} (L:Lkp (model prog w) h C) (hx:h.get? a=some o) (hc:o.cls=.ref C) (hq:Q (.done (.ret (.ref C))) ⟨h,g,d,t,os⟩) :
    wpAny (model prog w) A (Builtin.«object.__getattribute__» ⟨[.ref a,.str "__class__" tk],[]⟩) Q E ⟨h,g,d,t,os⟩:=by
  have hT5:(⟨h,g,d,t,os⟩:Shared).TypeIs (.builtin "object.__class__") "getset_descriptor":=acz;have f5:=acz;have f6:=F.slot_gs_get.lookup;have f7:=F.slot_gs_set.lookup
  repeat (any_goals (first|assumption|(with_reducible refine wpAny_loadPart_at hx ?_;rw [hc])|(refine L.cls _ _ _ _ (fun _ _ e=>e) ?_)|wp_step))
  refine vy L hx hc ?_
  repeat (any_goals (first|assumption|wp_step))
theorem ul {tk:Tok} {R:Result→Shared→Prop} (L:Lkp (model prog w) h C) {B:String} (hg:Slot B "__getattribute__" "BaseException.__getattribute__") (hx:h.get? a=some o) (hc:o.cls=.ref C) (hq:R (.ok (.ret (.ref C))) ⟨h,g,d,t,os⟩) :
    codeAny (model prog w) A (.call (.builtin "BaseException.__getattribute__") ⟨[.ref a,.str "__class__" tk],[]⟩) R ⟨h,g,d,t,os⟩ :=
  codeAny_call_builtin hg.plain F.entry_bexc_ga (rP L hx hc (rO L hx hc hq))
theorem xj {tk:Tok} {fill expr:Bool} {Q:Value→Shared→Prop} (L:Lkp (model prog w) h C) {B:String} (hg:Slot B "__getattribute__" "BaseException.__getattribute__") (hx:h.get? a=some o) (hc:o.cls=.ref C) (hq:Q (.ref C) ⟨h,g,d,t,os⟩) :
    wpAny (model prog w) A (getAttrBy (.ref a) (.str "__class__" tk) fill expr) Q E ⟨h,g,d,t,os⟩:=by
  have f3:=hg.bind (.ref a);have hx0:(expr && onTheHeap (Value.builtin "BaseException.__getattribute__"))=false:=by cases expr <;> rfl
  have hx2:(Value.builtin "BaseException.__getattribute__" == Value.builtin "object.__getattribute__")=false:=by decide +kernel
  have hx1:(onTheHeap (Value.ref C) && Value.builtin "BaseException.__getattribute__" == Value.builtin "object.__getattribute__")=false:=by rw [hx2];rfl
  repeat (any_goals (first|assumption|(with_reducible refine wpAny_loadPart_at hx ?_;rw [hc])|(refine L.ga _ _ _ _ (fun _ _ e=>e) ?_)|(refine L.no _ _ _ _ (fun _ _ e=>e) ?_)|wp_step))
  refine ul L hg hx hc ?_
  repeat (any_goals (first|assumption|wp_step))
theorem um {Q:Option Value→Shared→Prop} (L:Lkp (model prog w) h C) {B:String} (hg:Slot B "__getattribute__" "BaseException.__getattribute__") (hx:h.get? a=some o) (hc:o.cls=.ref C) (hq:Q (some (.ref C)) ⟨h,g,d,t+1,os⟩):wpAny (model prog w) A (getAttr? (.ref a) "__class__") Q E ⟨h,g,d,t,os⟩:=by
  unfold getAttr? getAttrBy?
  repeat (any_goals (first|assumption|with_reducible apply xj L hg hx hc|wp_step))
end
structure ExC (K:aaa) (C:Addr):Prop where
  lk:∀ (M:Model) (h:Heap),K.In h→Lkp M h C
  cl:(aa1 K C).isSome=true
  sl:∃ B,Slot B "__getattribute__" "BaseException.__getattribute__"
theorem nP {K:aaa} {e C:Addr} (x:ExC K C):PySem.W.KitX K (.ref e) (.ref C) (fun h=>∃ o,h.get? e=some o∧o.cls=.ref C) where
  ty:=fun M h _ p=>by
    obtain ⟨o,h1,h2⟩:=p;exact h2 ▸ (PySem.W.Looks.ld h1).andThen .now
  it:=fun _ _ X _=>by
    have hcD:=x.cl;unfold aa1 at hcD;split at hcD
    · rename_i c' d' cd' sl' ho;intro A' Q' E' s' k q;unfold isType loadHead;exact wpAny_bind (wpAny_loadPart (k _ _ (X _ _ ho)) (wpAny_pure q))
    · cases hcD
  ne:=fun h tp dd its n sl X htp=>by
    refine Bool.eq_false_iff.mpr fun q=>?_;have e:C=tp:=Value.ref.inj (beq_iff_eq.mp q);subst e;have hcD:=x.cl;unfold aa1 at hcD;split at hcD
    · rename_i c' d' cd' sl' ho;have z:=(X _ _ ho).symm.trans htp;cases z
    · cases hcD
  ca:=fun {prog w A E Q s} X p k=>by
    obtain ⟨h,g,d,t,os⟩:=s;obtain ⟨o,h1,h2⟩:=p;obtain ⟨B,hg⟩:=x.sl;exact um (x.lk _ _ X) hg h1 h2 k
open PySem PySem.Spec PyProof.Rows
theorem gt:∀ {bs:List Bool} {its:List Value},Vals (bs.map V.bl) its→its=bs.map Value.bool
  | [],_,.nil=>rfl
  | b :: r,_,.cons h t=>by
    cases (show _=Value.bool b from h);rw [gt t];rfl
theorem qF {X:Cx} {pins:List (Addr × Obj)} {σ:St} {H:Hp} {s:Shared} (I:Inv X pins σ H s) {A:Around} (hu:A.units+0 < cLine) (b:Bool):SeqAt.EqAt A s (.bool b) (.bool true) (Value.bool b == Value.bool true):=by
  have z:=(EqR.flat (K:=X.K) (H:=H) (n:=0) (x:=.bl b) (y:=.bl true) rfl rfl).at I (A:=A) (u:=.bool b) (v:=.bool true) rfl rfl hu;have e:eqV (.bl b) (.bl true)=(Value.bool b == Value.bool true):=by cases b <;> rfl
  rw [e] at z;exact z
theorem rq {X:Cx} (hu:X.A.units+64 < cLine):MtR X "list.count" (fun x vs H Q=>∃ (l:Addr) (bs:List Bool),x=.ref l∧vs=[.bl true]∧SqL X.K H l (bs.map V.bl)∧Q (.int (bs.countP id:Nat)) H):=by
  intro pins s σ H x vs v us Q I rx rv h;obtain ⟨l,bs,rfl,rfl,hq,q⟩:=h;cases rx;obtain ⟨u,rfl,ru⟩:=cH rv;cases ru;obtain ⟨its,r,⟨o,n,ho,hc,hs,hd⟩,hz⟩:=I.list hq;have ei:=gt r;subst ei;obtain ⟨oc,od,dat,sl⟩:=o;cases (show oc=_ from hc);cases (show dat=_ from hd);refine call_meets F.slot_list_count ⟨_,ho,rfl⟩ F.entry_list_count (F.args_list_count_2 _ _) (SeqAt.list_countAt l (bs.map Value.bool).toArray n od sl (.bool true) (fun v=>v == .bool true)) ⟨ho,fun y hy=>?_,?_⟩
  · have hy':y∈bs.map Value.bool:=by simpa using hy
    obtain ⟨b,_,rfl⟩:=ab5.mp hy';exact qF I (by show X.A.units+1+0 < cLine;lia) b
  · have e:(bs.map Value.bool).countP (fun v=>v == .bool true)=bs.countP id:=by
      rw [List.countP_map];congr 1;funext b;cases b <;> rfl
    refine ⟨.int (bs.countP id:Nat),H,I.tok _,⟨s.toks,?_⟩,q⟩;show Value.int (((bs.map Value.bool).toArray.toList.countP fun v=>v == .bool true:Nat):Int) s.toks=_;rw [show (bs.map Value.bool).toArray.toList=bs.map Value.bool from rfl,e]
theorem kT {X:Cx} (hu:X.A.units+64 < cLine):MtR X "list.index" (fun x vs H Q=>∃ (l:Addr) (bs:List Bool) (j:Nat),x=.ref l∧vs=[.bl true]∧SqL X.K H l (bs.map V.bl)∧bs[j]?=some true∧(∀ m,m < j→bs[m]?=some false)∧bs.length≤1000∧Q (.int (j:Nat)) H):=by
  intro pins s σ H x vs v us Q I rx rv h;obtain ⟨l,bs,j,rfl,rfl,hq,hj,hb,hl,q⟩:=h;cases rx;obtain ⟨u,rfl,ru⟩:=cH rv;cases ru;obtain ⟨its,r,⟨o,n,ho,hc,hs,hd⟩,hz⟩:=I.list hq;have ei:=gt r;subst ei;obtain ⟨oc,od,dat,sl⟩:=o;cases (show oc=_ from hc);cases (show dat=_ from hd);have hjl:j < bs.length:=(aam.mp hj).1;refine call_meets F.slot_list_index ⟨_,ho,rfl⟩ F.entry_list_index (F.args_list_index_2 _ _) (SeqAt.list_indexAt l (bs.map Value.bool).toArray n od sl (.bool true) (fun v=>v == .bool true) j (by simpa using hjl) (by lia) ?_ ?_) ⟨ho,fun y hy=>?_,?_⟩
  · have : bs[j]=true:=(aam.mp hj).2;simp [this]
  · intro m hm hmj;have : bs[m]'(by simpa using hm)=false:=(aam.mp (hb m hmj)).2;simp [this]
  · have hy':y∈bs.map Value.bool:=by simpa using hy
    obtain ⟨b,_,rfl⟩:=ab5.mp hy';exact qF I (by show X.A.units+1+0 < cLine;lia) b
  · exact ⟨.int (j:Nat),H,I.tok _,⟨_,rfl⟩,q⟩
theorem js:∀ {ns:List Int} {its:List Value},Vals (ns.map V.int) its→∃ ts:List (Int × Tok),its=ts.map (fun p=>Value.int p.1 p.2)∧ts.map (·.1)=ns
  | [],_,.nil=>⟨[],rfl,rfl⟩
  | i :: r,_,.cons h t=>by
    obtain ⟨k,rfl⟩:=(show ∃ k,_=Value.int i k from h)
    obtain ⟨ts,e1,e2⟩:=js t;exact ⟨(i,k) :: ts,by rw [e1];rfl,by rw [aax,e2]⟩
theorem uq {X:Cx} (hc:X.calm=true):dF X (.builtin "sum") (fun xs H Q=>∃ (p:Addr) (ns:List Int),xs=[.ref p]∧SqL X.K H p (ns.map V.int)∧Q (.int ns.sum) H):=by
  intro pins s σ H xs us Q I r h;obtain ⟨p,ns,rfl,hq,q⟩:=h;obtain ⟨u,rfl,rx⟩:=cH r;cases rx;obtain ⟨its,r',pl,hz⟩:=I.list hq;obtain ⟨ts,e1,e2⟩:=js r';subst e1;have el:(ts.map (fun p=>Value.int p.1 p.2)).toArray=intItems ts.toArray:=by unfold intItems;simp
  refine sum_intListG (xs:=ts.toArray) (I.ok.hd hc) (by rw [← el];exact pl.isList) fun h' tk t' hk=>?_;have e:preSum (numAt ts.toArray) ts.toArray.size=ns.sum:=by
    rw [preSum_eq,aaQ (by simp),← e2]
  rw [e];exact ⟨.int ns.sum,H,I.kept (t':=tk) hk,⟨t',rfl⟩,q⟩
open PySem PySem.Spec PyProof.Rows
open PySem PySem.Spec PyProof.Rows
def kY (es:Array DictEntry):Bool:=es.toList.all fun e=>match e.key with|.str _ _=>true|_=>false
theorem tG {es:Array DictEntry} (h:kY es=true):StrKeys es:=fun e he=>by
  have z:=aaU.mp h e (by simpa using he);cases q:e.key with
  | str n t=>exact ⟨n,t,rfl⟩
  | _=>rw [q] at z;cases z
section
variable {K:aaa} {C Pa N N':Addr} {nm nm' q q':Str} {bs bs' sub sub':List Value} {hdct hdct':Bool} {sn sn':List Str} {ab ab':Bool} {col col':Option Bool} {dd dd':Option Addr} {k0 k1 k2 k3 k5 k0' k1' k2' k3' k5' oc oc':Option Value}
  {c1 c2:Value} {od od':Option Addr} {es es':Array DictEntry} {n n':Nat} {sl sl':Array (Option Value)}
theorem vI (s:K.lookup N=some ⟨c1,od,.dict es n,sl⟩) (t:kY es=true) {h:Heap} (X:K.In h):h.Ns N (nsFind es):=⟨_,es,n,X _ _ s,rfl,tG t,fun _=>rfl⟩
abbrev oE:List Value:=[.type "ValueError",.type "Exception",.type "BaseException",.type "object"]
theorem xb (l:K.lookup C=some (excClassObj nm q C N bs (.ref Pa :: oE) hdct sn sub ab col dd k0 k1 k2 k3 k5 "ValueError.__new__")) (s:K.lookup N=some ⟨c1,od,.dict es n,sl⟩) (t:kY es=true) (i:nsFind es "__init__" = none)
    (l':K.lookup Pa=some (excClassObj nm' q' Pa N' bs' oE hdct' sn' sub' ab' col' dd' k0' k1' k2' k3' k5' "ValueError.__new__")) (s':K.lookup N'=some ⟨c2,od',.dict es' n',sl'⟩) (t':kY es'=true) (i':nsFind es' "__init__" = none):EC K C :=
  ⟨_,_,_,_,_,_,_,_,_,_,_,_,_,_,_,_,"ValueError",_,_,_,nsFind es,PySem.F.excBase_ValueError,(by rfl),i,fun h X=>⟨X _ _ l,vI s t X,.own (X _ _ l') (vI s' t' X) i' .base⟩⟩
theorem uD (l:K.lookup C=some (excClassObj nm q C N bs (.ref Pa :: oE) hdct sn sub ab col dd k0 k1 k2 k3 k5 "ValueError.__new__"))
    (l':K.lookup Pa=some (excClassObj nm' q' Pa N' bs' oE hdct' sn' sub' ab' col' dd' k0' k1' k2' k3' k5' "ValueError.__new__")):Und K C Pa :=
  ⟨_,_,_,_,_,_,_,_,_,_,_,_,_,_,_,_,_,_,_,_,_,_,_,_,_,_,_,_,_,_,_,_,_,_,(by simp),(by rfl),fun h X=>⟨X _ _ l,X _ _ l'⟩⟩
theorem xa (l:K.lookup C=some (excClassObj nm q C N bs (.ref Pa :: oE) hdct sn sub ab col dd k0 k1 k2 k3 k5 "ValueError.__new__")) (f1:abl K (.ref C) "__getattribute__" = some (some (.builtin "BaseException.__getattribute__"))) (f2:abl K (.ref C) "__getattr__" = some none)
    (f3:abl K (.ref C) "__class__" = some (some (.builtin "object.__class__"))) (f4:aaZ K (.ref C) (.type "BaseException")=some true) (f5:aaZ K (.ref C) (.type "object")=some true):ExC K C where
  lk:=fun M h X=>⟨PySem.W.looks_findIn X f1,PySem.W.looks_findIn X f2,PySem.W.looks_findIn X f3,PySem.W.looks_subIn X f4,by
    have e:(".".intercalate ("object.__class__".cutAt '.').dropLast) = "object":=by decide +kernel
    rw [e];exact PySem.W.looks_subIn X f5⟩
  cl:=by unfold aa1;rw [l];rfl
  sl:=⟨"ValueError",PySem.F.attrBase_ValueError.ga⟩
theorem dn {D:Addr} {cd:ClassData} {b:Bool} (ne:(Value.ref C == Value.ref D)=false) (h1:aa1 K D=some cd) (h2:abe K (.ref D)=some (.type "type")) (h3:aaZ K (.ref C) (.ref D)=some b):aaE K (.ref C) (.ref D)=some b:=by
  unfold aaE PySem.W.kitCls;rw [ne,if_neg (by simp)];show (if ((aa1 K D).isSome && abe K (Value.ref D) == some (Value.type "type"))=true then aaZ K (Value.ref C) (Value.ref D) else none)=some b;rw [h1,h2];exact (if_pos (by simp)).trans h3
theorem tE:aaE K (.ref C) (.ref C)=some true:=by
  unfold aaE;rw [if_pos (beq_self_eq_true _)]
theorem vg (h3:aaZ K (.ref C) (.type "ValueError")=some true):aaE K (.ref C) (.type "ValueError")=some true:=by
  unfold aaE PySem.W.kitCls;have e:PySem.W.kitMeta "ValueError" = true:=by decide +kernel
  have e1:(Value.ref C == Value.type "ValueError")=false:=rfl;simp only [e1,e,if_true];exact h3
end
end L2
namespace L2
open PySem
theorem tF {K:aaa} {t a b c d:Value} (h1:aaE K t a=some false) (h2:aaE K t b=some false) (h3:aaE K t c=some false) (h4:aaE K t d=some false):acf K t [a,b,c,d]=some false:=by
  simp only [acf,h1,h2,h3,h4]
open PySem PySem.Spec PyProof.Rows
open PySem PySem.Spec PyProof.Rows
section
variable {X:Cx}
theorem Inv.useEnd {pins:List (Addr × Obj)} {σ:St} {H2 H3:Hp} {s2 s4:Shared} {C Dd:Addr} {i₀:Nat} {x:Str} {px:Pos} (I2:Inv X pins σ H2 s2) (hC:s2.heap.objs.size≤C) (hN:X.N.Nodup) (hiN:X.N[i₀]?=some x) (hx:Loc X.env.scope x) (hf:X.fn x=true∨X.env.scope.names.lookup x=some .local)
    (I7:Inv X pins σ H3 s4) (cC:H3 C=none) (hnC:∃ m,s4.heap.Ns C m) {Nx:St→Hp→Prop} (qn:Nx (σ.set i₀ (some (.ref Dd))) H3) :
    compPost (model X.prog X.w) X.A X.xe (some (assign (.Name x px) X.env)) (fun _ s'=>∃ σ' H',Inv X pins σ' H' s'∧Nx σ' H') (.ref Dd) C (.ok .next) s4:=by
  obtain ⟨m,oC,es,ep,hoC,hdC,rC⟩:=hnC;have nL:C≠X.env.locals:=abv (aaq I2.lt hC);have I8:Inv X ((C,oC) :: pins) σ H3 s4:=I7.pins_of fun p hp=>by
    rcases aaj.mp hp with z|z
    · rw [z];exact ⟨hoC,cC,nL,fun hz=>I2.nofs hC hz,fun v z=>by rw [hdC] at z;cases z⟩
    · exact I7.pin p (aag _ z)
  show wpAny _ X.A (assign (.Name x px) X.env (.ref Dd)) _ _ s4;refine wpAny_assign_Name (dM (v:=.ref Dd) I8 hN hiN hx rfl (fun s5 I9=>?_) hf);have pC:=I9.pin (C,oC) (aag _ aai);exact ⟨m,⟨oC,es,ep,pC.1,hdC,rC⟩,fun h' hsb=>⟨_,_,I2.offC hC (I9.pins_of fun p hp=>I9.pin p (aag _ (aae _ hp))) cC fun b o hb e=>hsb.extBut b o hb e,qn⟩⟩
theorem fZ {i₀:Nat} {x:Str} {px spos:Pos} {elt tg iter:Expr} {ifs:List Expr} {scope:Scope} {pos:Pos} {cl:List (Str × Addr)} {NY:List Str} {cap:List (Option Nat)} {wi:TI} {g:TG} {tt:TT} {te:TE} (hN:X.N.Nodup) (hiN:X.N[i₀]?=some x) (hx:Loc X.env.scope x) (hc:X.calm=true) (hi:PI X tg iter wi)
    (hclos:closureFor scope X.env=pure cl) (hci:CellsIn X.env cl) (hcap:CapOk X.env (relabel scope X.env) X.N NY cap)
    (hb:∀ fp s H C,PG (bh X scope cl NY fp s H C) tg g∧i6 (bh X scope cl NY fp s H C) ifs tt∧PE (bh X scope cl NY fp s H C) elt te)
    (hkind:scope.kind=.function:=by rfl) (hnc:(scope.names.all fun y=>y.2 != .cell)=true:=by rfl)
    (hnames:(scope.names.all fun y=>y.2 != .local || scope.names.lookup y.1 == some .local)=true:=by rfl)
    (hhas:((relabel scope X.env).names.all fun p=>(p.2 != .cell && p.2 != .free) || (cl.lookup p.1).isSome)=true:=by rfl)
    (hs:∀ x,foldedSetIterable iter X.env x=pure x:=by intro _;rfl) (hsw:swapsWith (.ListComp elt [⟨tg,iter,ifs,0⟩] scope pos) (some (.Name x px)) spos.line X.env=pure true:=by rfl)
    (hf:X.fn x=true∨X.env.scope.names.lookup x=some .local:=by first|exact .inl rfl|exact .inr rfl|assumption) :
    PS X (.Assign [.Name x px] (.ListComp elt [⟨tg,iter,ifs,0⟩] scope pos) spos) (si (tLc cap wi g tt te) (nY i₀)):=by
  intro pins s σ H D I h;rw [exec_Assign_Name_used _ _ _ _ hsw];refine wpAny_bind (wpAny_standAt (wpAny_bind ?_));show wpAny _ X.A (do let _ ← comprehension (.ListComp elt [⟨tg,iter,ifs,0⟩] scope pos) scope X.env _ (newList []) false (eval iter X.env) (some (assign (.Name x px) X.env))) _ _ s;refine wpAny_bind (wpAny_mono (wpAny_comprehension_free (use:=some (assign (.Name x px) X.env)) (Q:=fun _ s'=>∃ σ' H',Inv X pins σ' H' s'∧D.nx σ' H') rfl hs hclos hkind (jp hnames) (wpAny_mono (hi pins s σ H _ I h) (fun v s1 h1=>wpAny_mono h1 (fun itv s2 h2=>?_) fun _ _ e=>e) fun _ _ e=>e)) (fun _ s' hq=>wpAny_pure (wpAny_pure hq)) fun _ _ e=>e);obtain ⟨it,fp,tn,J,H2,e,I2,T,st2,f2,W,⟨m0,w0⟩,turn⟩:=h2;subst e;refine wpAny_newObj_type (wpAny_newFunctionEnv (mO hnc) (by intro y hy;simp at hy) (fun h₁ hns₁ hsb₁=>?_) hkind);dsimp only at hns₁ hsb₁ ⊢;obtain ⟨hC,B,hD⟩:=I2.newC hci hkind hhas hns₁ fun b o hb e=>hsb₁.extBut b o hb (aak _ e);generalize (s2.heap.push { cls:=.type "list",dict:=none,data:=.seq ([]:List Value).toArray }).objs.size=C at hC B ⊢;obtain ⟨hbg,hbt,hbe⟩:=hb fp s2 H2 C;have stW:=T.keep _ _ h₁ st2 fun b _ o e=>B.old b o e;have loop:=I2.goLast f2 (T.lt st2) B hcap df hc hC rfl hD T stW hbe hbg hbt (G:=[⟨tg,iter,ifs,0⟩]) rfl rfl (scope:=scope) (pos:=pos) (iter:=iter) (t':=s2.toks+([]:List (Str × Value)).length) turn w0 (R:=compPost (model X.prog X.w) X.A X.xe (some (assign (.Name x px) X.env)) (fun _ s'=>∃ σ' H',Inv X pins σ' H' s'∧D.nx σ' H') (.ref s2.heap.objs.size) C) fun ys its k H s I4 rv hz fin=>by
    obtain ⟨I5,hD3,hC3,hn⟩:=I2.lstDone f2 (aab _) (abS hC) rfl I4 rv hz;exact I2.useEnd (abS hC) hN hiN hx hf I5 hC3 hn (fin _ hD3)
  exact codeAny_compStart_list loop (T.self _ 0 _ _ _ stW loop)
end
open PySem PySem.Spec PyProof.Rows
section
variable {X:Cx}
theorem hU:MtR X "str.startswith" (fun x vs H Q=>∃ z y,x=.str z∧vs=[.str y]∧Q (.bl (Txt.startswith z y)) H):=by
  intro pins s σ H x vs v us Q I rx rv h;obtain ⟨z,y,rfl,rfl,q⟩:=h;obtain ⟨t,rfl⟩:=rx;obtain ⟨u,rfl,ru⟩:=cH rv;obtain ⟨t2,rfl⟩:=ru;exact PySem.SC.startswith ⟨.bl _,H,I,rfl,q⟩
theorem i0:MtR X "str.endswith" (fun x vs H Q=>∃ z y,x=.str z∧vs=[.str y]∧Q (.bl (Txt.endswith z y)) H):=by
  intro pins s σ H x vs v us Q I rx rv h;obtain ⟨z,y,rfl,rfl,q⟩:=h;obtain ⟨t,rfl⟩:=rx;obtain ⟨u,rfl,ru⟩:=cH rv;obtain ⟨t2,rfl⟩:=ru;exact PySem.SC.endswith ⟨.bl _,H,I,rfl,q⟩
theorem ml:MtR X "str.count" (fun x vs H Q=>∃ z y,x=.str z∧vs=[.str y]∧Q (.int (Txt.count z y)) H):=by
  intro pins s σ H x vs v us Q I rx rv h;obtain ⟨z,y,rfl,rfl,q⟩:=h;obtain ⟨t,rfl⟩:=rx;obtain ⟨u,rfl,ru⟩:=cH rv;obtain ⟨t2,rfl⟩:=ru;exact PySem.SC.count ⟨.int _,H,I.tok _,⟨_,rfl⟩,q⟩
theorem gj:MtR X "str.removeprefix" (fun x vs H Q=>∃ z y,x=.str z∧vs=[.str y]∧z.length≤sizeLine∧Q (.str (acI z y)) H):=by
  intro pins s σ H x vs v us Q I rx rv h;obtain ⟨z,y,rfl,rfl,hz,q⟩:=h;obtain ⟨t,rfl⟩:=rx;obtain ⟨u,rfl,ru⟩:=cH rv;obtain ⟨t2,rfl⟩:=ru;exact PySem.SC.removeprefix (fun t' k=>⟨.str _,H,I.tok _,⟨_,rfl⟩,q⟩) hz
theorem eK:∀ {zs:List Str} {its:List Value},Vals (zs.map V.str) its→∃ l:List (Str × Tok),its=strValues l∧l.map (·.1)=zs
  | [],_,.nil=>⟨[],rfl,rfl⟩
  | z :: r,_,.cons h t=>by
    obtain ⟨k,rfl⟩:=(show ∃ k,_=Value.str z k from h)
    obtain ⟨l,e1,e2⟩:=eK t;exact ⟨(z,k) :: l,by rw [e1];rfl,by rw [aax,e2]⟩
theorem fQ:MtR X "str.join" (fun x vs H Q=>∃ z p zs,x=.str z∧vs=[.ref p]∧SqL X.K H p (zs.map V.str)∧JoinOk z zs=true∧Q (.str (acK z zs)) H):=by
  intro pins s σ H x vs v us Q I rx rv h;obtain ⟨z,p,zs,rfl,rfl,hq,hok,q⟩:=h;obtain ⟨t,rfl⟩:=rx;obtain ⟨u,rfl,ru⟩:=cH rv;cases ru;obtain ⟨its,r,pl,hz⟩:=I.list hq;obtain ⟨l,rfl,e2⟩:=eK r;exact PySem.SC.join pl.isList e2 hok fun t' k=>⟨.str _,H,I.tok _,⟨_,rfl⟩,q⟩
def bu (z:Str) (lo hi:Option Int):Str:=if (aan lo hi 1 z.length).length=z.length then z else ⟨((aan lo hi 1 z.length).filterMap (z.cps[·]?)).toArray⟩
theorem bQ:SlR X (fun x lo hi H Q=>∃ z,x=.str z∧(bu z lo hi).length≤sizeLine∧Q (.str (bu z lo hi)) H):=by
  intro pins s σ H x v vl vu lo hi sl Q I rx hs pl pu h;obtain ⟨z,rfl,hz,q⟩:=h;obtain ⟨t,rfl⟩:=rx;refine ⟨"str",_,F.slot_str_getitem.lookup,typeIs_str _ z t,?_⟩;obtain ⟨l,hl1,hl2⟩:∃ l:Option (Int × Tok),partValue l=vl∧l.map (·.1)=lo:=by
    cases pl with
    | none=>exact ⟨none,rfl,rfl⟩
    | int i t=>exact ⟨some (i,t),rfl,rfl⟩
  obtain ⟨u,hu1,hu2⟩:∃ u:Option (Int × Tok),partValue u=vu∧u.map (·.1)=hi:=by
    cases pu with
    | none=>exact ⟨none,rfl,rfl⟩
    | int i t=>exact ⟨some (i,t),rfl,rfl⟩
  obtain ⟨o,ho,hc,hd⟩:=hs;refine wpAny_getItem_str_slice (l:=l) (u:=u) (st:=none) ⟨o,ho,hc,by rw [hd,hl1,hu1];rfl⟩ rfl ?_;have ep:slicePicked z l u none=aan lo hi 1 z.length:=by unfold slicePicked;rw [hl2,hu2];rfl
  unfold sliceMade;rw [ep];unfold bu at hz q;by_cases c:(aan lo hi 1 z.length).length=z.length
  · rw [if_pos c] at hz q;rw [if_pos (by simp [c])];exact ⟨.str z,H,I,⟨t,rfl⟩,q⟩
  · rw [if_neg c] at hz q;rw [if_neg (by simp [c])];exact ⟨hz,.str _,H,I.tok _,⟨_,rfl⟩,q⟩
theorem jn (x:Str):Str.empty++x=x:=by
  cases x with|mk c=>show Str.mk (#[]++c)=_;simp
theorem xQ {e:Expr} {te:TE} {a b:Str} {ja jb:Nat} {pa pb pf pos:Pos} (he:PE X e te) (ha:a.length≤sizeLine:=by decide) :
    PE X (.JoinedStr [.Constant (.str a) ja pa,.FormattedValue e (-1) none pf,.Constant (.str b) jb pb] pos) (fun σ H Q=>te σ H fun x H1=>∃ z,x=.str z∧z.length≤sizeLine∧(a++z).length≤sizeLine∧(a++z++b).length≤sizeLine∧Q (.str (a++z++b)) H1):=by
  intro pins s σ H Q I h;refine wpAny_JoinedStr ?_;show wpAny _ _ (eval (.Constant (.str a) ja pa) X.env) _ _ s;refine thn (af pins s σ H (fun x H1=>x=.str a∧H1=H) I ⟨rfl,rfl⟩) fun v1 s1 ⟨x1,H1,I1,r1,⟨e1,e2⟩⟩=>?_;subst e1 e2;obtain ⟨t1,rfl⟩:=r1;refine ⟨a,t1,rfl,by rw [jn];exact ha,?_⟩;rw [jn];show wpAny _ _ (eval (.FormattedValue e (-1) none pf) X.env) _ _ s1;refine wpAny_FormattedValue_plain (thn (he pins s1 σ H1 _ I1 h) fun v2 s2 ⟨x2,H2,I2,r2,z,ez,hz,haz,hazb,q⟩=>?_);subst ez;obtain ⟨t2,rfl⟩:=r2;have fin:∀ s3:Shared,Inv X pins σ H2 s3→∀ t3,∃ y t,Value.str z t3=.str y t∧(a++y).length≤sizeLine∧Joins (model X.prog X.w) X.A X.xe [eval (.Constant (.str b) jb pb) X.env] (a++y) (fun out s₁=>out.length≤sizeLine∧EP X pins σ Q (.str out s₁.toks) { s₁ with toks:=s₁.toks+1 }) s3:=fun s3 I3 t3=>by
    refine ⟨z,t3,rfl,haz,?_⟩;show wpAny _ _ (eval (.Constant (.str b) jb pb) X.env) _ _ s3;refine thn (af pins s3 σ H2 (fun x H1=>x=.str b∧H1=H2) I3 ⟨rfl,rfl⟩) fun v4 s4 ⟨x4,H4,I4,r4,⟨e3,e4⟩⟩=>?_;subst e3 e4;obtain ⟨t4,rfl⟩:=r4;exact ⟨b,t4,rfl,hazb,hazb,.str _,H4,I4.tok _,⟨_,rfl⟩,q⟩
  exact wpAny_formatField_str (fin _ I2 t2) (fin _ (I2.tok _) _) hz
theorem a_:OpR X (binaryOp .Mult) (fun x y H Q=>∃ z i,x=.str z∧y=.int i∧MulOk z i∧Q (.str (acN z i)) H):=by
  intro pins s σ H x y v u Q I rx ry h;obtain ⟨z,i,rfl,rfl,hm,q⟩:=h;obtain ⟨t,rfl⟩:=rx;obtain ⟨t2,rfl⟩:=ry;exact PySem.SB.mul hm fun t' k=>⟨.str _,H,I.tok _,⟨_,rfl⟩,q⟩
theorem cj:dF X (.type "int") (fun xs H Q=>∃ z n,xs=[.str z]∧PySem.intText? z=some n∧z.length≤640∧Q (.int n) H):=by
  intro pins s σ H xs us Q I r h;obtain ⟨z,n,rfl,hn,hl,q⟩:=h;obtain ⟨u,rfl,ru⟩:=cH r;obtain ⟨t,rfl⟩:=ru;exact PySem.W.KIN.call_text hn hl ⟨.int n,H,I.tok _,⟨_,rfl⟩,q⟩
theorem uU {i j:Nat} {x y:Str} {e:Expr} {te:TE} {px py pos:Pos} (hN:X.N.Nodup) (hi:X.N[i]?=some x) (hj:X.N[j]?=some y) (hx:Loc X.env.scope x) (hy:Loc X.env.scope y) (he:PE X e te)
    (hs:swapsWithSole [.Name x px,.Name y py] e pos.line X.env=pure false:=by rfl) (hw:swappedStores [.Name x px,.Name y py] e X.env=pure none:=by rfl)
    (hf:X.fn x=true∨X.env.scope.names.lookup x=some .local:=by first|exact .inl rfl|exact .inr rfl|assumption) (hf':X.fn y=true∨X.env.scope.names.lookup y=some .local:=by first|exact .inl rfl|exact .inr rfl|assumption) :
    PS X (.Assign [.Name x px,.Name y py] e pos) (fun D σ H=>te σ H fun v H1=>D.nx ((σ.set i (some v)).set j (some v)) H1):=by
  intro pins s σ H D I h;refine wpAny_Assign_stores (thn (he pins s σ H _ I h) fun v s1 ⟨x1,H1,I1,r1,q1⟩=>?_) hs hw;show wpAny _ _ (assignAll v [assign (.Name x px) X.env,assign (.Name y py) X.env]) _ _ s1;unfold assignAll;refine wpAny_bind (wpAny_holding (wpAny_assign_Name (dM I1 hN hi hx r1 (fun s2 I2=>?_) hf)));exact wpAny_assign_Name (dM I2 hN hj hy r1 (fun s3 I3=>⟨_,H1,I3,q1⟩) hf')
end
open PySem PySem.Spec PyProof.Rows
theorem pi:typeLookup (.type "list_reverseiterator") "__len__" = pure none:=by rw [typeLookup_type,builtinLookup_eq_fast];kernel_rfl
theorem tm:typeLookup (.type "list_reverseiterator") "__length_hint__" = pure (some (.builtin "list_reverseiterator.__length_hint__")):=by rw [typeLookup_type,builtinLookup_eq_fast];kernel_rfl
theorem ve:isSubtype (.type "list_reverseiterator") (.type "list_reverseiterator")=pure true:=by rw [isSubtype_type];kernel_rfl
section
variable {prog:Program} {w:World} {A:Around} {E:Value→Shared→Prop} {s:Shared} {I:Addr} {fp wr:List Addr} {G:Array GenState→Array GenState→Prop} {n:Nat} {P:Nat→Value→Prop} {St:Nat→Shared→Prop}
theorem collect_rev {Q:List Value→Shared→Prop} (W:WalksS prog w A.in1 I fp wr G n P St) (hT:∀ i s,St i s→s.TypeIs (.ref I) "list_reverseiterator") (hst:St 0 s) (hfp:∀ b∈fp,b < s.heap.objs.size) (hI:I∈fp)
    (hQ:∀ s' acc,Moved wr G s s'→ItemsOf P acc n→Q acc.toList s') (hn:n≤sizeLine):wpAny (model prog w) A (collect (.ref I)) Q E s:=by
  have hSf:s.heap.objs.size∉fp:=fun hm=>abu _ (hfp _ hm);have hSI:s.heap.objs.size≠I:=fun e=>hSf (e ▸ hI);unfold collect;refine wpAny_bind (wpAny_runValue (codeAny_builtin F.entry_proto_collect ?_));rw [Around.under_plainId F.plain_proto_collect _];show wpAny _ A.in1 (newList [] >>= fun l=>again (.builtin "list.__iadd__" ⟨[l,.ref I],[]⟩)) _ _ s;refine wpAny_bind (wpAny_newObj_type ?_);refine wpAny_pure ⟨plainId_quiet F.plain_list_iadd _,codeAny_builtin F.entry_list_iadd ?_⟩;rw [Around.under_plainId F.plain_list_iadd _];have hst₁:=W.frame 0 s (s.heap.push { cls:=.type "list",data:=.seq ([]:List Value).toArray }) s.toks hst (aab _) fun b _ o e=>aak _ e;show wpAny _ A.in1 (Builtin.List.listExtendWith (.ref s.heap.objs.size) (.ref I) (.ref s.heap.objs.size)) _ _ _;unfold Builtin.List.listExtendWith;refine wpAny_bind (wpAny_typeOf (hT 0 _ hst₁) ?_);have h1:Builtin.List.listSameRef (.ref s.heap.objs.size) (.ref I)=false:=by simp [Builtin.List.listSameRef,hSI]
  have h2:(Value.type "list_reverseiterator" == Value.type "list")=false:=by decide
  have h3:(Value.type "list_reverseiterator" == Value.type "tuple")=false:=by decide
  simp only [h1,h2,h3,Bool.or_false,Bool.false_eq_true,if_false];refine wpAny_bind (W.self 0 _ _ _ hst₁ ?_);refine wpAny_bind (wpAny_holding ?_);unfold Builtin.List.listLengthHint;refine wpAny_bind (wpAny_specialOf (hT 0 _ hst₁) pi ?_);show wpAny _ A.in1 (specialOf (Value.ref I) (abL "__length_hint__") >>= _) _ _ _;refine wpAny_bind (wpAny_specialOf (hT 0 _ hst₁) tm ?_);have hsp:splitId "list_reverseiterator.__length_hint__" = some ("list_reverseiterator","__length_hint__"):=by decide +kernel
  simp only [hsp];refine wpAny_bind (wpAny_isInstance (hT 0 _ hst₁) ve ?_);refine wpAny_ite ?_;split
  · rename_i h;exact absurd h (by decide)
  refine wpAny_ite ?_;split
  case isFalse h=>exact absurd (by decide +kernel) h
  refine wpAny_ite ?_;split
  · rename_i h;exact absurd h (by decide)
  refine wpAny_pure ?_;simp only [Bool.false_or];refine wpAny_ite ?_;split
  case isTrue h=>exact absurd h (by decide +kernel)
  have hS₁:(s.heap.push { cls:=.type "list",data:=.seq ([]:List Value).toArray }).get? s.heap.objs.size=some { cls:=.type "list",data:=.seq ([]:List Value).toArray }:=aaJ _ rfl;refine wpAny_pure ⟨plainId_quiet F.plain_extend_loop _,codeAny_extend_loopS W hn _ hSf _ n 0 _ _ _ rfl (aaK _) hst₁ hS₁ (ItemsOf.nil P) fun s' acc' c' hm hS' hacc=>?_⟩;show wpAny _ A (load s.heap.objs.size >>= _) _ _ s';refine wpAny_bind (wpAny_load hS' ?_);refine wpAny_pure (hQ s' acc' (Moved.drop_new (o:={ cls:=.type "list",data:=.seq ([]:List Value).toArray }) (tk:=s.toks) hm (aab _)) hacc)
end
end L2
set_option maxHeartbeats 1000000
namespace L2
open PySem PySem.Spec PyProof.Rows
theorem ik {M:Model} {Γ:PySem.Ctx} {p:Pos} {t:Sem Fin} {fs:List Frame} {s:Shared} {e:End} {s':Shared} (h:Runs M Γ p t fs s e s'):s.toks≤s'.toks:=by
  induction h <;> (try simp only [Shared.setGen] at *) <;> lia
theorem oD {M:Model} {Γ:PySem.Ctx} {p:Pos} {g:Nat} {r:Resume} {s:Shared} {res:GenResult} {s':Shared} (h:Wakes M Γ p g r s res s'):s.toks≤s'.toks:=by
  unfold Wakes at h;split at h
  · exact h.elim
  · split at h
    · obtain ⟨e1,s1,hr,_,_,rfl⟩:=h;have:=ik hr;simpa only [Shared.setGen] using this
    · rw [h.2];exact aab _
    · rw [h.2];exact aab _
  · obtain ⟨e1,s1,hr,_,_,rfl⟩:=h;have:=ik hr;simpa only [Shared.setGen] using this
  · rw [h.2];exact aab _
  · rw [h.2];exact aab _
theorem pW {α:Type} {M:Model} {Γ:PySem.Ctx} (n:Nat) (t:Sem α) {Q:α→Pos→Shared→Prop} {E:Value→Pos→Shared→Prop}:∀ (p:Pos) (s:Shared),n≤s.toks→abK M Γ t Q E p s →
    abK M Γ t (fun a p' s'=>n≤s'.toks∧Q a p' s') E p s:=by
  induction t with
  | pure a=>intro p s hn h;simp only [abK] at h ⊢;exact ⟨hn,h⟩
  | raise e=>intro p s hn h;simpa only [abK] using h
  | unsupported w=>intro p s hn h;simp only [abK] at h
  | finish e=>intro p s hn h;simp only [abK] at h
  | rule tag k ih=>intro p s hn h;simp only [abK] at h ⊢;exact ih _ _ _ hn h
  | «at» p' k ih=>intro p s hn h;simp only [abK] at h ⊢;exact ih _ _ _ hn h
  | load a part k ih=>intro p s hn h;simp only [abK] at h ⊢;obtain ⟨o,ho,h⟩:=h;exact ⟨o,ho,ih _ _ _ hn h⟩
  | update a part f k ih=>intro p s hn h;simp only [abK] at h ⊢;exact ⟨h.1,ih _ _ _ (by exact hn) h.2⟩
  | loadIfAlive a k ih=>intro p s hn h;simp only [abK] at h ⊢;exact ih _ _ _ hn h
  | point l k ih=>intro p s hn h;simp only [abK] at h ⊢;exact ih _ _ _ hn h
  | register a k ih=>intro p s hn h;simp only [abK] at h
  | alloc o k ih=>intro p s hn h;simp only [abK] at h ⊢;exact ih _ _ _ (by exact hn) h
  | fresh k ih=>intro p s hn h;simp only [abK] at h ⊢;exact ih _ _ _ (Nat.le_succ_of_le hn) h
  | ask k ih=>intro p s hn h;simp only [abK] at h ⊢;exact ih _ _ _ hn h
  | choose src n k ih=>intro p s hn h;simp only [abK] at h ⊢;exact ⟨h.1,ih _ _ _ (by exact hn) h.2⟩
  | os q l k ih=>intro p s hn h;simp only [abK] at h ⊢;exact ih _ _ _ (by exact hn) h
  | call c hd g l k ih =>
    intro p s hn h;simp only [abK] at h ⊢;obtain ⟨r,s',hr,h⟩:=h;exact ⟨r,s',hr,ih _ _ _ (aa9 hn (ik hr)) h⟩
  | handled own k ih=>intro p s hn h;simp only [abK] at h ⊢;exact ih _ _ _ hn h
  | genState g k ih=>intro p s hn h;simp only [abK] at h ⊢;obtain ⟨o,ho,h⟩:=h;exact ⟨o,ho,ih _ _ _ hn h⟩
  | newGen c k ih=>intro p s hn h;simp only [abK] at h ⊢;exact ih _ _ _ (by exact hn) h
  | resume g r l k ih =>
    intro p s hn h;simp only [abK] at h ⊢;obtain ⟨res,s',hw,h⟩:=h;exact ⟨res,s',hw,ih _ _ _ (aa9 hn (oD hw)) h⟩
  | yield v g l k ih=>intro p s hn h;simp only [abK] at h
  | stack k ih=>intro p s hn h;simp only [abK] at h ⊢;exact ih _ _ _ hn h
  | fork c k ih=>intro p s hn h;simp only [abK] at h
  | thread k ih=>intro p s hn h;simp only [abK] at h ⊢;exact ih _ _ _ hn h
  | await a f d l k ih=>intro p s hn h;simp only [abK] at h
theorem jr {α:Type} {M:Model} {A:Around} {t:Sem α} {Q:α→Shared→Prop} {E:Value→Shared→Prop} {s:Shared} (hn:s.toks≠0) (h:wpAny M A t Q E s):wpAny M A t (fun a s'=>s'.toks≠0∧Q a s') E s :=
  fun Γ p hΓ=>Sem.wp_mono M Γ t (fun a _ s' q=>⟨Nat.pos_iff_ne_zero.mp q.1,q.2⟩) (fun _ _ _ q=>q) p s (pW 1 t p s (Nat.pos_of_ne_zero hn) (h Γ p hΓ))
def Tk {α:Type} (t:Sem α):Prop:=∀ (M:Model) (Γ:PySem.Ctx) (p:Pos) (s:Shared) (Q:α→Pos→Shared→Prop) (E:Value→Pos→Shared→Prop),abK M Γ t Q E p s→abK M Γ t (fun a p' s'=>1≤s'.toks∧Q a p' s') E p s
theorem Tk.bindR {α β:Type} {m:Sem α} {f:α→Sem β} (h:∀ a,Tk (f a)):Tk (m >>= f):=by
  intro M Γ p s Q E q;rw [Sem.wp_bind'] at q ⊢;exact Sem.wp_mono M Γ m (fun a p' s' z=>h a M Γ p' s' Q E z) (fun _ _ _ z=>z) p s q
theorem Tk.bindL {α β:Type} {m:Sem α} {f:α→Sem β} (h:Tk m):Tk (m >>= f):=by
  intro M Γ p s Q E q;rw [Sem.wp_bind'] at q ⊢;exact Sem.wp_mono M Γ m (fun a p' s' z=>pW 1 (f a) p' s' z.1 z.2) (fun _ _ _ z=>z) p s (h M Γ p s _ E q)
theorem Tk.hold {α:Type} {vs:List Value} {t:Sem α} (h:Tk t):Tk (holding vs t):=by
  intro M Γ p s Q E q;rw [Sem.wp_holding] at q ⊢;exact h M Γ p s Q E q
theorem Tk.constI {i:Int} {k:Nat} {pos:Pos} {env:Env}:Tk (eval (.Constant (.int i) k pos) env):=by
  intro M Γ p s Q E q;exact ⟨Nat.le_add_left 1 _,q⟩
theorem Tk.constS {x:Str} {k:Nat} {pos:Pos} {env:Env}:Tk (eval (.Constant (.str x) k pos) env):=by
  intro M Γ p s Q E q;exact ⟨Nat.le_add_left 1 _,q⟩
theorem Tk.cmp {l r:Expr} {op:CmpOp} {pos:Pos} {env:Env} {whole:Sem Value} (h:Tk (eval r env)) (hm:behindInMarks op r=false):Tk (isTrue (.Compare l [op] [r] pos) env whole):=by
  rw [isTrue_Compare1,markedBehindIn_of_false hm];exact .bindR fun a=>.bindL (.hold h)
theorem mQ {α:Type} {M:Model} {A:Around} {t:Sem α} {Q:α→Shared→Prop} {E:Value→Shared→Prop} {s:Shared} (ht:Tk t) (h:wpAny M A t Q E s):wpAny M A t (fun a s'=>s'.toks≠0∧Q a s') E s :=
  fun Γ p hΓ=>Sem.wp_mono M Γ t (fun a _ s' q=>⟨Nat.pos_iff_ne_zero.mp q.1,q.2⟩) (fun _ _ _ q=>q) p s (ht M Γ p s _ _ (h Γ p hΓ))
def PEK (X:Cx) (e:Expr) (t:TE):Prop :=
  ∀ (pins:List (Addr × Obj)) (s:Shared) (σ:St) (H:Hp) (Q:VK),Inv X pins σ H s→s.toks≠0→t σ H Q→wpAny (model X.prog X.w) X.A (eval e X.env) (EP X pins σ Q) X.xe s
def yk (X:Cx) (st:List Stmt) (t:TS):Prop :=
  ∀ (pins:List (Addr × Obj)) (s:Shared) (σ:St) (H:Hp) (D:Ends),Inv X pins σ H s→s.toks≠0→t D σ H→wpAny (model X.prog X.w) X.A (execs st X.env) (SP X pins D) X.xe s
section
variable {X:Cx} {pos:Pos} {t u:TS}
theorem sI {e:Expr} {te:TE} (he:PEK X e te):yk X [.Return (some e) pos] (xA te):=by
  intro pins s σ H D I hk h;refine wpAny_execs_cons (thn (Q:=SP X pins D) (wpAny_Return_some (thn (he pins s σ H _ I hk h) fun v s1 ⟨x,H1,I1,r1,q1⟩=>⟨x,σ,H1,I1,r1,q1⟩)) fun f s1 q=>?_);cases f with
  | next=>exact wpAny_execs_nil q
  | ret v=>exact q
  | brk=>exact q
  | cont=>exact q
theorem ww {c:Expr} {a b:List Stmt} {tc:TT} (hk:Tk (isTrue c X.env (eval c X.env))) (hc:PT X c tc) (ha:yk X a t) (hb:PSs X b u):PS X (.If c a b pos) (xE tc t u):=by
  intro pins s σ H D I h;refine wpAny_If (thn (mQ hk (hc pins s σ H _ I h)) fun d s1 ⟨hn,H1,I1,q1⟩=>?_);cases d with
  | true=>exact ha pins s1 σ H1 D I1 hn q1
  | false=>exact hb pins s1 σ H1 D I1 q1
end
open PySem PySem.Spec PyProof.Rows
theorem xh {X:Cx} {pins:List (Addr × Obj)} {σ:St} {H:Hp} {s:Shared} {a:Addr} {y v:V} {u r:Value} {A:Around} {E:Value→Shared→Prop} {H':Hp} {Q:Unit→Shared→Prop} (hu:A.units+1 < cLine) (I:Inv X pins σ H s) (g:DPut H a y v H') (ry:RelV y u) (rv:RelV v r) (h:∀ s',Inv X pins σ H' s'→Q () s') :
    wpAny (model X.prog X.w) A (dictSet a u r) Q E s:=by
  rcases g with ⟨kvs,k,e,ey,l,eH⟩|⟨kvs,k,b,e,ey,eb,l,eH⟩
  · subst ey eH;obtain ⟨z,hd,vs,rel,dd⟩:=vN I.hok e;have hz:vs.length≤sizeLine:=by rw [← rel.length];exact z
    have hl:(gI kvs k v).length≤sizeLine:=by have:=fT kvs k v;lia
    refine wpAny_dictSet_pairs (hsz:=hz) (tH ry) dd fun h' dd' hs=>h _ ?_;have he:∃ q,h'.get? a=some q:=let ⟨q,_,_,hq,_⟩:=dd';⟨q,hq⟩;exact qN I (by rw [e];exact True.intro) hs he (xc hl hd (rel.put k rv) dd')
  · subst ey eH;cases (show u=Value.ref b from ry);obtain ⟨z,hd,xs,rel,dd⟩:=yf I.hok e;have hz:xs.length≤sizeLine:=by rw [← abg rel];exact z
    have hl:(gI kvs k v).length≤sizeLine:=by have:=fT kvs k v;lia
    have hr:(tupleKind (bz X.prog X.w)).room A:=by show A.units < cLine;lia
    refine wpAny_dictSet_heap (hsz:=hz) hr (pA I.hok eb) dd fun h' dd' hs=>h _ ?_;obtain ⟨q,es,ep,hq,h2,h3,h4,_,h5⟩:=dd';refine qN I (by rw [e];exact True.intro) hs ⟨q,hq⟩ ⟨hl,hd,_,(rel.put k eb rv).keeps fun c ys ec=>?_,q,es,ep,hq,h2,h3,h4,h5⟩;rw [aI (xW ec e (fun z=>nomatch z))];exact ec
theorem pO {prog:Program} {w:World} {A:Around} {R:Result→Shared→Prop} {s:Shared} {kx vx target iter:Expr} {ifs:List Expr} {scope:Scope} {pos:Pos} {it:Value} {D:Addr} {env:Env} (J:Nat→Shared→Prop)
    (turn:∀ n s,J n s→wpAny (model prog w) A (pyNext it) (fun r s₁=>match r with
      | none=>R (.ok .next) s₁
      | some v=>wpAny (model prog w) A (letOwnedTupleGo target it v) (fun _ s₁'=>wpAny (model prog w) A (assign target env v) (fun _ s₂ =>
          wpAny (model prog w) A (forIn ifs true fun c r=>if r=true then do let ok ← isTrue c env (eval c env);pure (ForInStep.yield ok) else pure (ForInStep.yield r)) (fun ok s₃ =>
            if ok=true then wpAny (model prog w) A (eval kx env) (fun kv s₄=>wpAny (model prog w) A (eval vx env) (fun vv s₅ =>
              wpAny (model prog w) A (dictSet D kv vv) (fun _ s₆=>∃ m,m < n∧J m s₆) (fun _ _=>False) s₅) (fun _ _=>False) s₄) (fun _ _=>False) s₃
            else ∃ m,m < n∧J m s₃) (fun _ _=>False) s₂) (fun _ _=>False) s₁') (fun _ _=>False) s₁) (fun _ _=>False) s)
    (n:Nat) (h:J n s) :
    codeAny (model prog w) A (.compLoop (.DictComp kx vx [⟨target,iter,ifs,0⟩] scope pos) 0 it (.ref D) env) R s:=by
  refine codeAny_loop rfl J (fun n s hI=>?_) n h;show wpAny _ A ((compTurn (.DictComp kx vx [⟨target,iter,ifs,0⟩] scope pos) 0 it (.ref D) env).onRaise (fun x=>do noteFrame x env;theTreesLotGoes x)) _ _ s;refine wpAny_noted ?_;rw [compTurn_dict];refine wpAny_bind (wpAny_standAt (wpAny_bind (wpAny_mono (turn n s hI) (fun r s₁ h₁=>?_) fun _ _ h'=>h'.elim)));cases r with
  | none=>exact wpAny_pure h₁
  | some v =>
    refine wpAny_bind (wpAny_mono h₁ (fun _ s₁' h₁'=>?_) fun _ _ h'=>h'.elim);refine wpAny_bind (wpAny_mono h₁' (fun _ s₂ h₂=>wpAny_bind (wpAny_mono h₂ (fun ok s₃ h₃=>?_) fun _ _ h'=>h'.elim)) fun _ _ h'=>h'.elim);cases ok with
    | false=>exact wpAny_pure ⟨rfl,h₃⟩
    | true =>
      exact wpAny_bind (wpAny_bind (wpAny_mono h₃ (fun kv s₄ h₄=>wpAny_bind (wpAny_holding (wpAny_mono h₄ (fun vv s₅ h₅=>wpAny_bind (wpAny_standAt (wpAny_holding (wpAny_mono h₅ (fun _ s₆ h₆=>wpAny_pure ⟨rfl,h₆⟩) fun _ _ h'=>h'.elim)))) fun _ _ h'=>h'.elim))) fun _ _ h'=>h'.elim))
abbrev yn (cap:List (Option Nat)) (g:TG) (tt:TT) (tk tv:TE) (ob:HO) (σ:St) (Q:VK) (J:It) (H1:Hp):Prop:=∃ W:Addr→Nat→Nat→Hp→Prop,(∀ p,H1 p=none→∃ m,W p 0 m (upd H1 p ob))∧∀ p i m H,H1 p=none→W p i m H →
  (J.stop i H∧Q (.ref p) H) ∨
  (J.go i H∧∀ x H',J.yld i H x H'→g x (cm cap σ) H' fun σ2 H2=>tt σ2 H2 fun b H3=>if b=true then tk σ2 H3 fun k H4=>tv σ2 H4 fun v H5=>∃ H6,DPut H5 p k v H6∧∃ m',m' < m∧W p (i+1) m' H6 else ∃ m',m' < m∧W p (i+1) m' H3)
def tDc (cap:List (Option Nat)) (wi:TI) (g:TG) (tt:TT) (tk tv:TE) (ob:HO):TE:=fun σ H Q=>wi σ H (yn cap g tt tk tv ob σ Q)
section
variable {X:Cx}
end
open PySem PySem.Spec PyProof.Rows
section
variable {X:Cx}
end
end L2
namespace PySem
open Builtin Builtin.Str Builtin.Int
section
variable {prog:Program} {w:World} {A:Around} {E:Value→Shared→Prop} {s:Shared} {x:Str} {t:Tok} {Q:Value→Shared→Prop}
  {I:Addr} {fp wr:List Addr} {G:Array GenState→Array GenState→Prop} {n:Nat} {P:Nat→Value→Prop} {St:Nat→Shared→Prop}
theorem SC.joinRev (W:WalksS prog w A.in1.in1 I fp wr G n P St) (hT:∀ i s,St i s→s.TypeIs (.ref I) "list_reverseiterator") (hst:St 0 s) (hfp:∀ b∈fp,b < s.heap.objs.size) (hI:I∈fp)
    (hstr:∀ i v,P i v→∃ y u,v=Value.str y u)
    (hq:∀ s' (l:List (Str × Tok)),Moved wr G s s'→ItemsOf P (strValues l).toArray n→JoinOk x (l.map (·.1))=true∧∀ t' k,Q (.str (acK x (l.map (·.1))) t') { s' with toks:=k })
    (hsz:n≤sizeLine:=by size_fits) :
    wpAny (model prog w) A (call (.builtin "str.join") [.str x t,.ref I]) Q E s:=by
  refine wpAny_call (codeAny_call_builtin F.slot_str_join.plain F.entry_str_join (F.slot_str_join.check _ _ _ _ _ _ _ _ (typeIs_str _ _ _) (F.args_str_join_2 _ _) ?_));rw [join_tree_other];refine wpAny_bind (wpAny_typeOf (hT 0 s hst) ?_);show wpAny _ A.in1 ((pyIter (.ref I)).tryCatch _ >>= fun it=>collect it >>= fun items=>joinTail x items) _ _ s;refine wpAny_bind (wpAny_tryCatch (W.of_in1.self 0 s _ _ hst ?_));refine wpAny_bind (L2.collect_rev W hT hst hfp hI (fun s' acc hm hacc=>?_) hsz);obtain ⟨l,hl⟩:=exists_strValues acc.toList fun v hv=>by
    obtain ⟨j,hj,rfl⟩:=Array.mem_iff_getElem.mp (Array.mem_toList_iff.mp hv);exact hstr j _ (hacc.2 j _ (Array.getElem?_eq_getElem hj))
  rw [← hl];have hacc':ItemsOf P (strValues l).toArray n:=by rw [hl];simpa using hacc
  obtain ⟨hok,hpost⟩:=hq s' l hm hacc';unfold JoinOk at hok;rw [Bool.not_eq_true'] at hok;have g:Gives (joinTail x (strValues l)) (joinMade x l):=by
    have g0:=gives_joinTail x l hok;cases l with
    | nil=>exact g0
    | cons p r=>cases r with
      | nil=>exact g0
      | cons q r'=>exact g0
  exact g prog w A (wants Q E) s' (post_join l ⟨joinFit_length hok,hpost⟩)
end
end PySem
namespace L2
open PySem PySem.Spec PyProof.Rows
section
variable {X:Cx}
theorem kI:bootBuiltins "reversed" = some (.type "reversed"):=by decide +kernel
theorem o3 {e:Expr} {te:TE} {z:Str} {kz:Nat} {pz p0 rpos apos cpos:Pos} (hc:X.calm=true) (hg:Gl X "reversed") (hm:X.mg "reversed" = none) (he:PE X e te)
    (hbase:attributeBase (.Constant (.str z) kz pz) "join" X.env (eval (.Constant (.str z) kz pz) X.env)=eval (.Constant (.str z) kz pz) X.env:=by rfl)
    (hline:(apos.endLine == cpos.line)=true:=by rfl) (hs:starEach [e] X.env=[(false,eval e X.env)]:=by rfl) :
    PE X (.Call (.Attribute (.Constant (.str z) kz pz) "join" apos) [.Call (.Name "reversed" p0) [e] [] rpos] [] cpos) (fun σ H Q=>te σ H fun x H1=>∃ (p:Addr) (zs:List Str),x=.ref p∧SqL X.K H1 p (zs.map V.str)∧JoinOk z zs.reverse=true∧Q (.str (acK z zs.reverse)) H1):=by
  intro pins s σ H Q I h;refine wpAny_Call_method_late hbase rfl hline rfl (ab2 ?_);refine ⟨"str","str.join",aaO,ab8,ab9,typeIs_str _ _ _,(fun a q=>nomatch q),?_⟩;refine abY rfl (abN ?_);show wpAny _ _ (spliced ((false,eval (.Call (.Name "reversed" p0) [e] [] rpos) X.env) :: backTo cpos (starEach [] X.env))) _ _ _;have I0:Inv X pins σ H { s with toks:=s.toks+1 }:=I.tok _;refine abi (Call_ (fh I0 hg hm kI (aa3 (thn (aa he ac hs rpos pins _ σ H (fun vs H1=>∃ (p:Addr) (zs:List Str),vs=[.ref p]∧SqL X.K H1 p (zs.map V.str)∧JoinOk z zs.reverse=true∧Q (.str (acK z zs.reverse)) H1) I0 ?_) fun us s1 ⟨vs,H1,I1,r1,p,zs,ev,hq,hok,q⟩=>?_) hs rfl)))
  · show te σ H fun x H1=>∃ (p:Addr) (zs:List Str),[x]=[V.ref p]∧_;simpa using h
  subst ev;obtain ⟨u,rfl,ru⟩:=cH r1;cases ru;obtain ⟨its,r,pl,hz⟩:=I1.list hq;obtain ⟨l,rfl,e2⟩:=eK r;refine call_reversed_list pl.isList ?_;refine acb ?_;have hlp:p < s1.heap.objs.size:=by
    obtain ⟨o,ho,_⟩:=pl.isList;exact aas ho
  have I2:Inv X pins σ H1 { s1 with heap:=s1.heap.push (revObj p (((strValues l).toArray.size:Int) - 1)) }:=I1.kept (t':=s1.toks) fun b o e=>aak _ e;obtain ⟨f0,f1,f2,f3,f4,f5⟩:=I1.fpOk (aab _) (I1.hok.fresh (aab s1.heap.objs.size));have hh:X.A.handled=none:=I1.ok.hd hc;have W:=(Walks.listRev (prog:=X.prog) (w:=X.w) (A:=X.A.in1.in1) hh s1.heap.objs.size p (aaD hlp) (strValues l).toArray).toS;have hlen:(strValues l).toArray.size=zs.length:=by have:=r.length;simpa using this.symm
  refine SC.joinRev W (fun i s' st=>?_) ⟨aaK _,⟨_,aaJ _ rfl,rfl,by rw [show (((strValues l).toArray.size:Int) - 1 - ((0:Nat):Int))=((strValues l).toArray.size:Int) - 1 by lia];rfl⟩,pl.isList.push _⟩ (fun b hb=>?_) (by simp) (fun i v hv=>?_) (fun s' l' mv items=>?_) (by rw [hlen];simpa using hz)
  · obtain ⟨o,ho,c,d⟩:=st.2.1;exact ⟨o,ho,c⟩
  · show b < (s1.heap.push _).objs.size;rw [Heap.size_push];rcases aaj.mp hb with rfl|hb
    · exact acg _
    · rcases aaj.mp hb with rfl|hb
      · exact Nat.lt_succ_of_lt hlp
      · cases hb
  · have : v∈strValues l:=by simpa using Array.mem_of_getElem? hv
    obtain ⟨⟨y,u⟩,_,rfl⟩:=ab5.mp this;exact ⟨y,u,rfl⟩
  · have e':l'.map (·.1)=zs.reverse:=by
      have hn':l'.length=zs.length:=by have:=items.1;rw [hlen] at this;simpa [strValues] using this
      refine List.ext_getElem? fun i=>?_;by_cases hi:i < zs.length
      · have hi':i < l'.length:=by lia
        have h1:(strValues l').toArray[i]?=some (.str (l'[i]).1 (l'[i]).2):=by simp [strValues,hi']
        have h2:=items.2 i _ h1;rw [hlen] at h2;have hj:zs.length - 1 - i < l.length:=by rw [← e2,aaf] at hi ⊢;lia
        have h3:(strValues l).toArray[zs.length - 1 - i]?=some (.str (l[zs.length - 1 - i]).1 (l[zs.length - 1 - i]).2):=by simp [strValues,hj]
        rw [h3] at h2;have h4:(l[zs.length - 1 - i]).1=(l'[i]).1:=by
          have:=abd h2;simp only [Value.str.injEq] at this;exact this.1
        have h5:zs[zs.length - 1 - i]?=some (l[zs.length - 1 - i]).1:=by
          have : (l.map (·.1))[zs.length - 1 - i]?=some (l[zs.length - 1 - i]).1:=by rw [aar,aac hj];rfl
          rw [e2] at this;exact this
        rw [List.getElem?_reverse hi,h5,aar,aac hi',h4];rfl
      · rw [abI (by simp;lia),abI (by simp;lia)]
    rw [e'];refine ⟨hok,fun t' k=>⟨.str _,H1,?_,⟨_,rfl⟩,q⟩⟩;have I3:=I2.turned (t':=k) (h':=s'.heap) (it:=s1.heap.objs.size) (fun b o hb e=>mv.heap b o (by simpa using hb) e) f0 f1 f3 f4 f5;have hg:=mv.gens;have hd:=mv.drawn;have ho:=mv.os;obtain ⟨a1,a2,a3,a4,a5⟩:=s';simp only at hg hd ho;subst hg hd ho;exact I3
end
open PySem PySem.Spec PyProof.Rows
section
variable {X:Cx}
theorem gR:∀ {l:List (Str × Tok)} {zs:List Str},l.map (·.1)=zs→Vals (zs.map V.str) (strValues l)
  | [],_,e=>by subst e;exact .nil
  | (z,t) :: l,_,e=>by subst e;exact .cons ⟨t,rfl⟩ (gR rfl)
theorem split_at {prog:Program} {w:World} {A:Around} {E:Value→Shared→Prop} {s:Shared} {x y:Str} {t u:Tok} {Q:Value→Shared→Prop} (hy:(y.length == 0)=false) (hsz:x.length≤sizeLine)
    (hsz2:(abx x (aaB x y 0 x.length (x.length+1)) y.length).length≤sizeLine)
    (hq:∀ (l:List (Str × Tok)) k,l.map (·.1)=acF x y→Q (.ref s.heap.objs.size) { s with heap:=s.heap.push { cls:=.type "list",data:=.seq (strValues l).toArray },toks:=k }) :
    wpAny (model prog w) A (call (.builtin "str.split") [.str x t,.str y u]) Q E s:=by
  cases h1:(decide (x.length < y.length) || decide (Builtin.Str.strKind x < Builtin.Str.strKind y))
  · cases hf:(aaB x y 0 x.length (x.length+1)).isEmpty
    · refine call_meets F.slot_str_split (typeIs_str _ _ _) F.entry_str_split (F.args_str_split_2 _ _) (meets_str_split_sep x y t u h1 hy hf hsz hsz2) ?_;show wants Q E _ { s with toks:=_,heap:=s.heap.push { cls:=.type "list",data:=.seq (strsFrom s.toks (abx x (aaB x y 0 x.length (x.length+1)) y.length)).toArray } };rw [strsFrom_eq];exact hq (numbered s.toks _) _ ((numbered_texts _ _).trans ((if_neg (ne_true_of_eq_false h1)).trans (if_neg (ne_true_of_eq_false hf))).symm)
    · exact call_meets F.slot_str_split (typeIs_str _ _ _) F.entry_str_split (F.args_str_split_2 _ _) (meets_str_split_not_found x y t u h1 hy hf)
        (hq [(x,t)] s.toks ((if_neg (ne_true_of_eq_false h1)).trans (if_pos hf)).symm)
  · exact call_meets F.slot_str_split (typeIs_str _ _ _) F.entry_str_split (F.args_str_split_2 _ _) (meets_str_split_cannot_occur x y t u h1)
      (hq [(x,t)] s.toks (if_pos h1).symm)
theorem dL:MtR X "str.split" (fun x vs H Q=>∃ z y,x=.str z∧vs=[.str y]∧(y.length == 0)=false∧z.length≤sizeLine∧(acF z y).length≤sizeLine ∧
    (abx z (aaB z y 0 z.length (z.length+1)) y.length).length≤sizeLine∧∀ p,H p=none→Q (.ref p) (upd H p (.lst ((acF z y).map V.str)))):=by
  intro pins s σ H x vs v us Q I rx rv h;obtain ⟨z,y,rfl,rfl,hy,hz,hl,hp,q⟩:=h;obtain ⟨t,rfl⟩:=rx;obtain ⟨u,rfl,ru⟩:=cH rv;obtain ⟨t2,rfl⟩:=ru;refine split_at hy hz hp fun l k e=>?_;exact ⟨.ref s.heap.objs.size,_,I.laid (t':=k) (fun b o e=>aak _ e) (aab _) (show ObjOk X.prog X.w _ _ _ (.lst ((acF z y).map V.str)) from ⟨by rw [aaf];exact hl,strValues l,0,gR e,aaJ _ rfl⟩),rfl,q _ (I.hok.fresh (aab _))⟩
theorem wC {e1 e2:Expr} {t1 t2:TE} {a:Str} {ja:Nat} {pa p1 p2 pos:Pos} (h1:PE X e1 t1) (h2:PE X e2 t2) :
    PE X (.JoinedStr [.FormattedValue e1 (-1) none p1,.Constant (.str a) ja pa,.FormattedValue e2 (-1) none p2] pos)
      (fun σ H Q=>t1 σ H fun x H1=>∃ i:Int,x=.int i∧i.natAbs.log2 < 1920∧(abL (toString i)).length≤sizeLine∧(abL (toString i)++a).length≤sizeLine∧t2 σ H1 fun y H2=>∃ j:Int,y=.int j∧j.natAbs.log2 < 1920∧(abL (toString i)++a++abL (toString j)).length≤sizeLine∧Q (.str (abL (toString i)++a++abL (toString j))) H2):=by
  intro pins s σ H Q I h;refine wpAny_JoinedStr ?_;show wpAny _ _ (eval (.FormattedValue e1 (-1) none p1) X.env) _ _ s;refine wpAny_FormattedValue_plain (thn (h1 pins s σ H _ I h) fun v1 s1 ⟨x1,H1,I1,r1,i,ei,hi,l1,l2,q1⟩=>?_);subst ei;obtain ⟨k1,rfl⟩:=r1;refine wpAny_formatField_int hi ?_;refine ⟨abL (toString i),_,rfl,by rw [jn];exact l1,?_⟩;rw [jn];show wpAny _ _ (eval (.Constant (.str a) ja pa) X.env) _ _ _;have I1':=I1.tok (s1.toks+1+1);refine thn (af pins _ σ H1 (fun x H2=>x=.str a∧H2=H1) I1' ⟨rfl,rfl⟩) fun v2 s2 ⟨x2,H2,I2,r2,⟨e3,e4⟩⟩=>?_;subst e3 e4;obtain ⟨k2,rfl⟩:=r2;refine ⟨a,k2,rfl,l2,?_⟩;show wpAny _ _ (eval (.FormattedValue e2 (-1) none p2) X.env) _ _ s2;refine wpAny_FormattedValue_plain (thn (h2 pins s2 σ H2 _ I2 q1) fun v3 s3 ⟨x3,H3,I3,r3,j,ej,hj,l3,q3⟩=>?_);subst ej;obtain ⟨k3,rfl⟩:=r3;refine wpAny_formatField_int hj ?_;exact ⟨abL (toString j),_,rfl,l3,l3,.str _,H3,I3.tok _,⟨_,rfl⟩,q3⟩
theorem uj {y:Str} {l:List (Str × Tok)}:(strValues l).countP (eqU (.str y))=(l.map (·.1)).countP (fun z=>decide (z=y)):=by
  induction l with
  | nil=>rfl
  | cons p r ih =>
    obtain ⟨z,t⟩:=p;show (Value.str z t :: strValues r).countP (eqU (.str y))=_;rw [List.countP_cons,ih,aax,List.countP_cons];have e:eqU (.str y) (.str z t)=decide (z=y):=by
      have e1:eqU (.str y) (.str z t)=(z == y):=rfl;rw [e1,aaH,beq_iff_eq,decide_eq_true_eq]
    rw [e]
theorem k_ (zs:List Str):(zs.map V.str).all eP=true:=by
  rw [List.all_map,aaU];intro z _;rfl
theorem kU:MtR X "list.count" (fun x vs H Q=>∃ (l:Addr) (zs:List Str) (y:Str),x=.ref l∧vs=[.str y]∧SqL X.K H l (zs.map V.str)∧Q (.int (zs.countP (fun z=>decide (z=y)):Nat)) H):=by
  intro pins s σ H x vs v us Q I rx rv h;obtain ⟨l,zs,y,rfl,rfl,hq,q⟩:=h;cases rx;obtain ⟨u,rfl,ru⟩:=cH rv;obtain ⟨ty,rfl⟩:=ru;obtain ⟨its,r,⟨o,n,ho,hc,hs,hd⟩,hz⟩:=I.list hq;obtain ⟨ls,rfl,e2⟩:=eK r;obtain ⟨oc,od,dat,sl⟩:=o;cases (show oc=_ from hc);cases (show dat=_ from hd);refine call_meets F.slot_list_count ⟨_,ho,rfl⟩ F.entry_list_count (F.args_list_count_2 _ _) (SeqAt.list_countAt l (strValues ls).toArray n od sl (.str y ty) (eqU (.str y))) ⟨ho,fun w hw=>?_,?_⟩
  · exact fS (x:=.str y) ⟨ty,rfl⟩ rfl r (k_ zs) w (by simpa using hw)
  · have e:(strValues ls).countP (eqU (.str y))=zs.countP (fun z=>decide (z=y)):=by rw [uj,e2]
    refine ⟨.int (zs.countP (fun z=>decide (z=y)):Nat),H,I.tok _,⟨s.toks,?_⟩,q⟩;show Value.int (((strValues ls).toArray.toList.countP (eqU (.str y)):Nat):Int) s.toks=_;rw [show (strValues ls).toArray.toList=strValues ls from rfl,e]
theorem rm:MtR X "list.index" (fun x vs H Q=>∃ (l:Addr) (zs:List Str) (y:Str) (j:Nat),x=.ref l∧vs=[.str y]∧SqL X.K H l (zs.map V.str)∧zs[j]?=some y∧(∀ m,m < j→zs[m]?≠some y)∧zs.length≤1000∧Q (.int (j:Nat)) H):=by
  intro pins s σ H x vs v us Q I rx rv h;obtain ⟨l,zs,y,j,rfl,rfl,hq,hj,hb,hl,q⟩:=h;cases rx;obtain ⟨u,rfl,ru⟩:=cH rv;obtain ⟨ty,rfl⟩:=ru;obtain ⟨its,r,⟨o,n,ho,hc,hs,hd⟩,hz⟩:=I.list hq;obtain ⟨ls,rfl,e2⟩:=eK r;obtain ⟨oc,od,dat,sl⟩:=o;cases (show oc=_ from hc);cases (show dat=_ from hd);have hjl:j < zs.length:=(aam.mp hj).1;have hls:ls.length=zs.length:=by rw [← e2,aaf]
  have at_:∀ m (hm:m < ls.length),eqU (.str y) ((strValues ls)[m]'(by simpa [strValues] using hm))=decide (zs[m]?=some y):=fun m hm=>by
    have h1:(strValues ls)[m]'(by simpa [strValues] using hm)=Value.str (ls[m]).1 (ls[m]).2:=by simp [strValues]
    have h2:zs[m]?=some (ls[m]).1:=by rw [← e2,aar,aac hm];rfl
    rw [h1,h2];have e1:eqU (.str y) (.str (ls[m]).1 (ls[m]).2)=((ls[m]).1 == y):=rfl;rw [e1,aaH,beq_iff_eq,decide_eq_true_eq,Option.some.injEq]
  refine call_meets F.slot_list_index ⟨_,ho,rfl⟩ F.entry_list_index (F.args_list_index_2 _ _) (SeqAt.list_indexAt l (strValues ls).toArray n od sl (.str y ty) (eqU (.str y)) j (by simpa [strValues] using (show j < ls.length by lia)) (by lia) ?_ ?_) ⟨ho,fun w hw=>?_,?_⟩
  · have:=at_ j (by lia);simpa [hj] using this
  · intro m hm hmj;have:=at_ m (by lia);simpa [hb m hmj] using this
  · exact fS (x:=.str y) ⟨ty,rfl⟩ rfl r (k_ zs) w (by simpa using hw)
  · exact ⟨.int (j:Nat),H,I.tok _,⟨_,rfl⟩,q⟩
end
open PySem PySem.Spec PyProof.Rows
section
variable {X:Cx} {pins:List (Addr × Obj)} {σ:St} {H:Hp} {s:Shared} {A:Around} {Q:Value→Shared→Prop} {E:Value→Shared→Prop} {b:Bool}
theorem pB {x:V} {u t:Value} {tp:Addr} {dd:Option Addr} {its:List Value} {n₀:Nat} {sl:Array (Option Value)} (I:Inv X pins σ H s) (rx:RelV x u) (ty:TyOf X.K H x t) (htp:s.heap.get? tp=some ⟨.type "tuple",dd,.seq its.toArray n₀,sl⟩) (e:acf X.K t its=some b) (h:∀ tk,Q (.bool b) { s with toks:=tk }) :
    wpAny (model X.prog X.w) A (call (.builtin "isinstance") [u,.ref tp]) Q E s:=by
  cases ty with
  | non=>cases (show u=Value.none from rx);exact aa7 acy I.kIn True.intro htp e (fun z=>nomatch z) h
  | bl y=>cases (show u=Value.bool y from rx);exact aa7 PySem.W.kitx_bool I.kIn True.intro htp e (fun z=>nomatch z) h
  | int i=>obtain ⟨t,q⟩:=(show ∃ t,u=Value.int i t from rx);cases q;exact aa7 PySem.W.kitx_int I.kIn True.intro htp e (fun z=>nomatch z) h
  | str y=>obtain ⟨t,q⟩:=(show ∃ t,u=Value.str y t from rx);cases q;exact aa7 PySem.W.kitx_str I.kIn True.intro htp e (fun z=>nomatch z) h
  | flt y=>obtain ⟨t,q⟩:=(show ∃ t,u=Value.float y t from rx);cases q;exact aa7 PySem.W.kitx_float I.kIn True.intro htp e (fun z=>nomatch z) h
  | @lst a xs ea =>
    cases (show u=Value.ref a from rx);obtain ⟨_,_,n,_,h1⟩:=(show ObjOk X.prog X.w H s.heap a (.lst xs) from I.hok a _ ea)
    exact aa7 acx I.kIn ⟨_,h1,rfl⟩ htp e (fun z=>nomatch z) h
  | @frz a ob xs ea =>
    cases (show u=Value.ref a from rx);obtain ⟨_,_,_,n,_,h1⟩:=(show ObjOk X.prog X.w H s.heap a (.frz ob (.lst xs)) from I.hok a _ ea)
    exact aa7 acx I.kIn ⟨_,h1,rfl⟩ htp e (fun z=>nomatch z) h
  | @tup a xs ea =>
    cases (show u=Value.ref a from rx);obtain ⟨_,_,_,p⟩:=(show ObjOk X.prog X.w H s.heap a (.tup xs) from I.hok a _ ea)
    obtain ⟨o,h1,h2,_⟩:=p;exact aa7 PySem.W.kitx_tuple I.kIn ⟨o,h1,h2⟩ htp e (fun z=>nomatch z) h
  | @dK a kvs ea =>
    cases (show u=Value.ref a from rx);obtain ⟨_,_,vs,_,p⟩:=(show ObjOk X.prog X.w H s.heap a (.dK kvs) from I.hok a _ ea)
    obtain ⟨o,es,ep,h1,h2,_⟩:=p;exact aa7 acw I.kIn ⟨o,h1,h2.1⟩ htp e (fun z=>nomatch z) h
  | @dT a kvs ea =>
    cases (show u=Value.ref a from rx);obtain ⟨_,_,xs,_,o,es,ep,h1,h2,_⟩:=(show ObjOk X.prog X.w H s.heap a (.dT kvs) from I.hok a _ ea)
    exact aa7 acw I.kIn ⟨o,h1,h2.1⟩ htp e (fun z=>nomatch z) h
  | @ins a C dx fs ea cl ha hn htk hm =>
    cases (show u=Value.ref a from rx);obtain ⟨mA,O,_⟩:=qy I.hok ea;obtain ⟨od,J,_⟩:=O.look;exact aa7 (PySem.W.kitx_own (cl.get _) cl.hd ha hn htk hm) I.kIn J htp e (fun z=>nomatch z) h
end
section
variable {X:Cx} {a b c d:Expr} {ta tb tc td:TE} {pos:Pos}
theorem pZ:∀ (ns:List String) {its:List Value},Vals (ns.map V.ty) its→its=ns.map Value.type
  | [],_,.nil=>rfl
  | n :: ns,_,.cons h t=>by rw [show _=Value.type n from h,pZ ns t];rfl
theorem mK {K:aaa} (hK:X.K=K):dF X (.builtin "isinstance") (fun xs H Q=>∃ (x:V) (tp:Addr) (t:Value) (ns:List String) (b:Bool),xs=[x,.ref tp]∧TyOf K H x t∧H tp=some (.tup (ns.map V.ty))∧acf K t (ns.map Value.type)=some b∧Q (.bl b) H):=by
  subst hK;intro pins s σ H xs us Q I r h;obtain ⟨x,tp,t,ns,b,rfl,ty,ht,hk,q⟩:=h;obtain ⟨u1,u2,rfl,r1,r2⟩:=jt r;cases r2;obtain ⟨_,its,rv,ot,g1,g2,k,g3⟩:=(show ObjOk X.prog X.w H s.heap tp (.tup (ns.map V.ty)) from I.hok tp _ ht)
  have eits:its=ns.map Value.type:=pZ ns rv;subst eits;obtain ⟨oc,od,dat,sl⟩:=ot;cases (show oc=_ from g2);cases (show dat=_ from g3);exact pB I r1 ty g1 hk fun tk=>⟨.bl b,H,I.tok tk,rfl,q⟩
end
section
variable {X:Cx}
theorem xR {ob:HO} {kx vx tg iter:Expr} {ifs:List Expr} {scope:Scope} {pos:Pos} {cl:List (Str × Addr)} {NY:List Str} {cap:List (Option Nat)} {wi:TI} {g:TG} {tt:TT} {tk tv:TE} (hob:ob=.dK []∨ob=.dT []) (hu:X.A.units+1 < cLine) (hc:X.calm=true) (hi:PI X tg iter wi)
    (hclos:closureFor scope X.env=pure cl) (hci:CellsIn X.env cl) (hcap:CapOk X.env (relabel scope X.env) X.N NY cap)
    (hb:∀ fp s H C,PG (bh X scope cl NY fp s H C) tg g∧i6 (bh X scope cl NY fp s H C) ifs tt∧PE (bh X scope cl NY fp s H C) kx tk∧PE (bh X scope cl NY fp s H C) vx tv)
    (hkind:scope.kind=.function:=by rfl) (hnc:(scope.names.all fun y=>y.2 != .cell)=true:=by rfl)
    (hnames:(scope.names.all fun y=>y.2 != .local || scope.names.lookup y.1 == some .local)=true:=by rfl)
    (hhas:((relabel scope X.env).names.all fun p=>(p.2 != .cell && p.2 != .free) || (cl.lookup p.1).isSome)=true:=by rfl)
    (hs:∀ x,foldedSetIterable iter X.env x=pure x:=by intro _;rfl) :
    PE X (.DictComp kx vx [⟨tg,iter,ifs,0⟩] scope pos) (tDc cap wi g tt tk tv ob):=by
  intro pins s σ H Q I h;rw [arm_eval_DictComp];refine wpAny_comprehension_free (use:=none) rfl hs hclos hkind (jp hnames) (wpAny_mono (hi pins s σ H _ I h) (fun v s1 h1=>wpAny_mono h1 (fun itv s2o h2=>?_) fun _ _ e=>e) fun _ _ e=>e);obtain ⟨it,fp,tn,J,H2o,e,I2o,T,st2o,f2o,W,w00,turn⟩:=h2;subst e;have freshO:H2o s2o.heap.objs.size=none:=I2o.hok.fresh (aab _);obtain ⟨m0,w0⟩:=w00 _ freshO;have obk:ObjOk X.prog X.w (upd H2o s2o.heap.objs.size ob) (s2o.heap.push { cls:=.type "dict",data:=.dict #[] }) s2o.heap.objs.size ob:=by
    rcases hob with rfl|rfl
    · exact oi s2o.heap I2o.big
    · exact t7 s2o.heap I2o.big
  have I2:=I2o.laid (a:=s2o.heap.objs.size) (o:=ob) (h':=s2o.heap.push { cls:=.type "dict",data:=.dict #[] }) (t':=s2o.toks) (fun _ _ q=>aak _ q) (aab _) obk;have st2:tn 0 (s2o.heap.push { cls:=.type "dict",data:=.dict #[] }):=T.keep _ _ _ st2o fun b _ o e=>aak _ e;have f2:∀ b∈fp,eI X pins (upd H2o s2o.heap.objs.size ob) b:=fun b hb=>by
    obtain ⟨h1,h2⟩:=f2o b hb;refine ⟨?_,h2⟩;rw [aI (fun z=>?_)]
    · exact h1
    · obtain ⟨o,e,_⟩:=T.obj _ _ st2o b hb;exact absurd (aas e) (by rw [z];exact abu _)
  refine wpAny_newObj_type ?_;have hsz0:(s2o.heap.push { cls:=.type "dict",data:=.dict #[] }).objs.size=s2o.heap.objs.size+1:=Heap.size_push _ _;generalize hs2:({ s2o with heap:=s2o.heap.push { cls:=.type "dict",data:=.dict #[] } }:Shared)=s2 at I2 st2 ⊢;generalize hHH:upd H2o s2o.heap.objs.size ob=H2 at I2 f2 w0;have hDs:s2.heap.objs.size=s2o.heap.objs.size+1:=by rw [← hs2];exact hsz0
  have st2:tn 0 s2.heap:=by rw [← hs2];exact st2
  generalize hDD:s2o.heap.objs.size=DD at freshO w0 hDs ⊢;refine wpAny_newFunctionEnv (mO hnc) (by intro y hy;simp at hy) (fun h₁ hns₁ hsb₁=>?_) hkind
  try dsimp only at hns₁ hsb₁ ⊢
  have B:=I2.blkC hci hkind hhas (aab _) (fun b o e=>hsb₁.extBut b o (aaD (aas e)) (aak _ e)) ⟨_,hns₁⟩;have fpl:=T.lt st2;obtain ⟨hbg,hbt,hbk,hbv⟩:=hb fp s2 H2 s2.heap.objs.size;have fpYs:∀ {H':Hp},(∀ b∈fp,H' b=none)→∀ b∈fp,eI (bh X scope cl NY fp s2 H2 s2.heap.objs.size) [] H' b:=fun hn=>I2.fps f2 fpl B (fun p hp=>by cases hp) hn;have IY0:=I2.blk f2 fpl B hcap df (P:=[]) (fun p hp=>by cases hp) (t':=s2.toks+([]:List (Str × Value)).length);have hcY:(bh X scope cl NY fp s2 H2 s2.heap.objs.size).calm=true:=hc;have stW:tn 0 h₁:=T.keep _ _ _ st2 fun b _ o e=>B.old b o e;have loop:∀ s₃:Shared,s₃={ s2 with heap:=h₁,toks:=s2.toks+([]:List (Str × Value)).length } →
      codeAny (model X.prog X.w) X.A (.compLoop (.DictComp kx vx [⟨tg,iter,ifs,0⟩] scope pos) 0 (.ref it) (.ref DD) (compEnvC scope cl s2.heap.objs.size X.env))
        (compPost (model X.prog X.w) X.A X.xe none (EP X pins σ Q) (.ref DD) s2.heap.objs.size) s₃:=by
    rintro s₃ rfl;refine pO (fun n s'=>∃ i H',Inv (bh X scope cl NY fp s2 H2 s2.heap.objs.size) [] (cm cap σ) H' s'∧tn i s'.heap∧(∀ b∈fp,H' b=none)∧W DD i n H') ?_ m0
      ⟨0,H2,IY0,stW,fun b hb=>(f2 b hb).1,w0⟩
    rintro n s3 ⟨i,H3,I3,st3,fr3,w3⟩;rcases turn DD i n H3 freshO w3 with ⟨stop,qn⟩|⟨go,step⟩
    · refine wpAny_mono (T.done (bh X scope cl NY fp s2 H2 s2.heap.objs.size) rfl rfl rfl hcY i _ s3 _ H3 (fun _ _=>False) I3 (fpYs fr3) st3 stop) (fun r s4 ⟨hr,I4⟩=>?_) fun _ _ z=>z;subst hr;obtain ⟨m,hnC,_⟩:=id I4.loc;exact ⟨m,hnC,fun h' hsb=>⟨.ref DD,H3,I2.offC (aab _) (I2.outB f2 I4) I4.free fun b o hb e=>hsb.extBut b o hb e,rfl,qn⟩⟩
    · refine wpAny_mono (T.item (bh X scope cl NY fp s2 H2 s2.heap.objs.size) rfl rfl rfl hcY i _ s3 _ H3 (fun _ _=>False) I3 (fpYs fr3) st3 go) (fun r s4 ⟨u,hr,h4⟩=>?_) fun _ _ z=>z;subst hr;refine wpAny_mono h4 (fun _ s5 ⟨x,H5,I5,r5,y5,st5,fr5⟩=>?_) fun _ _ z=>z;have I5':=I5.pinned (fpYs fr5) (T.obj _ _ st5);refine wpAny_mono (hbg _ s5 _ H5 x u _ I5' r5 (step x H5 y5)) (fun _ s6 ⟨σ6,H6,I6,q6⟩=>?_) fun _ _ z=>z;refine wpAny_mono (hbt _ s6 σ6 H6 _ I6 q6) (fun ok s7 ⟨H7,I7,q7⟩=>?_) fun _ _ z=>z;have again:∀ {σ':St} {H':Hp} {s':Shared},Inv (bh X scope cl NY fp s2 H2 s2.heap.objs.size) ([]++de fp s5.heap) σ' H' s' →
          (∃ m',m' < n∧W DD (i+1) m' H')→∃ m,m < n∧∃ i H',Inv (bh X scope cl NY fp s2 H2 s2.heap.objs.size) [] (cm cap σ) H' s'∧tn i s'.heap∧(∀ b∈fp,H' b=none)∧W DD i m H':=fun {σ' H' s'} Z hw=>by
        obtain ⟨m',hm,w'⟩:=hw;refine ⟨m',hm,i+1,H',I2.recap f2 B hcap df Z.unpinned,T.keep _ _ _ st5 fun b hb o e=>(Z.pin (b,o) (aag _ (aag _ (di hb e)))).1,fun b hb=>?_,w'⟩;obtain ⟨o,e,d⟩:=T.obj _ _ st5 b hb;exact (Z.pin (b,o) (aag _ (aag _ (di hb e)))).2.1
      cases ok with
      | false =>
        rw [if_neg aap] at q7 ⊢;exact again I7 q7
      | true =>
        rw [if_pos rfl] at q7 ⊢;refine wpAny_mono (hbk _ s7 σ6 H7 _ I7 q7) (fun kv s8 ⟨k,H8,I8,r8,q8⟩=>?_) fun _ _ z=>z;refine wpAny_mono (hbv _ s8 σ6 H8 _ I8 q8) (fun vv s9 ⟨v,H9,I9,r9,H10,put,q9⟩=>?_) fun _ _ z=>z;exact xh (X:=bh X scope cl NY fp s2 H2 s2.heap.objs.size) (A:=X.A) hu I9 put r8 r9 fun s10 I10=>again I10 q9
  exact codeAny_compStart_dict (loop _ rfl) (T.self _ 0 _ _ _ stW (loop _ rfl))
end
open PySem PySem.Spec PyProof.Rows
def oB (z:Str):It :=
  ⟨fun i _=>i < z.cps.size,fun i H x H'=>∃ p c,H p=none∧x=.ref p∧z.cps[i]?=some c∧H'=upd H p (.tup [.int i,.str ⟨#[c]⟩]),fun i _=>i=z.cps.size⟩
theorem oJ {P:Program} {w:World} {K:aaa} {elts:List Expr} {k:Nat} {pos:Pos} (z:Str) (t:Tok) (e it:Addr) (hei:e≠it):Turn P w K (.Tuple elts k pos) (oB z) [e,it] e (fun i h=>(∃ old,IsEnum h e it i old)∧h.IsStrIter it "str_ascii_iterator" z t i) where
  mem:=by simp
  obj:=fun i h st b hb=>by
    obtain ⟨⟨old,he⟩,o,e1,c,d⟩:=st;rcases aaj.mp hb with z|z
    · subst z;exact ⟨_,he,fun v z=>by cases z⟩
    · have z:b=it:=by simpa using z
      subst z;exact ⟨o,e1,fun v z=>by rw [d] at z;cases z⟩
  keep:=fun i h h' st kp=>by
    obtain ⟨⟨old,he⟩,o,e1,r⟩:=st;exact ⟨⟨old,kp e (by simp) _ he⟩,o,kp it (by simp) o e1,r⟩
  item:=by
    intro X hP hw hK hc i pins s σ H E I hf st hg;subst hP hw hK;have hg:i < z.cps.size:=hg;obtain ⟨⟨old,he⟩,hit⟩:=st;have helt:e < s.heap.objs.size:=aas he;have hilt:it < s.heap.objs.size:=by obtain ⟨_,x,_⟩:=hit;exact aas x
    refine wpAny_pyNext_enum_itemD (Draws.strAscii (A:=X.A.in1) (I.ok.hd hc) it z t) he hit hg hei (by simpa using hei) fun x h' tk hPx ho hit' hT hsz hk=>?_;obtain ⟨c,u,hcz,rfl⟩:=hPx;refine ⟨_,rfl,wpAny_letOwnedTupleGo_enum ho fun h'' he' hs'=>?_⟩;have hs2:acA e h' h'':=hs';have keep:∀ b o,b∉[e,it]→s.heap.get? b=some o→h''.get? b=some o:=fun b o hb q=>by
      have b1:b≠e:=fun z=>hb (by simp [z]);have b2:b≠it:=fun z=>hb (by simp [z]);exact (hs2.2 b b1).trans (hk b o b1 b2 q)
    have I1:Inv X pins σ H { s with heap:=h'',toks:=tk+1 }:=I.turnedL keep hf;have gT:h''.get? s.heap.objs.size=some { cls:=.type "tuple",data:=.seq #[.int i tk,.str ⟨#[c]⟩ u] }:=(hs2.2 _ (abv helt)).trans hT;have fresh:H s.heap.objs.size=none:=I.hok.fresh (aab _);have I2:=I1.adopt (a:=s.heap.objs.size) (o:=.tup [.int i,.str ⟨#[c]⟩]) fresh I.sz (abv I.lt) (fun y c e1=>by
        obtain ⟨v,q⟩:=I.cell y c e1;exact aaD q.lt) (fun q hq=>aaD (aas (I.pin q hq).1)) ⟨by show 2≤sizeLine;decide,[.int i tk,.str ⟨#[c]⟩ u],.cons ⟨_,rfl⟩ (.cons ⟨_,rfl⟩ .nil),⟨_,gT,rfl,_,rfl⟩⟩
    refine ⟨.ref s.heap.objs.size,_,I2,rfl,⟨_,c,fresh,rfl,hcz,rfl⟩,⟨⟨_,by simpa using he'⟩,?_⟩,fun b hb=>?_⟩
    · obtain ⟨o,ho2,r⟩:=hit';exact ⟨o,(hs2.2 it hei.symm).trans ho2,r⟩
    rw [aI]
    · exact (hf b hb).1
    · rcases aaj.mp hb with z|z
      · rw [z];exact aaD helt
      · have z:b=it:=by simpa using z
        rw [z];exact aaD hilt
  done:=by
    intro X hP hw hK hc i pins s σ H E I hf st hg;subst hP hw hK;have hg:i=z.cps.size:=hg;subst hg;obtain ⟨⟨old,he⟩,hit⟩:=st;refine wpAny_pyNext_enum_endD (Draws.strAscii (A:=X.A.in1) (I.ok.hd hc) it z t) he hit fun h' eb=>⟨rfl,I.turnedL (t':=s.toks) (fp:=[e,it]) (fun b o hb q=>eb b o (fun z=>hb (by simp [z])) q) hf⟩
  self:=fun _ _ _ _ _ st h=>by
    obtain ⟨⟨old,he⟩,_⟩:=st;exact wpAny_pyIter_enum he h
def wY (ta:TA):TI:=fun σ H R=>ta σ H fun vs H1=>∃ z,vs=[.str z]∧z.cps.all (· < 128)=true∧R (oB z) H1
theorem sL {X:Cx} {elts:List Expr} {k:Nat} {tpos:Pos} {a:Expr} {ta:TA} {p pos:Pos} (hg:Gl X "enumerate") (hm:X.mg "enumerate" = none) (ha:PA X [a] ta) (hs:starEach [a] X.env=[(false,eval a X.env)]:=by rfl):PI X (.Tuple elts k tpos) (.Call (.Name "enumerate" p) [a] [] pos) (wY ta):=by
  intro pins s σ H R I h;refine Call_ (fh I hg hm boot_enumerate (aa3 (thn (ha pos pins s σ H _ I h) fun us s1 ⟨vs,H1,I1,r1,q1⟩=>?_) hs rfl));obtain ⟨z,e,hasc,q⟩:=q1;subst e;obtain ⟨u,rfl,ru⟩:=cH r1;obtain ⟨t,rfl⟩:=ru;refine call_enumerate_str fun h' he hit hsz hk=>?_;have hty:strIterType z = "str_ascii_iterator":=by
    unfold strIterType
    first
      | rw [if_pos hasc]
      | simp [hasc]
  rw [hty] at hit;refine wpAny_pyIter_enum (s:={ s1 with heap:=h' }) he ?_;have I2:Inv X pins σ H1 { s1 with heap:=h' }:=I1.kept (t':=s1.toks) hk;refine ⟨s1.heap.objs.size+1,[s1.heap.objs.size+1,s1.heap.objs.size],_,_,H1,rfl,I2,oJ z t _ _ (Nat.succ_ne_self _),⟨⟨_,he⟩,hit⟩,fun b hb=>?_,q⟩;have hb2:s1.heap.objs.size≤b:=by
    rcases aaj.mp hb with z|z
    · rw [z];exact Nat.le_succ _
    · have z:b=s1.heap.objs.size:=by simpa using z
      rw [z];exact aab _
  exact I1.fpOk hb2 (I1.hok.fresh hb2)
theorem rL {z:Str} {g:TG} {tb:TS} {D:Ends} {σ:St} {H:Hp} (Pv:Nat→St→Hp→Prop) (h0:Pv 0 σ H)
    (hs:∀ i c p σ H,z.cps[i]?=some c→Pv i σ H→H p=none→g (.ref p) σ (upd H p (.tup [.int i,.str ⟨#[c]⟩])) fun σ2 H2=>tb { D with nx:=Pv (i+1),ct:=Pv (i+1),bk:=D.nx } σ2 H2) (hd:∀ σ H,Pv z.cps.size σ H→D.nx σ H) :
    ∃ W:Nat→Nat→St→Hp→Prop,(∃ m,W 0 m σ H)∧∀ i m σ H,W i m σ H →
      ((oB z).stop i H∧D.nx σ H)∨((oB z).go i H∧∃ N:St→Hp→Prop,(∀ σ' H',N σ' H'→∃ m',m' < m∧W (i+1) m' σ' H')∧∀ x H',(oB z).yld i H x H'→g x σ H' fun σ2 H2=>tb { D with nx:=N,ct:=N,bk:=D.nx } σ2 H2):=by
  refine ⟨fun i m σ H=>m=z.cps.size - i∧i≤z.cps.size∧Pv i σ H,⟨z.cps.size,by simp,aaK _,h0⟩,?_⟩;rintro i m σ H ⟨rfl,hi,p⟩;by_cases hlt:i < z.cps.size
  · refine .inr ⟨hlt,Pv (i+1),fun σ' H' p'=>⟨z.cps.size - (i+1),by lia,rfl,hlt,p'⟩,fun x H' y=>?_⟩;obtain ⟨pa,c,n,e1,hc,e2⟩:=y;subst e1 e2;exact hs i c pa σ _ hc p n
  · have e:i=z.cps.size:=by lia
    subst e;exact .inl ⟨rfl,hd σ H p⟩
section
variable {X:Cx} {o e:Expr} {es:List Expr} {to:TE} {t:TA} {name:Str} {apos cpos:Pos} {T id:String} {r:V→List V→Hp→VK→Prop} {K:aaa}
theorem wD (hK:X.K=K) (pa:PlainAttrs T) (slot:Slot T name id) (hty:typeOf (.builtin id)=pure (.type "method_descriptor")) (hm:MtR X id r) (ho:PE X o to) (ha:PA X (e :: es) t)
    (hbase:attributeBase o name X.env (eval o X.env)=eval o X.env:=by rfl)
    (hfew:((backTo cpos (starEach (e :: es) X.env)).all (fun x=>!x.1) && (backToKw cpos (keywordEach [] X.env)).all (fun x=>x.1.isSome)
      && decide ((e :: es).length+([]:List Keyword).length+(if ([]:List Keyword).isEmpty then 0 else 1) < 30))=true:=by rfl)
    (hline:(apos.endLine == cpos.line)=true:=by rfl) (hs:starEach (e :: es) X.env=(false,eval e X.env) :: starEach es X.env:=by rfl) (hplain:(backTo cpos (starEach es X.env)).any (·.1)=false:=by rfl) :
    PE X (.Call (.Attribute o name apos) (e :: es) [] cpos) (tBM K T r to t):=by
  subst hK;exact bV pa slot hty hm ho ha hbase hfew hline hs hplain
end
open PySem PySem.Spec PyProof.Rows
structure Trn (J:It) (n:Nat) (Kp:Hp→Prop) (item:Nat→V→Hp→Hp→Prop):Prop where
  go:∀ i H,i < n→Kp H→J.go i H
  stop:∀ H,Kp H→J.stop n H
  yld:∀ i H x H',i < n→Kp H→J.yld i H x H'→item i x H H'
theorem Trn.list {K:aaa} {a:Addr} {xs:List V}:Trn (Itl K a) xs.length (fun H=>SqL K H a xs) (fun i x H H'=>H'=H∧xs[i]?=some x) :=
  ⟨fun i H hi q=>⟨xs,xs[i],q,by simp [hi]⟩,fun H q=>⟨xs,q,aab _⟩,fun i H x H' hi q y=>⟨y.1,y.2 xs q⟩⟩
theorem Trn.tup {K:aaa} {a:Addr} {xs:List V}:Trn (Itt K a) xs.length (fun H=>SqT K H a xs) (fun i x H H'=>H'=H∧xs[i]?=some x) :=
  ⟨fun i H hi q=>⟨xs,xs[i],q,by simp [hi]⟩,fun H q=>⟨xs,q,aab _⟩,fun i H x H' hi q y=>⟨y.1,y.2 xs q⟩⟩
theorem Trn.range {lo:Int} {n:Nat}:Trn (Itr lo n) n (fun _=>True) (fun i x H H'=>H'=H∧x=.int (lo+i)) :=
  ⟨fun i H hi _=>hi,fun H _=>aab _,fun i H x H' hi _ y=>y⟩
theorem d5 {J:It} {n:Nat} {Kp:Hp→Prop} {item:Nat→V→Hp→Hp→Prop} (T:Trn J n Kp item) {cap:List (Option Nat)} {g:TG} {tt:TT} {te:TE} {σ:St} {H:Hp} {Q:VK} (Pv:Nat→List V→Hp→Prop) (h0:Pv 0 [] H) (hk:∀ i ys H,i≤n→Pv i ys H→Kp H∧ys.length < sizeLine)
    (hs:∀ i x ys H H',i < n→item i x H H'→Pv i ys H→∀ Nx:List V→Hp→Prop,(∀ ys' H2,Pv (i+1) ys' H2→Nx ys' H2)→g x (cm cap σ) H' fun σ2 H2=>tt σ2 H2 fun b H3=>if b=true then te σ2 H3 fun v H4=>Nx (ys++[v]) H4 else Nx ys H3)
    (hd:∀ ys H,Pv n ys H→∀ p,H p=none→Q (.ref p) (upd H p (.lst ys))):vD cap g tt te σ Q J H:=by
  refine ⟨fun i m ys H=>m=n - i∧i≤n∧Pv i ys H,⟨n,by simp,aaK _,h0⟩,?_⟩;rintro i m ys H ⟨rfl,hi,p⟩;by_cases hlt:i < n
  · refine .inr ⟨T.go i H hlt (hk i ys H hi p).1,(hk i ys H hi p).2,fun x H' y=>?_⟩;exact hs i x ys H H' hlt (T.yld i H x H' hlt (hk i ys H hi p).1 y) p (fun ys' H4=>∃ m',m' < n - i∧m'=n - (i+1)∧i+1≤n∧Pv (i+1) ys' H4) fun ys' H2 h=>⟨_,by lia,rfl,hlt,h⟩
  · have e:i=n:=by lia
    subst e;exact .inl ⟨T.stop H (hk _ ys H hi p).1,hd ys H p⟩
theorem wP {J:It} {n:Nat} {Kp:Hp→Prop} {item:Nat→V→Hp→Hp→Prop} (T:Trn J n Kp item) {cap:List (Option Nat)} {g:TG} {tt:TT} {wi2:TI} {g2:TG} {tt2:TT} {te:TE} {σ:St} {H:Hp} {Q:VK} (Pv:Nat→List V→Hp→Prop) (h0:Pv 0 [] H) (hk:∀ i ys H,i≤n→Pv i ys H→Kp H)
    (hs:∀ i x ys H H',i < n→item i x H H'→Pv i ys H→∀ Nx:List V→Hp→Prop,(∀ ys' H2,Pv (i+1) ys' H2→Nx ys' H2)→g x (cm cap σ) H' fun σ2 H2=>tt σ2 H2 fun b H3=>if b=true then wi2 σ2 H3 (vO g2 tt2 te ys σ2 Nx) else Nx ys H3)
    (hd:∀ ys H,Pv n ys H→∀ p,H p=none→Q (.ref p) (upd H p (.lst ys))):vQ cap g tt wi2 g2 tt2 te σ Q J H:=by
  refine ⟨fun i m ys H=>m=n - i∧i≤n∧Pv i ys H,⟨n,by simp,aaK _,h0⟩,?_⟩;rintro i m ys H ⟨rfl,hi,p⟩;by_cases hlt:i < n
  · refine .inr ⟨T.go i H hlt (hk i ys H hi p),fun x H' y=>?_⟩;exact hs i x ys H H' hlt (T.yld i H x H' hlt (hk i ys H hi p) y) p (fun ys' H4=>∃ m',m' < n - i∧m'=n - (i+1)∧i+1≤n∧Pv (i+1) ys' H4) fun ys' H2 h=>⟨_,by lia,rfl,hlt,h⟩
  · have e:i=n:=by lia
    subst e;exact .inl ⟨T.stop H (hk _ ys H hi p),hd ys H p⟩
theorem wM {J:It} {n:Nat} {Kp:Hp→Prop} {item:Nat→V→Hp→Hp→Prop} (T:Trn J n Kp item) {g2:TG} {tt2:TT} {te:TE} {ys:List V} {σ:St} {H:Hp} {Fin:List V→Hp→Prop} (Pv:Nat→List V→St→Hp→Prop) (h0:Pv 0 ys σ H) (hk:∀ i ys σ H,i≤n→Pv i ys σ H→Kp H∧ys.length < sizeLine)
    (hs:∀ i x ys σ H H',i < n→item i x H H'→Pv i ys σ H→∀ Nx:List V→St→Hp→Prop,(∀ ys' σ' H2,Pv (i+1) ys' σ' H2→Nx ys' σ' H2)→g2 x σ H' fun σ3 H5=>tt2 σ3 H5 fun b H6=>if b=true then te σ3 H6 fun v H7=>Nx (ys++[v]) σ3 H7 else Nx ys σ3 H6)
    (hd:∀ ys σ H,Pv n ys σ H→Fin ys H):vO g2 tt2 te ys σ Fin J H:=by
  refine ⟨fun i m ys σ H=>m=n - i∧i≤n∧Pv i ys σ H,⟨n,by simp,aaK _,h0⟩,?_⟩;rintro i m ys σ H ⟨rfl,hi,p⟩;by_cases hlt:i < n
  · refine .inr ⟨T.go i H hlt (hk i ys σ H hi p).1,(hk i ys σ H hi p).2,fun x H' y=>?_⟩;exact hs i x ys σ H H' hlt (T.yld i H x H' hlt (hk i ys σ H hi p).1 y) p (fun ys' σ' H4=>∃ m',m' < n - i∧m'=n - (i+1)∧i+1≤n∧Pv (i+1) ys' σ' H4) fun ys' σ' H2 h=>⟨_,by lia,rfl,hlt,h⟩
  · have e:i=n:=by lia
    subst e;exact .inl ⟨T.stop H (hk _ ys σ H hi p).1,hd ys σ H p⟩
theorem yg {J:It} {n:Nat} {Kp:Hp→Prop} {item:Nat→V→Hp→Hp→Prop} (T:Trn J n Kp item) {cap:List (Option Nat)} {g:TG} {tt:TT} {tk tv:TE} {ob:HO} {σ:St} {H:Hp} {Q:VK} (Pv:Addr→Nat→Hp→Prop) (h0:∀ p,H p=none→Pv p 0 (upd H p ob)) (hk:∀ p i H,i≤n→Pv p i H→Kp H)
    (hs:∀ p i x H1 H',H p=none→i < n→item i x H1 H'→Pv p i H1→∀ Nx:Hp→Prop,(∀ H2,Pv p (i+1) H2→Nx H2)→g x (cm cap σ) H' fun σ2 H2=>tt σ2 H2 fun b H3=>if b=true then tk σ2 H3 fun k H4=>tv σ2 H4 fun v H5=>∃ H6,DPut H5 p k v H6∧Nx H6 else Nx H3)
    (hd:∀ p H1,H p=none→Pv p n H1→Q (.ref p) H1):yn cap g tt tk tv ob σ Q J H:=by
  refine ⟨fun p i m H1=>m=n - i∧i≤n∧Pv p i H1,fun p hp=>⟨n,by simp,aaK _,h0 p hp⟩,?_⟩;rintro p i m H1 hp ⟨rfl,hi,q⟩;by_cases hlt:i < n
  · refine .inr ⟨T.go i H1 hlt (hk p i H1 hi q),fun x H' y=>?_⟩;exact hs p i x H1 H' hp hlt (T.yld i H1 x H' hlt (hk p i H1 hi q) y) q (fun H4=>∃ m',m' < n - i∧m'=n - (i+1)∧i+1≤n∧Pv p (i+1) H4) fun H2 h=>⟨_,by lia,rfl,hlt,h⟩
  · have e:i=n:=by lia
    subst e;exact .inl ⟨T.stop H1 (hk p _ H1 hi q),hd p H1 hp q⟩
theorem qx {X:Cx} {K:aaa} (hK:X.K=K):IxR X (rIx K):=by subst hK;exact wU
open PySem PySem.Spec PyProof.Rows
open PySem PySem.Spec PyProof.Rows
section
variable {X:Cx}
end
open PySem PySem.Spec PyProof.Rows
section
variable {X:Cx} {a b c d e:Expr} {ta tb tc td te:TE} {pos:Pos}
end
end L2
namespace L2
open PySem PySem.Spec PyProof.Rows PySem.W
def cdO (c:Addr) (qual:Str):HO:=.ext fun h=>h.CodeRec (.ref c) qual
structure LTab (P:Addr) (qual:Str) (H:Hp) (ps:Array Value):Prop where
  tab:H P=some (.tbl ps)
  tri:TriplesOk ps.toList
  cds:∀ pos cv,codeAmong pos ps.toList=some cv→∃ c',cv=.ref c'∧H c'=some (cdO c' qual)
section
variable {X:Cx} {pins:List (Addr × Obj)} {σ:St} {H:Hp} {s:Shared}
end
section
variable {CX:CXT} {P:Program} {w:World} {K:aaa} {mg:Str→Option Value} {base:Heap} {k:Nat}
end
section
variable {X:Cx} {pins pl:List (Addr × Obj)} {σ:St} {H:Hp} {s:Shared}
end
section
variable {X:Cx}
end
end L2
namespace L2
open PySem PySem.Spec PyProof.Rows PySem.W
section
variable {X:Cx} {pins pl:List (Addr × Obj)} {σ:St} {H:Hp} {s:Shared}
end
section
variable {X:Cx}
end
end L2
namespace L2
open PySem PySem.Spec PyProof.Rows PySem.W
structure FunC (K:aaa) (x qual:Str) (st:Stmt) (f:Addr) (fd:FuncData) (c:Addr):Prop where
  ex:∃ (oc:Value) (od:Option Addr) (kV doc pm:Value) (an:Option Addr) (ct:Value) (osl:Array (Option Value)),
    fd=abw x qual (dq st) (cK st) (aq st) .none kV doc pm an (.ref c) ct∧K.lookup f=some ⟨oc,od,.func fd,osl⟩∧abX K (.ref c) qual=true
  kp:abm K (.ref f)=true
section
variable {P:Program} {w:World} {K:aaa} {mg:Str→Option Value} {base:Heap}
end
open PySem PySem.Spec PyProof.Rows
open PySem PySem.Spec PyProof.Rows
open PySem PySem.Spec PyProof.Rows
open PySem PySem.Spec PyProof.Rows
section
variable {prog:Program} {w:World} {A:Around} {E:Value→Shared→Prop} {s:Shared}
end
def Ent (P:Program) (w:World) (d:Addr) (o:Obj) (u:HO) (n:Nat) (rw:Nat→V→V→Hp→Prop) (es:Array DictEntry) (ep:Nat):Prop :=
  o.data=.dict es ep∧es.size=n∧∀ H h,HOk P w H h→H d=some (.frz o u)→h.get? d=some o∧∀ i e,es[i]?=some e→∃ k y,RelV k e.key∧RelV y e.val∧rw i k y H
theorem tU {J:It} {n:Nat} {Kp:Hp→Prop} {item:Nat→V→Hp→Hp→Prop} (T:Trn J n Kp item) {g:TG} {tb:TS} {D:Ends} {σ:St} {H:Hp} (Pv:Nat→St→Hp→Prop) (h0:Pv 0 σ H) (hk:∀ i σ H,i≤n→Pv i σ H→Kp H)
    (hs:∀ i x σ H H',i < n→item i x H H'→Pv i σ H→g x σ H' fun σ2 H2=>tb { D with nx:=Pv (i+1),ct:=Pv (i+1),bk:=D.nx } σ2 H2) (hd:∀ σ H,Pv n σ H→D.nx σ H) :
    ∃ W:Nat→Nat→St→Hp→Prop,(∃ m,W 0 m σ H)∧∀ i m σ H,W i m σ H →
      (J.stop i H∧D.nx σ H)∨(J.go i H∧∃ N:St→Hp→Prop,(∀ σ' H',N σ' H'→∃ m',m' < m∧W (i+1) m' σ' H')∧∀ x H',J.yld i H x H'→g x σ H' fun σ2 H2=>tb { D with nx:=N,ct:=N,bk:=D.nx } σ2 H2):=by
  refine ⟨fun i m σ H=>m=n - i∧i≤n∧Pv i σ H,⟨n,by simp,aaK _,h0⟩,?_⟩;rintro i m σ H ⟨rfl,hi,p⟩;have q:=hk i σ H hi p;by_cases hlt:i < n
  · exact .inr ⟨T.go i H hlt q,Pv (i+1),fun σ' H' p'=>⟨n - (i+1),by lia,rfl,hlt,p'⟩,fun x H' y=>hs i x σ H H' hlt (T.yld i H x H' hlt q y) p⟩
  · have e:i=n:=by lia
    subst e;exact .inl ⟨T.stop H q,hd σ H p⟩
end L2
namespace PySem
open Sem (wp)
namespace F
end F
section
variable {prog:Program} {w:World} {A:Around} {E:Value→Shared→Prop} {h:Heap} {g:Array GenState} {d:Drawn} {t:Nat} {os:OsState} {a:Addr} {xs:Array Value} {k:Nat}
end
end PySem
namespace L2
open PySem PySem.Spec PyProof.Rows
section
variable {prog:Program} {w:World} {A:Around} {E:Value→Shared→Prop} {s:Shared}
end
open PySem PySem.Spec PyProof.Rows
section
variable {X:Cx}
end
structure FunD (K:aaa) (x qual:Str) (st:Stmt) (f:Addr) (fd:FuncData) (tD:Addr):Prop where
  ex:∃ (oc:Value) (od:Option Addr) (kV doc pm:Value) (an:Option Addr) (cdv ct:Value) (osl:Array (Option Value)),
    fd=abw x qual (dq st) (cK st) (aq st) (.ref tD) kV doc pm an cdv ct∧K.lookup f=some ⟨oc,od,.func fd,osl⟩∧abX K cdv qual=true
  kp:abm K (.ref f)=true
section
variable {P:Program} {w:World} {K:aaa} {mg:Str→Option Value} {base:Heap}
end
open PySem PySem.Spec PyProof.Rows
section
variable {X:Cx} {tg:Expr}
end
open PySem PySem.Spec PyProof.Rows
end L2
namespace L2
open PySem PySem.Spec PyProof.Rows PySem.W
section
variable {prog:Program} {w:World} {A:Around} {E:Value→Shared→Prop} {s:Shared}
end
open PySem PySem.Spec PyProof.Rows
def wN (e l:Nat→Bool) (n m:Nat):Nat→Nat→Bool
  | _,0=>decide (n < m)
  | j,k+1=>if e j=true then wN e l n m (j+1) k else l j
section
open PySem.SeqAt
open PySem.AutoSeq1 (wpAny_loadPart')
open PySem.MeetsSeq PySem.MeetsSeq2 PySem.MeetsSeq3
end
inductive LtR (K:aaa) (H:Hp):Nat→V→V→Bool→Prop
  | int {n:Nat} {a b:Int}:LtR K H n (.int a) (.int b) (decide (a < b))
  | tup {n:Nat} {a b:Addr} {xs ys:List V} {e l:Nat→Bool} (ha:SqT K H a xs) (hb:SqT K H b ys) (h:∀ (j:Nat) x y,xs[j]?=some x→ys[j]?=some y→EqR K H n x y (e j)) (hl:∀ (j:Nat) x y,xs[j]?=some x→ys[j]?=some y→e j=false→LtR K H n x y (l j)) :
      LtR K H (n+1) (.ref a) (.ref b) (wN e l xs.length ys.length 0 (min xs.length ys.length))
section
variable {X:Cx} {pins:List (Addr × Obj)} {σ:St} {H:Hp} {s:Shared}
end
section
variable {X:Cx}
end
open PySem PySem.Spec PyProof.Rows
def Fq (K:aaa) (x:Str) (s:Stmt) (f:Addr):Prop:=aat K mainGlobals x=some (some (.ref f))∧∃ fd,Fun K x x s f fd
theorem Fq.mk4 {K:aaa} {x:Str} {st:Stmt} {f:Addr} {oc:Value} {od an:Option Addr} {osl:Array (Option Value)} {kV doc pm cdv ct:Value} (a:aat K mainGlobals x=some (some (.ref f))) (l:K.lookup f=some ⟨oc,od,.func (abw x x (dq st) (cK st) (aq st) .none kV doc pm an cdv ct),osl⟩)
    (c:abX K cdv x=true) (k:abm K (.ref f)=true):Fq K x st f:=⟨a,_,tT l c k⟩
theorem Fq.use {K:aaa} {x:Str} {st:Stmt} {f:Addr} {h:Heap} {mg:Str→Option Value} (q:Fq K x st f) (X:K.In h) (G:h.Ns mainGlobals mg) {ps:List Str}
    (hb:∀ (kV doc pm:Value) (an:Option Addr) (cdv ct:Value) (us:List Value),us.length=ps.length→bindArgs (abw x x (dq st) (cK st) (aq st) .none kV doc pm an cdv ct) ⟨us,[]⟩=pure (ps.zip us)):∃ fd,Fun K x x st f fd∧Binds K fd ps []∧mg x=some (.ref f):=by
  obtain ⟨a,fd,F⟩:=q;exact ⟨fd,F,F.binds hb,aaS X G a⟩
end L2
namespace Tim
open PySem PyProof.Rows
structure Ord (M:Model) (A:Around) (E:Value→Shared→Prop) (s:Shared) (κ:SortKind) (P:Keyed→Prop) (lt:Keyed→Keyed→Bool):Prop where
  ask:∀ {x y:Keyed} {st:SortSt} {Q:Option Bool→SortSt→Prop},P x→P y→kindOf st=κ→Q (some (lt x y)) st→wpS M A E s (lt' x y) Q st
  asym:∀ {x y:Keyed},P x→P y→lt x y=true→lt y x=false
  trans:∀ {x y z:Keyed},P x→P y→P z→lt y x=false→lt z y=false→lt z x=false
section
variable {M:Model} {A:Around} {E:Value→Shared→Prop} {s:Shared} {κ:SortKind} {P:Keyed→Prop} {lt:Keyed→Keyed→Bool}
structure Bnd (B:Nat→Bool) (n k:Nat):Prop where
  le:k≤n
  lo:∀ i,i < k→B i=true
  hi:∀ i,k≤i→i < n→B i=false
end
end Tim
namespace Tim
open PySem PyProof.Rows
def Le (lt:Keyed→Keyed→Bool) (x y:Keyed):Prop:=lt y x=false
structure Mg (lt:Keyed→Keyed→Bool) (a b out:List Keyed) (ia ib:Nat):Prop where
  ha:ia≤a.length
  hb:ib≤b.length
  perm:out.Perm (a.take ia++b.take ib)
  srt:out.Pairwise (Le lt)
  le:∀ x∈out,∀ y,(y∈a.drop ia∨y∈b.drop ib)→Le lt x y
section
variable {lt:Keyed→Keyed→Bool} {a b out:List Keyed} {ia ib:Nat}
end
structure SameS (st st':SortSt):Prop where
  arr:arrOf st'=arrOf st
  pend:pendingOf st'=pendingOf st
  kind:kindOf st'=kindOf st
  fail:failedOf st'=failedOf st
section
variable {M:Model} {A:Around} {E:Value→Shared→Prop} {s:Shared} {κ:SortKind} {P:Keyed→Prop} {lt:Keyed→Keyed→Bool}
end
end Tim
namespace Tim
open PySem PyProof.Rows
structure Mh (lt:Keyed→Keyed→Bool) (a b out:List Keyed) (na nb:Nat):Prop where
  ha:na≤a.length
  hb:nb≤b.length
  perm:out.Perm (a.drop na++b.drop nb)
  srt:out.Pairwise fun x y=>Le lt y x
  le:∀ x∈out,∀ y,(y∈a.take na∨y∈b.take nb)→Le lt y x
section
variable {lt:Keyed→Keyed→Bool} {a b out:List Keyed} {na nb:Nat}
end
section
variable {M:Model} {A:Around} {E:Value→Shared→Prop} {s:Shared} {κ:SortKind} {P:Keyed→Prop} {lt:Keyed→Keyed→Bool}
end
end Tim
namespace Tim
open PySem PyProof.Rows
def seg (L:List Keyed) (s n:Nat):List Keyed:=(L.drop s).take n
structure Mrgd (lt:Keyed→Keyed→Bool) (L L':List Keyed) (s n:Nat):Prop where
  ex:∃ R,R.Perm (seg L s n)∧R.Pairwise (Le lt)∧L'=L.take s++R++L.drop (s+n)
section
variable {M:Model} {A:Around} {E:Value→Shared→Prop} {s:Shared} {κ:SortKind} {P:Keyed→Prop} {lt:Keyed→Keyed→Bool}
end
end Tim
namespace Tim
open PySem PyProof.Rows
def vx (a:Array Keyed) (i:Nat):Keyed:=(a[i]?).getD (Value.none,Value.none)
section
variable (lt:Keyed→Keyed→Bool)
def Up (a:Array Keyed) (lo n:Nat):Prop:=∀ i j,i < j→j < n→Le lt (vx a (lo+i)) (vx a (lo+j))
end
structure Kp (a a':Array Keyed) (lo:Nat):Prop where
  perm:a'.Perm a
  low:∀ k,k < lo→a'[k]?=a[k]?
structure SameA (st st':SortSt):Prop where
  pend:pendingOf st'=pendingOf st
  kind:kindOf st'=kindOf st
  fail:failedOf st'=failedOf st
section
variable {M:Model} {A:Around} {E:Value→Shared→Prop} {s:Shared} {κ:SortKind} {P:Keyed→Prop} {lt:Keyed→Keyed→Bool}
end
end Tim
namespace Tim
open PySem PyProof.Rows
section
variable {M:Model} {A:Around} {E:Value→Shared→Prop} {s:Shared} {κ:SortKind} {P:Keyed→Prop} {lt:Keyed→Keyed→Bool}
end
def Runs (lt:Keyed→Keyed→Bool) (a:Array Keyed):List (Nat × Nat × Nat)→Nat→Nat→Prop
  | [],f,t=>f=t
  | (s,n,_) :: r,f,t=>s=f∧1≤n∧Up lt a s n∧Runs lt a r (s+n) t
section
variable {lt:Keyed→Keyed→Bool} {a a':Array Keyed}
end
end Tim
namespace Tim
open PySem PyProof.Rows
structure SI (κ:SortKind) (lt:Keyed→Keyed→Bool) (a₀:Array Keyed) (st:SortSt) (lo:Nat):Prop where
  kind:kindOf st=κ
  fail:failedOf st=none
  perm:(arrOf st).Perm a₀
  runs:Runs lt (arrOf st) (pendingOf st).toList 0 lo
  le:lo≤a₀.size
section
variable {M:Model} {A:Around} {E:Value→Shared→Prop} {s:Shared} {κ:SortKind} {P:Keyed→Prop} {lt:Keyed→Keyed→Bool} {a₀:Array Keyed}
end
end Tim
namespace Tim
open PySem PyProof.Rows
section
variable {prog:Program} {w:World} {A:Around} {E:Value→Shared→Prop} {s:Shared}
end
end Tim
namespace L2
open PySem PySem.Spec PyProof.Rows
open PySem PySem.Spec PyProof.Rows
open PySem PySem.Spec PyProof.Rows
section
variable {prog:Program} {w:World} {A:Around} {E:Value→Shared→Prop} {s:Shared}
end
end L2
namespace L2
open PySem
def yj (xs:Array Nat):Prop:=xs.toList.Pairwise (· < ·)
def Okm (m:Nat):Prop:=m=7∨m=15∨m=31∨m=63∨m=127∨m=255∨m=511∨m=1023
def lp (m:Nat):Nat→Nat→Nat→Nat × Nat
  | 0,i,p=>(i,p)
  | L+1,i,p=>lp m L ((i * 5+1+p / 32) % (m+1)) (p / 32)
end L2
namespace L2
open PySem
end L2
namespace L2
open PySem
structure GT (n:Nat) (b:Bool) (t:SetTable):Prop where
  okm:Okm t.mask
  dum:t.dummies=#[]
  pl:t.plain=true
  rise:yj t.place
  size:t.place.size=n
  led:t.led=b
  room:n * 5 < t.mask * 3
structure GT1 (n:Nat) (b:Bool) (t:SetTable):Prop where
  okm:Okm t.mask
  dum:t.dummies=#[]
  pl:t.plain=true
  rise:yj t.place
  size:t.place.size=n
  led:t.led=b
  room:(n - 1) * 5 < t.mask * 3
open PySem PySem.Spec PyProof.Rows
section
variable {prog:Program} {w:World} {A:Around} {E:Value→Shared→Prop} {s:Shared}
end
end L2
set_option maxHeartbeats 3200000
namespace L2
open PySem PySem.Spec PyProof.Rows
section
variable {prog:Program} {w:World} {A:Around} {E:Value→Shared→Prop} {s:Shared}
variable {R:Result→Shared→Prop} {I:Addr} {fp wr:List Addr} {G:Array GenState→Array GenState→Prop} {n:Nat} {P:Nat→Value→Prop} {St:Nat→Shared→Prop}
end
section
variable {prog:Program} {w:World} {A:Around} {E:Value→Shared→Prop} {s:Shared}
end
open PySem PySem.Spec PyProof.Rows
section
variable {prog:Program} {w:World} {A:Around} {E:Value→Shared→Prop} {s:Shared}
end
end L2
namespace PySem.F
end PySem.F
namespace L2
open PySem PySem.Spec PyProof.Rows
section
variable {prog:Program} {w:World} {A:Around} {E:Value→Shared→Prop} {s:Shared}
end
open PySem PySem.Spec PyProof.Rows
section
variable {prog:Program} {w:World} {A:Around} {E:Value→Shared→Prop} {s:Shared}
end
open PySem PySem.Spec PyProof.Rows
end L2
namespace PySem.F
end PySem.F
namespace L2
open PySem PySem.Spec PyProof.Rows
structure SI (prog:Program) (w:World) (h:Heap) (a:Addr) (o:Obj) (es:Array (Int × Value)) (ep:Nat) (t:SetTable):Prop where
  at':h.get? a=some o
  ex:o.ExactSet
  dat:o.data=.set es ep t
  fit:t.fits es.size=true
  els:ElemsOf (intKind prog w) es.toList
  few:es.size < scanBound
section
variable {prog:Program} {w:World} {A:Around} {E:Value→Shared→Prop} {s:Shared}
end
open PySem PySem.Spec PyProof.Rows
section
variable {prog:Program} {w:World} {A:Around} {E:Value→Shared→Prop} {s:Shared}
end
open PySem PySem.Spec PyProof.Rows
section
variable {prog:Program} {w:World} {A:Around} {E:Value→Shared→Prop} {s:Shared}
end
open PySem PySem.Spec PyProof.Rows
section
variable {prog:Program} {w:World} {A:Around} {E:Value→Shared→Prop} {s:Shared}
end
open PySem PySem.Spec PyProof.Rows
section
variable {prog:Program} {w:World} {A:Around} {E:Value→Shared→Prop} {s:Shared}
end
open PySem PySem.Spec PyProof.Rows
section
variable {prog:Program} {w:World} {A:Around} {E:Value→Shared→Prop} {s:Shared}
end
open PySem PySem.Spec PyProof.Rows
open PySem PySem.Spec PyProof.Rows
open PySem PySem.Spec PyProof.Rows
open PySem PySem.Spec PyProof.Rows
open PySem PySem.Spec PyProof.Rows
section
variable {X:Cx}
end
open PySem PySem.Spec PyProof.Rows
theorem mj {H:Hp}:∀ {xs:List V} {its:List Value},Vals xs its→(its.any fun u=>decide (u=Value.none))=decide (V.non∈xs)
  | _,_,.nil=>by simp
  | _,_,.cons (a:=x) (b:=u) h t=>by
    rw [abU,mj (H:=H) t,aaH];simp only [Bool.or_eq_true,decide_eq_true_eq,aaj];refine or_congr ⟨fun e=>?_,fun e=>?_⟩ Iff.rfl
    · subst e;cases x with
      | non=>rfl
      | ref a=>exact nomatch (show Value.none=Value.ref a from h)
      | bl b=>exact nomatch (show Value.none=Value.bool b from h)
      | int i=>obtain ⟨t,q⟩:=(show ∃ t,Value.none=Value.int i t from h);cases q
      | str i=>obtain ⟨t,q⟩:=(show ∃ t,Value.none=Value.str i t from h);cases q
      | flt i=>obtain ⟨t,q⟩:=(show ∃ t,Value.none=Value.float i t from h);cases q
      | ty i=>exact nomatch (show Value.none=Value.type i from h)
      | _=>first|exact nomatch h|(obtain ⟨t,q⟩:=h;cases q)
    · rw [← e] at h;exact h
def yA (K:aaa):R2:=fun x y H Q=>∃ (l:Addr) (xs:List V),x=.non∧y=.ref l∧SqL K H l xs∧(∀ v∈xs,v=.non∨∃ a ys,v=.ref a∧SqT K H a ys)∧Q (.bl (decide (V.non∈xs))) H
theorem sR {X:Cx} {K:aaa} (hK:X.K=K) (hu:X.A.units+64 < cLine):OpR X (compareOp .In) (yA K):=by
  subst hK;intro pins s σ H x y v u Q I rx ry h;obtain ⟨l,xs,rfl,rfl,hq,hx,q⟩:=h;cases rx;cases ry;obtain ⟨its,r,pl,hz⟩:=I.list hq;refine SeqAt.in_listAt (fun u=>decide (u=Value.none)) pl.isList (fun w hw=>?_) ⟨.bl _,H,I,rfl,?_⟩
  · obtain ⟨j,hj,ej⟩:=Array.getElem_of_mem hw;obtain ⟨x,hxj,rx⟩:=cg r hj;rw [ej] at rx;rcases hx x (aaM hxj) with rfl|⟨a,ys,rfl,ht⟩
    · cases rx;rw [decide_eq_true rfl];exact acq _
    · cases rx;obtain ⟨its2,r2,pl2,_⟩:=I.tuple ht;rw [decide_eq_false (fun z=>nomatch z)];exact SeqAt.EqAt.tuple_none pl2 (by show X.A.units+1 < cLine;lia)
  · rw [show its.toArray.any (fun u=>decide (u=Value.none))=its.any (fun u=>decide (u=Value.none)) by simp,mj (H:=H) r];exact q
open PySem PySem.Spec PyProof.Rows
section
variable {X:Cx} {tg:Expr}
end
open PySem PySem.Spec PyProof.Rows
def PAK (X:Cx) (es:List Expr) (t:TA):Prop :=
  ∀ (pos:Pos) (pins:List (Addr × Obj)) (s:Shared) (σ:St) (H:Hp) (Q:List V→Hp→Prop),Inv X pins σ H s→s.toks≠0→t σ H Q→wpAny (model X.prog X.w) X.A (spliced (backTo pos (starEach es X.env))) (AP X pins σ Q) X.xe s
section
variable {X:Cx} {e:Expr} {es:List Expr} {te:TE} {t:TA}
theorem PA.k (h:PA X es t):PAK X es t:=fun pos pins s σ H Q I _ q=>h pos pins s σ H Q I q
theorem xT (hk:Tk (eval e X.env)) (ha:PE X e te) (hr:PAK X es t) (hs:starEach (e :: es) X.env=(false,eval e X.env) :: starEach es X.env:=by rfl):PA X (e :: es) (ju te t):=by
  intro pos pins s σ H Q I h;rw [hs];show wpAny _ _ (spliced ((false,eval e X.env) :: backTo pos (starEach es X.env))) _ _ s;refine abi (thn (mQ hk (ha pins s σ H _ I h)) fun u s1 ⟨hn,x,H1,I1,r1,q1⟩=>?_);exact thn (hr pos pins s1 σ H1 _ I1 hn q1) fun us s2 ⟨xs,H2,I2,r2,q2⟩=>⟨x :: xs,H2,I2,.cons r1 r2,q2⟩
theorem kR (ha:PEK X e te) (hr:PAK X es t) (hs:starEach (e :: es) X.env=(false,eval e X.env) :: starEach es X.env:=by rfl):PAK X (e :: es) (ju te t):=by
  intro pos pins s σ H Q I hk h;rw [hs];show wpAny _ _ (spliced ((false,eval e X.env) :: backTo pos (starEach es X.env))) _ _ s;refine abi (thn (jr hk (ha pins s σ H _ I hk h)) fun u s1 ⟨hn,x,H1,I1,r1,q1⟩=>?_);exact thn (hr pos pins s1 σ H1 _ I1 hn q1) fun us s2 ⟨xs,H2,I2,r2,q2⟩=>⟨x :: xs,H2,I2,.cons r1 r2,q2⟩
theorem sP (ha:PE X e te) (hr:PAK X es t) (hs:starEach (e :: es) X.env=(false,eval e X.env) :: starEach es X.env:=by rfl):PAK X (e :: es) (ju te t) :=
  kR (fun pins s σ H Q I _ q=>ha pins s σ H Q I q) hr hs
end
open PySem PySem.Spec PyProof.Rows
section
open PySem.SeqAt
open PySem.AutoSeq1 (wpAny_loadPart')
open PySem.MeetsSeq PySem.MeetsSeq2 PySem.MeetsSeq3
end
inductive LtQ (K:aaa) (H:Hp):Nat→V→V→Bool→Prop
  | int {n:Nat} {a b:Int}:LtQ K H n (.int a) (.int b) (decide (a < b))
  | lst {n:Nat} {a b:Addr} {xs ys:List V} {e l:Nat→Bool} (ha:SqL K H a xs) (hb:SqL K H b ys) (h:∀ (j:Nat) x y,xs[j]?=some x→ys[j]?=some y→EqR K H n x y (e j)) (hl:∀ (j:Nat) x y,xs[j]?=some x→ys[j]?=some y→e j=false→LtQ K H n x y (l j)) :
      LtQ K H (n+1) (.ref a) (.ref b) (wN e l xs.length ys.length 0 (min xs.length ys.length))
section
variable {X:Cx} {pins:List (Addr × Obj)} {σ:St} {H:Hp} {s:Shared}
end
end L2
namespace Tim
open PySem PyProof.Rows
section
variable {prog:Program} {w:World} {A:Around} {E:Value→Shared→Prop} {s:Shared}
end
end Tim
namespace L2
open PySem PySem.Spec PyProof.Rows
section
variable {prog:Program} {w:World} {A:Around} {E:Value→Shared→Prop} {s:Shared}
end
structure Rnk (K:aaa) (H:Hp) (n:Nat) (us:List V) (kf:V→Int):Prop where
  two:∀ x∈us,∃ t k wv ks,x=.ref t∧H t=some (.tup [.ref k,wv])∧H k=some (.lst ks)
  cmp:∀ t t' k k' wv wv',V.ref t∈us→V.ref t'∈us→H t=some (.tup [.ref k,wv])→H t'=some (.tup [.ref k',wv']) →
    EqR K H n (.ref k) (.ref k') (decide (kf (.ref t)=kf (.ref t')))∧(kf (.ref t)≠kf (.ref t')→LtQ K H n (.ref k) (.ref k') (decide (kf (.ref t) < kf (.ref t'))))∧(kf (.ref t)=kf (.ref t')→EqR K H n wv wv' true)
open PySem PySem.Spec PyProof.Rows
def Itu (lo st:Int) (n:Nat):It:=⟨fun i _=>i < n,fun i H x H'=>H'=H∧x=.int (lo+(i:Int) * st),fun i _=>n≤i⟩
theorem Trn.up {lo st:Int} {n:Nat}:Trn (Itu lo st n) n (fun _=>True) (fun i x H H'=>H'=H∧x=.int (lo+(i:Int) * st)) :=
  ⟨fun i H hi _=>hi,fun H _=>aab _,fun i H x H' hi _ y=>y⟩
theorem uF {P:Program} {w:World} {K:aaa} {tg:Expr} (it:Addr) (lo stp:Int) (n:Nat):Turn P w K tg (Itu lo stp n) [it] it (fun i h=>IsRangeIter h it (lo+(i:Nat) * stp) ((n:Int) - (i:Nat)) stp) where
  mem:=by simp
  obj:=fun i h st b hb=>by
    have e:b=it:=by simpa using hb
    subst e;exact ⟨_,st,fun v z=>by
      have z':Data.fields _=Data.cell v:=z;cases z'⟩
  keep:=fun i h h' st k=>k it (by simp) _ st
  item:=by
    intro X hP hw hK hc i pins s σ H E I hf st hg;subst hP hw hK;obtain ⟨f0,f1,f2,f3,f4,f5⟩:=hf it (by simp);have W:=Walks.range (prog:=X.prog) (w:=X.w) (I.ok.hd hc) it lo stp n;refine W.item i s _ _ hg st fun v h' tk hv st' kk=>?_;obtain ⟨t,rfl⟩:=hv;have I1:Inv X pins σ H { s with heap:=h',toks:=tk }:=I.turned (fun b o hb e=>kk b o (by simpa using hb) e) f0 f1 f3 f4 f5;exact ⟨_,rfl,nW (s:={ s with heap:=h',toks:=tk }) (n:="range_iterator") st' rfl rfl (by decide) ⟨.int (lo+(i:Int) * stp),H,I1,⟨t,rfl⟩,⟨rfl,rfl⟩,st',fun b hb=>(hf b hb).1⟩⟩
  done:=by
    intro X hP hw hK hc i pins s σ H E I hf st hg;subst hP hw hK;obtain ⟨f0,f1,f2,f3,f4,f5⟩:=hf it (by simp);exact wpAny_pyNext_range_end (I.ok.hd hc) st (by have : n≤i:=hg;lia) fun h' eb=>⟨rfl,I.turned (t':=s.toks) (fun b o hb e=>eb b o hb e) f0 f1 f3 f4 f5⟩
  self:=fun _ _ _ _ _ st h=>wpAny_pyIter_rangeiter st h
theorem g6 {a b c:Int} (hc:0 < c):aaR a b c=if a < b then (b - a - 1) / c+1 else 0:=by
  unfold aaR;rw [if_pos hc]
theorem qh {a b c:Int} (hc:0 < c) (h:a < b):0≤(b - a - 1) / c∧(b - a - 1) / c≤b - a - 1:=by
  have h0:0≤(b - a - 1) / c:=Int.ediv_nonneg (by lia) (by lia);refine ⟨h0,?_⟩;have:=Int.ediv_mul_le (b - a - 1) (b:=c) (by lia);have h1:(b - a - 1) / c * 1≤(b - a - 1) / c * c:=Int.mul_le_mul_of_nonneg_left (by lia) h0;lia
section
variable {X:Cx} {tg:Expr}
def x8 (ta:TA):TI:=fun σ H R=>ta σ H fun vs H1=>∃ i j k:Int,vs=[.int i,.int j,.int k]∧(-1000000≤i∧i≤1000000∧-1000000≤j∧j≤1000000∧0 < k∧k≤1000000)∧R (Itu i k (aaR i j k).toNat) H1
theorem kQ {a b c:Expr} {ta:TA} {p pos:Pos} (hg:Gl X "range") (hm:X.mg "range" = none) (ha:PA X [a,b,c] ta) (hs:starEach [a,b,c] X.env=[(false,eval a X.env),(false,eval b X.env),(false,eval c X.env)]:=by rfl) (hs2:starEach [b,c] X.env=[(false,eval b X.env),(false,eval c X.env)]:=by rfl) :
    PI X tg (.Call (.Name "range" p) [a,b,c] [] pos) (x8 ta):=by
  intro pins s σ H R I h;refine Call_ (fh I hg hm boot_range (aa3 (thn (ha pos pins s σ H _ I h) fun us s1 ⟨vs,H1,I1,r1,q1⟩=>?_) (by rw [hs,hs2]) (by rw [hs2];rfl)));obtain ⟨i,j,k,e,⟨q1,q2,q3,q4,q5,q6⟩,q⟩:=q1;subst e;cases r1 with
  | cons r rr =>
    cases rr with
    | cons r' rr =>
      cases rr with
      | cons r'' rr =>
        cases rr;obtain ⟨t,rfl⟩:=r;obtain ⟨t',rfl⟩:=r';obtain ⟨t'',rfl⟩:=r'';have hsm:Builtin.Range.small i j k=true:=by
          unfold Builtin.Range.small Builtin.Range.rangeFitsLong;rw [g6 q5];have b1:(if i < j then (j - i - 1) / k+1 else 0)≤4000000∧0≤(if i < j then (j - i - 1) / k+1 else 0):=by
            split
            · rename_i hij;have:=qh q5 hij;lia
            · lia
          simp only [abk,decide_eq_true_eq,Bool.or_eq_true,beq_iff_eq];refine ⟨⟨⟨⟨?_,?_⟩,?_⟩,?_⟩,?_⟩
          · lia
          · lia
          · lia
          · lia
          · right;rw [if_pos q5];simp only [abk,decide_eq_true_eq];lia
        refine call_range_3 (by lia) ?_ (Or.inl (PyProof.noPylong_small (by lia)));refine wpAny_pyIter_range (s:={ s1 with heap:=s1.heap.push { cls:=.type "range",data:=.fields #[.int i t,.int j t',.int k t''] } }) (IsRange.new ..) hsm ?_;have I2:Inv X pins σ H1 { s1 with heap:=s1.heap.push { cls:=.type "range",data:=.fields #[.int i t,.int j t',.int k t''] } }:=I1.kept (t':=s1.toks) fun b o e=>aak _ e;refine ⟨(s1.heap.push { cls:=.type "range",data:=.fields #[.int i t,.int j t',.int k t''] }).objs.size,[(s1.heap.push { cls:=.type "range",data:=.fields #[.int i t,.int j t',.int k t''] }).objs.size],_,_,H1,rfl,
          I2.kept (t':=s1.toks) fun b o e=>aak _ e,uF _ i k (aaR i j k).toNat,?_,fun b hb=>?_,q⟩
        · have e1:i+((0:Nat):Int) * k=i:=by simp
          have e2:(((aaR i j k).toNat:Nat):Int) - ((0:Nat):Int)=aaR i j k:=by
            have : 0≤aaR i j k:=by
              rw [g6 q5];split
              · rename_i hij;have:=qh q5 hij;lia
              · lia
            lia
          show IsRangeIter _ _ (i+((0:Nat):Int) * k) ((((aaR i j k).toNat:Nat):Int) - ((0:Nat):Int)) k;rw [e1,e2];exact aaJ _ rfl
        · have e:b=(s1.heap.push { cls:=.type "range",data:=.fields #[.int i t,.int j t',.int k t''] }).objs.size:=by simpa using hb
          subst e;exact I2.fpOk (aab _) (I2.hok.fresh (aab _))
end
section
variable {X:Cx}
end
open PySem PySem.Spec PyProof.Rows
def gk {α:Type} (xs:List α) (i k:Int):List α:=(sliceRange i xs.length k).filterMap (xs[·]?)
theorem Vals.pick {xs:List V} {us:List Value} (r:Vals xs us):∀ ix:List Nat,Vals (ix.filterMap (xs[·]?)) (ix.filterMap (us[·]?))
  | []=>.nil
  | i :: ix=>by
    have hl:=r.length;by_cases h:i < xs.length
    · obtain ⟨u,hu,ru⟩:=r.get (aac h);rw [List.filterMap_cons_some (aac h),List.filterMap_cons_some hu];exact .cons ru (Vals.pick r ix)
    · rw [List.filterMap_cons_none (abI (by lia)),List.filterMap_cons_none (abI (by lia))];exact Vals.pick r ix
open PySem PySem.Spec PyProof.Rows
def xM (K:aaa):R2:=fun x y H Q=>∃ (l:Addr) (xs:List V),x=.non∧y=.ref l∧SqL K H l xs∧(∀ v∈xs,v=.non∨(∃ i,v=.int i)∨∃ a ys,v=.ref a∧SqT K H a ys)∧Q (.bl (decide (V.non∈xs))) H
theorem uW {X:Cx} {K:aaa} (hK:X.K=K) (hu:X.A.units+64 < cLine):OpR X (compareOp .In) (xM K):=by
  subst hK;intro pins s σ H x y v u Q I rx ry h;obtain ⟨l,xs,rfl,rfl,hq,hx,q⟩:=h;cases rx;cases ry;obtain ⟨its,r,pl,hz⟩:=I.list hq;refine SeqAt.in_listAt (fun u=>decide (u=Value.none)) pl.isList (fun w hw=>?_) ⟨.bl _,H,I,rfl,?_⟩
  · obtain ⟨j,hj,ej⟩:=Array.getElem_of_mem hw;obtain ⟨x,hxj,rx⟩:=cg r hj;rw [ej] at rx;rcases hx x (aaM hxj) with rfl|⟨i,rfl⟩|⟨a,ys,rfl,ht⟩
    · cases rx;rw [decide_eq_true rfl];exact acq _
    · obtain ⟨t,rfl⟩:=rx;rw [decide_eq_false (fun z=>nomatch z)];exact SeqAt.EqAt.int_none i t
    · cases rx;obtain ⟨its2,r2,pl2,_⟩:=I.tuple ht;rw [decide_eq_false (fun z=>nomatch z)];exact SeqAt.EqAt.tuple_none pl2 (by show X.A.units+1 < cLine;lia)
  · rw [show its.toArray.any (fun u=>decide (u=Value.none))=its.any (fun u=>decide (u=Value.none)) by simp,mj (H:=H) r];exact q
open Builtin Builtin.Str in
def eL (x y z:Str):Str :=
  if ((occurrences x y 0 x.length 1).isEmpty || (y.length == 0 && z.length == 0))=true then x
  else glued z (partsBetween x (occurrences x y 0 x.length 1) y.length)
open Builtin Builtin.Str in
theorem jV (x y z:Str) (t u v k:Tok)
    (hf:((occurrences x y 0 x.length 1).isEmpty || (y.length == 0 && z.length == 0))=false →
      (u == 0 || v == 0)=false∧(u == v)=false∧(y == z)=false∧tooLong (x.length+(occurrences x y 0 x.length 1).length * z.length)=false) :
    Gives («str.replace» ⟨[.str x t,.str y u,.str z v,.int 1 k],[]⟩) (if ((occurrences x y 0 x.length 1).isEmpty || (y.length == 0 && z.length == 0))=true then .val (.str x t) else .str (glued z (partsBetween x (occurrences x y 0 x.length 1) y.length))):=by
  have e:«str.replace» ⟨[.str x t,.str y u,.str z v,.int 1 k],[]⟩=(do
      let limit ← countLimit "str.replace" (some (.int 1 k)) (x.length+1)
      if ((occurrences x y 0 x.length limit).isEmpty || (y.length == 0 && z.length == 0))=true then (do rule "str.replace.nothing";ret (.str x t)) else
          (do let same ← isSame (.str y u) (.str z v)
              if same=true then (do rule "str.replace.old-is-new";ret (.str x t)) else
              if tooLong (x.length+(occurrences x y 0 x.length limit).length * z.length)=true then unsupported "str.replace:memory" else
              retStr (glued z (partsBetween x (occurrences x y 0 x.length limit) y.length)))):=rfl
  rw [e,countLimit_int "str.replace" 1 k (x.length+1) (by decide)];show Gives (if ((occurrences x y 0 x.length 1).isEmpty || (y.length == 0 && z.length == 0))=true then (do rule "str.replace.nothing";ret (.str x t)) else
          (do let same ← isSame (.str y u) (.str z v)
              if same=true then (do rule "str.replace.old-is-new";ret (.str x t)) else
              if tooLong (x.length+(occurrences x y 0 x.length 1).length * z.length)=true then unsupported "str.replace:memory" else
              retStr (glued z (partsBetween x (occurrences x y 0 x.length 1) y.length)))) _
  cases hc:((occurrences x y 0 x.length 1).isEmpty || (y.length == 0 && z.length == 0))
  · obtain ⟨h0,huv,hyz,hl⟩:=hf hc;rw [isSame_str_other y z u v h0 huv hyz,hl];exact .of_eq rfl
  · exact .rule (.of_eq rfl)
theorem kO (x y z:Str):(eL x y z).length≤x.length+z.length:=by
  unfold eL;split
  · lia
  · have h1:=aca x y 0 x.length 1;have hy:(act y (abx x (aaB x y 0 x.length 1) y.length)).length=x.length:=by rw [StrLaws.glued_between_self]
    rw [size_glued,length_partsBetween,Nat.add_sub_cancel] at hy;rw [size_glued,length_partsBetween,Nat.add_sub_cancel];have h2:(aaB x y 0 x.length 1).length * z.length≤1 * z.length:=Nat.mul_le_mul_right _ h1;lia
open Builtin Builtin.Str in
theorem kG {prog:Program} {w:World} {A:Around} {E:Value→Shared→Prop} {s:Shared} {x y z:Str} {t u v k:Tok} {Q:Value→Shared→Prop} (hu:u≠0) (hv:v≠0) (huv:u≠v) (hyz:(y == z)=false) (hx:x.length≤1000000) (hz:z.length≤14)
    (hq:∀ t' k,Q (.str (eL x y z) t') { s with toks:=k }):wpAny (model prog w) A (call (.builtin "str.replace") [.str x t,.str y u,.str z v,.int 1 k]) Q E s:=by
  have e:(2:Nat) ^ 24=16777216:=by decide
  have hl:tooLong (x.length+(occurrences x y 0 x.length 1).length * z.length)=false:=by
    have h1:=aca x y 0 x.length 1;have h2:(occurrences x y 0 x.length 1).length * z.length≤1 * z.length:=Nat.mul_le_mul_right _ h1;unfold tooLong sizeLine;exact decide_eq_false (by lia)
  refine call_gives F.slot_str_replace (typeIs_str _ _ _) F.entry_str_replace (F.args_str_replace_4 _ _ _ _)
    (jV x y z t u v k fun _=>⟨by simp [hu,hv],by simp [huv],hyz,hl⟩) ?_
  have hq':=hq;have hle:=kO x y z;unfold eL at hq' hle;cases hc:((occurrences x y 0 x.length 1).isEmpty || (y.length == 0 && z.length == 0))
  · rw [hc] at hq' hle;simp only [Bool.false_eq_true,if_false] at hq' hle ⊢;exact ⟨by rw [sizeLine_eq];lia,hq' _ _⟩
  · rw [hc] at hq';simp only [if_true] at hq' ⊢;exact hq' t s.toks
def vX (K:aaa) (y z:Str) (to:TE):TE:=fun σ H Q=>to σ H fun x H1=>∃ w,x=.str w∧w.length≤1000∧Q (.str (eL w y z)) H1
section
variable {X:Cx}
theorem PE.kk {e:Expr} {t:TE} (h:PE X e t):PEK X e t:=fun pins s σ H Q I _ q=>h pins s σ H Q I q
theorem im {o:Expr} {to:TE} {y z:Str} {k1 k2 k3:Nat} {p1 p2 p3 apos cpos:Pos} (ho:PEK X o to) (hyz:(y == z)=false) (hz:z.length≤14)
    (hbase:attributeBase o "replace" X.env (eval o X.env)=eval o X.env:=by rfl)
    (hline:(apos.endLine == cpos.line)=true:=by rfl) :
    PEK X (.Call (.Attribute o "replace" apos) [.Constant (.str y) k1 p1,.Constant (.str z) k2 p2,.Constant (.int 1) k3 p3] [] cpos) (vX X.K y z to):=by
  intro pins s σ H Q I hk h;refine wpAny_Call_method_late hbase rfl hline rfl (thn (jr hk (ho pins s σ H _ I hk h)) fun v s1 ⟨hn,x,H1,I1,r1,q1⟩=>?_);obtain ⟨w,rfl,hw,q1⟩:=q1;obtain ⟨h1,h2⟩:=rZ (T:="str") I1 r1 (by first|exact rfl|exact True.intro);refine ⟨"str","str.replace",aaO,PySem.F.slot_str_replace,PySem.F.type_str_replace,h1,h2,?_⟩;refine abY rfl (abN ?_);show wpAny _ _ (spliced ((false,eval (.Constant (.str y) k1 p1) X.env) :: backTo cpos (starEach [.Constant (.str z) k2 p2,.Constant (.int 1) k3 p3] X.env))) _ _ s1;refine abi (ab2 ?_);show wpAny _ _ (spliced ((false,eval (.Constant (.str z) k2 p2) X.env) :: backTo cpos (starEach [.Constant (.int 1) k3 p3] X.env))) _ _ _;refine abi (ab2 ?_);show wpAny _ _ (spliced ((false,eval (.Constant (.int 1) k3 p3) X.env) :: backTo cpos (starEach [] X.env))) _ _ _;refine abi (wpAny_Constant_int ?_);refine acb ?_;obtain ⟨t0,rfl⟩:=r1;refine kG hn (Nat.succ_ne_zero _) (aaD (acg _)) hyz (by lia) hz fun t' k=>?_;exact ⟨.str _,H1,(I1.tok k),⟨_,rfl⟩,q1⟩
theorem Tk.bin {l r:Expr} {op:Operator} {pos:Pos} {env:Env} (h:Tk (eval l env)):Tk (eval (.BinOp l op r pos) env):=by
  rw [PySem.arm_eval_BinOp];exact .bindL h
end
theorem jE {its:List Value} {k:Int} (hk:0 < k):slicePick its.toArray none none (some k)=(gk its 0 k).toArray:=by
  have e:sliceBounds none none (some k) its.toArray.size=(0,(its.length:Int),k):=by
    simp only [sliceBounds,Option.getD_some,aal];have n1:¬ (k < 0):=by lia
    simp [show k > 0 from hk,n1]
  unfold slicePick gk;rw [e];simp only [List.getElem?_toArray]
theorem sM {X:Cx} {K:aaa} {e k:Expr} {te tk:TE} {p2 pos:Pos} (hK:X.K=K) (he:PE X e te) (hk:PE X k tk):PE X (.Subscript e (.Slice none none (some k) p2) pos)
    (fun σ H Q=>te σ H fun x H1=>tk σ H1 fun z H3=>∃ (a:Addr) (xs:List V) (k:Int),x=.ref a∧z=.int k∧SqL K H3 a xs∧0 < k∧∀ p,H3 p=none→Q (.ref p) (upd H3 p (.lst (gk xs 0 k)))):=by
  subst hK;intro pins s σ H Q I h;refine Subscript_ (thn (he pins s σ H _ I h) fun v s1 ⟨x,H1,I1,r1,q1⟩=>?_);refine wpAny_Slice ?_;rw [evalPart_none];refine wpAny_pure ?_;refine wpAny_pure ?_;rw [evalPart_some];refine thn (hk pins s1 σ H1 _ I1 q1) fun vk s3 ⟨z,H3,I3,r3,q3⟩=>?_;obtain ⟨a,xs,k,rfl,rfl,hx,hk0,q⟩:=q3;obtain ⟨t,rfl⟩:=r3;cases r1;have I4:Inv X pins σ H3 { s3 with heap:=s3.heap.push { cls:=.type "slice",data:=.fields #[.none,.none,.int k t] } }:=I3.kept (t':=s3.toks) fun b ob q=>aak _ q;obtain ⟨its,r,ht,hz⟩:=I4.list hx;have hlen:=r.length;refine tail_any (ops:=[.ref a,.ref s3.heap.objs.size]) (s:={ s3 with heap:=s3.heap.push { cls:=.type "slice",data:=.fields #[.none,.none,.int k t] } }) ht.isList.typeIs slot_list_getitem.lookup ?_ (by with_unfolding_all rfl);refine wpAny_getItem_list_slice ht.isList (Heap.IsSliceOf.new ..) .none .none (.int k t) (by intro z;injection z;lia) ?_ (by rw [aal];lia);rw [jE hk0];have e:gk its 0 k=(sliceRange 0 xs.length k).filterMap (its[·]?):=by unfold gk;rw [hlen]
  refine ⟨.ref _,_,I4.laid (t':=s3.toks) (o:=.lst (gk xs 0 k)) (fun b ob q=>aak _ q) (aab _) ?_,rfl,q _ (I4.hok.fresh (aab _))⟩;refine ⟨?_,_,0,?_,aaJ _ rfl⟩
  · have:=slicePick_size_le its.toArray none none (some k);rw [jE hk0] at this;have l2:(gk xs 0 k).length=(gk its 0 k).length:=by
      rw [e];exact (Vals.pick r _).length
    simp only [aal] at this;lia
  · rw [e];exact Vals.pick r _
open PySem PySem.Spec PyProof.Rows
def CauT (K:aaa) (H:Hp) (x:V) (t:Value):Prop:=(x=.non∧t=.type "NoneType")∨∃ ea C,x=.ref ea∧H ea=some (bX ea C)∧ExC K C∧t=.ref C
theorem CauT.mono {K:aaa} {H H':Hp} {x:V} {t:Value} (s:∀ b o,H b=some o→H' b=some o) (h:CauT K H x t):CauT K H' x t:=by
  rcases h with h|⟨ea,C,e1,e2,e3,e4⟩
  · exact .inl h
  · exact .inr ⟨ea,C,e1,s _ _ e2,e3,e4⟩
theorem bP {X:Cx}:dF X (.builtin "isinstance") (fun xs H Q=>∃ x c t u b,xs=[x,c]∧CauT X.K H x t∧(∀ u',RelV c u'→u'=u)∧aaE X.K t u=some b∧Q (.bl b) H):=by
  intro pins s σ H xs us Q I r h;obtain ⟨x,c,t,u,b,rfl,hx,hu,hk,q⟩:=h;obtain ⟨u1,u2,rfl,r1,r2⟩:=jt r;obtain rfl:=hu _ r2;rcases hx with ⟨rfl,rfl⟩|⟨ea,C,rfl,he,x,rfl⟩
  · cases (show u1=Value.none from r1);exact aa6 acy I.kIn True.intro hk (fun z=>nomatch z) fun tk=>⟨.bl b,H,I.tok tk,rfl,q⟩
  · cases r1;obtain ⟨⟨o,vs,h1,h2,_⟩,_⟩:=(show ObjOk X.prog X.w H s.heap ea (bX ea C) from I.hok ea _ he)
    exact aa6 (nP x) I.kIn ⟨o,h1,h2⟩ hk (fun z=>nomatch z) fun tk=>⟨.bl b,H,I.tok tk,rfl,q⟩
theorem kH {X:Cx}:dF X (.builtin "isinstance") (fun xs H Q=>∃ x tp cs t us b,xs=[x,.ref tp]∧CauT X.K H x t∧H tp=some (.tup cs)∧(∀ us',Vals cs us'→us'=us)∧acf X.K t us=some b∧Q (.bl b) H):=by
  intro pins s σ H xs us Q I r h;obtain ⟨x,tp,cs,t,us,b,rfl,hx,ht,hu,hk,q⟩:=h;obtain ⟨u1,u2,rfl,r1,r2⟩:=jt r;cases r2;obtain ⟨_,its,rv,ot,g1,g2,k,g3⟩:=(show ObjOk X.prog X.w H s.heap tp (.tup cs) from I.hok tp _ ht)
  obtain rfl:=hu _ rv;obtain ⟨oc,od,dat,sl⟩:=ot;cases (show oc=_ from g2);cases (show dat=_ from g3);rcases hx with ⟨rfl,rfl⟩|⟨ea,C,rfl,he,x,rfl⟩
  · cases (show u1=Value.none from r1);exact aa7 acy I.kIn True.intro g1 hk (fun z=>nomatch z) fun tk=>⟨.bl b,H,I.tok tk,rfl,q⟩
  · cases r1;obtain ⟨⟨o,vs,h1,h2,_⟩,_⟩:=(show ObjOk X.prog X.w H s.heap ea (bX ea C) from I.hok ea _ he)
    exact aa7 (nP x) I.kIn ⟨o,h1,h2⟩ g1 hk (fun z=>nomatch z) fun tk=>⟨.bl b,H,I.tok tk,rfl,q⟩
section
variable {X:Cx} {pos:Pos}
end
open PySem PySem.Spec PyProof.Rows
section
variable {prog:Program} {w:World} {A:Around} {E:Value→Shared→Prop} {s:Shared}
end
open PySem PySem.Spec PyProof.Rows
section
variable {X:Cx}
def uR:V→List V→Hp→VK→Prop:=fun x vs H Q=>∃ l xs i y,x=.ref l∧vs=[.int i,y]∧H l=some (.lst xs)∧0≤i∧i≤xs.length∧xs.length≤1000∧Q .non (upd H l (.lst (xs.take i.toNat++y :: xs.drop i.toNat)))
theorem rl:MtM X "list.insert" uR:=by
  intro pins s σ H x vs v us Q I rx rv h;obtain ⟨l,xs,i,y,rfl,rfl,hH,h0,h1,h2,q⟩:=h;cases rx;obtain ⟨u1,u,rfl,ru1,ru⟩:=jt rv;obtain ⟨t,rfl⟩:=ru1;obtain ⟨z,its,n,r,hl,e⟩:=I.lstM hH;have hs:=sizeLine_eq;have hsz:its.toArray.size≤sizeLine:=by rw [aal];lia
  refine call_meets F.slot_list_insert ⟨_,e,rfl⟩ F.entry_list_insert (F.args_list_insert_3 _ _ _) (AutoSeq1.list_insert_list_int_val_1 l its.toArray n i t u (by rw [fitsIndex_both (by lia) (by lia)];exact aap) hsz) ⟨e,?_⟩;refine ⟨.non,_,I.lset (its':=its.take i.toNat++u :: its.drop i.toNat) hH e ?_ ?_ ?_,rfl,q⟩
  · show (its.toArray.extract 0 (if i < 0 then (i+((its.toArray.size:Nat):Int)).toNat else min i.toNat its.toArray.size)).push u++its.toArray.extract (if i < 0 then (i+((its.toArray.size:Nat):Int)).toNat else min i.toNat its.toArray.size)=_;have hk:(if i < 0 then (i+((its.toArray.size:Nat):Int)).toNat else min i.toNat its.toArray.size)=i.toNat:=by
      rw [if_neg (by lia),aal,ab7 (by lia)]
    rw [hk];apply Array.ext';simp;exact aaQ (by rw [aay];exact aab _)
  · exact (r.take i.toNat).append (.cons ru (r.drop i.toNat))
  · rw [aah,aao,aav,aay];lia
end
open PySem PySem.Spec PyProof.Rows
theorem Same.upd {H H1:Hp} {p:Addr} {o:HO} (a:Same H H1) (h:H p=none):Same H (L2.upd H1 p o):=fun b u q=>by
  rw [aI (ba q h)];exact a b u q
end L2
namespace Put
open PySem L2
def top (i:Nat):Stmt:=PySem.Challenge.pw_putsigns_k51_texts_of_none.main.body.getD i (.Pass ⟨0,0,0,0⟩)
inductive Sg where
  | plus|minus|times
  deriving DecidableEq
def Sg.str:Sg→Str
  | .plus=>"+"
  | .minus=>"-"
  | .times=>"*"
inductive Wy where
  | num (i:Int)
  | node (g:Sg) (l r:Wy)
  deriving DecidableEq
def Wy.size:Wy→Nat
  | .num _=>1
  | .node _ l r=>l.size+r.size
theorem Wy.size_pos:∀ w:Wy,1≤w.size
  | .num _=>aab _
  | .node _ l r=>by have:=l.size_pos;show 1≤l.size+r.size;lia
def WyIn (H:Hp):Wy→V→Prop
  | .num i,v=>v=.int i
  | .node g l r,v=>∃ a vl vr,v=.ref a∧H a=some (.tup [.str g.str,vl,vr])∧WyIn H l vl∧WyIn H r vr
def Tups (H H':Hp):Prop:=∀ b xs,H b=some (.tup xs)→H' b=some (.tup xs)
theorem Tups.of {H H':Hp} (a:Same H H'):Tups H H':=fun b xs h=>a b _ h
theorem Tups.but {H H':Hp} {w:Addr} {xs:List V} (a:But w H H') (h:H w=some (.lst xs)):Tups H H':=fun b ys q=>a b _ (fun e=>by rw [e,h] at q;cases q) q
theorem Tups.trans {H H1 H2:Hp} (a:Tups H H1) (b:Tups H1 H2):Tups H H2:=fun c xs h=>b c xs (a c xs h)
theorem WyIn.mono {H H':Hp} (t:Tups H H'):∀ {w:Wy} {v:V},WyIn H w v→WyIn H' w v
  | .num _,_,h=>h
  | .node g l r,v,h=>by
    obtain ⟨a,vl,vr,e,h1,h2,h3⟩:=h;exact ⟨a,vl,vr,e,t _ _ h1,WyIn.mono t h2,WyIn.mono t h3⟩
structure Bu (K:aaa) (mg:Str→Option Value):Prop where
  ilen:mg "len" = none
  iisinstance : mg "isinstance" = none
  iint:mg "int" = none
  ibool:mg "bool" = none
  istr:mg "str" = none
  ituple:mg "tuple" = none
  ilist:mg "list" = none
  isorted:mg "sorted" = none
  irange:mg "range" = none
  irepr:mg "repr" = none
  ienumerate:mg "enumerate" = none
  isum:mg "sum" = none
  iall:mg "all" = none
  imin:mg "min" = none
  imax:mg "max" = none
  iabs:mg "abs" = none
  idivmod:mg "divmod" = none
  idict:mg "dict" = none
  iset:mg "set" = none
  ireversed:mg "reversed" = none
  iany:mg "any" = none
  izip:mg "zip" = none
structure Co (K:aaa) (mg:Str→Option Value) (tk:Tok) (aS:Addr):Prop where
  gMOST_NUMBERS:mg "MOST_NUMBERS" = some (.int 9 tk)
  gSIGNS:mg "SIGNS" = some (.ref aS)
  sSIGNS:∀ H,SqT K H aS [.str "+",.str "-",.str "*"]
section
variable {P:Program} {w:World} {K:aaa} {mg:Str→Option Value} {base:Heap} {f:Addr} {fd:FuncData}
def jc (K:aaa):Sp:=fun vs H Q _=>∃ x n,vs=[x]∧TyOf K H x (.type n)∧Q (.bl (decide (n = "int"))) H
abbrev gB:Stmt:=top 16
theorem ng:FnScope ["thing"] ["thing"] (aq gB):=⟨rfl,rfl,rfl,by decide +kernel,rfl,by decide +kernel,by decide +kernel⟩
theorem nF (F:Fun K "is_whole" "is_whole" gB f fd) (B:Bu K mg):FnOk P w K mg base CX0 1 f fd ["thing"] (jc K):=by
  refine F.ok ng (fun vs H Q E h=>?_) (fun cdv A outer s H vs Q E hr h=>?_)
  · obtain ⟨x,n,rfl,_⟩:=h;rfl
  obtain ⟨x,n,rfl,ty,q⟩:=h;refine ⟨_,(@ag _ _ _ (@ar _ _ _ _ (@jG _ _ _ _ _ _ _ (@ap _ _ _ _ _ _ _ _ _ (@a8 _ ("int")) rfl B.iisinstance aad (@aa _ _ _ _ _ (pv 0) (@aa _ _ _ _ _ (@bw _ _ (.ty "int") _ _ rfl B.iint aaA rfl (by decide) (by decide)) ac (by rfl)) (by rfl)) (by decide) (by decide) (by rfl) (by rfl)) (@io _ _ _ _ _ (@o2 _ _ _ _ (@ap _ _ _ _ _ _ _ _ _ (@a8 _ ("bool")) rfl B.iisinstance aad (@aa _ _ _ _ _ (pv 0) (@aa _ _ _ _ _ (@bw _ _ (.ty "bool") _ _ rfl B.ibool PyProof.Rows.boot_bool rfl (by decide) (by decide)) ac (by rfl)) (by rfl)) (by decide) (by decide) (by rfl) (by rfl))))))),?_⟩;cases ty with
  | non=>exact ⟨_,rfl,_,_,false,rfl,.non,rfl,false,rfl,av q⟩
  | bl y=>exact ⟨_,rfl,_,_,true,rfl,.bl y,rfl,true,rfl,aC ⟨_,rfl,_,_,true,rfl,.bl y,rfl,true,rfl,q⟩⟩
  | int i=>exact ⟨_,rfl,_,_,true,rfl,.int i,rfl,true,rfl,aC ⟨_,rfl,_,_,false,rfl,.int i,rfl,false,rfl,q⟩⟩
  | str y=>exact ⟨_,rfl,_,_,false,rfl,.str y,rfl,false,rfl,av q⟩
  | flt y=>exact ⟨_,rfl,_,_,false,rfl,.flt y,rfl,false,rfl,av q⟩
  | lst e=>exact ⟨_,rfl,_,_,false,rfl,.lst e,rfl,false,rfl,av q⟩
  | frz e=>exact ⟨_,rfl,_,_,false,rfl,.frz e,rfl,false,rfl,av q⟩
  | tup e=>exact ⟨_,rfl,_,_,false,rfl,.tup e,rfl,false,rfl,av q⟩
  | dK e=>exact ⟨_,rfl,_,_,false,rfl,.dK e,rfl,false,rfl,av q⟩
  | dT e=>exact ⟨_,rfl,_,_,false,rfl,.dT e,rfl,false,rfl,av q⟩
open PySem L2
theorem al {n:Nat} (h:n≤1000):n≤sizeLine:=abS (aQ h)
def Wy.nums:Wy→List Int
  | .num i=>[i]
  | .node _ l r=>l.nums++r.nums
theorem Wy.nums_len:∀ w:Wy,w.nums.length=w.size
  | .num _=>rfl
  | .node _ l r=>by show (l.nums++r.nums).length=l.size+r.size;rw [aah,l.nums_len,r.nums_len]
def Wy.deep:Wy→Nat
  | .num _=>1
  | .node _ l r=>max l.deep r.deep+1
theorem Wy.deep_le:∀ w:Wy,w.deep≤w.size
  | .num _=>aab _
  | .node _ l r=>by have a:=l.deep_le;have b:=r.deep_le;have c:=l.size_pos;have d:=r.size_pos;show max l.deep r.deep+1≤l.size+r.size;lia
theorem lP (g:Sg):g.str.length=1:=by cases g <;> rfl
theorem i_ (x y:Str):(x++y).length=x.length+y.length:=by
  cases x;cases y;show (_++_:Array Nat).size=_;rw [Array.size_append];rfl
end
open PySem L2
def Wel (H:Hp) (w:Addr) (_M:Int):Prop:=∃ a b,H w=some (.lst [.int a,.int b])∧0≤b∧b < 2147483629
theorem Wel.keep {H H':Hp} {w:Addr} {M M':Int} (h:Wel H w M) (s:Same H H') (m:M≤M'):Wel H' w M':=by
  obtain ⟨a,b,e,h0,h1⟩:=h;exact ⟨a,b,s _ _ e,h0,h1⟩
theorem Wel.more {H:Hp} {w:Addr} {M M':Int} (h:Wel H w M) (m:M≤M'):Wel H w M':=h.keep (Same.refl H) m
theorem But.free {w p:Addr} {H H':Hp} {M:Int} (b:But w H H') (h:Wel H' w M) (n:H' p=none):H p=none:=by
  cases q:H p with
  | none=>rfl
  | some o =>
    by_cases e:p=w
    · subst e;obtain ⟨_,_,z,_⟩:=h;rw [z] at n;cases n
    · rw [b p o e q] at n;cases n
theorem Wel.ne {w p:Addr} {H:Hp} {M:Int} (h:Wel H w M) (n:H p=none):p≠w:=fun e=>by
  subst e;obtain ⟨_,_,z,_⟩:=h;rw [z] at n;cases n
theorem Wel.tups {w:Addr} {H H':Hp} {M:Int} (h:Wel H w M) (b:But w H H'):Tups H H':=by
  obtain ⟨_,_,z,_⟩:=h;exact Tups.but b z
section
variable {P:Program} {w:World} {K:aaa} {mg:Str→Option Value} {base:Heap} {f:Addr} {fd:FuncData}
theorem nJ (x m:Int) (h:0 < m):0≤x % m∧x % m < m:=⟨Int.emod_nonneg x (by lia),Int.emod_lt_of_pos x h⟩
def oO:Sp:=fun vs H Q _=>∃ cell,vs=[.int cell]∧∀ p H',Same H H'→H p=none→Wel H' p 0→Q (.ref p) H'
abbrev fG:Stmt:=top 40
theorem lT:FnScope ["cell"] ["cell"] (aq fG):=⟨rfl,rfl,rfl,by decide +kernel,rfl,by decide +kernel,by decide +kernel⟩
theorem uZ (F:Fun K "_law_well" "_law_well" fG f fd) (B:Bu K mg):FnOk P w K mg base CX0 1 f fd ["cell"] oO:=by
  refine F.ok lT (fun vs H Q E h=>?_) (fun cdv A outer s H vs Q E hr h=>?_)
  · obtain ⟨x,rfl,_⟩:=h;rfl
  obtain ⟨cell,rfl,q⟩:=h;refine ⟨_,(@ad _ _ _ _ _ (@aV _ _ _ _ _ _ _ _ (@ai _ _ _ _ _ _ _ _ xU (pv 0) (@aj _ _ _ _ _ _ _ _ eF ae ae) (ak _)) (@ag _ _ _ (@ar _ _ _ _ (@a9 _ _ _ _ (@aa _ _ _ _ _ (pv 0) (@aa _ _ _ _ _ (@aj _ _ _ _ _ _ _ _ dD (pv 0) ae) ac (by rfl)) (by rfl))))) aB) (@ag _ _ _ (@ar _ _ _ _ (@a9 _ _ _ _ (@aa _ _ _ _ _ ae (@aa _ _ _ _ _ (@aj _ _ _ _ _ _ _ _ dD (pv 0) ae) ac (by rfl)) (by rfl)))))),?_⟩;have z:=nJ cell 2147483629 (by decide);refine ⟨_,rfl,_,_,rfl,rfl,⟨by decide,by decide,by decide⟩,_,_,rfl,rfl,_,rfl,kE (fun _=>?_) (fun _=>?_)⟩
  · exact ⟨_,rfl,_,rfl,_,_,rfl,rfl,(show (0:Int) < 2147483629 by decide),(by show 2≤sizeLine;decide),fun p hp=>q p _ (Same.new hp _) hp ⟨_,_,upd_same,z.1,z.2⟩⟩
  · exact ⟨_,rfl,_,_,rfl,rfl,(show (0:Int) < 2147483629 by decide),(by show 2≤sizeLine;decide),fun p hp=>q p _ (Same.new hp _) hp ⟨_,_,upd_same,z.1,z.2⟩⟩
def eW:Sp:=fun vs H Q _=>∃ w m M,vs=[.ref w,.int m]∧0 < m∧m < 2 ^ 63∧Wel H w M∧M < 1000000000∧∀ r H',0≤r→r < m→But w H H'→Wel H' w (M+1)→Q (.int r) H'
abbrev fL:Stmt:=top 41
theorem dI:FnScope ["well","many","got","stirred"] ["well","many"] (aq fL):=⟨rfl,rfl,rfl,by decide +kernel,rfl,by decide +kernel,by decide +kernel⟩
theorem va (F:Fun K "_law_draw" "_law_draw" fL f fd):FnOk P w K mg base CX0 2 f fd ["well","many"] eW:=by
  refine F.ok dI (fun vs H Q E h=>?_) (fun cdv A outer s H vs Q E hr h=>?_)
  · obtain ⟨x,m,M,rfl,_⟩:=h;rfl
  obtain ⟨wl,m,M,rfl,h0,h1,⟨a,b,e,c0,c1⟩,hM,q⟩:=h;refine ⟨_,(@ad _ _ _ _ _ (@aV _ _ _ _ _ _ _ _ (@ai _ _ _ _ _ _ _ _ gn (@aK _ _ _ _ _ _ _ ix_list (pv 0) ae (fun _ _=>rfl)) ae (ak _)) (@ad _ _ _ _ _ (@ao _ _ (2) _ _ _ _ (dI).nd rfl (Or.inl rfl) (@aj _ _ _ _ _ _ _ _ dD (@aK _ _ _ _ _ _ _ ix_list (pv 0) ae (fun _ _=>rfl)) (pv 1)) (by rfl) (by first|exact .inl rfl|exact .inr rfl|assumption)) (@ad _ _ _ _ _ (@gJ _ _ _ _ _ _ (@aj _ _ _ _ _ _ _ _ hE (@aK _ _ _ _ _ _ _ ix_list (pv 0) ae (fun _ _=>rfl)) (pv 1)) (@lZ _ _ _ _ _ _ _ (pv 0) ae gY (by intro _;rfl)) (by rfl) (by rfl) (by rfl)) (@ag _ _ _ (@ar _ _ _ _ (pv 2))))) aB) (@ad _ _ _ _ _ (@ao _ _ (3) _ _ _ _ (dI).nd rfl (Or.inl rfl) (@aj _ _ _ _ _ _ _ _ dD (@aj _ _ _ _ _ _ _ _ bt (@aj _ _ _ _ _ _ _ _ fe (@aK _ _ _ _ _ _ _ ix_list (pv 0) ae (fun _ _=>rfl)) ae) ae) ae) (by rfl) (by first|exact .inl rfl|exact .inr rfl|assumption)) (@ad _ _ _ _ _ (@ao _ _ (3) _ _ _ _ (dI).nd rfl (Or.inl rfl) (@aj _ _ _ _ _ _ _ _ dD (@aj _ _ _ _ _ _ _ _ fe (pv 3) (pv 3)) ae) (by rfl) (by first|exact .inl rfl|exact .inr rfl|assumption)) (@ad _ _ _ _ _ (@gJ _ _ _ _ _ _ (@aj _ _ _ _ _ _ _ _ dD (@aj _ _ _ _ _ _ _ _ bt (@aj _ _ _ _ _ _ _ _ fe (pv 3) ae) ae) ae) (@lZ _ _ _ _ _ _ _ (pv 0) ae gY (by intro _;rfl)) (by rfl) (by rfl) (by rfl)) (@ag _ _ _ (@ar _ _ _ _ (@aj _ _ _ _ _ _ _ _ dD (@aj _ _ _ _ _ _ _ _ hE (@aK _ _ _ _ _ _ _ ix_list (pv 0) ae (fun _ _=>rfl)) ae) (pv 1)))))))),?_⟩;refine ⟨_,rfl,wl,_,_,_,rfl,rfl,SqL.of e,rfl,_,_,rfl,rfl,_,rfl,kE (fun _=>?_) (fun _=>?_)⟩
  · refine ⟨_,rfl,wl,_,_,_,rfl,rfl,SqL.of e,rfl,_,rfl,_,_,rfl,rfl,h0,?_⟩;refine ⟨_,rfl,wl,_,_,_,rfl,rfl,SqL.of e,rfl,_,rfl,_,_,rfl,rfl,⟨h0,by lia⟩,_,rfl,wl,_,_,0,rfl,rfl,e,rfl,?_⟩;refine ⟨_,rfl,?_⟩;have z:=nJ a m h0;exact q _ _ z.1 z.2 But.put ⟨_,_,upd_same,c0,c1⟩
  · refine ⟨_,rfl,wl,_,_,_,rfl,rfl,SqL.of e,rfl,_,_,rfl,rfl,.inr ⟨by decide,by decide⟩,_,_,rfl,rfl,_,_,rfl,rfl,(show (0:Int) < 2147483647 by decide),?_⟩;refine ⟨_,rfl,_,rfl,_,_,rfl,rfl,.inl ⟨by lia,by lia⟩,_,_,rfl,rfl,(show (0:Int) < 2147483587 by decide),?_⟩;refine ⟨_,rfl,_,_,rfl,rfl,.inr ⟨by decide,by decide⟩,_,_,rfl,rfl,_,_,rfl,rfl,(show (0:Int) < 2147483629 by decide),_,rfl,wl,_,_,1,rfl,rfl,e,rfl,?_⟩;have hd:=nJ ((b * 48271+11) % 2147483647 * ((b * 48271+11) % 2147483647) % 2147483587 * 69621+40692) 2147483629 (by decide);refine ⟨_,rfl,wl,_,_,_,rfl,rfl,SqL.of upd_same,rfl,_,_,rfl,rfl,⟨by decide,by decide⟩,_,rfl,_,_,rfl,rfl,h0,?_⟩;have z:=nJ (((b * 48271+11) % 2147483647 * ((b * 48271+11) % 2147483647) % 2147483587 * 69621+40692) % 2147483629 / 8) m h0;exact q _ _ z.1 z.2 But.put ⟨_,_,upd_same,hd.1,hd.2⟩
open PySem L2
def b_ (ns:List Int):Prop:=∀ i∈ns,-1000000000000 < i∧i < 1000000000000
def sy:Sp:=fun vs H Q _=>∃ w n M,vs=[.ref w,.int n]∧0≤n∧n≤20∧Wel H w M∧M < 999990000 ∧
  ∀ p ns H',But w H H'→Wel H' w (M+400)→H p=none→H' p=some (.lst (ns.map V.int))→(ns.length:Int)=n→b_ ns→Q (.ref p) H'
theorem nu {xs:List Int} {r:Int} (h0:0≤r) (h1:r < xs.length):∃ u:Int,atI (xs.map V.int) r=some (.int u)∧u∈xs:=by
  obtain ⟨j,rfl⟩:∃ j:Nat,r=(j:Int):=⟨r.toNat,by lia⟩
  have hj:j < xs.length:=by lia
  exact ⟨xs[j],bA (by rw [aar,aac hj];rfl),acG hj⟩
theorem pm {k:Int} (h0:0≤k) (h1:k < 2):∃ z:Int,atI [V.int 1,.int (-1)] k=some (.int z)∧(z=1∨z=-1):=by
  have : k=0∨k=1:=by lia
  rcases this with rfl|rfl
  · exact ⟨1,rfl,.inl rfl⟩
  · exact ⟨-1,rfl,.inr rfl⟩
theorem p4 {k:Int} (h0:0≤k) (h1:k < 4):∃ z:Int,atI [V.int (10 ^ (4:Int).toNat),.int (10 ^ (6:Int).toNat),.int (10 ^ (9:Int).toNat),.int (10 ^ (12:Int).toNat)] k=some (.int z)∧0 < z∧z≤1000000000000:=by
  have : k=0∨k=1∨k=2∨k=3:=by lia
  rcases this with rfl|rfl|rfl|rfl <;> exact ⟨_,rfl,by decide,by decide⟩
abbrev gE:Stmt:=top 42
theorem bN:FnScope ["well","many","kind","found","k","some","wide","own"] ["well","many"] (aq gE):=⟨rfl,rfl,rfl,by decide +kernel,rfl,by decide +kernel,by decide +kernel⟩
theorem wI (F:Fun K "_law_row" "_law_row" gE f fd) (B:Bu K mg) (C__law_draw:Cal P w K mg base "_law_draw" 2 ["well","many"] eW):FnOk P w K mg base CX0 3 f fd ["well","many"] sy:=by
  refine F.ok bN (fun vs H Q E h=>?_) (fun cdv A outer s H vs Q E hr h=>?_)
  · obtain ⟨x,m,M,rfl,_⟩:=h;rfl
  obtain ⟨wl,n,M,rfl,h0,h1,hw,hM,q⟩:=h;refine ⟨_,(@ad _ _ _ _ _ (@ao _ _ (2) _ _ _ _ (bN).nd rfl (Or.inl rfl) (@am _ _ _ _ _ _ _ _ _ _ _ C__law_draw hr (by lia) rfl (@aa _ _ _ _ _ (pv 0) (@aa _ _ _ _ _ ae ac (by rfl)) (by rfl)) (by decide) (by rfl) (by rfl)) (by rfl) (by first|exact .inl rfl|exact .inr rfl|assumption)) (@ad _ _ _ _ _ (@ao _ _ (3) _ _ _ _ (bN).nd rfl (Or.inl rfl) (@a9 _ _ _ _ ac) (by rfl) (by first|exact .inl rfl|exact .inr rfl|assumption)) (@ad _ _ _ _ _ (@cX _ _ _ _ _ _ _ _ aaT rfl (@cz _ _ _ _ _ _ rfl B.irange (@aa _ _ _ _ _ (pv 1) ac (by rfl)) (by rfl)) (@aG _ _ (4) _ (bN).nd rfl (Or.inl rfl) (.inl rfl)) (@ad _ _ _ _ _ (@ao _ _ (5) _ _ _ _ (bN).nd rfl (Or.inl rfl) (@a9 _ _ _ _ (@aa _ _ _ _ _ (@am _ _ _ _ _ _ _ _ _ _ _ C__law_draw hr (by lia) rfl (@aa _ _ _ _ _ (pv 0) (@aa _ _ _ _ _ ae ac (by rfl)) (by rfl)) (by decide) (by rfl) (by rfl)) (@aa _ _ _ _ _ (@aj _ _ _ _ _ _ _ _ dC (@am _ _ _ _ _ _ _ _ _ _ _ C__law_draw hr (by lia) rfl (@aa _ _ _ _ _ (pv 0) (@aa _ _ _ _ _ ae ac (by rfl)) (by rfl)) (by decide) (by rfl) (by rfl)) ae) (@aa _ _ _ _ _ (@aj _ _ _ _ _ _ _ _ dC (@am _ _ _ _ _ _ _ _ _ _ _ C__law_draw hr (by lia) rfl (@aa _ _ _ _ _ (pv 0) (@aa _ _ _ _ _ ae ac (by rfl)) (by rfl)) (by decide) (by rfl) (by rfl)) ae) (@aa _ _ _ _ _ (@aj _ _ _ _ _ _ _ _ dC (@am _ _ _ _ _ _ _ _ _ _ _ C__law_draw hr (by lia) rfl (@aa _ _ _ _ _ (pv 0) (@aa _ _ _ _ _ ae ac (by rfl)) (by rfl)) (by decide) (by rfl) (by rfl)) ae) ac (by rfl)) (by rfl)) (by rfl)) (by rfl))) (by rfl) (by first|exact .inl rfl|exact .inr rfl|assumption)) (@ad _ _ _ _ _ (@ao _ _ (5) _ _ _ _ (bN).nd rfl (Or.inl rfl) (@aj _ _ _ _ _ _ _ _ cG (pv 5) (@a9 _ _ _ _ (@aa _ _ _ _ _ (@aj _ _ _ _ _ _ _ _ fe (@aj _ _ _ _ _ _ _ _ dC (@aj _ _ _ _ _ _ _ _ dC (@aj _ _ _ _ _ _ _ _ eF ae ae) ae) (@am _ _ _ _ _ _ _ _ _ _ _ C__law_draw hr (by lia) rfl (@aa _ _ _ _ _ (pv 0) (@aa _ _ _ _ _ ae ac (by rfl)) (by rfl)) (by decide) (by rfl) (by rfl))) (@aK _ _ _ _ _ _ _ ix_list (@a9 _ _ _ _ (@aa _ _ _ _ _ ae (@aa _ _ _ _ _ (@g8 _ _ _ _ _ _ eU ae) ac (by rfl)) (by rfl))) (@am _ _ _ _ _ _ _ _ _ _ _ C__law_draw hr (by lia) rfl (@aa _ _ _ _ _ (pv 0) (@aa _ _ _ _ _ ae ac (by rfl)) (by rfl)) (by decide) (by rfl) (by rfl)) (fun _ _=>rfl))) (@aa _ _ _ _ _ (@aj _ _ _ _ _ _ _ _ bt ae (@am _ _ _ _ _ _ _ _ _ _ _ C__law_draw hr (by lia) rfl (@aa _ _ _ _ _ (pv 0) (@aa _ _ _ _ _ ae ac (by rfl)) (by rfl)) (by decide) (by rfl) (by rfl))) ac (by rfl)) (by rfl)))) (by rfl) (by first|exact .inl rfl|exact .inr rfl|assumption)) (@ad _ _ _ _ _ (@ao _ _ (6) _ _ _ _ (bN).nd rfl (Or.inl rfl) (@aj _ _ _ _ _ _ _ _ bt (@aj _ _ _ _ _ _ _ _ fe (@am _ _ _ _ _ _ _ _ _ _ _ C__law_draw hr (by lia) rfl (@aa _ _ _ _ _ (pv 0) (@aa _ _ _ _ _ (@aj _ _ _ _ _ _ _ _ eF ae ae) ac (by rfl)) (by rfl)) (by decide) (by rfl) (by rfl)) (@aj _ _ _ _ _ _ _ _ eF ae ae)) (@am _ _ _ _ _ _ _ _ _ _ _ C__law_draw hr (by lia) rfl (@aa _ _ _ _ _ (pv 0) (@aa _ _ _ _ _ (@aj _ _ _ _ _ _ _ _ eF ae ae) ac (by rfl)) (by rfl)) (by decide) (by rfl) (by rfl))) (by rfl) (by first|exact .inl rfl|exact .inr rfl|assumption)) (@ad _ _ _ _ _ (@ao _ _ (6) _ _ _ _ (bN).nd rfl (Or.inl rfl) (@aj _ _ _ _ _ _ _ _ fe (@aj _ _ _ _ _ _ _ _ dD (pv 6) (@aK _ _ _ _ _ _ _ ix_list (@a9 _ _ _ _ (@aa _ _ _ _ _ (@aj _ _ _ _ _ _ _ _ eF ae ae) (@aa _ _ _ _ _ (@aj _ _ _ _ _ _ _ _ eF ae ae) (@aa _ _ _ _ _ (@aj _ _ _ _ _ _ _ _ eF ae ae) (@aa _ _ _ _ _ (@aj _ _ _ _ _ _ _ _ eF ae ae) ac (by rfl)) (by rfl)) (by rfl)) (by rfl))) (@am _ _ _ _ _ _ _ _ _ _ _ C__law_draw hr (by lia) rfl (@aa _ _ _ _ _ (pv 0) (@aa _ _ _ _ _ ae ac (by rfl)) (by rfl)) (by decide) (by rfl) (by rfl)) (fun _ _=>rfl))) (@aK _ _ _ _ _ _ _ ix_list (@a9 _ _ _ _ (@aa _ _ _ _ _ ae (@aa _ _ _ _ _ (@g8 _ _ _ _ _ _ eU ae) ac (by rfl)) (by rfl))) (@am _ _ _ _ _ _ _ _ _ _ _ C__law_draw hr (by lia) rfl (@aa _ _ _ _ _ (pv 0) (@aa _ _ _ _ _ ae ac (by rfl)) (by rfl)) (by decide) (by rfl) (by rfl)) (fun _ _=>rfl))) (by rfl) (by first|exact .inl rfl|exact .inr rfl|assumption)) (@ad _ _ _ _ _ (@ao _ _ (7) _ _ _ _ (bN).nd rfl (Or.inl rfl) (@am _ _ _ _ _ _ _ _ _ _ _ C__law_draw hr (by lia) rfl (@aa _ _ _ _ _ (pv 0) (@aa _ _ _ _ _ ae ac (by rfl)) (by rfl)) (by decide) (by rfl) (by rfl)) (by rfl) (by first|exact .inl rfl|exact .inr rfl|assumption)) (@ag _ _ _ (@cJ _ _ _ _ (@bV _ _ _ _ _ _ _ _ _ _ _ _ aaC abb abc dh (pv 3) (@aa _ _ _ _ _ (@aK _ _ _ _ _ _ _ ix_list (@aj _ _ _ _ _ _ _ _ cG (pv 5) (@a9 _ _ _ _ (@aa _ _ _ _ _ (@aK _ _ _ _ _ _ _ ix_list (@aj _ _ _ _ _ _ _ _ cG (pv 3) (pv 5)) ae (fun _ _=>rfl)) (@aa _ _ _ _ _ (pv 6) ac (by rfl)) (by rfl)))) (@aK _ _ _ _ _ _ _ ix_list (@a9 _ _ _ _ (@aa _ _ _ _ _ (pv 2) (@aa _ _ _ _ _ (pv 7) ac (by rfl)) (by rfl))) (@bn _ _ _ _ _ _ _ _ _ cA rfl B.iint aaA (@aa _ _ _ _ _ (@bp _ _ _ _ _ _ _ _ bc (pv 2) ae (ak _)) ac (by rfl)) (by decide) (by decide) (by rfl) (by rfl)) (fun _ _=>rfl)) (fun _ _=>rfl)) ac (by rfl)) (by rfl) (by rfl) (by rfl) (by rfl) (by rfl)) (by rfl)))))))) (by intro _;rfl)) (@ag _ _ _ (@ar _ _ _ _ (pv 3)))))),?_⟩;have t1:(1:Nat)≤sizeLine:=by decide
  have t2:(2:Nat)≤sizeLine:=by decide
  have t4:(4:Nat)≤sizeLine:=by decide
  refine ⟨_,rfl,wl,9,_,rfl,by decide,by decide,hw,by lia,fun kd H1 kd0 kd1 g1 w1=>?_⟩;refine ⟨(by show 0≤sizeLine;decide),fun pf nf=>?_⟩;have nfw:=w1.ne nf;have hfree:H pf=none:=But.free g1 w1 nf;refine ⟨_,rfl,n,rfl,by lia,by lia,cR (n:=n.toNat) (fun j σ H'=>∃ (ns:List Int) (c4 c5 c6 c7:Option V),σ=[some (.ref wl),some (.int n),some (.int kd),some (.ref pf),c4,c5,c6,c7]∧H' pf=some (.lst (ns.map V.int))∧ns.length=j∧b_ ns∧But wl H1 H'∧Wel H' wl (M+1+15 * j)) ⟨[],_,_,_,_,rfl,upd_same,rfl,(fun _ z=>nomatch z),But.new nf _,(w1.keep (Same.new nf _) (aaG _)).more (by lia)⟩ ?_ ?_⟩
  · rintro j σ K0 hj ⟨ns,c4,c5,c6,c7,rfl,ef,hl,hs,bb,u0⟩;refine ⟨_,rfl,wl,10,_,rfl,by decide,by decide,u0,by lia,fun r1 K1 r1a r1b b0 u1=>?_⟩;refine ⟨_,rfl,wl,3,_,rfl,by decide,by decide,u1,by lia,fun r2 K2 r2a r2b b1 u2=>⟨_,_,rfl,rfl,?_⟩⟩;refine ⟨_,rfl,wl,13,_,rfl,by decide,by decide,u2,by lia,fun r3 K3 r3a r3b b2 u3=>⟨_,_,rfl,rfl,?_⟩⟩;refine ⟨_,rfl,wl,1999,_,rfl,by decide,by decide,u3,by lia,fun r4 K4 r4a r4b b3 u4=>⟨_,_,rfl,rfl,?_⟩⟩;refine ⟨t4,fun q1 m1=>?_⟩;have y4:=Same.new m1 (.lst [V.int r1,.int (r2 - 1),.int (r3 - 6),.int (r4 - 999)]);have nq_q1:=u4.ne m1;have u5:=u4.keep y4 (aaG _);have e_q1:=upd_same (H:=K4) (a:=q1) (o:=.lst [V.int r1,.int (r2 - 1),.int (r3 - 6),.int (r4 - 999)]);revert y4 u5 e_q1;generalize upd K4 q1 (.lst [V.int r1,.int (r2 - 1),.int (r3 - 6),.int (r4 - 999)])=K5;intro y4 u5 e_q1;have b4:But wl K4 K5:=But.of y4;refine ⟨_,rfl,10,12,rfl,rfl,⟨by decide,by decide,by decide⟩,_,_,rfl,rfl,?_⟩;refine ⟨_,rfl,wl,99,_,rfl,by decide,by decide,u5,by lia,fun r5 K6 r5a r5b b5 u6=>⟨_,_,rfl,rfl,?_⟩⟩;refine ⟨_,rfl,t2,fun q2 m2=>?_⟩;have y6:=Same.new m2 (.lst [V.int 1,.int (-1)]);have nq_q2:=u6.ne m2;have u7:=u6.keep y6 (aaG _);have e_q2:=upd_same (H:=K6) (a:=q2) (o:=.lst [V.int 1,.int (-1)]);revert y6 u7 e_q2;generalize upd K6 q2 (.lst [V.int 1,.int (-1)])=K7;intro y6 u7 e_q2;have b6:But wl K6 K7:=But.of y6;refine ⟨_,rfl,wl,2,_,rfl,by decide,by decide,u7,by lia,fun r6 K8 r6a r6b b7 u8=>?_⟩;obtain ⟨s1,hs1,vs1⟩:=pm r6a r6b;have p12:(10:Int) ^ (12:Int).toNat=1000000000000:=by decide
    rw [p12];refine ⟨q2,_,_,_,rfl,rfl,SqL.of (b7 _ _ nq_q2 e_q2),hs1,_,_,rfl,rfl,.inr ⟨by lia,by lia⟩,?_⟩;refine ⟨_,rfl,wl,9,_,rfl,by decide,by decide,u8,by lia,fun r7 K9 r7a r7b b8 u9=>⟨_,_,rfl,rfl,?_⟩⟩;refine ⟨t2,fun q3 m3=>?_⟩;have y9:=Same.new m3 (.lst [V.int ((1000000000000 - 1 - r5) * s1),.int (1+r7)]);have nq_q3:=u9.ne m3;have u10:=u9.keep y9 (aaG _);have e_q3:=upd_same (H:=K9) (a:=q3) (o:=.lst [V.int ((1000000000000 - 1 - r5) * s1),.int (1+r7)]);revert y9 u10 e_q3;generalize upd K9 q3 (.lst [V.int ((1000000000000 - 1 - r5) * s1),.int (1+r7)])=K10;intro y9 u10 e_q3;have b9:But wl K9 K10:=But.of y9;refine ⟨q1,q3,_,_,rfl,rfl,((b5.trans (b6.trans (b7.trans (b8.trans b9)))) _ _ nq_q1 e_q1),e_q3,al (by show 4+2≤1000;decide),fun q4 m4=>?_⟩;have y10:=Same.new m4 (.lst ([V.int r1,.int (r2 - 1),.int (r3 - 6),.int (r4 - 999)]++[V.int ((1000000000000 - 1 - r5) * s1),.int (1+r7)]));have nq_q4:=u10.ne m4;have u11:=u10.keep y10 (aaG _);have e_q4:=upd_same (H:=K10) (a:=q4) (o:=.lst ([V.int r1,.int (r2 - 1),.int (r3 - 6),.int (r4 - 999)]++[V.int ((1000000000000 - 1 - r5) * s1),.int (1+r7)]));revert y10 u11 e_q4;generalize upd K10 q4 (.lst ([V.int r1,.int (r2 - 1),.int (r3 - 6),.int (r4 - 999)]++[V.int ((1000000000000 - 1 - r5) * s1),.int (1+r7)]))=K11;intro y10 u11 e_q4;have b10:But wl K10 K11:=But.of y10;have p6:(10:Int) ^ (6:Int).toNat=1000000:=by decide
    refine ⟨_,rfl,10,6,rfl,rfl,⟨by decide,by decide,by decide⟩,wl,_,_,rfl,(by decide),(by decide),u11,by lia,fun r8 K12 r8a r8b b11 u12=>⟨10,6,rfl,rfl,⟨by decide,by decide,by decide⟩,_,_,rfl,rfl,.inr ⟨by decide,by decide⟩,?_⟩⟩;refine ⟨_,rfl,10,6,rfl,rfl,⟨by decide,by decide,by decide⟩,wl,_,_,rfl,(by decide),(by decide),u12,by lia,fun r9 K13 r9a r9b b12 u13=>⟨_,_,rfl,rfl,?_⟩⟩;refine ⟨_,rfl,10,4,rfl,rfl,⟨by decide,by decide,by decide⟩,10,6,rfl,rfl,⟨by decide,by decide,by decide⟩,10,9,rfl,rfl,⟨by decide,by decide,by decide⟩,10,12,rfl,rfl,⟨by decide,by decide,by decide⟩,t4,fun q5 m5=>?_⟩;have y13:=Same.new m5 (.lst [V.int (10 ^ (4:Int).toNat),.int (10 ^ (6:Int).toNat),.int (10 ^ (9:Int).toNat),.int (10 ^ (12:Int).toNat)]);have nq_q5:=u13.ne m5;have u14:=u13.keep y13 (aaG _);have e_q5:=upd_same (H:=K13) (a:=q5) (o:=.lst [V.int (10 ^ (4:Int).toNat),.int (10 ^ (6:Int).toNat),.int (10 ^ (9:Int).toNat),.int (10 ^ (12:Int).toNat)]);revert y13 u14 e_q5;generalize upd K13 q5 (.lst [V.int (10 ^ (4:Int).toNat),.int (10 ^ (6:Int).toNat),.int (10 ^ (9:Int).toNat),.int (10 ^ (12:Int).toNat)])=K14;intro y13 u14 e_q5;have b13:But wl K13 K14:=But.of y13;refine ⟨_,rfl,wl,4,_,rfl,by decide,by decide,u14,by lia,fun r10 K15 r10a r10b b14 u15=>?_⟩;obtain ⟨md,hmd,md0,md1⟩:=p4 r10a r10b;refine ⟨q5,_,_,_,rfl,rfl,SqL.of (b14 _ _ nq_q5 e_q5),hmd,_,_,rfl,rfl,md0,_,rfl,t2,fun q6 m6=>?_⟩;have y15:=Same.new m6 (.lst [V.int 1,.int (-1)]);have nq_q6:=u15.ne m6;have u16:=u15.keep y15 (aaG _);have e_q6:=upd_same (H:=K15) (a:=q6) (o:=.lst [V.int 1,.int (-1)]);revert y15 u16 e_q6;generalize upd K15 q6 (.lst [V.int 1,.int (-1)])=K16;intro y15 u16 e_q6;have b15:But wl K15 K16:=But.of y15;refine ⟨_,rfl,wl,2,_,rfl,by decide,by decide,u16,by lia,fun r11 K17 r11a r11b b16 u17=>?_⟩;obtain ⟨s2,hs2,vs2⟩:=pm r11a r11b;have hwd:=nJ (r8 * 10 ^ (6:Int).toNat+r9) md md0;refine ⟨q6,_,_,_,rfl,rfl,SqL.of (b16 _ _ nq_q6 e_q6),hs2,_,_,rfl,rfl,.inr ⟨by lia,by lia⟩,?_⟩;refine ⟨_,rfl,wl,8,_,rfl,by decide,by decide,u17,by lia,fun r12 K18 r12a r12b b17 u18=>?_⟩;refine ⟨_,rfl,.inl ⟨rfl,_,SqL.of ((b0.trans (b1.trans (b2.trans (b3.trans (b4.trans (b5.trans (b6.trans (b7.trans (b8.trans (b9.trans (b10.trans (b11.trans (b12.trans (b13.trans (b14.trans (b15.trans (b16.trans b17))))))))))))))))) _ _ nfw ef)⟩,_,rfl,_,rfl,_,rfl,?_⟩;refine ⟨pf,q4,_,_,rfl,rfl,((b0.trans (b1.trans (b2.trans (b3.trans (b4.trans (b5.trans (b6.trans (b7.trans (b8.trans (b9.trans (b10.trans (b11.trans (b12.trans (b13.trans (b14.trans (b15.trans (b16.trans b17))))))))))))))))) _ _ nfw ef),((b11.trans (b12.trans (b13.trans (b14.trans (b15.trans (b16.trans b17)))))) _ _ nq_q4 e_q4),al (by rw [aaf];show _+6≤1000;lia),fun q7 m7=>?_⟩;have eall:ns.map V.int++([V.int r1,.int (r2 - 1),.int (r3 - 6),.int (r4 - 999)]++[V.int ((1000000000000 - 1 - r5) * s1),.int (1+r7)])=(ns++[r1,r2 - 1,r3 - 6,r4 - 999,(1000000000000 - 1 - r5) * s1,1+r7]).map V.int:=by rw [aaP];rfl
    rw [eall];have y18:=Same.new m7 (.lst ((ns++[r1,r2 - 1,r3 - 6,r4 - 999,(1000000000000 - 1 - r5) * s1,1+r7]).map V.int));have nq_q7:=u18.ne m7;have u19:=u18.keep y18 (aaG _);have e_q7:=upd_same (H:=K18) (a:=q7) (o:=.lst ((ns++[r1,r2 - 1,r3 - 6,r4 - 999,(1000000000000 - 1 - r5) * s1,1+r7]).map V.int));revert y18 u19 e_q7;generalize upd K18 q7 (.lst ((ns++[r1,r2 - 1,r3 - 6,r4 - 999,(1000000000000 - 1 - r5) * s1,1+r7]).map V.int))=K19;intro y18 u19 e_q7;have b18:But wl K18 K19:=But.of y18;obtain ⟨x0,hx0,mx0⟩:=nu (xs:=(ns++[r1,r2 - 1,r3 - 6,r4 - 999,(1000000000000 - 1 - r5) * s1,1+r7])) (r:=0) (by decide) (by rw [aah];simp only [aao,abE];lia);refine ⟨q7,_,_,_,rfl,rfl,SqL.of e_q7,hx0,_,rfl,t2,fun q8 m8=>?_⟩;have y19:=Same.new m8 (.lst [V.int x0,.int ((r8 * 10 ^ (6:Int).toNat+r9) % md * s2)]);have nq_q8:=u19.ne m8;have u20:=u19.keep y19 (aaG _);have e_q8:=upd_same (H:=K19) (a:=q8) (o:=.lst [V.int x0,.int ((r8 * 10 ^ (6:Int).toNat+r9) % md * s2)]);revert y19 u20 e_q8;generalize upd K19 q8 (.lst [V.int x0,.int ((r8 * 10 ^ (6:Int).toNat+r9) % md * s2)])=K20;intro y19 u20 e_q8;have b19:But wl K19 K20:=But.of y19;refine ⟨q4,q8,_,_,rfl,rfl,((b11.trans (b12.trans (b13.trans (b14.trans (b15.trans (b16.trans (b17.trans (b18.trans b19)))))))) _ _ nq_q4 e_q4),e_q8,al (by show 6+2≤1000;decide),fun q9 m9=>?_⟩;have e8:[V.int r1,.int (r2 - 1),.int (r3 - 6),.int (r4 - 999)]++[V.int ((1000000000000 - 1 - r5) * s1),.int (1+r7)]++[V.int x0,.int ((r8 * 10 ^ (6:Int).toNat+r9) % md * s2)]=([r1,r2 - 1,r3 - 6,r4 - 999,(1000000000000 - 1 - r5) * s1,1+r7,x0,(r8 * 10 ^ (6:Int).toNat+r9) % md * s2]:List Int).map V.int:=rfl;rw [e8];have y20:=Same.new m9 (.lst (([r1,r2 - 1,r3 - 6,r4 - 999,(1000000000000 - 1 - r5) * s1,1+r7,x0,(r8 * 10 ^ (6:Int).toNat+r9) % md * s2]:List Int).map V.int));have nq_q9:=u20.ne m9;have u21:=u20.keep y20 (aaG _);have e_q9:=upd_same (H:=K20) (a:=q9) (o:=.lst (([r1,r2 - 1,r3 - 6,r4 - 999,(1000000000000 - 1 - r5) * s1,1+r7,x0,(r8 * 10 ^ (6:Int).toNat+r9) % md * s2]:List Int).map V.int));revert y20 u21 e_q9;generalize upd K20 q9 (.lst (([r1,r2 - 1,r3 - 6,r4 - 999,(1000000000000 - 1 - r5) * s1,1+r7,x0,(r8 * 10 ^ (6:Int).toNat+r9) % md * s2]:List Int).map V.int))=K21;intro y20 u21 e_q9;have b20:But wl K20 K21:=But.of y20;refine ⟨_,rfl,_,rfl,t2,fun qa ma=>?_⟩;have y21:=Same.new ma (.lst [V.int kd,.int r12]);have nq_qa:=u21.ne ma;have u22:=u21.keep y21 (aaG _);have e_qa:=upd_same (H:=K21) (a:=qa) (o:=.lst [V.int kd,.int r12]);revert y21 u22 e_qa;generalize upd K21 qa (.lst [V.int kd,.int r12])=K22;intro y21 u22 e_qa;have b21:But wl K21 K22:=But.of y21;have ix:∃ z:Int,atI [V.int kd,.int r12] (if decide (V.int kd=V.int 8)=true then 1 else 0)=some (.int z)∧0≤z∧z < 8:=by
      by_cases c:kd=8
      · exact ⟨r12,by rw [decide_eq_true (by rw [c])];rfl,r12a,r12b⟩
      · exact ⟨kd,by rw [decide_eq_false (fun e=>c (by injection e))];rfl,kd0,by lia⟩
    obtain ⟨zi,hzi,zi0,zi1⟩:=ix;obtain ⟨el,hel,mel⟩:=nu (xs:=[r1,r2 - 1,r3 - 6,r4 - 999,(1000000000000 - 1 - r5) * s1,1+r7,x0,(r8 * 10 ^ (6:Int).toNat+r9) % md * s2]) zi0 zi1;refine ⟨_,rfl,rfl,.inr ⟨_,rfl,qa,_,_,_,rfl,rfl,SqL.of e_qa,hzi,q9,_,_,_,rfl,rfl,SqL.of (b21 _ _ nq_q9 e_q9),hel,pf,_,_,rfl,rfl,((b0.trans (b1.trans (b2.trans (b3.trans (b4.trans (b5.trans (b6.trans (b7.trans (b8.trans (b9.trans (b10.trans (b11.trans (b12.trans (b13.trans (b14.trans (b15.trans (b16.trans (b17.trans (b18.trans (b19.trans (b20.trans b21))))))))))))))))))))) _ _ nfw ef),aQ (by rw [aaf];lia),?_⟩⟩;have sm5:-1000000000000 < (1000000000000 - 1 - r5) * s1∧(1000000000000 - 1 - r5) * s1 < 1000000000000:=by rcases vs1 with rfl|rfl <;> lia
    have smw:-1000000000000 < (r8 * 10 ^ (6:Int).toNat+r9) % md * s2∧(r8 * 10 ^ (6:Int).toNat+r9) % md * s2 < 1000000000000:=by rcases vs2 with rfl|rfl <;> lia
    have sm1:∀ x∈[r1,r2 - 1,r3 - 6,r4 - 999,(1000000000000 - 1 - r5) * s1,1+r7],-1000000000000 < x∧x < 1000000000000:=fun x hx=>by
      simp only [aaj,abz,or_false] at hx;rcases hx with rfl|rfl|rfl|rfl|rfl|rfl <;> first|exact sm5|lia
    have sx0:-1000000000000 < x0∧x0 < 1000000000000:=(aau.mp mx0).elim (hs x0) (sm1 x0);have sel:-1000000000000 < el∧el < 1000000000000:=by
      simp only [aaj,abz,or_false] at mel;rcases mel with rfl|rfl|rfl|rfl|rfl|rfl|rfl|rfl <;> first|exact sm5|exact sx0|exact smw|lia
    refine ⟨ns++[el],_,_,_,_,rfl,by rw [upd_same,aaP];rfl,by rw [aah,hl];rfl,fun x hx=>(aau.mp hx).elim (hs x) fun z=>by rw [aaN.mp z];exact sel,?_,?_⟩
    · exact fun c o nc hc=>by
        by_cases z:c=pf
        · subst z;rw [nf] at hc;cases hc
        · rw [aI z];exact (bb.trans (b0.trans (b1.trans (b2.trans (b3.trans (b4.trans (b5.trans (b6.trans (b7.trans (b8.trans (b9.trans (b10.trans (b11.trans (b12.trans (b13.trans (b14.trans (b15.trans (b16.trans (b17.trans (b18.trans (b19.trans (b20.trans b21)))))))))))))))))))))) c o nc hc
    · obtain ⟨wa,wb,we,wf,wg⟩:=u22;exact ⟨wa,wb,by rw [aI (abM nfw)];exact we,wf,wg⟩
  · rintro σ K1 ⟨ns,c4,c5,c6,c7,rfl,ef,hl,hs,bb,u0⟩;exact ⟨_,rfl,q pf ns K1 (g1.trans bb) (u0.more (by lia)) hfree ef (by lia) hs⟩
end
open PySem L2
def Wy.os:Wy→Option Sg
  | .num _=>none
  | .node g _ _=>some g
def sX:Option Sg→Str
  | none=>""
  | some g=>g.str
def aD:Sg→Option Sg→Bool
  | .times,some .plus=>true
  | .times,some .minus=>true
  | _,_=>false
def aE:Sg→Option Sg→Bool
  | _,some .plus=>true
  | _,some .minus=>true
  | .times,some .times=>true
  | _,_=>false
def b1 (b:Bool):Int:=if b then 1 else 0
def Wy.brk:Wy→Int
  | .num _=>0
  | .node g l r=>b1 (aD g l.os)+b1 (aE g r.os)+l.brk+r.brk
theorem vK (o:Option Sg):inV (.str (sX o)) [.str "+",.str "-"]=aD .times o:=by
  cases o with
  | none=>decide +kernel
  | some g=>cases g <;> decide +kernel
theorem eN (g:Sg):decide (V.str g.str=V.str "*")=decide (g=.times):=by cases g <;> decide +kernel
theorem rH (o:Option Sg):decide (V.str (sX o)=V.str "*")=decide (o=some .times):=by
  cases o with
  | none=>decide +kernel
  | some g=>cases g <;> decide +kernel
section
variable {P:Program} {w:World} {K:aaa} {mg:Str→Option Value} {base:Heap} {f:Addr} {fd:FuncData}
def oU:Sp:=fun vs H Q _=>∃ g o,vs=[.str (Sg.str g),.str (sX o)]∧∀ H',Same H H'→Q (.bl (aD g o)) H'
abbrev cN:Stmt:=top 19
theorem gi:FnScope ["sign","left_sign"] ["sign","left_sign"] (aq cN):=⟨rfl,rfl,rfl,by decide +kernel,rfl,by decide +kernel,by decide +kernel⟩
theorem u_ (F:Fun K "left_in_brackets" "left_in_brackets" cN f fd):FnOk P w K mg base CX0 1 f fd ["sign","left_sign"] oU:=by
  refine F.ok gi (fun vs H Q E h=>?_) (fun cdv A outer s H vs Q E hr h=>?_)
  · obtain ⟨g,o,rfl,_⟩:=h;rfl
  obtain ⟨g,o,rfl,q⟩:=h;refine ⟨_,(@ag _ _ _ (@ar _ _ _ _ (@jG _ _ _ _ _ _ _ (@bp _ _ _ _ _ _ _ _ bc (pv 0) af (ak _)) (@io _ _ _ _ _ (@bp _ _ _ _ _ _ _ _ eM (pv 1) (@bT _ _ _ _ _ (@aa _ _ _ _ _ af (@aa _ _ _ _ _ af ac (by rfl)) (by rfl))) (by with_unfolding_all rfl)))))),?_⟩;by_cases c:g=.times
  · subst c;refine ⟨_,rfl,rfl,true,rfl,aC ⟨_,rfl,(by show 2≤sizeLine;decide),fun p n=>⟨p,_,rfl,.inr (SqT.of upd_same),rfl,rfl,?_⟩⟩⟩;have:=q _ (Same.new n (.tup [.str "+",.str "-"]));rw [← vK] at this;exact this
  · refine ⟨_,rfl,rfl,false,?_,av ?_⟩
    · rw [eN,decide_eq_false c]
    · have:=q H (Same.refl _);have e:aD g o=false:=by cases g <;> first|rfl|exact absurd rfl c
      rw [e] at this;exact this
def jx:Sp:=fun vs H Q _=>∃ g o,vs=[.str (Sg.str g),.str (sX o)]∧∀ H',Same H H'→Q (.bl (aE g o)) H'
abbrev cE:Stmt:=top 20
theorem fz:FnScope ["sign","right_sign"] ["sign","right_sign"] (aq cE):=⟨rfl,rfl,rfl,by decide +kernel,rfl,by decide +kernel,by decide +kernel⟩
theorem rh (F:Fun K "right_in_brackets" "right_in_brackets" cE f fd):FnOk P w K mg base CX0 1 f fd ["sign","right_sign"] jx:=by
  refine F.ok fz (fun vs H Q E h=>?_) (fun cdv A outer s H vs Q E hr h=>?_)
  · obtain ⟨g,o,rfl,_⟩:=h;rfl
  obtain ⟨g,o,rfl,q⟩:=h;refine ⟨_,(@ag _ _ _ (@ar _ _ _ _ (@vH _ _ _ _ _ _ _ (@bp _ _ _ _ _ _ _ _ eM (pv 1) (@bT _ _ _ _ _ (@aa _ _ _ _ _ af (@aa _ _ _ _ _ af ac (by rfl)) (by rfl))) (by with_unfolding_all rfl)) (@io _ _ _ _ _ (@jG _ _ _ _ _ _ _ (@bp _ _ _ _ _ _ _ _ bc (pv 0) af (ak _)) (@io _ _ _ _ _ (@bp _ _ _ _ _ _ _ _ bc (pv 1) af (ak _)))))))),?_⟩;refine ⟨_,rfl,(by show 2≤sizeLine;decide),fun p n=>⟨p,_,rfl,.inr (SqT.of upd_same),rfl,rfl,?_⟩⟩;have q':=q _ (Same.new n (.tup [.str "+",.str "-"]));have e0:=vK o;cases hb:aD .times o with
  | true =>
    rw [hb] at e0;refine ⟨true,congrArg V.bl e0,aC ?_⟩;have e:aE g o=true:=by
      cases o with
      | none=>cases hb
      | some x=>cases x <;> first|(cases g <;> rfl)|exact absurd hb (by decide)
    rw [e] at q';exact q'
  | false =>
    rw [hb] at e0;refine ⟨false,congrArg V.bl e0,av ?_⟩;by_cases c:g=.times
    · subst c;refine ⟨_,rfl,rfl,true,rfl,aC ⟨_,rfl,rfl,?_⟩⟩;have e:aE .times o=decide (o=some .times):=by
        cases o with
        | none=>rfl
        | some x=>cases x <;> first|rfl|exact absurd hb (by decide)
      rw [e,← rH] at q';exact q'
    · refine ⟨_,rfl,rfl,false,?_,av ?_⟩
      · rw [eN,decide_eq_false c]
      · have e:aE g o=false:=by
          cases o with
          | none=>cases g <;> rfl
          | some x=>cases x <;> cases g <;> first|rfl|exact absurd rfl c|exact absurd hb (by decide)
        rw [e] at q';exact q'
def sC:Sp:=fun vs H Q _=>∃ w v,vs=[v]∧WyIn H w v∧Q (.str (sX w.os)) H
abbrev gA:Stmt:=top 18
theorem m_:FnScope ["way"] ["way"] (aq gA):=⟨rfl,rfl,rfl,by decide +kernel,rfl,by decide +kernel,by decide +kernel⟩
theorem wJ (F:Fun K "own_sign" "own_sign" gA f fd) (C_is_whole:Cal P w K mg base "is_whole" 1 ["thing"] (jc K)):FnOk P w K mg base CX0 2 f fd ["way"] sC:=by
  refine F.ok m_ (fun vs H Q E h=>?_) (fun cdv A outer s H vs Q E hr h=>?_)
  · obtain ⟨wy,v,rfl,_⟩:=h;rfl
  obtain ⟨wy,v,rfl,hw,q⟩:=h;refine ⟨_,(@ag _ _ _ (@ar _ _ _ _ (@bO _ _ _ _ _ _ _ _ (@bE _ _ _ (@am _ _ _ _ _ _ _ _ _ _ _ C_is_whole hr (by lia) rfl (@aa _ _ _ _ _ (pv 0) ac (by rfl)) (by decide) (by rfl) (by rfl)) (by intro _;rfl)) af (@aK _ _ _ _ _ _ _ ix_tup (pv 0) ae (fun _ _=>rfl))))),?_⟩;cases wy with
  | num i =>
    cases hw;exact ⟨_,rfl,_,"int",rfl,.int i,true,rfl,aC q⟩
  | node g l r =>
    obtain ⟨a,vl,vr,rfl,ha,hl,hr'⟩:=hw;exact ⟨_,rfl,_,"tuple",rfl,.tup ha,false,rfl,av ⟨_,rfl,a,_,_,_,rfl,rfl,SqT.of ha,rfl,q⟩⟩
end
open PySem L2
def mkS (l:List Nat):Str:=⟨l.toArray⟩
theorem aU (a b:List Nat):mkS a++mkS b=mkS (a++b):=by
  show Str.mk (a.toArray++b.toArray)=Str.mk (a++b).toArray;simp
theorem ah (l:List Nat):(mkS l).length=l.length:=by simp [mkS,Str.length]
theorem ff {a b:List Nat} (h:mkS a=mkS b):a=b:=by
  unfold mkS at h;have:=congrArg Str.cps h;simpa using this
theorem fR (l:List Nat):(mkS l).cps.size=l.length:=by simp [mkS]
theorem iC (l:List Nat) (i:Nat):(mkS l).cps[i]?=l[i]?:=by simp [mkS]
theorem bK (l:List Nat):(mkS l).cps.toList=l:=by simp [mkS]
def Sg.code:Sg→Nat
  | .plus=>43
  | .minus=>45
  | .times=>42
theorem dt (g:Sg):g.str=mkS [g.code]:=by cases g <;> rfl
theorem pI (l:List Nat) (a:Nat):∀ n,a+n≤l.length→(((aby n).map fun (k:Nat)=>a+k).filterMap fun i=>l[i]?)=(l.drop a).take n:=by
  intro n
  induction n with
  | zero=>intro _;simp
  | succ n ih =>
    intro h;have hl:a+n < l.length:=by lia
    rw [List.range_succ,aaP,List.filterMap_append,ih (by lia)];have e:(l.drop a)[n]?=some l[a+n]:=by rw [List.getElem?_drop];exact aac hl
    rw [List.take_succ,e];simp [hl]
theorem dN (l:List Nat) (a b:Nat) (hab:a≤b) (hb:b≤l.length) (ix:List Nat) (hix:ix=(aby (b - a)).map fun (k:Nat)=>a+k):(if ix.length=(mkS l).length then mkS l else ⟨(ix.filterMap ((mkS l).cps[·]?)).toArray⟩:Str)=mkS ((l.drop a).take (b - a)):=by
  subst hix;have e2:(((aby (b - a)).map fun (k:Nat)=>a+k).filterMap ((mkS l).cps[·]?))=(l.drop a).take (b - a):=by
    have : (fun i:Nat=>(mkS l).cps[i]?)=fun i:Nat=>l[i]?:=by funext i;exact iC l i
    rw [this];exact pI l a (b - a) (by lia)
  rw [e2];split
  · rename_i h;rw [aaf,List.length_range,ah] at h;have ha:a=0:=by lia
    have hb:b=l.length:=by lia
    subst ha hb;simp
  · rfl
theorem gH (a b:Nat) (hab:a≤b):abf (a:Int) (b:Int) 1=(aby (b - a)).map fun (k:Nat)=>a+k:=by
  unfold abf;simp only [show (1:Int) > 0 by decide,if_true];by_cases h:a < b
  · rw [if_pos (by lia)];have e:(((b:Int) - a+1 - 1) / 1).toNat=b - a:=by rw [Int.ediv_one];lia
    rw [e];refine abF fun k _=>?_;lia
  · rw [if_neg (by lia)];have : b - a=0:=by lia
    rw [this];rfl
theorem lq (l:List Nat) (k:Nat) (h:k≤l.length):bu (mkS l) none (some (k:Int))=mkS (l.take k):=by
  have e:aan none (some (k:Int)) 1 (mkS l).length=abf ((0:Nat):Int) (k:Int) 1:=by
    unfold aan;rw [ah];simp only [show (1:Int) > 0 by decide,if_true];congr 1;lia
  unfold bu;rw [e,dN l 0 k (aaK _) h _ (gH 0 k (aaK _))];simp
theorem lu (l:List Nat) (k:Nat) (h:k≤l.length):bu (mkS l) (some (k:Int)) none=mkS (l.drop k):=by
  have e:aan (some (k:Int)) none 1 (mkS l).length=abf (k:Int) (l.length:Int) 1:=by
    unfold aan;rw [ah];simp only [show (1:Int) > 0 by decide,if_true];congr 1;lia
  unfold bu;rw [e,dN l k l.length h (aab _) _ (gH k l.length h)];rw [aaQ (by rw [aay];exact aab _)]
theorem om (l:List Nat) (x y:Nat):bu (mkS (x :: l++[y])) (some 1) (some (-1))=mkS l:=by
  have hl:(x :: l++[y]).length=l.length+2:=by simp
  have e:aan (some 1) (some (-1)) 1 (mkS (x :: l++[y])).length=abf ((1:Nat):Int) ((l.length+1:Nat):Int) 1:=by
    unfold aan;rw [ah,hl];simp only [show (1:Int) > 0 by decide,if_true];congr 1 <;> (try lia)
    all_goals (split <;> lia)
  unfold bu;rw [e,dN _ 1 (l.length+1) (by lia) (by lia) _ (gH 1 (l.length+1) (by lia))];congr 1;have : l.length+1 - 1=l.length:=by lia
  rw [this];simp
theorem uM (l:List Nat) (c:Nat):Txt.startswith (mkS l) (mkS [c])=decide (l.head?=some c):=by
  unfold Txt.startswith Builtin.Str.subAt;rw [ah,ah];cases l with
  | nil=>simp [mkS]
  | cons a r=>simp [mkS];rw [aaH];simp
theorem ye (l:List Nat) (c:Nat):Txt.endswith (mkS l) (mkS [c])=decide (l.getLast?=some c):=by
  unfold Txt.endswith Builtin.Str.subAt;rw [ah,ah];rcases aaY l with h|⟨r,a,h⟩
  · subst h;simp [mkS]
  · subst h;simp [mkS];rw [aaH];simp
theorem xI (l:List Nat) (c:Nat):acI (mkS l) (mkS [c])=mkS (if l.head?=some c then l.tail else l):=by
  unfold acI Builtin.Str.subAt;rw [ah];cases l with
  | nil=>simp [mkS,Txt.affix]
  | cons a r =>
    by_cases h:a=c
    · subst h;simp [mkS,Txt.affix,Str.length,abH]
    · simp [mkS,Txt.affix,h,List.head?]
theorem iL (x:Str) (c hi limit:Nat) (hx:hi=x.length):∀ (n a:Nat) (st:Array Nat × Nat),st.2≤a→a+n=hi+1→st.1.size+n≤limit →
    (forIn (List.range' a n) st (StrLaws.occBody x ⟨#[c]⟩ hi limit)).run.fst.size=st.1.size+(x.cps.toList.drop a).count c
  | 0,a,st,h1,h2,h3=>by
    have : x.cps.toList.drop a=[]:=acr (by simp [Str.length] at hx ⊢;lia);rw [this];rfl
  | n+1,a,st,h1,h2,h3=>by
    rw [List.range'_succ,List.forIn_cons];unfold StrLaws.occBody;have key:=StrLaws.subAt_one x c a;rw [← hx] at key;by_cases hc:x.cps.toList[a]?=some c
    · have k2:=key.mpr hc;rw [if_pos ⟨⟨⟨by lia,h1⟩,k2.1⟩,k2.2⟩];have ih:=iL x c hi limit hx n (a+1) (st.1.push a,a+1) (aab _) (by lia) (by simp;lia);refine Eq.trans ih ?_;obtain ⟨hlt,e⟩:=aam.mp hc;rw [aa0 hlt,e];simp;lia
    · rw [if_neg (fun z=>hc (key.mp ⟨z.1.2,z.2⟩))];have ih:=iL x c hi limit hx n (a+1) st (by lia) (by lia) (by lia);refine Eq.trans ih ?_;by_cases hlt:a < x.cps.toList.length
      · rw [aa0 hlt,acB];intro e;exact hc (by rw [aac hlt,e])
      · rw [acr (by lia),acr (by lia)]
theorem pL (l:List Nat) (c:Nat):Txt.count (mkS l) (mkS [c])=(l.count c:Nat):=by
  unfold Txt.count;rw [StrLaws.occ_eq,Array.length_toList];have:=iL (mkS l) c (mkS l).length ((mkS l).length+1) rfl ((mkS l).length+1) 0 (#[],0) (aab _) (by lia) (by simp);rw [bK] at this;refine congrArg Int.ofNat ?_;have e:mkS [c]=⟨#[c]⟩:=rfl;rw [e];simpa using this
def dg (n:Nat):List Nat:=if n < 10 then [48+n] else dg (n / 10)++[48+n % 10]
termination_by n
decreasing_by lia
theorem cZ {n:Nat} (h:n < 10):dg n=[48+n]:=by rw [dg,if_pos h]
theorem gO {n:Nat} (h:¬ n < 10):dg n=dg (n / 10)++[48+n % 10]:=by rw [dg,if_neg h]
theorem mG:∀ (k n:Nat),n < 10 ^ (k+1)→(dg n).length≤k+1
  | 0,n,h=>by rw [cZ (by simpa using h)];simp
  | k+1,n,h=>by
    by_cases c:n < 10
    · rw [cZ c];simp
    · rw [gO c,aah];have:=mG k (n / 10) (by
        have e:10 ^ (k+1+1)=10 ^ (k+1) * 10:=by rw [Nat.pow_succ]
        rw [e] at h;exact Nat.div_lt_of_lt_mul (by rw [Nat.mul_comm];exact h))
      simp only [ab4];lia
theorem ua (n:Nat):dg n≠[]:=by
  by_cases c:n < 10
  · rw [cZ c];simp
  · rw [gO c];simp
theorem ka (n:Nat):∀ c∈dg n,48≤c∧c≤57:=by
  induction n using Nat.strongRecOn with
  | ind n ih =>
    intro c hc;by_cases h:n < 10
    · rw [cZ h] at hc;simp at hc;lia
    · rw [gO h] at hc;rcases aau.mp hc with hc|hc
      · exact ih (n / 10) (by lia) c hc
      · simp at hc;lia
def rd (l:List Nat):Nat:=l.foldl (fun a c=>a * 10+(c - 48)) 0
theorem t_ (n:Nat):rd (dg n)=n:=by
  induction n using Nat.strongRecOn with
  | ind n ih =>
    by_cases h:n < 10
    · rw [cZ h];simp [rd]
    · rw [gO h];have:=ih (n / 10) (by lia);unfold rd at this ⊢;rw [abR,this];simp only [abD,List.foldl_nil];lia
theorem vt (n:Nat) (h:n≠0):(dg n).head?≠some 48:=by
  induction n using Nat.strongRecOn with
  | ind n ih =>
    by_cases c:n < 10
    · rw [cZ c];simp;lia
    · rw [gO c];have hne:=ua (n / 10);have:=ih (n / 10) (by lia) (by lia);cases hd:dg (n / 10) with
      | nil=>exact absurd hd hne
      | cons a r=>rw [hd] at this;simpa using this
def wn (i:Int):List Nat:=(if i < 0 then [126] else [])++dg i.natAbs
theorem ft (i:Int):∀ c∈wn i,c=126∨(48≤c∧c≤57):=by
  intro c hc;rcases aau.mp hc with h|h
  · split at h
    · simp at h;exact .inl h
    · cases h
  · exact .inr (ka _ c h)
theorem rW (i:Int) (h:-1000000000000 < i∧i < 1000000000000):(wn i).length≤13:=by
  have:=mG 11 i.natAbs (by show _ < 1000000000000;lia);unfold wn;rw [aah];split <;> simp <;> lia
def br (b:Bool) (l:List Nat):List Nat:=if b then 40 :: l++[41] else l
def Wy.tx:Wy→List Nat
  | .num i=>wn i
  | .node g l r=>br (aD g l.os) l.tx++g.code :: br (aE g r.os) r.tx
theorem iN (b:Bool) (l:List Nat):(br b l).length≤l.length+2:=by cases b <;> simp [br]
theorem fu:∀ w:Wy,b_ w.nums→w.tx.length+5≤18 * w.size
  | .num i,h=>by have:=rW i (h i (by simp [Wy.nums]));show (wn i).length+5≤18 * 1;lia
  | .node g l r,h=>by
    have a:=fu l fun i hi=>h i (aaV _ hi);have b:=fu r fun i hi=>h i (aag _ hi);have c:=iN (aD g l.os) l.tx;have d:=iN (aE g r.os) r.tx;show (br (aD g l.os) l.tx++g.code :: br (aE g r.os) r.tx).length+5≤18 * (l.size+r.size);rw [aah,aao];lia
def okc (c:Nat):Prop:=c=126∨(48≤c∧c≤57)∨c=40∨c=41∨c=42∨c=43∨c=45
theorem ut {b:Bool} {l:List Nat} {c:Nat} (h:c∈br b l):c∈l∨c=40∨c=41:=by
  cases b with
  | false=>exact .inl h
  | true =>
    rcases aau.mp h with h|h
    · rcases aaj.mp h with h|h
      · exact .inr (.inl h)
      · exact .inl h
    · exact .inr (.inr (by simpa using h))
theorem oG:∀ (w:Wy),∀ c∈w.tx,okc c
  | .num i,c,h=>(ft i c h).elim .inl fun z=>.inr (.inl z)
  | .node g l r,c,h=>by
    rcases aau.mp h with h|h
    · rcases ut h with h|h|h
      · exact oG l c h
      · exact .inr (.inr (.inl h))
      · exact .inr (.inr (.inr (.inl h)))
    · rcases aaj.mp h with h|h
      · subst h;cases g <;> simp [okc,Sg.code]
      · rcases ut h with h|h|h
        · exact oG r c h
        · exact .inr (.inr (.inl h))
        · exact .inr (.inr (.inr (.inl h)))
theorem rg {l:List Nat} (h:∀ c∈l,okc c):(mkS l).cps.all (· < 128)=true:=by
  unfold mkS;rw [aa4];intro c hc;have:=h c (by simpa using hc);rcases this with h|h|h|h|h|h|h <;> simp <;> lia
abbrev LS:=Int × Option Nat × Option Nat
def lj1 (i c:Nat) (s:LS):LS :=
  if c=40 then (s.1+1,s.2) else if c=41 then (s.1 - 1,s.2) else if s.1=0∧(c=43∨c=45) then (s.1,some i,s.2.2) else if s.1=0∧c=42 then (s.1,s.2.1,some i) else s
def lj:Nat→List Nat→LS→LS
  | _,[],s=>s
  | i,c :: r,s=>lj (i+1) r (lj1 i c s)
theorem jQ:∀ (a b:List Nat) (i:Nat) (s:LS),lj i (a++b) s=lj (i+a.length) b (lj i a s)
  | [],b,i,s=>rfl
  | c :: r,b,i,s=>by
    show lj (i+1) (r++b) (lj1 i c s)=_;rw [jQ r b (i+1)];show lj (i+1+r.length) b _=lj (i+(r.length+1)) b _;rw [show i+1+r.length=i+(r.length+1) by lia];rfl
def d7 (l:List Nat):Option Nat:=match (lj 0 l (0,none,none)).2.1 with|none=>(lj 0 l (0,none,none)).2.2|some k=>some k
theorem jP:∀ (l:List Nat) (i:Nat) (s:LS),(∀ c∈l,c=126∨(48≤c∧c≤57))→lj i l s=s
  | [],_,_,_=>rfl
  | c :: r,i,s,h=>by
    have hc:=h c (by simp);have e:lj1 i c s=s:=by
      unfold lj1;rw [if_neg (by lia),if_neg (by lia),if_neg (by lia),if_neg (by lia)]
    show lj (i+1) r (lj1 i c s)=s;rw [e];exact jP r (i+1) s fun d hd=>h d (aae _ hd)
theorem tq (i:Nat) (l:List Nat) (d:Int) (x:Option Nat × Option Nat) (h:lj (i+1) l (d+1,x)=(d+1,x)):lj i (40 :: l++[41]) (d,x)=(d,x):=by
  show lj (i+1) (l++[41]) (lj1 i 40 (d,x))=_;have e:lj1 i 40 (d,x)=(d+1,x):=rfl;rw [e,jQ,h];show lj1 (i+1+l.length) 41 (d+1,x)=_;unfold lj1;rw [if_neg (by decide),if_pos rfl];show (d+1 - 1,x)=_;rw [Int.add_sub_cancel]
theorem lH:∀ (w:Wy) (i:Nat) (d:Int) (x:Option Nat × Option Nat),0 < d→lj i w.tx (d,x)=(d,x)
  | .num n,i,d,x,_=>jP _ _ _ (ft n)
  | .node g l r,i,d,x,hd=>by
    have hbr:∀ (b:Bool) (w:Wy) (i:Nat),(∀ (i:Nat) (d:Int),0 < d→lj i w.tx (d,x)=(d,x))→lj i (br b w.tx) (d,x)=(d,x):=fun b w i ih=>by
      cases b with
      | false=>exact ih i d hd
      | true=>exact tq i w.tx d x (ih (i+1) (d+1) (by lia))
    show lj i (br (aD g l.os) l.tx++g.code :: br (aE g r.os) r.tx) (d,x)=_;rw [jQ,hbr _ l i (fun i d h=>lH l i d x h)];have e:lj1 (i+(br (aD g l.os) l.tx).length) g.code (d,x)=(d,x):=by
      unfold lj1;rw [if_neg (by cases g <;> decide),if_neg (by cases g <;> decide),if_neg (fun z=>by have:=z.1;simp at this;lia),if_neg (fun z=>by have:=z.1;simp at this;lia)]
    show lj _ _ (lj1 _ g.code (d,x))=_;rw [e];exact hbr _ r _ (fun i d h=>lH r i d x h)
theorem pQ (w:Wy) (i:Nat) (x:Option Nat × Option Nat):lj i (40 :: w.tx++[41]) (0,x)=(0,x):=tq i w.tx 0 x (lH w (i+1) (0+1) x (by decide))
def Wy.ll:Wy→Nat
  | .num _=>0
  | .node g l _=>(br (aD g l.os) l.tx).length
theorem oF:∀ (w:Wy) (i:Nat) (s p:Option Nat),∃ s' p',lj i w.tx (0,s,p)=(0,s',p')∧(w.os=none→s'=s∧p'=p)∧(w.os=some .times→s'=s∧p'=some (i+w.ll))∧((w.os=some .plus∨w.os=some .minus)→s'=some (i+w.ll))
  | .num n,i,s,p=>⟨s,p,jP _ _ _ (ft n),fun _=>⟨rfl,rfl⟩,fun z=>by simp [Wy.os] at z,fun z=>by simp [Wy.os] at z⟩
  | .node g l r,i,s,p=>by
    have e:lj i (Wy.node g l r).tx (0,s,p)=lj (i+(br (aD g l.os) l.tx).length+1) (br (aE g r.os) r.tx) (lj1 (i+(br (aD g l.os) l.tx).length) g.code (lj i (br (aD g l.os) l.tx) (0,s,p))):=by
      show lj i (br (aD g l.os) l.tx++g.code :: br (aE g r.os) r.tx) (0,s,p)=_;rw [jQ];rfl
    rw [e];have hl:∃ s1 p1,lj i (br (aD g l.os) l.tx) (0,s,p)=(0,s1,p1)∧(g=.times→s1=s):=by
      obtain ⟨s1,p1,h1,h2,h3,h4⟩:=oF l i s p;cases hb:aD g l.os with
      | true=>exact ⟨s,p,pQ l i (s,p),fun _=>rfl⟩
      | false =>
        refine ⟨s1,p1,h1,fun hg=>?_⟩;subst hg;cases ho:l.os with
        | none=>exact (h2 ho).1
        | some x =>
          rw [ho] at hb;cases x with
          | times=>exact (h3 ho).1
          | plus=>simp [aD] at hb
          | minus=>simp [aD] at hb
    obtain ⟨s1,p1,h1,h2⟩:=hl;rw [h1];have hr:∀ k s p,∃ p',lj k (br (aE g r.os) r.tx) (0,s,p)=(0,s,p')∧(g=.times→p'=p):=fun k s p=>by
      cases hb:aE g r.os with
      | true=>exact ⟨p,pQ r k (s,p),fun _=>rfl⟩
      | false =>
        obtain ⟨s2,p2,q1,q2,q3,q4⟩:=oF r k s p;cases ho:r.os with
        | none=>obtain ⟨z1,z2⟩:=q2 ho;subst z1 z2;exact ⟨_,q1,fun _=>rfl⟩
        | some x =>
          rw [ho] at hb;cases x with
          | times =>
            obtain ⟨z1,z2⟩:=q3 ho;subst z1;exact ⟨_,q1,fun hg=>by subst hg;simp [aE] at hb⟩
          | plus=>cases g <;> simp [aE] at hb
          | minus=>cases g <;> simp [aE] at hb
    cases g with
    | times =>
      have e1:lj1 (i+(br (aD .times l.os) l.tx).length) Sg.times.code (0,s1,p1)=(0,s1,some (i+(br (aD .times l.os) l.tx).length)):=rfl;rw [e1];obtain ⟨p',k1,k2⟩:=hr (i+(br (aD .times l.os) l.tx).length+1) s1 (some (i+(br (aD .times l.os) l.tx).length));have k2:=k2 rfl;have h2:=h2 rfl;subst k2 h2;exact ⟨_,_,k1,fun z=>by simp [Wy.os] at z,fun _=>⟨rfl,rfl⟩,fun z=>by simp [Wy.os] at z⟩
    | plus =>
      have e1:lj1 (i+(br (aD .plus l.os) l.tx).length) Sg.plus.code (0,s1,p1)=(0,some (i+(br (aD .plus l.os) l.tx).length),p1):=rfl;rw [e1];obtain ⟨p',k1,k2⟩:=hr (i+(br (aD .plus l.os) l.tx).length+1) (some (i+(br (aD .plus l.os) l.tx).length)) p1;exact ⟨_,_,k1,fun z=>by simp [Wy.os] at z,fun z=>by simp [Wy.os] at z,fun _=>rfl⟩
    | minus =>
      have e1:lj1 (i+(br (aD .minus l.os) l.tx).length) Sg.minus.code (0,s1,p1)=(0,some (i+(br (aD .minus l.os) l.tx).length),p1):=rfl;rw [e1];obtain ⟨p',k1,k2⟩:=hr (i+(br (aD .minus l.os) l.tx).length+1) (some (i+(br (aD .minus l.os) l.tx).length)) p1;exact ⟨_,_,k1,fun z=>by simp [Wy.os] at z,fun z=>by simp [Wy.os] at z,fun _=>rfl⟩
theorem jT (g:Sg) (l r:Wy):d7 (Wy.node g l r).tx=some (br (aD g l.os) l.tx).length:=by
  obtain ⟨s',p',h1,h2,h3,h4⟩:=oF (.node g l r) 0 none none;unfold d7;rw [h1];cases g with
  | times=>obtain ⟨a,b⟩:=h3 rfl;subst a b;simp [Wy.ll]
  | plus=>have:=h4 (.inl rfl);subst this;simp [Wy.ll]
  | minus=>have:=h4 (.inr rfl);subst this;simp [Wy.ll]
theorem tI (w:Wy):d7 (40 :: w.tx++[41])=none:=by
  unfold d7;rw [pQ]
theorem iP (i:Int):(wn i).head?≠some 40:=by
  intro h;have:=ft i 40 (acC h);lia
open PySem L2
structure Cf (K:aaa) (mg:Str→Option Value) (t1 t2:Tok):Prop where
  gFIGURES:mg "FIGURES" = some (.str "0123456789" t1)
  gBELOW:mg "BELOW" = some (.str "~" t2)
theorem qD:("0123456789":Str)=mkS [48,49,50,51,52,53,54,55,56,57]:=by decide +kernel
theorem oy:("~":Str)=mkS [126]:=by decide +kernel
theorem tY:("":Str)=mkS []:=by decide +kernel
theorem bW (a l:List Nat):decide (V.str (mkS a)=V.str (mkS l))=decide (a=l):=by
  by_cases h:a=l
  · subst h;simp
  · rw [decide_eq_false h,decide_eq_false];intro z;injection z with z
    exact h (ff z)
theorem pJ (d:Nat) (h:d < 10):atI ("0123456789":Str).cps.toList (d:Int)=some (48+d):=by
  rw [qD,bK];refine bA ?_;have : d=0∨d=1∨d=2∨d=3∨d=4∨d=5∨d=6∨d=7∨d=8∨d=9:=by lia
  rcases this with rfl|rfl|rfl|rfl|rfl|rfl|rfl|rfl|rfl|rfl <;> rfl
theorem mC (c:Nat):(!(aaB ("0123456789":Str) (mkS [c]) 0 ("0123456789":Str).length 1).isEmpty)=decide (48≤c∧c≤57):=by
  have:=StrLaws.found_one ("0123456789":Str) c;have e:mkS [c]=⟨#[c]⟩:=rfl;rw [e,this,qD,bK];rw [aaH,decide_eq_true_eq,decide_eq_true_eq];simp only [aaj,abz,or_false];refine ⟨fun h=>?_,fun h=>by lia⟩;rcases h with rfl|rfl|rfl|rfl|rfl|rfl|rfl|rfl|rfl|rfl <;> decide
theorem mB (c:Nat) (h:48≤c∧c≤57):PySem.intText? (mkS [c])=some ((c - 48:Nat):Int):=by
  have : c=48∨c=49∨c=50∨c=51∨c=52∨c=53∨c=54∨c=55∨c=56∨c=57:=by lia
  rcases this with rfl|rfl|rfl|rfl|rfl|rfl|rfl|rfl|rfl|rfl <;> decide +kernel
theorem vj:∀ ls:List (List Nat),acK (mkS []) (ls.map mkS)=mkS ls.flatten:=by
  intro ls;show act (mkS []) (ls.map mkS)=_;rw [acE]
  induction ls with
  | nil=>rfl
  | cons a r ih =>
    cases r with
    | nil=>show mkS a=mkS ([a].flatten);simp
    | cons b r =>
      show mkS a++mkS []++Str.join (mkS []) ((b :: r).map mkS)=_;rw [ih,aU,aU];simp
theorem vi (ls:List (List Nat)) (h:ls.flatten.length≤1000):JoinOk (mkS []) (ls.map mkS)=true:=by
  unfold JoinOk;have e:=StrLaws.joinTotal (mkS []) (ls.map mkS);rw [e];have e2:((ls.map mkS).map (·.length)).sum=ls.flatten.length:=by
    rw [abp,List.length_flatten];exact congrArg List.sum (abF fun x _=>ah x)
  rw [e2];have e3:(mkS []).length=0:=rfl;rw [e3,Nat.mul_zero,Nat.add_zero];unfold ach;rw [decide_eq_false (by have:=al h;lia)];rfl
theorem uC {A G:Prop} (h:A) (k:A→G):G:=k h
section
variable {P:Program} {w:World} {K:aaa} {mg:Str→Option Value} {base:Heap} {f:Addr} {fd:FuncData}
def InR (i:Int):Prop:=-1000000000000 < i∧i < 1000000000000
def ch (c:Nat):V:=.str (mkS [c])
def oP:Sp:=fun vs H Q _=>∃ i,vs=[.int i]∧InR i∧∀ H',Same H H'→Q (.str (mkS (wn i))) H'
def FigOk (n left:Nat) (fs:List Nat):Prop:=(fs=[]∧left=n)∨(fs≠[]∧left=0∧fs.reverse=dg n)∨(fs≠[]∧0 < left∧dg left++fs.reverse=dg n)
theorem FigOk.len {n left:Nat} {fs:List Nat} (h:FigOk n left fs):fs.length≤(dg n).length:=by
  rcases h with ⟨h,_⟩|⟨_,_,h⟩|⟨_,_,h⟩
  · rw [h];simp
  · rw [← h];simp
  · rw [← h];simp
theorem FigOk.step {n left:Nat} {fs:List Nat} (h:FigOk n left fs) (hc:0 < left∨fs=[]):FigOk n (left / 10) (fs++[48+left % 10]):=by
  have hd:dg left++fs.reverse=dg n:=by
    rcases h with ⟨h,e⟩|⟨h1,h2,_⟩|⟨_,_,h⟩
    · rw [h,e];simp
    · rcases hc with hc|hc
      · lia
      · exact absurd hc h1
    · exact h
  by_cases c:left < 10
  · refine .inr (.inl ⟨by simp,by lia,?_⟩);rw [← hd,cZ c,List.reverse_append];have : left % 10=left:=by lia
    rw [this];rfl
  · refine .inr (.inr ⟨by simp,by lia,?_⟩);rw [← hd,gO c,List.reverse_append];simp
theorem qE {i:Int} {fs z:List Nat} (h:fs.reverse=dg i.natAbs) (hl:fs.length≤12) (hz:wn i=z++dg i.natAbs) (hz1:z.length≤1) :
    fs.map ch++[V.str (mkS z)]=(fs.map (fun c=>mkS [c])++[mkS z]).map V.str∧JoinOk (mkS []) (fs.map (fun c=>mkS [c])++[mkS z]).reverse=true∧acK (mkS []) (fs.map (fun c=>mkS [c])++[mkS z]).reverse=mkS (wn i):=by
  have e:(fs.map (fun c=>mkS [c])++[mkS z]).reverse=(z :: fs.reverse.map fun c=>[c]).map mkS:=by
    rw [List.reverse_append,aax,abp,← List.map_reverse];rfl
  have fl:(z :: fs.reverse.map fun c=>[c]).flatten=wn i:=by
    rw [hz,← h];show z++(fs.reverse.map fun c=>[c]).flatten=_;have : ∀ l:List Nat,(l.map fun c=>[c]).flatten=l:=fun l=>by
      induction l with
      | nil=>rfl
      | cons a r ih=>show [a]++(r.map fun c=>[c]).flatten=_;rw [ih];rfl
    rw [this]
  refine ⟨?_,?_,?_⟩
  · rw [aaP,abp];rfl
  · rw [e];refine vi _ ?_;rw [fl,hz,← h,aah,List.length_reverse];lia
  · rw [e,vj,fl]
abbrev dO:Stmt:=top 29
theorem bY:FnScope ["number","left","figures","last"] ["number"] (aq dO):=⟨rfl,rfl,rfl,by decide +kernel,rfl,by decide +kernel,by decide +kernel⟩
theorem iY {t1 t2:Tok} (F:Fun K "write_number" "write_number" dO f fd) (B:Bu K mg) (B2:Cf K mg t1 t2):FnOk P w K mg base CX0 1 f fd ["number"] oP:=by
  refine F.ok bY (fun vs H Q E h=>?_) (fun cdv A outer s H vs Q E hr h=>?_)
  · obtain ⟨x,rfl,_⟩:=h;rfl
  obtain ⟨i,rfl,hi,q⟩:=h;refine ⟨_,(@ad _ _ _ _ _ (@ao _ _ (1) _ _ _ _ (bY).nd rfl (Or.inl rfl) (@ap _ _ _ _ _ _ _ _ _ ow rfl B.iabs PyProof.Rows.boot_abs (@aa _ _ _ _ _ (pv 0) ac (by rfl)) (by decide) (by decide) (by rfl) (by rfl)) (by rfl) (by first|exact .inl rfl|exact .inr rfl|assumption)) (@ad _ _ _ _ _ (@ao _ _ (2) _ _ _ _ (bY).nd rfl (Or.inl rfl) (@a9 _ _ _ _ ac) (by rfl) (by first|exact .inl rfl|exact .inr rfl|assumption)) (@ad _ _ _ _ _ (@jC _ _ _ _ _ _ aaT (@PW.pt _ _ _ (@ck _ _ _ _ _ _ _ (@ai _ _ _ _ _ _ _ _ gn (pv 1) ae (ak _)) (@bS _ _ _ _ (@cO _ _ _ _ (@jB _ _ _ (pv 2) (fun _=>rfl)))))) (@ad _ _ _ _ _ (@gJ _ _ _ _ _ _ (@ap _ _ _ _ _ _ _ _ _ ou rfl B.idivmod PyProof.Rows.boot_divmod (@aa _ _ _ _ _ (pv 1) (@aa _ _ _ _ _ ae ac (by rfl)) (by rfl)) (by decide) (by decide) (by rfl) (by rfl)) (@jF _ _ _ _ _ _ rfl (@bC _ _ _ _ _ (@aG _ _ (1) _ (bY).nd rfl (Or.inl rfl) (.inl rfl)) (@bC _ _ _ _ _ (@aG _ _ (3) _ (bY).nd rfl (Or.inl rfl) (.inl rfl)) fc (by rfl)) (by rfl)) (by rfl) (by rfl)) (by rfl) (by rfl) (by rfl)) (@ag _ _ _ (@cJ _ _ _ _ (@bV _ _ _ _ _ _ _ _ _ _ _ _ aaC abb abc dh (pv 2) (@aa _ _ _ _ _ (@aK _ _ _ _ _ _ _ bG (@bv _ _ (.str "0123456789") _ _ rfl B2.gFIGURES ⟨_,rfl⟩ (by decide)) (pv 3) (fun _ _=>rfl)) ac (by rfl)) (by rfl) (by rfl) (by rfl) (by rfl) (by rfl)) (by rfl))))) (@ad _ _ _ _ _ (@cJ _ _ _ _ (@bV _ _ _ _ _ _ _ _ _ _ _ _ aaC abb abc dh (pv 2) (@aa _ _ _ _ _ (@bO _ _ _ _ _ _ _ _ (@ai _ _ _ _ _ _ _ _ iU (pv 0) ae (ak _)) (@bv _ _ (.str "~") _ _ rfl B2.gBELOW ⟨_,rfl⟩ (by decide)) af) ac (by rfl)) (by rfl) (by rfl) (by rfl) (by rfl) (by rfl)) (by rfl)) (@ag _ _ _ (@ar _ _ _ _ (@o3 _ _ _ _ _ _ _ _ _ _ rfl rfl B.ireversed (pv 2) (by rfl) (by rfl) (by rfl)))))))),?_⟩;have hl:(dg i.natAbs).length≤12:=mG 11 i.natAbs (by have:=hi.1;have:=hi.2;show _ < 1000000000000;lia);have ea:(if i < 0 then -i else i)=(i.natAbs:Int):=by split <;> lia
  refine ⟨_,rfl,i,rfl,?_⟩;rw [ea];refine ⟨aaK _,fun pf nf=>?_⟩;refine ⟨fun m σ H'=>∃ (left:Nat) (fs:List Nat) (last:Option V),σ=[some (.int i),some (.int left),some (.ref pf),last]∧H' pf=some (.lst (fs.map ch))∧Same H H'∧FigOk i.natAbs left fs∧m=left+(if fs=[] then 1 else 0),?_,?_⟩
  · exact ⟨_,i.natAbs,[],_,rfl,upd_same,Same.new nf _,.inl ⟨rfl,rfl⟩,rfl⟩
  rintro m σ H' ⟨left,fs,last,rfl,ef,S,hF,rfl⟩;have hle:=hF.len;refine uC (A:=(0 < left∨fs=[])→_) ?body fun body=>uC (A:=(fs≠[]→left=0→_)) ?fin fun fin=>⟨_,rfl,_,_,rfl,rfl,_,rfl,kE (fun c=>aC (body (.inl (by have:=of_decide_eq_true c;lia)))) (fun c=>⟨_,rfl,!fs.isEmpty,.inl ⟨_,SqL.of ef,by simp⟩,kE (fun d=>body (.inr (by simpa using d))) (fun d=>fin (by simpa using d) (by have : ¬ (0:Int) < left:=fun z=>c (decide_eq_true z);lia))⟩)⟩
  case body =>
    intro hc;refine ⟨fun σ' H'=>∃ m',m' < left+(if fs=[] then 1 else 0)∧_,fun σ' H' h=>h,?_⟩;refine ⟨_,rfl,left,10,rfl,⟨by decide,by decide⟩,fun p hp=>⟨p,_,rfl,SqT.of upd_same,rfl,_,_,rfl,_,_,rfl,rfl,?_⟩⟩;have s1:=Same.new hp (.tup [.int ((left:Int) / 10),.int ((left:Int) % 10)]);have ef1:=s1 _ _ ef;have e1:(left:Int) / 10=((left / 10:Nat):Int):=by lia
    have e2:(left:Int) % 10=((left % 10:Nat):Int):=by lia
    rw [e1,e2] at s1 ef1 ⊢;generalize upd H' p (.tup [.int ((left / 10:Nat):Int),.int ((left % 10:Nat):Int)])=H1 at s1 ef1 ⊢;refine ⟨_,rfl,.inl ⟨rfl,_,SqL.of ef1⟩,_,rfl,_,_,_,rfl,rfl,al (by decide),pJ (left % 10) (by lia),pf,_,_,rfl,rfl,ef1,aQ (by rw [aaf];lia),?_⟩;refine ⟨left / 10+(if fs++[48+left % 10]=[] then 1 else 0),?_,left / 10,fs++[48+left % 10],_,rfl,?_,(S.trans s1).upd nf,hF.step hc,rfl⟩
    · rw [if_neg (by simp)];rcases hc with hc|hc
      · lia
      · rw [if_pos hc];lia
    · rw [upd_same,aaP];rfl
  case fin =>
    intro h1 h2;have hfs:fs.reverse=dg i.natAbs:=by
      rcases hF with ⟨h,_⟩|⟨_,_,h⟩|⟨_,h,_⟩
      · exact absurd h h1
      · exact h
      · lia
    refine ⟨_,rfl,.inl ⟨rfl,_,SqL.of ef⟩,_,rfl,_,_,rfl,rfl,_,rfl,kE (fun c=>?_) (fun c=>?_)⟩
    · have ci:i < 0:=of_decide_eq_true c;obtain ⟨e1,e2,e3⟩:=qE (i:=i) (z:=[126]) hfs (by lia) (by unfold wn;rw [if_pos ci]) (by decide);refine ⟨pf,_,_,rfl,rfl,ef,aQ (by rw [aaf];lia),_,rfl,pf,_,rfl,SqL.of (upd_same.trans (congrArg some (congrArg HO.lst e1))),e2,?_⟩;have e3':acK ("":Str) (fs.map (fun c=>mkS [c])++[mkS [126]]).reverse=mkS (wn i):=e3;rw [e3'];exact q _ (S.upd nf)
    · have ci:¬ i < 0:=fun z=>c (decide_eq_true z);obtain ⟨e1,e2,e3⟩:=qE (i:=i) (z:=[]) hfs (by lia) (by unfold wn;rw [if_neg ci]) (by decide);refine ⟨pf,_,_,rfl,rfl,ef,aQ (by rw [aaf];lia),_,rfl,pf,_,rfl,SqL.of (upd_same.trans (congrArg some (congrArg HO.lst e1))),e2,?_⟩;have e3':acK ("":Str) (fs.map (fun c=>mkS [c])++[mkS []]).reverse=mkS (wn i):=e3;rw [e3'];exact q _ (S.upd nf)
end
open PySem L2
def isD (c:Nat):Bool:=decide (48≤c∧c≤57)
def bU (l:List Nat):Bool:=if l=[]∨l.all isD=false then false else decide (l=[48]) || !decide (l.head?=some 48)
theorem iV (c:Nat):(⟨#[c]⟩:Str)=mkS [c]:=rfl
theorem pR {l:List Nat} {i:Nat}:((l.take i).map isD |>.map V.bl).length≤l.length:=by
  rw [aaf,aaf,aav];lia
section
variable {P:Program} {w:World} {K:aaa} {mg:Str→Option Value} {base:Heap} {f:Addr} {fd:FuncData}
def Asc (l:List Nat):Prop:=(mkS l).cps.all (· < 128)=true
def oW:Sp:=fun vs H Q _=>∃ l,vs=[.str (mkS l)]∧Asc l∧l.length≤900∧∀ H',Same H H'→Q (.bl (bU l)) H'
abbrev d_:Stmt:=top 30
theorem jz:FnScope ["text"] ["text"] (aq d_):=⟨rfl,rfl,rfl,by decide +kernel,rfl,by decide +kernel,by decide +kernel⟩
theorem jM {t1 t2:Tok} (F:Fun K "are_figures" "are_figures" d_ f fd) (B:Bu K mg) (B2:Cf K mg t1 t2):FnOk P w K mg base CX0 1 f fd ["text"] oW:=by
  refine F.ok jz (fun vs H Q E h=>?_) (fun cdv A outer s H vs Q E hr h=>?_)
  · obtain ⟨x,rfl,_⟩:=h;rfl
  obtain ⟨l,rfl,ha,hl,q⟩:=h;refine ⟨_,(@ad _ _ _ _ _ (@aV _ _ _ _ _ _ _ _ (@PW.pt _ _ _ (@ck _ _ _ _ _ _ _ (@ai _ _ _ _ _ _ _ _ bc (pv 0) af (ak _)) (@bS _ _ _ _ (@cO _ _ _ _ (@bE _ _ _ (@ap _ _ _ _ _ _ _ _ _ (@ur _ rfl) rfl B.iall PyProof.Rows.boot_all (@aa _ _ _ _ _ (@gm _ _ _ _ _ _ _ _ (["figure"]) ([none]) _ _ _ _ rfl (@lX _ _ _ _ (pv 0)) rfl trivial trivial (fun _ _ _ _=>⟨(@aG _ _ (0) _ (show aa8 (["figure"]:List Str) by decide +kernel) rfl (Or.inl rfl) (.inr rfl)),bB,(@bp _ _ _ _ _ _ _ _ ir (pv 0) (@bv _ _ (.str "0123456789") _ _ rfl B2.gFIGURES ⟨_,rfl⟩ (by decide)) (by with_unfolding_all rfl))⟩) (by rfl) (by rfl) (by rfl) (by rfl) (by intro _;rfl)) ac (by rfl)) (by decide) (by decide) (by rfl) (by rfl)) (by intro _;rfl)))))) (@ag _ _ _ (@ar _ _ _ _ dE)) aB) (@ag _ _ _ (@ar _ _ _ _ (@vH _ _ _ _ _ _ _ (@bp _ _ _ _ _ _ _ _ bc (pv 0) af (ak _)) (@io _ _ _ _ _ (@bp _ _ _ _ _ _ _ _ dX (@aK _ _ _ _ _ _ _ bG (pv 0) ae (fun _ _=>rfl)) af (ak _))))))),?_⟩;have e0:decide (V.str (mkS l)=V.str ("":Str))=decide (l=[]):=by rw [tY];exact bW l []
  refine ⟨_,rfl,rfl,_,rfl,?_⟩;rw [e0];by_cases c:l=[]
  · rw [decide_eq_true c];refine aC (aC ?_);have:=q H (Same.refl _);rw [show bU l=false by unfold bU;rw [if_pos (.inl c)]] at this;exact this
  rw [decide_eq_false c];refine av ⟨_,rfl,_,rfl,ha,?_⟩;refine tu (fun i ys H'=>H'=H∧ys=((l.take i).map isD).map V.bl) ⟨rfl,rfl⟩ (fun i ys H' hi p=>by rw [p.2];exact aQ (by have:=pR (l:=l) (i:=i);lia)) (fun i cc ys H' hx p nx=>?_) (fun ys H' p p5 n5=>?_)
  · obtain ⟨rfl,rfl⟩:=p;rw [iC] at hx;refine ⟨_,rfl,_,_,rfl,rfl,?_⟩;rw [iV,mC];refine nx ⟨rfl,?_⟩;rw [aaz,hx,aaP,aaP];rfl
  obtain ⟨rfl,rfl⟩:=p;rw [fR,aaL] at *;refine ⟨p5,_,rfl,SqL.of upd_same,?_⟩;have ea:(l.map isD).all id=l.all isD:=by rw [List.all_map];rfl
  have S:=Same.new n5 (.lst ((l.map isD).map V.bl));generalize upd H' p5 (.lst ((l.map isD).map V.bl))=H1 at S ⊢;rw [ea];have q1:=q H1 S;cases hall:l.all isD with
  | false =>
    refine ⟨_,rfl,aC ?_⟩;rw [show bU l=false by unfold bU;rw [if_pos (.inr hall)]] at q1;exact q1
  | true =>
    refine ⟨_,rfl,av ?_⟩;have e1:decide (V.str (mkS l)=V.str ("0":Str))=decide (l=[48]):=by rw [show ("0":Str)=mkS [48] by decide +kernel];exact bW l [48]
    refine ⟨_,rfl,rfl,_,rfl,?_⟩;rw [e1];have hf:bU l=(decide (l=[48]) || !decide (l.head?=some 48)):=by unfold bU;rw [if_neg];rw [hall];intro z;rcases z with z|z;exact c z;cases z
    rw [hf] at q1;by_cases c2:l=[48]
    · rw [decide_eq_true c2] at q1 ⊢;exact aC q1
    · rw [decide_eq_false c2] at q1 ⊢;refine av ?_;cases l with
      | nil=>exact absurd rfl c
      | cons a r =>
        refine ⟨_,rfl,_,_,_,rfl,rfl,al (by rw [ah];lia),(by rw [bK];exact bA (j:=0) rfl),rfl,?_⟩;have e3:decide (V.str (⟨#[a]⟩:Str)=V.str ("0":Str))=decide (a=48):=by
          rw [show ("0":Str)=mkS [48] by decide +kernel,iV,bW];simp
        rw [e3];have e4:decide ((a :: r).head?=some 48)=decide (a=48):=by simp
        rw [e4] at q1;exact q1
def nop (l:List Nat):List Nat:=if l.head?=some 126 then l.tail else l
def bd (l:List Nat):Option Int:=if bU (nop l)=false∨l=[126,48] then none else some (if l.head?=some 126 then -(rd (nop l):Int) else rd (nop l))
theorem ni (i:Int):bd (wn i)=some i:=by
  have hn:nop (wn i)=dg i.natAbs:=by
    unfold nop wn;by_cases c:i < 0
    · rw [if_pos c];simp
    · rw [if_neg c];have : (dg i.natAbs).head?≠some 126:=fun z=>by
        have:=ka _ _ (acC z);lia
      simp [this]
  have hf:bU (dg i.natAbs)=true:=by
    unfold bU;rw [if_neg]
    · by_cases c:i.natAbs=0
      · rw [c,cZ (by decide)];rfl
      · have:=vt _ c;rw [decide_eq_false this];simp
    · intro z;rcases z with z|z
      · exact ua _ z
      · have : (dg i.natAbs).all isD=true:=by
          rw [aaU];intro c hc;exact decide_eq_true (ka _ c hc)
        rw [this] at z;cases z
  have h0:wn i≠[126,48]:=fun z=>by
    unfold wn at z;by_cases c:i < 0
    · rw [if_pos c] at z;have z:dg i.natAbs=[48]:=by simpa using z
      have:=t_ i.natAbs;rw [z] at this;have : (0:Nat)=i.natAbs:=this;lia
    · rw [if_neg c] at z;have:=ka i.natAbs 126 (by rw [show dg i.natAbs=[126,48] by simpa using z];simp);lia
  unfold bd;rw [hn,hf,if_neg (by simp [h0]),t_];unfold wn;by_cases c:i < 0
  · rw [if_pos c];simp;lia
  · rw [if_neg c];have : (dg i.natAbs).head?≠some 126:=fun z=>by
      have:=ka _ _ (acC z);lia
    simp [this];lia
theorem oZ {l:List Nat} (c:Nat) (h:c∈l) (hc:c≠126∧¬ (48≤c∧c≤57)):bd l=none:=by
  have hm:c∈nop l:=by
    unfold nop;split
    · cases l with
      | nil=>cases h
      | cons a r =>
        rename_i z;have z:a=126:=by simpa using z
        rcases aaj.mp h with e|e
        · lia
        · exact e
    · exact h
  have : (nop l).all isD=false:=by
    rw [List.all_eq_false];exact ⟨c,hm,by simpa [isD] using hc.2⟩
  unfold bd bU;rw [if_pos];left;rw [if_pos (.inr this)]
theorem o0 (g:Sg) (l r:Wy):bd (Wy.node g l r).tx=none :=
  oZ g.code (aag _ aai) (by cases g <;> decide)
theorem c_ {a b:List Nat} (h:Asc b) (s:∀ c∈a,c∈b):Asc a:=by
  unfold Asc mkS at *;rw [aa4] at *;intro c hc;exact h c (by simpa using s c (by simpa using hc))
def fP:Option Int→V
  | none=>.non
  | some i=>.int i
def jd:Sp:=fun vs H Q _=>∃ l,vs=[.str (mkS l)]∧Asc l∧l.length≤900∧∀ H',Same H H'→Q (fP (bd l)) H'
abbrev d9:Stmt:=top 31
theorem cu:FnScope ["text","figures","number","figure"] ["text"] (aq d9):=⟨rfl,rfl,rfl,by decide +kernel,rfl,by decide +kernel,by decide +kernel⟩
theorem jI {t1 t2:Tok} (F:Fun K "read_number" "read_number" d9 f fd) (B:Bu K mg) (B2:Cf K mg t1 t2) (C_are_figures:Cal P w K mg base "are_figures" 1 ["text"] oW):FnOk P w K mg base CX0 2 f fd ["text"] jd:=by
  refine F.ok cu (fun vs H Q E h=>?_) (fun cdv A outer s H vs Q E hr h=>?_)
  · obtain ⟨x,rfl,_⟩:=h;rfl
  obtain ⟨l,rfl,ha,hl,q⟩:=h;refine ⟨_,(@ad _ _ _ _ _ (@ao _ _ (1) _ _ _ _ (cu).nd rfl (Or.inl rfl) (@bV _ _ _ _ _ _ _ _ _ _ _ _ aaO PySem.F.slot_str_removeprefix PySem.F.type_str_removeprefix gj (pv 0) (@aa _ _ _ _ _ (@bv _ _ (.str "~") _ _ rfl B2.gBELOW ⟨_,rfl⟩ (by decide)) ac (by rfl)) (by rfl) (by rfl) (by rfl) (by rfl) (by rfl)) (by rfl) (by first|exact .inl rfl|exact .inr rfl|assumption)) (@ad _ _ _ _ _ (@aV _ _ _ _ _ _ _ _ (@PW.pt _ _ _ (@ck _ _ _ _ _ _ _ (@cO _ _ _ _ (@bE _ _ _ (@am _ _ _ _ _ _ _ _ _ _ _ C_are_figures hr (by lia) rfl (@aa _ _ _ _ _ (pv 1) ac (by rfl)) (by decide) (by rfl) (by rfl)) (by intro _;rfl))) (@bS _ _ _ _ (@ai _ _ _ _ _ _ _ _ bc (pv 0) af (ak _))))) (@ag _ _ _ (@ar _ _ _ _ aZ)) aB) (@ad _ _ _ _ _ (@ao _ _ (2) _ _ _ _ (cu).nd rfl (Or.inl rfl) ae (by rfl) (by first|exact .inl rfl|exact .inr rfl|assumption)) (@ad _ _ _ _ _ (@cX _ _ _ _ _ _ _ _ aaT rfl (@lX _ _ _ _ (pv 1)) (@aG _ _ (3) _ (cu).nd rfl (Or.inl rfl) (.inl rfl)) (@ag _ _ _ (@ao _ _ (2) _ _ _ _ (cu).nd rfl (Or.inl rfl) (@aj _ _ _ _ _ _ _ _ bt (@aj _ _ _ _ _ _ _ _ fe (pv 2) ae) (@bn _ _ _ _ _ _ _ _ _ cj rfl B.iint aaA (@aa _ _ _ _ _ (pv 3) ac (by rfl)) (by decide) (by decide) (by rfl) (by rfl))) (by rfl) (by first|exact .inl rfl|exact .inr rfl|assumption))) (by intro _;rfl)) (@ag _ _ _ (@ar _ _ _ _ (@bO _ _ _ _ _ _ _ _ (@ai _ _ _ _ _ _ _ _ bc (pv 0) (pv 1) (ak _)) (pv 2) (@g8 _ _ _ _ _ _ eU (pv 2))))))))),?_⟩;have hnl:(nop l).length≤900:=by unfold nop;split <;> (try rw [List.length_tail]) <;> lia
  have hna:Asc (nop l):=c_ ha fun c hc=>by
    unfold nop at hc;split at hc
    · exact List.mem_of_mem_tail hc
    · exact hc
  have er:acI (mkS l) ("~":Str)=mkS (nop l):=by rw [oy];exact xI l 126
  refine ⟨_,rfl,rfl,_,_,rfl,rfl,al (by rw [ah];lia),?_⟩;rw [er];refine ⟨_,rfl,nop l,rfl,hna,hnl,fun H1 s1=>?_⟩;have e1:decide (V.str (mkS l)=V.str ("~0":Str))=decide (l=[126,48]):=by rw [show ("~0":Str)=mkS [126,48] by decide +kernel];exact bW l _
  by_cases c1:bU (nop l)=false
  · refine ⟨_,rfl,?_⟩;rw [c1];refine aC (aC ?_);have:=q H1 s1;rw [show bd l=none by unfold bd;rw [if_pos (.inl c1)]] at this;exact this
  have c1:bU (nop l)=true:=by simpa using c1
  refine ⟨_,rfl,?_⟩;rw [c1];refine av ⟨_,rfl,rfl,_,rfl,?_⟩;rw [e1];by_cases c2:l=[126,48]
  · rw [decide_eq_true c2];refine aC ?_;have:=q H1 s1;rw [show bd l=none by unfold bd;rw [if_pos (.inr c2)]] at this;exact this
  rw [decide_eq_false c2];refine av ?_;have hdig:∀ c∈nop l,48≤c∧c≤57:=fun c hc=>by
    unfold bU at c1;split at c1
    · cases c1
    · rename_i z;have : (nop l).all isD=true:=by
        cases h:(nop l).all isD with
        | true=>rfl
        | false=>exact absurd (.inr h) z
      exact of_decide_eq_true (aaU.mp this c hc)
  refine ⟨_,rfl,_,rfl,hna,qB (fun i σ H'=>H'=H1∧∃ fg,σ=[some (.str (mkS l)),some (.str (mkS (nop l))),some (.int (rd ((nop l).take i))),fg]) ⟨rfl,_,rfl⟩ ?_ ?_⟩
  · rintro i c σ H' hc ⟨rfl,fg,rfl⟩;rw [iC] at hc;have hcd:=hdig c (aaM hc);refine ⟨_,rfl,_,_,rfl,rfl,.inr ⟨by decide,by decide⟩,_,rfl,_,_,rfl,mB c hcd,(by show 1≤640;decide),_,_,rfl,rfl,rfl,some (.str ⟨#[c]⟩),?_⟩;rw [aaz,hc];have : rd ((nop l).take i++[c])=rd ((nop l).take i) * 10+(c - 48):=by unfold rd;rw [abR];rfl
    show _=[some _,some _,some (V.int ((rd ((nop l).take i++[c]):Nat):Int)),_]
    rw [this];rfl
  · rintro σ H' ⟨rfl,fg,rfl⟩;have q1:=q H' s1;rw [fR,aaL];have e2:decide (V.str (mkS l)=V.str (mkS (nop l)))=!decide (l.head?=some 126):=by
      rw [bW];unfold nop;by_cases c:l.head?=some 126
      · rw [if_pos c,decide_eq_true c];cases l with
        | nil=>simp at c
        | cons a r=>simp
      · rw [if_neg c,decide_eq_false c];simp
    have hR:bd l=some (if l.head?=some 126 then -(rd (nop l):Int) else rd (nop l)):=by unfold bd;rw [if_neg];intro z;rcases z with z|z;rw [c1] at z;cases z;exact c2 z
    rw [hR] at q1;refine ⟨_,rfl,_,rfl,rfl,_,rfl,?_⟩;rw [e2];by_cases c:l.head?=some 126
    · rw [decide_eq_true c];rw [if_pos c] at q1;exact av ⟨_,rfl,_,rfl,q1⟩
    · rw [decide_eq_false c];rw [if_neg c] at q1;exact aC ⟨_,rfl,q1⟩
end
open PySem L2
theorem ox (l:List Nat):("(":Str)++mkS l++(")":Str)=mkS (40 :: l++[41]):=by
  rw [show ("(":Str)=mkS [40] by decide +kernel,show (")":Str)=mkS [41] by decide +kernel,aU,aU];rfl
theorem se (w:Wy):Asc w.tx:=rg (oG w)
theorem ji {g:Sg} {l r:Wy} (h:b_ (Wy.node g l r).nums):b_ l.nums:=fun i hi=>h i (aaV _ hi)
theorem jh {g:Sg} {l r:Wy} (h:b_ (Wy.node g l r).nums):b_ r.nums:=fun i hi=>h i (aag _ hi)
section
variable {P:Program} {w:World} {K:aaa} {mg:Str→Option Value} {base:Heap} {f:Addr} {fd:FuncData}
def oS:Sp:=fun vs H Q _=>∃ l b,vs=[.str (mkS l),.bl b]∧l.length≤900∧Q (.str (mkS (br b l))) H
abbrev dP:Stmt:=top 33
theorem iX:FnScope ["text","is_due"] ["text","is_due"] (aq dP):=⟨rfl,rfl,rfl,by decide +kernel,rfl,by decide +kernel,by decide +kernel⟩
theorem iZ (F:Fun K "put_brackets" "put_brackets" dP f fd):FnOk P w K mg base CX0 1 f fd ["text","is_due"] oS:=by
  refine F.ok iX (fun vs H Q E h=>?_) (fun cdv A outer s H vs Q E hr h=>?_)
  · obtain ⟨l,b,rfl,_⟩:=h;rfl
  obtain ⟨l,b,rfl,hl,q⟩:=h;refine ⟨_,(@ag _ _ _ (@ar _ _ _ _ (@bO _ _ _ _ _ _ _ _ (@jB _ _ _ (pv 1) (fun _=>rfl)) (@xQ _ _ _ _ _ _ _ _ _ _ _ (pv 0) (by decide)) (pv 0)))),?_⟩;cases b with
  | false=>exact ⟨_,rfl,false,rfl,av ⟨_,rfl,q⟩⟩
  | true =>
    refine ⟨_,rfl,true,rfl,aC ⟨_,rfl,_,rfl,al (by rw [ah];lia),?_,?_,?_⟩⟩
    · rw [show ("(":Str)=mkS [40] by decide +kernel,aU,ah];exact al (by simp;lia)
    · rw [ox,ah];exact al (by simp;lia)
    · rw [ox];exact q
def lJ (n:Nat):Sp:=fun vs H Q _=>∃ w v,vs=[v]∧WyIn H w v∧w.size≤9∧w.deep≤n∧b_ w.nums∧∀ H',Same H H'→Q (.str (mkS w.tx)) H'
abbrev fD:Stmt:=top 32
theorem cx:FnScope ["way","sign","left","right","left_text","right_text"] ["way"] (aq fD):=⟨rfl,rfl,rfl,by decide +kernel,rfl,by decide +kernel,by decide +kernel⟩
theorem l_ (F:Fun K "write_way" "write_way" fD f fd) (bF:Binds K fd ["way"] []) (mF:mg "write_way" = some (.ref f)) (C_is_whole:Cal P w K mg base "is_whole" 1 ["thing"] (jc K)) (C_write_number:Cal P w K mg base "write_number" 1 ["number"] oP) (C_own_sign:Cal P w K mg base "own_sign" 2 ["way"] sC)
    (C_left_in_brackets:Cal P w K mg base "left_in_brackets" 1 ["sign","left_sign"] oU) (C_right_in_brackets:Cal P w K mg base "right_in_brackets" 1 ["sign","right_sign"] jx) (C_put_brackets:Cal P w K mg base "put_brackets" 1 ["text","is_due"] oS) :
    ∀ n,FnOk P w K mg base CX0 (n+3) f fd ["way"] (lJ n):=by
  intro n
  induction n with
  | zero =>
    refine ⟨fun vs H Q E h=>?_,fun A outer s H args us vs Q E _ _ _ _ h=>?_⟩
    · obtain ⟨x,v,rfl,_⟩:=h;rfl
    · obtain ⟨wy,v,_,_,_,hd,_⟩:=h;cases wy <;> exact absurd hd (by simp [Wy.deep])
  | succ n ih =>
    have C_write_way:Cal P w K mg base "write_way" (n+3) ["way"] (lJ n):=⟨f,fd,ih,bF,F.kp,mF⟩
    refine F.ok cx (fun vs H Q E h=>?_) (fun cdv A outer s H vs Q E hr h=>?_)
    · obtain ⟨x,v,rfl,_⟩:=h;rfl
    obtain ⟨wy,v,rfl,hw,h9,hd,hs,q⟩:=h;refine ⟨_,(@ad _ _ _ _ _ (@aV _ _ _ _ _ _ _ _ (@bE _ _ _ (@am _ _ _ _ _ _ _ _ _ _ _ C_is_whole hr (by lia) rfl (@aa _ _ _ _ _ (pv 0) ac (by rfl)) (by decide) (by rfl) (by rfl)) (by intro _;rfl)) (@ag _ _ _ (@ar _ _ _ _ (@am _ _ _ _ _ _ _ _ _ _ _ C_write_number hr (by lia) rfl (@aa _ _ _ _ _ (pv 0) ac (by rfl)) (by decide) (by rfl) (by rfl)))) aB) (@ad _ _ _ _ _ (@gJ _ _ _ _ _ _ (pv 0) (@jF _ _ _ _ _ _ rfl (@bC _ _ _ _ _ (@aG _ _ (1) _ (cx).nd rfl (Or.inl rfl) (.inl rfl)) (@bC _ _ _ _ _ (@aG _ _ (2) _ (cx).nd rfl (Or.inl rfl) (.inl rfl)) (@bC _ _ _ _ _ (@aG _ _ (3) _ (cx).nd rfl (Or.inl rfl) (.inl rfl)) fc (by rfl)) (by rfl)) (by rfl)) (by rfl) (by rfl)) (by rfl) (by rfl) (by rfl)) (@ad _ _ _ _ _ (@ao _ _ (4) _ _ _ _ (cx).nd rfl (Or.inl rfl) (@am _ _ _ _ _ _ _ _ _ _ _ C_put_brackets hr (by lia) rfl (@aa _ _ _ _ _ (@am _ _ _ _ _ _ _ _ _ _ _ C_write_way hr (by lia) rfl (@aa _ _ _ _ _ (pv 2) ac (by rfl)) (by decide) (by rfl) (by rfl)) (@aa _ _ _ _ _ (@am _ _ _ _ _ _ _ _ _ _ _ C_left_in_brackets hr (by lia) rfl (@aa _ _ _ _ _ (pv 1) (@aa _ _ _ _ _ (@am _ _ _ _ _ _ _ _ _ _ _ C_own_sign hr (by lia) rfl (@aa _ _ _ _ _ (pv 2) ac (by rfl)) (by decide) (by rfl) (by rfl)) ac (by rfl)) (by rfl)) (by decide) (by rfl) (by rfl)) ac (by rfl)) (by rfl)) (by decide) (by rfl) (by rfl)) (by rfl) (by first|exact .inl rfl|exact .inr rfl|assumption)) (@ad _ _ _ _ _ (@ao _ _ (5) _ _ _ _ (cx).nd rfl (Or.inl rfl) (@am _ _ _ _ _ _ _ _ _ _ _ C_put_brackets hr (by lia) rfl (@aa _ _ _ _ _ (@am _ _ _ _ _ _ _ _ _ _ _ C_write_way hr (by lia) rfl (@aa _ _ _ _ _ (pv 3) ac (by rfl)) (by decide) (by rfl) (by rfl)) (@aa _ _ _ _ _ (@am _ _ _ _ _ _ _ _ _ _ _ C_right_in_brackets hr (by lia) rfl (@aa _ _ _ _ _ (pv 1) (@aa _ _ _ _ _ (@am _ _ _ _ _ _ _ _ _ _ _ C_own_sign hr (by lia) rfl (@aa _ _ _ _ _ (pv 3) ac (by rfl)) (by decide) (by rfl) (by rfl)) ac (by rfl)) (by rfl)) (by decide) (by rfl) (by rfl)) ac (by rfl)) (by rfl)) (by decide) (by rfl) (by rfl)) (by rfl) (by first|exact .inl rfl|exact .inr rfl|assumption)) (@ag _ _ _ (@ar _ _ _ _ (@aj _ _ _ _ _ _ _ _ au (@aj _ _ _ _ _ _ _ _ au (pv 4) (pv 1)) (pv 5)))))))),?_⟩;cases wy with
    | num i =>
      cases hw;exact ⟨_,rfl,_,"int",rfl,.int i,true,rfl,aC ⟨_,rfl,i,rfl,hs i (by simp [Wy.nums]),fun H1 s1=>q H1 s1⟩⟩
    | node g l r =>
      have hw0:=hw;obtain ⟨a,vl,vr,rfl,ha,hl,hr'⟩:=hw;have d:max l.deep r.deep+1≤n+1:=hd;have z:l.size+r.size≤9:=h9;have lp:=l.size_pos;have rp:=r.size_pos;have tl:=fu l (ji hs);have tr:=fu r (jh hs);have tb:=iN (aD g l.os) l.tx;have tb2:=iN (aE g r.os) r.tx;refine ⟨_,rfl,_,"tuple",rfl,.tup ha,false,rfl,av ?_⟩;refine ⟨_,rfl,a,_,rfl,SqT.of ha,rfl,_,_,rfl,_,_,rfl,_,_,rfl,rfl,?_⟩;refine ⟨_,rfl,l,vl,rfl,hl,by lia,by lia,ji hs,fun H1 g1=>?_⟩;refine ⟨_,rfl,_,rfl,l,vl,rfl,hl.mono (Tups.of g1),g,l.os,rfl,fun H2 g2=>⟨l.tx,_,rfl,by lia,?_⟩⟩;have g12:=g1.trans g2;refine ⟨_,rfl,r,vr,rfl,hr'.mono (Tups.of g12),by lia,by lia,jh hs,fun H3 g3=>?_⟩;refine ⟨_,rfl,_,rfl,r,vr,rfl,hr'.mono (Tups.of (g12.trans g3)),g,r.os,rfl,fun H4 g4=>⟨r.tx,_,rfl,by lia,?_⟩⟩;refine ⟨_,rfl,_,rfl,_,_,rfl,rfl,al (by rw [ah,lP];lia),_,rfl,_,_,rfl,rfl,al (by rw [i_,ah,lP,ah];lia),?_⟩;have e:mkS (br (aD g l.os) l.tx)++g.str++mkS (br (aE g r.os) r.tx)=mkS (Wy.node g l r).tx:=by
        rw [dt,aU,aU];show mkS _=mkS (br (aD g l.os) l.tx++g.code :: br (aE g r.os) r.tx);simp
      rw [e];exact q H4 ((g12.trans g3).trans g4)
def sQ:Option Nat→V
  | none=>.non
  | some k=>.int k
def jf:Sp:=fun vs H Q _=>∃ l,vs=[.str (mkS l)]∧Asc l∧∀ H',Same H H'→Q (sQ (d7 l)) H'
theorem xP (c:Nat):inV (.str (mkS [c])) [.str "+",.str "-"]=decide (c=43∨c=45):=by
  rw [show ("+":Str)=mkS [43] by decide +kernel,show ("-":Str)=mkS [45] by decide +kernel];have e:∀ k,eqV (V.str (mkS [k])) (V.str (mkS [c]))=decide (c=k):=fun k=>by
    by_cases h:c=k
    · subst h;simp [eqV]
    · rw [decide_eq_false h];have : mkS [k]≠mkS [c]:=fun z=>h (by have:=ff z;simp at this;exact this.symm);simp [eqV,this]
  show ([V.str (mkS [43]),V.str (mkS [45])].any fun y=>eqV y (V.str (mkS [c])))=_;simp only [abU,List.any_nil,e,Bool.or_false];rw [aaH];simp
theorem rR (c k:Nat):decide (V.str (⟨#[c]⟩:Str)=V.str (mkS [k]))=decide (c=k):=by
  rw [iV,bW];simp
theorem vf (l:List Nat) (i c:Nat) (h:l[i]?=some c):lj 0 (l.take (i+1)) (0,none,none)=lj1 i c (lj 0 (l.take i) (0,none,none)):=by
  have hi:i < l.length:=by
    have:=(aam.mp h);exact this.1
  rw [aaz,h,Option.toList_some,jQ,aav,ab7 (by lia),Nat.zero_add];rfl
abbrev eZ:Stmt:=top 36
theorem bo:FnScope ["text","depth","sums","products","at","character"] ["text"] (aq eZ):=⟨rfl,rfl,rfl,by decide +kernel,rfl,by decide +kernel,by decide +kernel⟩
theorem kB (F:Fun K "last_joint" "last_joint" eZ f fd) (B:Bu K mg):FnOk P w K mg base CX0 1 f fd ["text"] jf:=by
  refine F.ok bo (fun vs H Q E h=>?_) (fun cdv A outer s H vs Q E hr h=>?_)
  · obtain ⟨l,rfl,_⟩:=h;rfl
  obtain ⟨l,rfl,ha,q⟩:=h;refine ⟨_,(@ad _ _ _ _ _ (@ao _ _ (1) _ _ _ _ (bo).nd rfl (Or.inl rfl) ae (by rfl) (by first|exact .inl rfl|exact .inr rfl|assumption)) (@ad _ _ _ _ _ (@uU _ (2) (3) _ _ _ _ _ _ _ (bo).nd rfl rfl (Or.inl rfl) (Or.inl rfl) aZ (by rfl) (by rfl) (by first|exact .inl rfl|exact .inr rfl|assumption) (by first|exact .inl rfl|exact .inr rfl|assumption)) (@ad _ _ _ _ _ (@cX _ _ _ _ _ _ _ _ aaT rfl (@sL _ _ _ _ _ _ _ _ rfl B.ienumerate (@aa _ _ _ _ _ (pv 0) ac (by rfl)) (by rfl)) (@jF _ _ _ _ _ _ rfl (@bC _ _ _ _ _ (@aG _ _ (4) _ (bo).nd rfl (Or.inl rfl) (.inl rfl)) (@bC _ _ _ _ _ (@aG _ _ (5) _ (bo).nd rfl (Or.inl rfl) (.inl rfl)) fc (by rfl)) (by rfl)) (by rfl) (by rfl)) (@ag _ _ _ (@aV _ _ _ _ _ _ _ _ (@ai _ _ _ _ _ _ _ _ bc (pv 5) af (ak _)) (@ag _ _ _ (@sK _ _ (1) _ _ _ _ _ _ (bo).nd rfl (Or.inl rfl) ae wX (by first|exact .inl rfl|exact .inr rfl|assumption))) (@ag _ _ _ (@aV _ _ _ _ _ _ _ _ (@ai _ _ _ _ _ _ _ _ bc (pv 5) af (ak _)) (@ag _ _ _ (@sK _ _ (1) _ _ _ _ _ _ (bo).nd rfl (Or.inl rfl) ae wW (by first|exact .inl rfl|exact .inr rfl|assumption))) (@ag _ _ _ (@aV _ _ _ _ _ _ _ _ (@PW.pt _ _ _ (@cF _ _ _ _ _ _ _ (@ai _ _ _ _ _ _ _ _ bc (pv 1) ae (ak _)) (@cy _ _ _ _ (@ai _ _ _ _ _ _ _ _ eM (pv 5) (@bT _ _ _ _ _ (@aa _ _ _ _ _ af (@aa _ _ _ _ _ af ac (by rfl)) (by rfl))) (by with_unfolding_all rfl))))) (@ag _ _ _ (@ao _ _ (2) _ _ _ _ (bo).nd rfl (Or.inl rfl) (pv 4) (by rfl) (by first|exact .inl rfl|exact .inr rfl|assumption))) (@ag _ _ _ (@aV _ _ _ _ _ _ _ _ (@PW.pt _ _ _ (@cF _ _ _ _ _ _ _ (@ai _ _ _ _ _ _ _ _ bc (pv 1) ae (ak _)) (@cy _ _ _ _ (@ai _ _ _ _ _ _ _ _ bc (pv 5) af (ak _))))) (@ag _ _ _ (@ao _ _ (3) _ _ _ _ (bo).nd rfl (Or.inl rfl) (pv 4) (by rfl) (by first|exact .inl rfl|exact .inr rfl|assumption))) aB)))))))) (by intro _;rfl)) (@ag _ _ _ (@ar _ _ _ _ (@bO _ _ _ _ _ _ _ _ (@ai _ _ _ _ _ _ _ _ dY (pv 2) aZ (ak _)) (pv 3) (pv 2))))))),?_⟩;refine ⟨_,rfl,_,rfl,ha,rL (fun i σ H'=>Same H H'∧∃ at' ch',σ=[some (.str (mkS l)),some (.int (lj 0 (l.take i) (0,none,none)).1),some (sQ (lj 0 (l.take i) (0,none,none)).2.1),some (sQ (lj 0 (l.take i) (0,none,none)).2.2),at',ch']) ⟨Same.refl _,_,_,rfl⟩ ?_ ?_⟩
  · rintro i c p σ H' hc ⟨S,a',c',rfl⟩ hp;rw [iC] at hc;rw [vf l i c hc];generalize lj 0 (l.take i) (0,none,none)=st;obtain ⟨d,x,y⟩:=st;have S1:=S.trans (Same.new hp (.tup [.int i,.str ⟨#[c]⟩]));have hp1:upd H' p (.tup [.int i,.str ⟨#[c]⟩]) p=some (.tup [.int i,.str ⟨#[c]⟩]):=upd_same;generalize upd H' p (.tup [.int i,.str ⟨#[c]⟩])=H1 at S1 hp1 ⊢;refine ⟨p,_,rfl,SqT.of hp1,rfl,_,_,rfl,_,_,rfl,rfl,?_⟩;refine ⟨_,rfl,rfl,_,rfl,?_⟩;rw [show ("(":Str)=mkS [40] by decide +kernel,rR];by_cases c1:c=40
    · have e1:lj1 i c (d,x,y)=(d+1,x,y):=by unfold lj1;rw [if_pos c1]
      rw [decide_eq_true c1,e1];exact aC ⟨_,rfl,_,_,rfl,rfl,S1,_,_,rfl⟩
    rw [decide_eq_false c1];refine av ⟨_,rfl,rfl,_,rfl,?_⟩;rw [show (")":Str)=mkS [41] by decide +kernel,rR];by_cases c2:c=41
    · have e1:lj1 i c (d,x,y)=(d - 1,x,y):=by unfold lj1;rw [if_neg c1,if_pos c2]
      rw [decide_eq_true c2,e1];exact aC ⟨_,rfl,_,_,rfl,rfl,S1,_,_,rfl⟩
    rw [decide_eq_false c2];refine av ?_;have dz:decide (V.int d=V.int 0)=decide (d=0):=by
      by_cases h:d=0
      · subst h;rfl
      · rw [decide_eq_false h,decide_eq_false];intro z;injection z with z;exact h z
    refine ⟨_,rfl,rfl,_,rfl,?_⟩;show if decide (V.int d=V.int 0)=true then _ else _
    rw [dz];by_cases c3:d=0
    · rw [decide_eq_true c3];refine aC ⟨_,rfl,(by show 2≤sizeLine;decide),fun t ht=>⟨t,_,rfl,.inr (SqT.of upd_same),rfl,rfl,_,rfl,?_⟩⟩;have S2:=S1.trans (Same.new ht (.tup [.str "+",.str "-"]));generalize upd H1 t (.tup [.str "+",.str "-"])=H2 at S2 ⊢;show if inV (.str (mkS [c])) [.str "+",.str "-"]=true then _ else _
      rw [xP];by_cases c4:c=43∨c=45
      · have e1:lj1 i c (d,x,y)=(d,some i,y):=by unfold lj1;rw [if_neg c1,if_neg c2,if_pos ⟨c3,c4⟩]
        rw [decide_eq_true c4,e1];exact aC ⟨_,rfl,S2,_,_,rfl⟩
      rw [decide_eq_false c4];refine av ⟨_,rfl,rfl,_,rfl,?_⟩;show if decide (V.int d=V.int 0)=true then _ else _
      rw [dz,decide_eq_true c3];refine aC ⟨_,rfl,rfl,_,rfl,?_⟩;rw [show ("*":Str)=mkS [42] by decide +kernel,rR];by_cases c5:c=42
      · have e1:lj1 i c (d,x,y)=(d,x,some i):=by unfold lj1;rw [if_neg c1,if_neg c2,if_neg (fun z=>c4 z.2),if_pos ⟨c3,c5⟩]
        rw [decide_eq_true c5,e1];exact aC ⟨_,rfl,S2,_,_,rfl⟩
      · have e1:lj1 i c (d,x,y)=(d,x,y):=by unfold lj1;rw [if_neg c1,if_neg c2,if_neg (fun z=>c4 z.2),if_neg (fun z=>c5 z.2)]
        rw [decide_eq_false c5,e1];exact av ⟨S2,_,_,rfl⟩
    · have e1:lj1 i c (d,x,y)=(d,x,y):=by unfold lj1;rw [if_neg c1,if_neg c2,if_neg (fun z=>c3 z.1),if_neg (fun z=>c3 z.1)]
      rw [decide_eq_false c3,e1];refine av (av ⟨_,rfl,rfl,_,rfl,?_⟩);show if decide (V.int d=V.int 0)=true then _ else _
      rw [dz,decide_eq_false c3];exact av (av ⟨S1,_,_,rfl⟩)
  · rintro σ H' ⟨S,a',c',rfl⟩;rw [fR,aaL];have q1:=q H' S;unfold d7 at q1;generalize lj 0 l (0,none,none)=st at q1 ⊢;obtain ⟨d,x,y⟩:=st;cases x with
    | none=>exact ⟨_,rfl,rfl,_,rfl,aC ⟨_,rfl,q1⟩⟩
    | some k=>exact ⟨_,rfl,rfl,_,rfl,av ⟨_,rfl,q1⟩⟩
end
open PySem L2
theorem iM (b:Bool) (l:List Nat) (c:Nat) (h:c≠40∧c≠41):(br b l).count c=l.count c:=by
  cases b with
  | false=>rfl
  | true =>
    show (40 :: l++[41]).count c=_;rw [abG,acB (abM h.1),List.count_append,acB (abM h.2)];simp
theorem pP (i:Int) (c:Nat) (h:c≠126∧¬ (48≤c∧c≤57)):(wn i).count c=0:=by
  rw [List.count_eq_zero];intro z;have:=ft i c z;lia
theorem gf:∀ w:Wy,w.tx.count 43+w.tx.count 45+w.tx.count 42+1=w.size
  | .num i=>by
    show (wn i).count 43+(wn i).count 45+(wn i).count 42+1=1;rw [pP i 43 (by decide),pP i 45 (by decide),pP i 42 (by decide)]
  | .node g l r=>by
    have a:=gf l;have b:=gf r;show (br (aD g l.os) l.tx++g.code :: br (aE g r.os) r.tx).count 43+(br (aD g l.os) l.tx++g.code :: br (aE g r.os) r.tx).count 45+(br (aD g l.os) l.tx++g.code :: br (aE g r.os) r.tx).count 42+1=l.size+r.size;simp only [List.count_append,List.count_cons];rw [iM _ _ 43 (by decide),iM _ _ 45 (by decide),iM _ _ 42 (by decide),iM _ _ 43 (by decide),iM _ _ 45 (by decide),iM _ _ 42 (by decide)];cases g <;> simp [Sg.code] <;> lia
theorem dW:("(":Str)=mkS [40]:=by decide +kernel
theorem gQ:(")":Str)=mkS [41]:=by decide +kernel
theorem lG {H:Hp} {w:Wy} {v:V} (h:WyIn H w v):decide (v=.non)=false:=by
  refine decide_eq_false fun z=>?_;cases w with
  | num i=>rw [show v=.int i from h] at z;cases z
  | node g l r=>obtain ⟨a,_,_,e,_⟩:=h;rw [e] at z;cases z
theorem ud (ns:List Int) (c:Nat) (h:c≤ns.length):eR (ns.map V.int) none (some (c:Int))=(ns.take c).map V.int:=by
  have hl:(ns.map V.int).length=ns.length:=aaf _;have e0:HT.sIx ns.length 0 none=0:=by simp [HT.sIx]
  have e1:HT.sIx ns.length ns.length (some (c:Int))=c:=by
    simp only [HT.sIx];split <;> lia
  unfold eR;rw [hl,e0,e1,ace,abW];rfl
theorem ug (ns:List Int) (c:Nat) (h:c≤ns.length):eR (ns.map V.int) (some (c:Int)) none=(ns.drop c).map V.int:=by
  have hl:(ns.map V.int).length=ns.length:=aaf _;have e0:HT.sIx ns.length ns.length none=ns.length:=by simp [HT.sIx]
  have e1:HT.sIx ns.length 0 (some (c:Int))=c:=by
    simp only [HT.sIx];split <;> lia
  unfold eR;rw [hl,e0,e1,abV,aaQ (by rw [aay,hl];exact aab _)]
theorem xX (b:Bool):MulOk ("~":Str) (if b=true then 1 else 0)∧acN ("~":Str) (if b=true then 1 else 0)=mkS (if b=true then [126] else []):=by
  cases b
  · exact ⟨⟨by decide,fun h=>absurd (by decide) h,fun h=>absurd (by decide) h⟩,by decide +kernel⟩
  · exact ⟨⟨by decide,fun _ h=>absurd h (by decide),fun _ h=>absurd h (by decide)⟩,by decide +kernel⟩
section
variable {P:Program} {w:World} {K:aaa} {mg:Str→Option Value} {base:Heap} {f:Addr} {fd:FuncData}
abbrev dS:Stmt:=top 47
theorem bZ:FnScope ["number","text","left"] ["number"] (aq dS):=⟨rfl,rfl,rfl,by decide +kernel,rfl,by decide +kernel,by decide +kernel⟩
theorem jL (F:Fun K "_law_figures" "_law_figures" dS f fd) (B:Bu K mg):FnOk P w K mg base CX0 1 f fd ["number"] oP:=by
  refine F.ok bZ (fun vs H Q E h=>?_) (fun cdv A outer s H vs Q E hr h=>?_)
  · obtain ⟨x,rfl,_⟩:=h;rfl
  obtain ⟨i,rfl,hi,q⟩:=h;refine ⟨_,(@ad _ _ _ _ _ (@ao _ _ (1) _ _ _ _ (bZ).nd rfl (Or.inl rfl) af (by rfl) (by first|exact .inl rfl|exact .inr rfl|assumption)) (@ad _ _ _ _ _ (@ao _ _ (2) _ _ _ _ (bZ).nd rfl (Or.inl rfl) (@ap _ _ _ _ _ _ _ _ _ ow rfl B.iabs PyProof.Rows.boot_abs (@aa _ _ _ _ _ (pv 0) ac (by rfl)) (by decide) (by decide) (by rfl) (by rfl)) (by rfl) (by first|exact .inl rfl|exact .inr rfl|assumption)) (@ad _ _ _ _ _ (@jC _ _ _ _ _ _ aaT (@ai _ _ _ _ _ _ _ _ gn (pv 2) ae (ak _)) (@ad _ _ _ _ _ (@ao _ _ (1) _ _ _ _ (bZ).nd rfl (Or.inl rfl) (@aj _ _ _ _ _ _ _ _ au (@aK _ _ _ _ _ _ _ bG af (@aj _ _ _ _ _ _ _ _ dD (pv 2) ae) (fun _ _=>rfl)) (pv 1)) (by rfl) (by first|exact .inl rfl|exact .inr rfl|assumption)) (@ag _ _ _ (@ao _ _ (2) _ _ _ _ (bZ).nd rfl (Or.inl rfl) (@aj _ _ _ _ _ _ _ _ hE (pv 2) ae) (by rfl) (by first|exact .inl rfl|exact .inr rfl|assumption))))) (@ag _ _ _ (@ar _ _ _ _ (@aj _ _ _ _ _ _ _ _ au (@aj _ _ _ _ _ _ _ _ au (@aj _ _ _ _ _ _ _ _ a_ af (@bn _ _ _ _ _ _ _ _ _ cA rfl B.iint aaA (@aa _ _ _ _ _ (@bp _ _ _ _ _ _ _ _ iU (pv 0) ae (ak _)) ac (by rfl)) (by decide) (by decide) (by rfl) (by rfl))) (@aK _ _ _ _ _ _ _ bG af (pv 2) (fun _ _=>rfl))) (pv 1))))))),?_⟩;have hl:(dg i.natAbs).length≤12:=mG 11 i.natAbs (by have:=hi.1;have:=hi.2;show _ < 1000000000000;lia);have ea:(if i < 0 then -i else i)=(i.natAbs:Int):=by split <;> lia
  refine ⟨_,rfl,i,rfl,?_⟩;rw [ea];refine ⟨fun m σ H'=>∃ (left:Nat) (tl:List Nat),σ=[some (.int i),some (.str (mkS tl)),some (.int left)]∧H'=H∧dg left++tl=dg i.natAbs∧m=left,⟨_,i.natAbs,[],rfl,rfl,by simp,rfl⟩,?_⟩;rintro m σ H' ⟨left,tl,rfl,rfl,hd,hm⟩;have hm:=hm.symm;subst hm;have hlen:(dg left).length+tl.length≤12:=by rw [← hd,aah] at hl;exact hl
  refine ⟨_,rfl,_,_,rfl,rfl,_,rfl,kE (fun c=>?_) (fun c=>?_)⟩
  · have c:(9:Int) < left:=of_decide_eq_true c;refine ⟨fun σ' H'=>∃ m',m' < left∧_,fun σ' H' h=>h,?_⟩;have e2:(left:Int) % 10=((left % 10:Nat):Int):=by lia
    have e1:(left:Int) / 10=((left / 10:Nat):Int):=by lia
    refine ⟨_,rfl,_,_,rfl,rfl,(by show (0:Int) < 10;decide),_,_,48+left % 10,rfl,rfl,al (by decide),?_,_,rfl,_,_,rfl,rfl,al (by show 1+(mkS tl).length≤1000;rw [ah];lia),?_⟩
    · rw [e2];exact pJ (left % 10) (by lia)
    refine ⟨_,rfl,_,_,rfl,rfl,⟨by decide,by decide⟩,left / 10,by lia,left / 10,(48+left % 10) :: tl,?_,rfl,?_,rfl⟩
    · show [some (V.int i),some (V.str (⟨#[48+left % 10]⟩++mkS tl)),some (V.int ((left:Int) / 10))]=_;rw [e1,iV,aU];rfl
    · rw [← hd,gO (by lia:¬ left < 10)];simp
  · have c:¬ (9:Int) < left:=fun z=>c (decide_eq_true z);have hs:dg left=[48+left]:=cZ (by lia);obtain ⟨m1,m2⟩:=xX (decide (i < 0));refine ⟨_,rfl,_,_,rfl,rfl,.inr ⟨_,rfl,_,_,rfl,rfl,m1,_,rfl,_,_,48+left,rfl,rfl,al (by decide),pJ left (by lia),_,_,rfl,rfl,?_,_,rfl,_,_,rfl,rfl,?_,?_⟩⟩
    · rw [m2,ah];exact al (by show _+1≤_;split <;> decide)
    · rw [m2,iV,aU,ah,ah];exact al (by rw [aah];simp only [ab4];split <;> simp <;> lia)
    · have e:acN ("~":Str) (if decide (i < 0)=true then 1 else 0)++(⟨#[48+left]⟩:Str)++mkS tl=mkS (wn i):=by
        rw [m2,iV,aU,aU];unfold wn;rw [← hd,hs];congr 1;by_cases z:i < 0
        · simp [z]
        · simp [z]
      rw [e];exact q H' (Same.refl _)
abbrev dQ:Stmt:=top 48
theorem bj:FnScope ["way","sign","left","right","one","other"] ["way"] (aq dQ):=⟨rfl,rfl,rfl,by decide +kernel,rfl,by decide +kernel,by decide +kernel⟩
theorem jK (F:Fun K "_law_written" "_law_written" dQ f fd) (bF:Binds K fd ["way"] []) (mF:mg "_law_written" = some (.ref f)) (B:Bu K mg) (C__law_figures:Cal P w K mg base "_law_figures" 1 ["number"] oP) :
    ∀ n,FnOk P w K mg base CX0 (n+2) f fd ["way"] (lJ n):=by
  intro n
  induction n with
  | zero =>
    refine ⟨fun vs H Q E h=>?_,fun A outer s H args us vs Q E _ _ _ _ h=>?_⟩
    · obtain ⟨x,v,rfl,_⟩:=h;rfl
    · obtain ⟨wy,v,_,_,_,hd,_⟩:=h;cases wy <;> exact absurd hd (by simp [Wy.deep])
  | succ n ih =>
    have C__law_written:Cal P w K mg base "_law_written" (n+2) ["way"] (lJ n):=⟨f,fd,ih,bF,F.kp,mF⟩
    refine F.ok bj (fun vs H Q E h=>?_) (fun cdv A outer s H vs Q E hr h=>?_)
    · obtain ⟨x,v,rfl,_⟩:=h;rfl
    obtain ⟨wy,v,rfl,hw,h9,hd,hs,q⟩:=h;refine ⟨_,(@ad _ _ _ _ _ (@aV _ _ _ _ _ _ _ _ (@cO _ _ _ _ (@bE _ _ _ (@ap _ _ _ _ _ _ _ _ _ (@a8 _ ("tuple")) rfl B.iisinstance aad (@aa _ _ _ _ _ (pv 0) (@aa _ _ _ _ _ (@bw _ _ (.ty "tuple") _ _ rfl B.ituple abh rfl (by decide) (by decide)) ac (by rfl)) (by rfl)) (by decide) (by decide) (by rfl) (by rfl)) (by intro _;rfl))) (@ag _ _ _ (@ar _ _ _ _ (@am _ _ _ _ _ _ _ _ _ _ _ C__law_figures hr (by lia) rfl (@aa _ _ _ _ _ (pv 0) ac (by rfl)) (by decide) (by rfl) (by rfl)))) aB) (@ad _ _ _ _ _ (@gJ _ _ _ _ _ _ (pv 0) (@jF _ _ _ _ _ _ rfl (@bC _ _ _ _ _ (@aG _ _ (1) _ (bj).nd rfl (Or.inl rfl) (.inl rfl)) (@bC _ _ _ _ _ (@aG _ _ (2) _ (bj).nd rfl (Or.inl rfl) (.inl rfl)) (@bC _ _ _ _ _ (@aG _ _ (3) _ (bj).nd rfl (Or.inl rfl) (.inl rfl)) fc (by rfl)) (by rfl)) (by rfl)) (by rfl) (by rfl)) (by rfl) (by rfl) (by rfl)) (@ad _ _ _ _ _ (@ao _ _ (4) _ _ _ _ (bj).nd rfl (Or.inl rfl) (@am _ _ _ _ _ _ _ _ _ _ _ C__law_written hr (by lia) rfl (@aa _ _ _ _ _ (pv 2) ac (by rfl)) (by decide) (by rfl) (by rfl)) (by rfl) (by first|exact .inl rfl|exact .inr rfl|assumption)) (@ad _ _ _ _ _ (@ao _ _ (5) _ _ _ _ (bj).nd rfl (Or.inl rfl) (@am _ _ _ _ _ _ _ _ _ _ _ C__law_written hr (by lia) rfl (@aa _ _ _ _ _ (pv 3) ac (by rfl)) (by decide) (by rfl) (by rfl)) (by rfl) (by first|exact .inl rfl|exact .inr rfl|assumption)) (@qm _ _ _ _ _ (@aV _ _ _ _ _ _ _ _ (@PW.pt _ _ _ (@cF _ _ _ _ _ _ _ (@bE _ _ _ (@ap _ _ _ _ _ _ _ _ _ (@a8 _ ("tuple")) rfl B.iisinstance aad (@aa _ _ _ _ _ (pv 2) (@aa _ _ _ _ _ (@bw _ _ (.ty "tuple") _ _ rfl B.ituple abh rfl (by decide) (by decide)) ac (by rfl)) (by rfl)) (by decide) (by decide) (by rfl) (by rfl)) (by intro _;rfl)) (@cF _ _ _ _ _ _ _ (@ai _ _ _ _ _ _ _ _ dX (@aK _ _ _ _ _ _ _ ix_tup (pv 2) ae (fun _ _=>rfl)) af (ak _)) (@cy _ _ _ _ (@ai _ _ _ _ _ _ _ _ bc (pv 1) af (ak _)))))) (@ag _ _ _ (@ao _ _ (4) _ _ _ _ (bj).nd rfl (Or.inl rfl) (@aj _ _ _ _ _ _ _ _ au (@aj _ _ _ _ _ _ _ _ au af (pv 4)) af) (by rfl) (by first|exact .inl rfl|exact .inr rfl|assumption))) aB) (@qm _ _ _ _ _ (@aV _ _ _ _ _ _ _ _ (@PW.pt _ _ _ (@cF _ _ _ _ _ _ _ (@bE _ _ _ (@ap _ _ _ _ _ _ _ _ _ (@a8 _ ("tuple")) rfl B.iisinstance aad (@aa _ _ _ _ _ (pv 3) (@aa _ _ _ _ _ (@bw _ _ (.ty "tuple") _ _ rfl B.ituple abh rfl (by decide) (by decide)) ac (by rfl)) (by rfl)) (by decide) (by decide) (by rfl) (by rfl)) (by intro _;rfl)) (@cy _ _ _ _ (@PW.pt _ _ _ (@ck _ _ _ _ _ _ _ (@ai _ _ _ _ _ _ _ _ dX (@aK _ _ _ _ _ _ _ ix_tup (pv 3) ae (fun _ _=>rfl)) af (ak _)) (@bS _ _ _ _ (@ai _ _ _ _ _ _ _ _ bc (pv 1) af (ak _)))))))) (@ag _ _ _ (@ao _ _ (5) _ _ _ _ (bj).nd rfl (Or.inl rfl) (@aj _ _ _ _ _ _ _ _ au (@aj _ _ _ _ _ _ _ _ au af (pv 5)) af) (by rfl) (by first|exact .inl rfl|exact .inr rfl|assumption))) aB) (@ag _ _ _ (@ar _ _ _ _ (@aj _ _ _ _ _ _ _ _ au (@aj _ _ _ _ _ _ _ _ au (pv 4) (pv 1)) (pv 5)))))))))),?_⟩;cases wy with
    | num i =>
      cases hw;exact ⟨_,rfl,_,_,false,rfl,.int i,rfl,false,rfl,aC ⟨_,rfl,i,rfl,hs i (by simp [Wy.nums]),fun H1 s1=>q H1 s1⟩⟩
    | node g l r =>
      obtain ⟨a,vl,vr,rfl,ha,hl,hr'⟩:=hw;have d:max l.deep r.deep+1≤n+1:=hd;have z:l.size+r.size≤9:=h9;have lp:=l.size_pos;have rp:=r.size_pos;have tl:=fu l (ji hs);have tr:=fu r (jh hs);have tb:=iN (aD g l.os) l.tx;have tb2:=iN (aE g r.os) r.tx;refine ⟨_,rfl,_,_,true,rfl,.tup ha,rfl,true,rfl,av ?_⟩;refine ⟨_,rfl,a,_,rfl,SqT.of ha,rfl,_,_,rfl,_,_,rfl,_,_,rfl,rfl,?_⟩;refine ⟨_,rfl,l,vl,rfl,hl,by lia,by lia,ji hs,fun H1 g1=>?_⟩;refine ⟨_,rfl,r,vr,rfl,hr'.mono (Tups.of g1),by lia,by lia,jh hs,fun H2 g2=>?_⟩;have hl2:=hl.mono (Tups.of (g1.trans g2));have hr2:=hr'.mono (Tups.of (g1.trans g2));have q2:=q H2 (g1.trans g2);refine ⟨fun σ H'=>H'=H2∧σ=[some (.ref a),some (.str g.str),some vl,some vr,some (.str (mkS (br (aD g l.os) l.tx))),some (.str (mkS r.tx))],?_,?_⟩
      · cases l with
        | num i =>
          cases hl2;refine ⟨_,rfl,_,_,false,rfl,.int i,rfl,false,rfl,av (av ⟨rfl,?_⟩)⟩;have : aD g (Wy.num i).os=false:=by cases g <;> rfl
          rw [this];rfl
        | node x l1 l2 =>
          obtain ⟨b,v1,v2,rfl,hb,_,_⟩:=hl2;refine ⟨_,rfl,_,_,true,rfl,.tup hb,rfl,true,rfl,aC ⟨_,rfl,b,_,_,_,rfl,rfl,SqT.of hb,rfl,rfl,_,rfl,?_⟩⟩;rw [eN];cases hx:decide (x=.times) with
          | true =>
            have : x=.times:=of_decide_eq_true hx;subst this;refine av (av ⟨rfl,?_⟩);have : aD g (Wy.node .times l1 l2).os=false:=by cases g <;> rfl
            rw [this];rfl
          | false =>
            have hx:x≠.times:=of_decide_eq_false hx;refine aC ⟨_,rfl,rfl,_,rfl,?_⟩;rw [eN];cases hg:decide (g=.times) with
            | false =>
              have hg:g≠.times:=of_decide_eq_false hg;refine av ⟨rfl,?_⟩;have : aD g (Wy.node x l1 l2).os=false:=by cases g <;> first|rfl|exact absurd rfl hg
              rw [this];rfl
            | true =>
              have : g=.times:=of_decide_eq_true hg;subst this;have : aD .times (Wy.node x l1 l2).os=true:=by cases x <;> first|rfl|exact absurd rfl hx
              rw [this];refine aC ⟨_,rfl,_,_,rfl,rfl,al (by rw [dW,ah,ah];simp;lia),_,_,rfl,rfl,al (by rw [dW,gQ,aU,ah,ah];simp;lia),rfl,?_⟩;rw [ox];rfl
      rintro σ H' ⟨rfl,rfl⟩;refine ⟨fun σ H''=>H''=H'∧σ=[some (.ref a),some (.str g.str),some vl,some vr,some (.str (mkS (br (aD g l.os) l.tx))),some (.str (mkS (br (aE g r.os) r.tx)))],?_,?_⟩
      · cases r with
        | num i =>
          cases hr2;refine ⟨_,rfl,_,_,false,rfl,.int i,rfl,false,rfl,av (av ⟨rfl,?_⟩)⟩;have : aE g (Wy.num i).os=false:=by cases g <;> rfl
          rw [this];rfl
        | node x l1 l2 =>
          obtain ⟨b,v1,v2,rfl,hb,_,_⟩:=hr2;refine ⟨_,rfl,_,_,true,rfl,.tup hb,rfl,true,rfl,aC ⟨_,rfl,b,_,_,_,rfl,rfl,SqT.of hb,rfl,rfl,_,rfl,?_⟩⟩;rw [eN];cases hx:decide (x=.times) with
          | false =>
            have hx:x≠.times:=of_decide_eq_false hx;have : aE g (Wy.node x l1 l2).os=true:=by cases x <;> cases g <;> first|rfl|exact absurd rfl hx
            rw [this];refine aC (aC ⟨_,rfl,_,_,rfl,rfl,al (by rw [dW,ah,ah];simp;lia),_,_,rfl,rfl,al (by rw [dW,gQ,aU,ah,ah];simp;lia),rfl,?_⟩);rw [ox];rfl
          | true =>
            have : x=.times:=of_decide_eq_true hx;subst this;refine av ⟨_,rfl,rfl,_,rfl,?_⟩;rw [eN];cases hg:decide (g=.times) with
            | false =>
              have hg:g≠.times:=of_decide_eq_false hg;refine av ⟨rfl,?_⟩;have : aE g (Wy.node .times l1 l2).os=false:=by cases g <;> first|rfl|exact absurd rfl hg
              rw [this];rfl
            | true =>
              have : g=.times:=of_decide_eq_true hg;subst this;have : aE .times (Wy.node .times l1 l2).os=true:=rfl;rw [this];refine aC ⟨_,rfl,_,_,rfl,rfl,al (by rw [dW,ah,ah];simp;lia),_,_,rfl,rfl,al (by rw [dW,gQ,aU,ah,ah];simp;lia),rfl,?_⟩;rw [ox];rfl
      rintro σ H'' ⟨rfl,rfl⟩;refine ⟨_,rfl,_,rfl,_,_,rfl,rfl,al (by rw [ah,lP];lia),_,rfl,_,_,rfl,rfl,al (by rw [i_,ah,lP,ah];lia),?_⟩;have e:mkS (br (aD g l.os) l.tx)++g.str++mkS (br (aE g r.os) r.tx)=mkS (Wy.node g l r).tx:=by
        rw [dt,aU,aU];show mkS _=mkS (br (aD g l.os) l.tx++g.code :: br (aE g r.os) r.tx);simp
      rw [e];exact q2
end
open PySem L2
theorem vz {k:Int} (h0:0≤k) (h1:k < 3):∃ g:Sg,atI ("+-*":Str).cps.toList k=some g.code:=by
  have : k=0∨k=1∨k=2:=by lia
  rcases this with rfl|rfl|rfl
  · exact ⟨.plus,rfl⟩
  · exact ⟨.minus,rfl⟩
  · exact ⟨.times,rfl⟩
section
variable {P:Program} {w:World} {K:aaa} {mg:Str→Option Value} {base:Heap} {f:Addr} {fd:FuncData}
def qg (n:Nat):Sp:=fun vs H Q _=>∃ w r ns M,vs=[.ref w,.ref r]∧H r=some (.lst (ns.map V.int))∧r≠w∧1≤ns.length∧ns.length≤n∧n≤20∧Wel H w M∧M+4 * ns.length - 4 < 999999000 ∧
  ∀ v wy H',WyIn H' wy v→wy.nums=ns→But w H H'→Wel H' w (M+4 * ns.length - 4)→Q v H'
abbrev dU:Stmt:=top 49
theorem dy:FnScope ["well","row","cut","sign"] ["well","row"] (aq dU):=⟨rfl,rfl,rfl,by decide +kernel,rfl,by decide +kernel,by decide +kernel⟩
theorem o8 (F:Fun K "_law_any_way" "_law_any_way" dU f fd) (bF:Binds K fd ["well","row"] []) (mF:mg "_law_any_way" = some (.ref f)) (B:Bu K mg) (C__law_draw:Cal P w K mg base "_law_draw" 2 ["well","many"] eW) :
    ∀ n,FnOk P w K mg base CX0 (n+2) f fd ["well","row"] (qg n):=by
  intro n
  induction n with
  | zero =>
    refine ⟨fun vs H Q E h=>?_,fun A outer s H args us vs Q E _ _ _ _ h=>?_⟩
    · obtain ⟨x,r,ns,M,rfl,_⟩:=h;rfl
    · obtain ⟨x,r,ns,M,_,_,_,h1,h2,_⟩:=h;lia
  | succ n ih =>
    have C__law_any_way:Cal P w K mg base "_law_any_way" (n+2) ["well","row"] (qg n):=⟨f,fd,ih,bF,F.kp,mF⟩
    refine F.ok dy (fun vs H Q E h=>?_) (fun cdv A outer s H vs Q E hr h=>?_)
    · obtain ⟨x,r,ns,M,rfl,_⟩:=h;rfl
    obtain ⟨wl,r,ns,M,rfl,er,nr,h1,h2,h20,hw,hM,q⟩:=h;refine ⟨_,(@ad _ _ _ _ _ (@aV _ _ _ _ _ _ _ _ (@ai _ _ _ _ _ _ _ _ bc (@ap _ _ _ _ _ _ _ _ _ a6 rfl B.ilen aaI (@aa _ _ _ _ _ (pv 1) ac (by rfl)) (by decide) (by decide) (by rfl) (by rfl)) ae (ak _)) (@ag _ _ _ (@ar _ _ _ _ (@aK _ _ _ _ _ _ _ ix_list (pv 1) ae (fun _ _=>rfl)))) aB) (@ad _ _ _ _ _ (@ao _ _ (2) _ _ _ _ (dy).nd rfl (Or.inl rfl) (@aj _ _ _ _ _ _ _ _ bt ae (@am _ _ _ _ _ _ _ _ _ _ _ C__law_draw hr (by lia) rfl (@aa _ _ _ _ _ (pv 0) (@aa _ _ _ _ _ (@aj _ _ _ _ _ _ _ _ dC (@ap _ _ _ _ _ _ _ _ _ a6 rfl B.ilen aaI (@aa _ _ _ _ _ (pv 1) ac (by rfl)) (by decide) (by decide) (by rfl) (by rfl)) ae) ac (by rfl)) (by rfl)) (by decide) (by rfl) (by rfl))) (by rfl) (by first|exact .inl rfl|exact .inr rfl|assumption)) (@ad _ _ _ _ _ (@ao _ _ (3) _ _ _ _ (dy).nd rfl (Or.inl rfl) (@aK _ _ _ _ _ _ _ bG af (@am _ _ _ _ _ _ _ _ _ _ _ C__law_draw hr (by lia) rfl (@aa _ _ _ _ _ (pv 0) (@aa _ _ _ _ _ ae ac (by rfl)) (by rfl)) (by decide) (by rfl) (by rfl)) (fun _ _=>rfl)) (by rfl) (by first|exact .inl rfl|exact .inr rfl|assumption)) (@ag _ _ _ (@ar _ _ _ _ (@bT _ _ _ _ _ (@aa _ _ _ _ _ (pv 3) (@aa _ _ _ _ _ (@am _ _ _ _ _ _ _ _ _ _ _ C__law_any_way hr (by lia) rfl (@aa _ _ _ _ _ (pv 0) (@aa _ _ _ _ _ (@aX _ _ _ _ _ _ _ _ _ _ dj (pv 1) bi (@aY _ _ _ (pv 2))) ac (by rfl)) (by rfl)) (by decide) (by rfl) (by rfl)) (@aa _ _ _ _ _ (@am _ _ _ _ _ _ _ _ _ _ _ C__law_any_way hr (by lia) rfl (@aa _ _ _ _ _ (pv 0) (@aa _ _ _ _ _ (@aX _ _ _ _ _ _ _ _ _ _ dj (pv 1) (@aY _ _ _ (pv 2)) bi) ac (by rfl)) (by rfl)) (by decide) (by rfl) (by rfl)) ac (by rfl)) (by rfl)) (by rfl)))))))),?_⟩;have hl:(ns.map V.int).length=ns.length:=aaf _;refine ⟨_,rfl,r,_,rfl,.inl (SqL.of er),rfl,_,rfl,kE (fun c=>?_) (fun c=>?_)⟩
    · have c':V.int (((ns.map V.int).length:Nat):Int)=V.int 1:=of_decide_eq_true c;have c2:(((ns.map V.int).length:Nat):Int)=1:=by injection c'
      rw [hl] at c2
      match ns,c2,er,q with
      | [i],_,er,q =>
        exact ⟨_,rfl,r,_,_,_,rfl,rfl,SqL.of er,rfl,q _ (.num i) H rfl rfl But.refl (hw.more (by show M≤M+4 * ((1:Nat):Int) - 4;lia))⟩
    have c2:ns.length≠1:=fun e=>c (by rw [hl,e];rfl);refine ⟨_,rfl,_,rfl,r,_,rfl,.inl (SqL.of er),_,_,rfl,rfl,wl,((ns.map V.int).length:Int) - 1,M,rfl,by rw [hl];lia,by rw [hl];lia,hw,by lia,fun r1 H1 a1 b1 k1 w1=>?_⟩;rw [hl] at b1;have er1:=k1 _ _ nr er;refine ⟨_,_,rfl,rfl,_,rfl,wl,3,_,rfl,by decide,by decide,w1,by lia,fun r3 H3 a3 b3 k3 w3=>?_⟩;obtain ⟨g,hg⟩:=vz a3 b3;refine ⟨_,_,_,rfl,rfl,al (by decide),hg,?_⟩;obtain ⟨rn,rfl⟩:=Int.eq_ofNat_of_zero_le a1;obtain ⟨cn,hcn⟩:∃ cn,cn=1+rn:=⟨_,rfl⟩
    have ecn:(1:Int)+(rn:Int)=(cn:Int):=by lia
    have hcl:cn≤ns.length:=by lia
    have kk:But wl H H3:=k1.trans k3;have er3:=kk _ _ nr er;refine ⟨_,rfl,_,rfl,_,rfl,_,rfl,1+(rn:Int),rfl,r,_,rfl,SqL.of er3,fun p2 n2=>?_⟩;rw [ecn,ud ns cn hcl];have lt:(ns.take cn).length=cn:=by rw [aav];lia
    have ld:(ns.drop cn).length=ns.length - cn:=by rw [aay]
    have w4:=w3.keep (Same.new n2 (.lst ((ns.take cn).map V.int))) (aaG _);refine ⟨wl,p2,ns.take cn,_,rfl,upd_same,w3.ne n2,by lia,by lia,by lia,w4,by lia,fun vl wyl H4 i4 e4 k4 w5=>?_⟩;have kk4:But wl H H4:=(kk.trans (But.new n2 _)).trans k4;have er4:=kk4 _ _ nr er;refine ⟨_,rfl,_,rfl,_,rfl,1+(rn:Int),rfl,r,_,rfl,SqL.of er4,fun p3 n3=>?_⟩;rw [ecn,ug ns cn hcl];have w6:=w5.keep (Same.new n3 (.lst ((ns.drop cn).map V.int))) (aaG _);refine ⟨wl,p3,ns.drop cn,_,rfl,upd_same,w5.ne n3,by lia,by lia,by lia,w6,by lia,fun vr wyr H5 i5 e5 k5 w7=>?_⟩;refine ⟨(by show 3≤sizeLine;decide),fun p4 n4=>?_⟩;have T45:Tups H4 H5:=(Tups.of (Same.new n3 _)).trans (w6.tups k5);have T5:Tups H5 (upd H5 p4 (.tup [.str ⟨#[g.code]⟩,vl,vr])):=Tups.of (Same.new n4 _);refine q _ (.node g wyl wyr) _ ⟨p4,vl,vr,rfl,?_,i4.mono (T45.trans T5),i5.mono T5⟩ ?_ (((kk4.trans (But.new n3 _)).trans k5).trans (But.new n4 _)) ?_
    · rw [upd_same,dt];rfl
    · show wyl.nums++wyr.nums=ns;rw [e4,e5,ab6]
    · refine (w7.keep (Same.new n4 _) (aaG _)).more ?_;lia
end
open PySem L2
def jl:List (List Nat)→List Nat
  | []=>[]
  | [x]=>x
  | x :: y :: r=>x++32 :: jl (y :: r)
theorem gb:∀ ls:List (List Nat),acK (mkS [32]) (ls.map mkS)=mkS (jl ls):=by
  intro ls;show act (mkS [32]) (ls.map mkS)=_;rw [acE]
  induction ls with
  | nil=>rfl
  | cons a r ih =>
    cases r with
    | nil=>rfl
    | cons b r =>
      show mkS a++mkS [32]++Str.join (mkS [32]) ((b :: r).map mkS)=mkS (a++32 :: jl (b :: r));rw [ih,aU,aU];simp
def szs (ls:List (List Nat)):Nat:=(ls.map aa2).sum+ls.length
theorem iF:∀ ls:List (List Nat),(jl ls).length≤szs ls
  | []=>aaK _
  | [x]=>by simp [jl,szs]
  | x :: y :: r=>by
    have:=iF (y :: r);show (x++32 :: jl (y :: r)).length≤_;rw [aah,aao];unfold szs at this ⊢;simp only [aax,aba,aao] at this ⊢;lia
theorem dZ (ls:List (List Nat)) (h:szs ls≤1000):JoinOk (mkS [32]) (ls.map mkS)=true:=by
  unfold JoinOk;have e:=StrLaws.joinTotal (mkS [32]) (ls.map mkS);rw [e];have e2:((ls.map mkS).map (·.length)).sum=(ls.map aa2).sum:=by
    rw [abp];exact congrArg List.sum (abF fun x _=>ah x)
  rw [e2,aaf];have e3:(mkS [32]).length=1:=rfl;rw [e3,Nat.mul_one];unfold ach;unfold szs at h;rw [decide_eq_false (by have:=al h;lia)];rfl
theorem nZ {c:Nat}:∀ {x y A B:List Nat},c∉x→c∉y→x++c :: A=y++c :: B→x=y∧A=B
  | [],[],A,B,_,_,h=>by simp at h;exact ⟨rfl,h⟩
  | [],b :: y,A,B,_,hy,h=>by
    simp at h;exact absurd (by rw [h.1];exact aai) hy
  | a :: x,[],A,B,hx,_,h=>by
    simp at h;exact absurd (by rw [h.1];exact aai) hx
  | a :: x,b :: y,A,B,hx,hy,h=>by
    simp only [abG,List.cons.injEq] at h;obtain ⟨e,h⟩:=h;obtain ⟨e1,e2⟩:=nZ (fun z=>hx (aae _ z)) (fun z=>hy (aae _ z)) h;exact ⟨by rw [e,e1],e2⟩
theorem tK:∀ {ps ws:List (List Nat)},ps≠[]→ws≠[]→(∀ p∈ps,32∉p)→(∀ w∈ws,32∉w)→jl ps=jl ws→ps=ws
  | [],_,h,_,_,_,_=>absurd rfl h
  | _ :: _,[],_,h,_,_,_=>absurd rfl h
  | [x],[y],_,_,_,_,h=>by rw [show x=y from h]
  | [x],y :: z :: r,_,_,hp,_,h=>by
    have h:x=y++32 :: jl (z :: r):=h;exact absurd (by rw [h];exact aag _ aai) (hp x aai)
  | x :: y :: r,[z],_,_,_,hw,h=>by
    have h:x++32 :: jl (y :: r)=z:=h;exact absurd (by rw [← h];exact aag _ aai) (hw z aai)
  | x :: y :: r,z :: u :: t,_,_,hp,hw,h=>by
    have h:x++32 :: jl (y :: r)=z++32 :: jl (u :: t):=h;obtain ⟨e1,e2⟩:=nZ (hp x aai) (hw z aai) h;have:=tK (ps:=y :: r) (ws:=u :: t) (by simp) (by simp) (fun p h=>hp p (aae _ h)) (fun p h=>hw p (aae _ h)) e2;rw [e1,this]
theorem oK (z:Str):mkS z.cps.toList=z:=by
  cases z with|mk c=>show Str.mk c.toList.toArray=_;simp
theorem sq (x y:Str):acF x y≠[]:=by
  unfold acF;split
  · simp
  · split
    · simp
    · intro h;have:=congrArg aa2 h;rw [PySem.length_partsBetween] at this;simp at this
theorem sr {ws:List (List Nat)} (hne:ws≠[]) (hf:∀ w∈ws,32∉w):acF (mkS (jl ws)) (mkS [32])=ws.map mkS:=by
  have h1:=StrLaws.join_split (mkS (jl ws)) (mkS [32]);have h2:=StrLaws.split_free (mkS (jl ws)) 32;have h3:=sq (mkS (jl ws)) (mkS [32]);have e32:(⟨#[32]⟩:Str)=mkS [32]:=rfl;rw [e32] at h2;revert h1 h2 h3;generalize acF (mkS (jl ws)) (mkS [32])=ps;intro h1 h2 h3;have eps:ps=(ps.map fun z=>z.cps.toList).map mkS:=by
    rw [abp]
    conv=>lhs;rw [← List.map_id ps]
    exact abF fun z _=>(oK z).symm
  have j1:=gb (ps.map fun z=>z.cps.toList);rw [← eps] at j1;have j2:acK (mkS [32]) ps=mkS (jl ws):=by
    show act (mkS [32]) ps=_;rw [acE];exact h1
  have e:=ff (j1.symm.trans j2);have:=tK (ps:=ps.map fun z=>z.cps.toList) (ws:=ws) (fun z=>h3 (List.map_eq_nil_iff.mp z)) hne (fun p hp=>by
    obtain ⟨z,hz,rfl⟩:=ab5.mp hp;exact h2 z hz) hf e
  rw [eps,this]
theorem fY (z:Str) (h:z.length≤900):(abx z (aaB z (mkS [32]) 0 z.length (z.length+1)) (mkS [32]).length).length≤sizeLine:=by
  rw [PySem.length_partsBetween];have:=aca z (mkS [32]) 0 z.length (z.length+1);exact al (by lia)
theorem bD:(" ":Str)=mkS [32]:=by decide +kernel
theorem v6 (ns:List Int) (h:b_ ns):szs (ns.map wn)≤14 * ns.length:=by
  induction ns with
  | nil=>simp [szs]
  | cons i r ih =>
    have a:=ih fun j hj=>h j (aae _ hj);have b:=rW i (h i aai);unfold szs at a ⊢;simp only [aax,aba,aao] at a ⊢;lia
def wnV (i:Int):V:=.str (mkS (wn i))
theorem uB (ns:List Int):ns.map wnV=((ns.map wn).map mkS).map V.str:=by rw [abp,abp];rfl
theorem vS (i:Int):Asc (wn i):=by
  unfold Asc mkS;rw [aa4];intro c hc;have:=ft i c (by simpa using hc);simp;lia
open PySem L2
theorem PairsIn.mono {H H':Hp} (t:Tups H H') {ps:List (Int × Int)} {vs:List V} (p:PairsIn H ps vs):PairsIn H' ps vs:=by
  induction p with
  | nil=>exact .nil
  | cons z _ ih=>obtain ⟨a,e,h⟩:=z;exact .cons ⟨a,e,t _ _ h⟩ ih
theorem PairsIn.app {H:Hp} {ps qs:List (Int × Int)} {vs us:List V} (a:PairsIn H ps vs) (b:PairsIn H qs us):PairsIn H (ps++qs) (vs++us):=by
  induction a with
  | nil=>exact b
  | cons x _ ih=>exact .cons x ih
theorem PairsIn.snoc {H:Hp} {ps:List (Int × Int)} {vs:List V} {p:Int × Int} {v:V} (h:PairsIn H ps vs) (x:fW H p v):PairsIn H (ps++[p]) (vs++[v]):=PairsIn.app h (.cons x .nil)
def sfR (n m:Nat):List (Int × Int):=(aby (n - m)).map fun (f:Nat)=>((f:Int),((f+m:Nat):Int))
def sfl (n i:Nat):List (Int × Int):=(aby i).flatMap fun m=>sfR n m
theorem mZ (n i:Nat):sfl n (i+1)=sfl n i++sfR n i:=by
  unfold sfl;rw [List.range_succ,List.flatMap_append];simp
theorem qi (n i:Nat):(sfl n i).length≤i * n:=by
  induction i with
  | zero=>simp [sfl]
  | succ i ih =>
    rw [mZ,aah];have : (sfR n i).length≤n:=by simp [sfR]
    rw [Nat.succ_mul];lia
theorem uP (n:Nat) (a b:Nat) (h1:a≤b) (h2:b < n):((a:Int),(b:Int))∈sfl n n:=by
  unfold sfl sfR;rw [List.mem_flatMap];refine ⟨b - a,acM.mpr (by lia),?_⟩;rw [List.mem_map];refine ⟨a,acM.mpr (by lia),?_⟩;have : a+(b - a)=b:=by lia
  rw [this]
section
variable {P:Program} {w:World} {K:aaa} {mg:Str→Option Value} {base:Heap} {f:Addr} {fd:FuncData}
def wj:Sp:=fun vs H Q _=>∃ n:Nat,vs=[.int n]∧n≤9∧∀ p us H',Same H H'→H p=none→H' p=some (.lst us)→PairsIn H' (sfl n n) us→Q (.ref p) H'
abbrev dB:Stmt:=top 17
theorem ij:FnScope ["many"] ["many"] (aq dB):=⟨rfl,rfl,rfl,by decide +kernel,rfl,by decide +kernel,by decide +kernel⟩
theorem iy (F:Fun K "shorter_first" "shorter_first" dB f fd) (B:Bu K mg):FnOk P w K mg base CX0 1 f fd ["many"] wj:=by
  refine F.ok ij (fun vs H Q E h=>?_) (fun cdv A outer s H vs Q E hr h=>?_)
  · obtain ⟨l,rfl,_⟩:=h;rfl
  obtain ⟨n,rfl,h9,q⟩:=h;refine ⟨_,(@ag _ _ _ (@ar _ _ _ _ (@wB _ _ _ _ _ _ _ _ _ _ _ (["more","first","many"]) ([none,none,some 0]) _ _ _ _ _ _ _ rfl (@cz _ _ _ _ _ _ rfl B.irange (@aa _ _ _ _ _ (pv 0) ac (by rfl)) (by rfl)) rfl ⟨rfl,trivial⟩ ⟨⟨rfl,Or.inl rfl,Or.inl rfl⟩,trivial⟩ (fun _ _ _ _=>⟨(@aG _ _ (0) _ (show aa8 (["more","first","many"]:List Str) by decide +kernel) rfl (Or.inl rfl) (.inr rfl)),bB,(@cz _ _ _ _ _ _ rfl B.irange (@aa _ _ _ _ _ (@aj _ _ _ _ _ _ _ _ dC (pv 2) (pv 0)) ac (by rfl)) (by rfl)),(@aG _ _ (1) _ (show aa8 (["more","first","many"]:List Str) by decide +kernel) rfl (Or.inl rfl) (.inr rfl)),bB,(@bT _ _ _ _ _ (@aa _ _ _ _ _ (pv 1) (@aa _ _ _ _ _ (@aj _ _ _ _ _ _ _ _ bt (pv 1) (pv 0)) ac (by rfl)) (by rfl)))⟩) (by rfl) (by rfl) (by rfl) (by rfl) (by intro _;rfl) (by intro _ _;rfl)))),?_⟩;refine ⟨_,rfl,n,rfl,by lia,by lia,?_⟩;refine wP (Trn.range (lo:=0) (n:=(n:Int).toNat)) (fun i ys H'=>Same H H'∧PairsIn H' (sfl n i) ys) ⟨Same.refl _,.nil⟩ (fun i ys H' hi p=>trivial) (fun i x ys H1 H' hi hx p Nx nx=>?_) (fun ys H' p p5 n5=>?_)
  · obtain ⟨rfl,rfl⟩:=hx;obtain ⟨S,hp⟩:=p;have hl:=hp.length;have hb:=qi n i;have hn:(n:Int).toNat=n:=by lia
    have hin:i < n:=by lia
    have hb2:i * n≤9 * 9:=Nat.mul_le_mul (by lia) h9;have en:((n:Int) - (0+(i:Int))).toNat=n - i:=by lia
    refine ⟨_,rfl,_,rfl,_,_,rfl,rfl,(n:Int) - (0+(i:Int)),rfl,by lia,by lia,?_⟩;refine wM (Trn.range (lo:=0) (n:=((n:Int) - (0+(i:Int))).toNat)) (fun j zs σ H2=>Same H H2∧(∃ c,σ=[some (.int (0+(i:Int))),c,some (.int n)])∧PairsIn H2 (sfl n i++(sfR n i).take j) zs) ⟨S,⟨_,rfl⟩,by simpa using hp⟩ (fun j zs σ H2 hj p=>⟨trivial,aQ (by have:=p.2.2.length;rw [← this,aah,aav];lia)⟩) (fun j x zs σ H2 H3 hj hx p Ny ny=>?_) (fun zs σ H2 p=>?_)
    · obtain ⟨rfl,rfl⟩:=hx;obtain ⟨S2,⟨c,rfl⟩,hp2⟩:=p;refine ⟨_,rfl,_,rfl,_,rfl,_,_,rfl,rfl,(by show 2≤sizeLine;decide),fun t ht=>ny _ _ _ ⟨S2.trans (Same.new ht _),⟨_,rfl⟩,?_⟩⟩;have s3:=Same.new ht (.tup [.int (0+(j:Int)),.int (0+(j:Int)+(0+(i:Int)))]);have e:(sfR n i).take (j+1)=(sfR n i).take j++[(((j:Nat):Int),((j+i:Nat):Int))]:=by
        rw [aaz];have : (sfR n i)[j]?=some (((j:Nat):Int),((j+i:Nat):Int)):=by
          unfold sfR;rw [aar,List.getElem?_range (by lia)];rfl
        rw [this];rfl
      rw [e,← abP];refine PairsIn.snoc (PairsIn.mono (Tups.of s3) hp2) ⟨t,rfl,?_⟩;rw [upd_same];have e1:(0:Int)+(j:Int)=((j:Nat):Int):=by lia
      have e2:(0:Int)+(j:Int)+(0+(i:Int))=((j+i:Nat):Int):=by lia
      show some (HO.tup [V.int (0+(j:Int)),V.int (0+(j:Int)+(0+(i:Int)))])=some (HO.tup [V.int ((j:Nat):Int),V.int ((j+i:Nat):Int)]);rw [e2,e1]
    · obtain ⟨S2,⟨c,rfl⟩,hp2⟩:=p;refine nx _ _ ⟨S2,?_⟩;rw [en,aaQ (by simp [sfR]),← mZ] at hp2;exact hp2
  · obtain ⟨S,hp⟩:=p;have hn:(n:Int).toNat=n:=by lia
    rw [hn] at hp;have s5:=Same.new n5 (.lst ys);exact q p5 ys _ (S.trans s5) (S.free n5) upd_same (PairsIn.mono (Tups.of s5) hp)
def Gp (p:Int × Int):Prop:=0≤p.1∧p.1 < p.2∧p.2 < 9
def StIn (H:Hp) (ps:List (Int × Int)) (v:V):Prop:=∃ a us,v=.ref a∧H a=some (.lst us)∧PairsIn H ps us
theorem StIn.mono {H H':Hp} {ps:List (Int × Int)} {v:V} (g:Same H H') (h:StIn H ps v):StIn H' ps v:=by
  obtain ⟨a,us,e,h1,h2⟩:=h;exact ⟨a,us,e,g _ _ h1,PairsIn.mono (Tups.of g) h2⟩
def HdIn (H:Hp) (ps qs:List (Int × Int)) (v:V):Prop:=∃ a x y,v=.ref a∧H a=some (.tup [x,y])∧StIn H ps x∧StIn H qs y
theorem HdIn.mono {H H':Hp} {ps qs:List (Int × Int)} {v:V} (g:Same H H') (h:HdIn H ps qs v):HdIn H' ps qs v:=by
  obtain ⟨a,x,y,e,h1,h2,h3⟩:=h;exact ⟨a,x,y,e,g _ _ h1,h2.mono g,h3.mono g⟩
def Gs (ps:List (Int × Int)):Prop:=ps.length≤40∧∀ p∈ps,Gp p
def dig (i:Int):Nat:=48+i.toNat
def stx (p:Int × Int):List Nat:=[dig p.1,45,dig p.2]
theorem qI (i:Int) (h0:0≤i) (h1:i < 9):abL (toString i)=mkS [dig i]∧i.natAbs.log2 < 1920:=by
  have : i=0∨i=1∨i=2∨i=3∨i=4∨i=5∨i=6∨i=7∨i=8:=by lia
  rcases this with rfl|rfl|rfl|rfl|rfl|rfl|rfl|rfl|rfl <;> exact ⟨by decide +kernel,by decide +kernel⟩
def wc:Sp:=fun vs H Q _=>∃ p v,vs=[v]∧fW H p v∧(0≤p.1∧p.1 < 9∧0≤p.2∧p.2 < 9)∧Q (.str (mkS (stx p))) H
abbrev dA:Stmt:=top 37
theorem ii:FnScope ["stretch"] ["stretch"] (aq dA):=⟨rfl,rfl,rfl,by decide +kernel,rfl,by decide +kernel,by decide +kernel⟩
theorem iu (F:Fun K "write_stretch" "write_stretch" dA f fd):FnOk P w K mg base CX0 1 f fd ["stretch"] wc:=by
  refine F.ok ii (fun vs H Q E h=>?_) (fun cdv A outer s H vs Q E hr h=>?_)
  · obtain ⟨p,v,rfl,_⟩:=h;rfl
  obtain ⟨p,v,rfl,⟨a,rfl,ha⟩,⟨h1,h2,h3,h4⟩,q⟩:=h;refine ⟨_,(@ag _ _ _ (@ar _ _ _ _ (@wC _ _ _ _ _ _ _ _ _ _ _ (@aK _ _ _ _ _ _ _ ix_tup (pv 0) ae (fun _ _=>rfl)) (@aK _ _ _ _ _ _ _ ix_tup (pv 0) ae (fun _ _=>rfl))))),?_⟩;obtain ⟨e1,l1⟩:=qI p.1 h1 h2;obtain ⟨e2,l2⟩:=qI p.2 h3 h4;have e3:("-":Str)=mkS [45]:=by decide +kernel
  refine ⟨_,rfl,a,_,_,_,rfl,rfl,SqT.of ha,rfl,p.1,rfl,l1,?_,?_,_,rfl,a,_,_,_,rfl,rfl,SqT.of ha,rfl,p.2,rfl,l2,?_,?_⟩
  · rw [e1,ah];exact al (by simp)
  · rw [e1,e3,aU,ah];exact al (by simp)
  · rw [e1,e2,e3,aU,aU,ah];exact al (by simp)
  · rw [e1,e2,e3,aU,aU];exact q
end
open PySem L2
theorem kc {H:Hp}:∀ {ds:List PyData} {vs:List V},DatAll H ds vs→∀ {i:Nat} {x:V},vs[i]?=some x→∃ d,ds[i]?=some d∧Dat H d x
  | [],vs,h,i,x,e=>by simp only [DatAll] at h;subst h;simp at e
  | d :: ds,vs,h,i,x,e=>by
    simp only [DatAll] at h;obtain ⟨v,r,rfl,h1,h2⟩:=h;cases i with
    | zero=>simp at e;subst e;exact ⟨d,rfl,h1⟩
    | succ i=>exact kc h2 (by simpa using e)
mutual
def gdD:PyData→Bool
  | .int _=>true
  | .str _=>true
  | .list ds=>gdA ds && decide (ds.length≤100)
  | .tuple ds=>gdA ds && decide (ds.length≤100)
  | _=>false
def gdA:List PyData→Bool
  | []=>true
  | d :: ds=>gdD d && gdA ds
end
theorem pH:∀ {ds:List PyData} {i:Nat} {d:PyData},gdA ds=true→ds[i]?=some d→gdD d=true
  | [],i,d,_,h=>by simp at h
  | e :: ds,0,d,g,h=>by simp at h;subst h;simp only [gdA,abk] at g;exact g.1
  | e :: ds,i+1,d,g,h=>by simp only [gdA,abk] at g;exact pH g.2 (by simpa using h)
theorem fU:∀ {ds:List PyData} {i:Nat} {d:PyData},ds[i]?=some d→d.depth≤abj ds
  | [],i,d,h=>by simp at h
  | e :: ds,0,d,h=>by simp at h;subst h;simp only [abj];lia
  | e :: ds,i+1,d,h=>by have:=fU (ds:=ds) (i:=i) (d:=d) (by simpa using h);simp only [abj];lia
section
variable {P:Program} {w:World} {K:aaa} {mg:Str→Option Value} {base:Heap} {f:Addr} {fd:FuncData}
def lL (n:Nat):Sp:=fun vs H Q _=>∃ d x y,vs=[x,y]∧Dat H d x∧Dat H d y∧gdD d=true∧d.depth < n∧∀ H',Same H H'→Q (.bl true) H'
abbrev fJ:Stmt:=top 51
theorem lU:FnScope ["found","due"] ["found","due"] (aq fJ):=⟨rfl,rfl,rfl,by decide +kernel,rfl,by decide +kernel,by decide +kernel⟩
theorem nD (F:Fun K "_law_same" "_law_same" fJ f fd) (bF:Binds K fd ["found","due"] []) (mF:mg "_law_same" = some (.ref f)) (B:Bu K mg):∀ n,FnOk P w K mg base CX0 (n+1) f fd ["found","due"] (lL n):=by
  intro n
  induction n with
  | zero =>
    refine ⟨fun vs H Q E h=>?_,fun A outer s H args us vs Q E _ _ _ _ h=>?_⟩
    · obtain ⟨d,x,y,rfl,_⟩:=h;rfl
    · obtain ⟨d,x,y,_,_,_,_,hd,_⟩:=h;lia
  | succ n ih =>
    have C__law_same:Cal P w K mg base "_law_same" (n+1) ["found","due"] (lL n):=⟨f,fd,ih,bF,F.kp,mF⟩
    refine F.ok lU (fun vs H Q E h=>?_) (fun cdv A outer s H vs Q E hr h=>?_)
    · obtain ⟨d,x,y,rfl,_⟩:=h;rfl
    obtain ⟨d,x,y,rfl,h1,h2,hg,hdep,q⟩:=h;refine ⟨_,(@ad _ _ _ _ _ (@aV _ _ _ _ _ _ _ _ (@bE _ _ _ (@ap _ _ _ _ _ _ _ _ _ (@mK _ _ rfl) rfl B.iisinstance aad (@aa _ _ _ _ _ (pv 1) (@aa _ _ _ _ _ (@bT _ _ _ _ _ (@aa _ _ _ _ _ (@bw _ _ (.ty "tuple") _ _ rfl B.ituple abh rfl (by decide) (by decide)) (@aa _ _ _ _ _ (@bw _ _ (.ty "list") _ _ rfl B.ilist acs rfl (by decide) (by decide)) ac (by rfl)) (by rfl))) ac (by rfl)) (by rfl)) (by decide) (by decide) (by rfl) (by rfl)) (by intro _;rfl)) (@ad _ _ _ _ _ (@aV _ _ _ _ _ _ _ _ (@PW.pt _ _ _ (@ck _ _ _ _ _ _ _ (@ai _ _ _ _ _ _ _ _ dX (@ap _ _ _ _ _ _ _ _ _ (@a8 _ ("tuple")) rfl B.iisinstance aad (@aa _ _ _ _ _ (pv 0) (@aa _ _ _ _ _ (@bw _ _ (.ty "tuple") _ _ rfl B.ituple abh rfl (by decide) (by decide)) ac (by rfl)) (by rfl)) (by decide) (by decide) (by rfl) (by rfl)) (@ap _ _ _ _ _ _ _ _ _ (@a8 _ ("tuple")) rfl B.iisinstance aad (@aa _ _ _ _ _ (pv 1) (@aa _ _ _ _ _ (@bw _ _ (.ty "tuple") _ _ rfl B.ituple abh rfl (by decide) (by decide)) ac (by rfl)) (by rfl)) (by decide) (by decide) (by rfl) (by rfl)) (ak _)) (@bS _ _ _ _ (@ai _ _ _ _ _ _ _ _ dX (@ap _ _ _ _ _ _ _ _ _ (@a8 _ ("list")) rfl B.iisinstance aad (@aa _ _ _ _ _ (pv 0) (@aa _ _ _ _ _ (@bw _ _ (.ty "list") _ _ rfl B.ilist acs rfl (by decide) (by decide)) ac (by rfl)) (by rfl)) (by decide) (by decide) (by rfl) (by rfl)) (@ap _ _ _ _ _ _ _ _ _ (@a8 _ ("list")) rfl B.iisinstance aad (@aa _ _ _ _ _ (pv 1) (@aa _ _ _ _ _ (@bw _ _ (.ty "list") _ _ rfl B.ilist acs rfl (by decide) (by decide)) ac (by rfl)) (by rfl)) (by decide) (by decide) (by rfl) (by rfl)) (ak _))))) (@ag _ _ _ (@ar _ _ _ _ dE)) aB) (@ad _ _ _ _ _ (@aV _ _ _ _ _ _ _ _ (@ai _ _ _ _ _ _ _ _ dX (@ap _ _ _ _ _ _ _ _ _ a6 rfl B.ilen aaI (@aa _ _ _ _ _ (pv 0) ac (by rfl)) (by decide) (by decide) (by rfl) (by rfl)) (@ap _ _ _ _ _ _ _ _ _ a6 rfl B.ilen aaI (@aa _ _ _ _ _ (pv 1) ac (by rfl)) (by decide) (by decide) (by rfl) (by rfl)) (ak _)) (@ag _ _ _ (@ar _ _ _ _ dE)) aB) (@ag _ _ _ (@ar _ _ _ _ (@bp _ _ _ _ _ _ _ _ (@wG _ hr.units) (@gm _ _ _ _ _ _ _ _ (["k","found","due"]) ([none,some 0,some 1]) _ _ _ _ rfl (@cz _ _ _ _ _ _ rfl B.irange (@aa _ _ _ _ _ (@ap _ _ _ _ _ _ _ _ _ a6 rfl B.ilen aaI (@aa _ _ _ _ _ (pv 1) ac (by rfl)) (by decide) (by decide) (by rfl) (by rfl)) ac (by rfl)) (by rfl)) rfl ⟨rfl,⟨rfl,trivial⟩⟩ ⟨⟨rfl,Or.inl rfl,Or.inl rfl⟩,⟨⟨rfl,Or.inl rfl,Or.inl rfl⟩,trivial⟩⟩ (fun _ _ _ _=>⟨(@aG _ _ (0) _ (show aa8 (["k","found","due"]:List Str) by decide +kernel) rfl (Or.inl rfl) (.inr rfl)),(@jD _ _ _ (@cO _ _ _ _ (@bE _ _ _ (@am _ _ _ _ _ _ _ _ _ _ _ C__law_same hr (by lia) rfl (@aa _ _ _ _ _ (@aK _ _ _ _ _ _ _ (@qx _ _ rfl) (pv 1) (pv 0) (fun _ _=>rfl)) (@aa _ _ _ _ _ (@aK _ _ _ _ _ _ _ (@qx _ _ rfl) (pv 2) (pv 0) (fun _ _=>rfl)) ac (by rfl)) (by rfl)) (by decide) (by rfl) (by rfl)) (by intro _;rfl)))),(pv 0)⟩) (by rfl) (by rfl) (by rfl) (by rfl) (by intro _;rfl)) (@a9 _ _ _ _ ac) (ak _)))))) aB) (@ad _ _ _ _ _ (@aV _ _ _ _ _ _ _ _ (@PW.pt _ _ _ (@ck _ _ _ _ _ _ _ (@ai _ _ _ _ _ _ _ _ dY (pv 1) aZ (ak _)) (@bS _ _ _ _ (@bE _ _ _ (@ap _ _ _ _ _ _ _ _ _ (@a8 _ ("str")) rfl B.iisinstance aad (@aa _ _ _ _ _ (pv 1) (@aa _ _ _ _ _ (@bw _ _ (.ty "str") _ _ rfl B.istr abJ rfl (by decide) (by decide)) ac (by rfl)) (by rfl)) (by decide) (by decide) (by rfl) (by rfl)) (by intro _;rfl))))) (@ag _ _ _ (@ar _ _ _ _ (@bp _ _ _ _ _ _ _ _ bc (pv 0) (pv 1) (ak _)))) aB) (@ag _ _ _ (@ar _ _ _ _ (@jG _ _ _ _ _ _ _ (@ap _ _ _ _ _ _ _ _ _ (@a8 _ ("int")) rfl B.iisinstance aad (@aa _ _ _ _ _ (pv 0) (@aa _ _ _ _ _ (@bw _ _ (.ty "int") _ _ rfl B.iint aaA rfl (by decide) (by decide)) ac (by rfl)) (by rfl)) (by decide) (by decide) (by rfl) (by rfl)) (@jG _ _ _ _ _ _ _ (@o2 _ _ _ _ (@ap _ _ _ _ _ _ _ _ _ (@a8 _ ("bool")) rfl B.iisinstance aad (@aa _ _ _ _ _ (pv 0) (@aa _ _ _ _ _ (@bw _ _ (.ty "bool") _ _ rfl B.ibool PyProof.Rows.boot_bool rfl (by decide) (by decide)) ac (by rfl)) (by rfl)) (by decide) (by decide) (by rfl) (by rfl))) (@io _ _ _ _ _ (@bp _ _ _ _ _ _ _ _ bc (pv 0) (pv 1) (ak _))))))))),?_⟩;refine ⟨_,rfl,(by show 2≤sizeLine;decide),fun tp htp=>?_⟩;have s1:=Same.new htp (.tup [V.ty "tuple",V.ty "list"]);have etp:upd H tp (.tup [V.ty "tuple",V.ty "list"]) tp=some (.tup (["tuple","list"].map V.ty)):=upd_same;cases d with
    | str z =>
      simp only [Dat] at h1 h2;subst h1 h2;refine ⟨_,tp,_,["tuple","list"],false,rfl,.str z,etp,rfl,false,rfl,av ?_⟩;refine ⟨_,rfl,rfl,false,rfl,av ⟨_,rfl,_,_,true,rfl,.str z,rfl,true,rfl,aC ⟨_,rfl,_,rfl,rfl,?_⟩⟩⟩;rw [decide_eq_true rfl];exact q _ s1
    | int i =>
      simp only [Dat] at h1 h2;subst h1 h2;refine ⟨_,tp,_,["tuple","list"],false,rfl,.int i,etp,rfl,false,rfl,av ?_⟩;refine ⟨_,rfl,rfl,false,rfl,av ⟨_,rfl,_,_,false,rfl,.int i,rfl,false,rfl,av ?_⟩⟩;refine ⟨_,rfl,_,_,true,rfl,.int i,rfl,true,rfl,aC ⟨_,rfl,_,_,false,rfl,.int i,rfl,false,rfl,true,rfl,aC ⟨_,rfl,_,rfl,rfl,?_⟩⟩⟩;rw [decide_eq_true rfl];exact q _ s1
    | tuple ds =>
      simp only [Dat] at h1 h2;obtain ⟨a,xs,rfl,ea,hxs⟩:=h1;obtain ⟨b,ys,rfl,eb,hys⟩:=h2;simp only [gdD,abk,decide_eq_true_eq] at hg;obtain ⟨hgA,hlen⟩:=hg;have lx:=hxs.len;have ly:=hys.len;have ea1:=s1 _ _ ea;have eb1:=s1 _ _ eb;refine ⟨_,tp,_,["tuple","list"],true,rfl,.tup eb1,etp,rfl,true,rfl,aC ?_⟩;generalize upd H tp (.tup [V.ty "tuple",V.ty "list"])=H1 at s1 ea1 eb1 ⊢;refine ⟨_,rfl,_,_,true,rfl,.tup ea1,rfl,_,rfl,_,_,true,rfl,.tup eb1,rfl,rfl,false,rfl,av ?_⟩;refine ⟨_,rfl,_,_,false,rfl,.tup ea1,rfl,_,rfl,_,_,false,rfl,.tup eb1,rfl,rfl,false,rfl,av ?_⟩;refine ⟨_,rfl,a,_,rfl,.inr (SqT.of ea1),_,rfl,b,_,rfl,.inr (SqT.of eb1),rfl,_,rfl,?_⟩;have el:decide (V.int (xs.length:Nat)=V.int (ys.length:Nat))=true:=decide_eq_true (by rw [← lx,← ly]);rw [el];refine av ⟨_,rfl,b,_,rfl,.inr (SqT.of eb1),(ys.length:Nat),rfl,by lia,by lia,?_⟩;refine d5 (Trn.range (lo:=0) (n:=((ys.length:Nat):Int).toNat)) (fun i zs H'=>Same H1 H'∧zs=[]) ⟨Same.refl _,rfl⟩ (fun i zs H' hi p=>by rw [p.2];exact ⟨trivial,aQ (by decide)⟩) (fun i x zs H0 H' hi hx p Nx nx=>?_) (fun zs H' p p5 n5=>?_)
      · obtain ⟨rfl,rfl⟩:=hx;obtain ⟨S,rfl⟩:=p;have hi:i < ys.length:=by lia
        have hxi:xs[i]?=some (xs[i]'(by lia)):=aac (by lia);have hyi:ys[i]?=some ys[i]:=aac hi;obtain ⟨d1,hd1,hD1⟩:=kc hxs hxi;obtain ⟨d2,hd2,hD2⟩:=kc hys hyi;rw [hd1] at hd2;cases hd2;have hdp:=fU hd1;have ei:(0:Int)+(i:Int)=((i:Nat):Int):=by lia
        rw [ei];have hd:ds.length=ds.length:=rfl;refine ⟨_,rfl,_,rfl,.inr (.inl ⟨a,_,_,_,rfl,rfl,SqT.of (S _ _ ea1),bA hxi,_,rfl,_,rfl,.inr (.inl ⟨b,_,_,_,rfl,rfl,SqT.of (S _ _ eb1),bA hyi,d1,_,_,rfl,Dat.mono (s1.trans S) _ _ hD1,Dat.mono (s1.trans S) _ _ hD2,pH hgA hd1,by simp only [abT] at hdep;lia,fun H2 s2=>?_⟩)⟩)⟩;exact ⟨true,rfl,av (nx _ _ ⟨S.trans s2,rfl⟩)⟩
      · obtain ⟨S,rfl⟩:=p;have s6:=Same.new n5 (.lst []);refine ⟨aaK _,fun p6 n6=>⟨0,p5,p6,[],[],by decide,rfl,rfl,SqL.of ((Same.new n6 _) _ _ upd_same),SqL.of upd_same,.inr ⟨fun _=>true,rfl,(fun j x y h=>by simp at h),?_⟩⟩⟩;exact q _ (((s1.trans S).trans s6).trans (Same.new n6 _))
    | list ds =>
      simp only [Dat] at h1 h2;obtain ⟨a,xs,rfl,ea,hxs⟩:=h1;obtain ⟨b,ys,rfl,eb,hys⟩:=h2;simp only [gdD,abk,decide_eq_true_eq] at hg;obtain ⟨hgA,hlen⟩:=hg;have lx:=hxs.len;have ly:=hys.len;have ea1:=s1 _ _ ea;have eb1:=s1 _ _ eb;refine ⟨_,tp,_,["tuple","list"],true,rfl,.lst eb1,etp,rfl,true,rfl,aC ?_⟩;generalize upd H tp (.tup [V.ty "tuple",V.ty "list"])=H1 at s1 ea1 eb1 ⊢;refine ⟨_,rfl,_,_,false,rfl,.lst ea1,rfl,_,rfl,_,_,false,rfl,.lst eb1,rfl,rfl,false,rfl,av ?_⟩;refine ⟨_,rfl,_,_,true,rfl,.lst ea1,rfl,_,rfl,_,_,true,rfl,.lst eb1,rfl,rfl,false,rfl,av ?_⟩;refine ⟨_,rfl,a,_,rfl,.inl (SqL.of ea1),_,rfl,b,_,rfl,.inl (SqL.of eb1),rfl,_,rfl,?_⟩;have el:decide (V.int (xs.length:Nat)=V.int (ys.length:Nat))=true:=decide_eq_true (by rw [← lx,← ly]);rw [el];refine av ⟨_,rfl,b,_,rfl,.inl (SqL.of eb1),(ys.length:Nat),rfl,by lia,by lia,?_⟩;refine d5 (Trn.range (lo:=0) (n:=((ys.length:Nat):Int).toNat)) (fun i zs H'=>Same H1 H'∧zs=[]) ⟨Same.refl _,rfl⟩ (fun i zs H' hi p=>by rw [p.2];exact ⟨trivial,aQ (by decide)⟩) (fun i x zs H0 H' hi hx p Nx nx=>?_) (fun zs H' p p5 n5=>?_)
      · obtain ⟨rfl,rfl⟩:=hx;obtain ⟨S,rfl⟩:=p;have hi:i < ys.length:=by lia
        have hxi:xs[i]?=some (xs[i]'(by lia)):=aac (by lia);have hyi:ys[i]?=some ys[i]:=aac hi;obtain ⟨d1,hd1,hD1⟩:=kc hxs hxi;obtain ⟨d2,hd2,hD2⟩:=kc hys hyi;rw [hd1] at hd2;cases hd2;have hdp:=fU hd1;have ei:(0:Int)+(i:Int)=((i:Nat):Int):=by lia
        rw [ei];have hd:ds.length=ds.length:=rfl;refine ⟨_,rfl,_,rfl,.inl ⟨a,_,_,_,rfl,rfl,SqL.of (S _ _ ea1),bA hxi,_,rfl,_,rfl,.inl ⟨b,_,_,_,rfl,rfl,SqL.of (S _ _ eb1),bA hyi,d1,_,_,rfl,Dat.mono (s1.trans S) _ _ hD1,Dat.mono (s1.trans S) _ _ hD2,pH hgA hd1,by simp only [abT] at hdep;lia,fun H2 s2=>?_⟩⟩⟩;exact ⟨true,rfl,av (nx _ _ ⟨S.trans s2,rfl⟩)⟩
      · obtain ⟨S,rfl⟩:=p;have s6:=Same.new n5 (.lst []);refine ⟨aaK _,fun p6 n6=>⟨0,p5,p6,[],[],by decide,rfl,rfl,SqL.of ((Same.new n6 _) _ _ upd_same),SqL.of upd_same,.inr ⟨fun _=>true,rfl,(fun j x y h=>by simp at h),?_⟩⟩⟩;exact q _ (((s1.trans S).trans s6).trans (Same.new n6 _))
    | none=>simp [gdD] at hg
    | bool b=>simp [gdD] at hg
    | dict b=>simp [gdD] at hg
end
open PySem L2
def wds (ps qs:List (Int × Int)):List (List Nat):=ps.map stx++[[47]]++qs.map stx
def vn (ps qs:List (Int × Int)):List Nat:=jl (wds ps qs)
theorem eV (a b:List (List Nat)):szs (a++b)=szs a+szs b:=by
  unfold szs;simp only [aaP,List.sum_append,aah];lia
theorem qb (ps:List (Int × Int)):szs (ps.map stx)=4 * ps.length:=by
  induction ps with
  | nil=>rfl
  | cons p r ih =>
    unfold szs at ih ⊢;simp only [aax,aba,aao] at ih ⊢;have : (stx p).length=3:=rfl;lia
theorem p_ (ps qs:List (Int × Int)) (h1:ps.length≤40) (h2:qs.length≤40):szs (wds ps qs)≤400:=by
  unfold wds;rw [eV,eV,qb,qb];have : szs [[47]]=2:=rfl;lia
def stV (p:Int × Int):V:=.str (mkS (stx p))
theorem qd (ps:List (Int × Int)):ps.map stV=((ps.map stx).map mkS).map V.str:=by rw [abp,abp];rfl
theorem ig:("/":Str)=mkS [47]:=by decide +kernel
theorem xw (ps qs:List (Int × Int)):ps.map stV++[V.str (mkS [47])]++qs.map stV=((wds ps qs).map mkS).map V.str:=by
  unfold wds;rw [qd,qd];simp
theorem Gp.r {p:Int × Int} (h:Gp p):0≤p.1∧p.1 < 9∧0≤p.2∧p.2 < 9:=by
  obtain ⟨a,b,c⟩:=h;lia
section
variable {P:Program} {w:World} {K:aaa} {mg:Str→Option Value} {base:Heap} {f:Addr} {fd:FuncData}
def wk:Sp:=fun vs H Q _=>∃ ps qs v,vs=[v]∧HdIn H ps qs v∧Gs ps∧Gs qs∧∀ H',Same H H'→Q (.str (mkS (vn ps qs))) H'
end
theorem sG (n i:Nat):∀ p∈sfl n i,0≤p.1∧0≤p.2∧p.1 < n∧p.2 < n:=by
  intro p hp;unfold sfl sfR at hp;rw [List.mem_flatMap] at hp;obtain ⟨m,hm,hp⟩:=hp;rw [List.mem_map] at hp;obtain ⟨f,hf,rfl⟩:=hp;rw [List.mem_range] at hf;simp only;lia
open PySem L2
theorem ge (xs:List V) (c:Nat) (h:c≤xs.length):eR xs none (some (c:Int))=xs.take c:=by
  have e0:HT.sIx xs.length 0 none=0:=by simp [HT.sIx]
  have e1:HT.sIx xs.length xs.length (some (c:Int))=c:=by
    simp only [HT.sIx];split <;> lia
  unfold eR;rw [e0,e1,ace];rfl
theorem ui (xs:List V) (c:Nat):eR xs none (some (c:Int))=xs.take c:=by
  by_cases h:c≤xs.length
  · exact ge xs c h
  · have e0:HT.sIx xs.length 0 none=0:=by simp [HT.sIx]
    have e1:HT.sIx xs.length xs.length (some (c:Int))=xs.length:=by
      simp only [HT.sIx];split <;> lia
    unfold eR;rw [e0,e1,ace,Nat.sub_zero,aaL,aaQ (by lia)]
theorem ln (xs:List V) (c:Nat) (h:c≤xs.length):eR xs (some (c:Int)) none=xs.drop c:=by
  have e0:HT.sIx xs.length xs.length none=xs.length:=by simp [HT.sIx]
  have e1:HT.sIx xs.length 0 (some (c:Int))=c:=by
    simp only [HT.sIx];split <;> lia
  unfold eR;rw [e0,e1,aaQ (by rw [aay];exact aab _)]
theorem Paired.app {α β:Type} {F:α→β→Prop} {as bs:List α} {us vs:List β} (a:Paired F as us) (b:Paired F bs vs):Paired F (as++bs) (us++vs):=by
  induction a with
  | nil=>exact b
  | cons x _ ih=>exact .cons x ih
section
variable {P:Program} {w:World} {K:aaa} {mg:Str→Option Value} {base:Heap} {f:Addr} {fd:FuncData}
def NewHd (H H':Hp) (ps qs:List (Int × Int)) (t:Addr):Prop:=∃ a b us vs,H' t=some (.tup [.ref a,.ref b])∧a≠b∧H a=none∧H b=none∧H' a=some (.lst us)∧H' b=some (.lst vs)∧PairsIn H' ps us∧PairsIn H' qs vs
def sv:Sp:=fun vs H Q _=>∃ w M,vs=[.ref w,.int 9]∧Wel H w M∧M < 999990000∧∀ p v H',But w H H'→Wel H' w (M+2)→Gp p→fW H' p v→Q v H'
abbrev dR:Stmt:=top 44
theorem fk:FnScope ["well","many","i"] ["well","many"] (aq dR):=⟨rfl,rfl,rfl,by decide +kernel,rfl,by decide +kernel,by decide +kernel⟩
theorem o4 (F:Fun K "_law_stretch" "_law_stretch" dR f fd) (C__law_draw:Cal P w K mg base "_law_draw" 2 ["well","many"] eW):FnOk P w K mg base CX0 3 f fd ["well","many"] sv:=by
  refine F.ok fk (fun vs H Q E h=>?_) (fun cdv A outer s H vs Q E hr h=>?_)
  · obtain ⟨x,M,rfl,_⟩:=h;rfl
  obtain ⟨wl,M,rfl,hw,hM,q⟩:=h;refine ⟨_,(@ad _ _ _ _ _ (@ao _ _ (2) _ _ _ _ (fk).nd rfl (Or.inl rfl) (@am _ _ _ _ _ _ _ _ _ _ _ C__law_draw hr (by lia) rfl (@aa _ _ _ _ _ (pv 0) (@aa _ _ _ _ _ (@aj _ _ _ _ _ _ _ _ dC (pv 1) ae) ac (by rfl)) (by rfl)) (by decide) (by rfl) (by rfl)) (by rfl) (by first|exact .inl rfl|exact .inr rfl|assumption)) (@ag _ _ _ (@ar _ _ _ _ (@bT _ _ _ _ _ (@aa _ _ _ _ _ (pv 2) (@aa _ _ _ _ _ (@aj _ _ _ _ _ _ _ _ bt (@aj _ _ _ _ _ _ _ _ bt (pv 2) ae) (@am _ _ _ _ _ _ _ _ _ _ _ C__law_draw hr (by lia) rfl (@aa _ _ _ _ _ (pv 0) (@aa _ _ _ _ _ (@aj _ _ _ _ _ _ _ _ dC (@aj _ _ _ _ _ _ _ _ dC (pv 1) ae) (pv 2)) ac (by rfl)) (by rfl)) (by decide) (by rfl) (by rfl))) ac (by rfl)) (by rfl)))))),?_⟩;refine ⟨_,rfl,_,rfl,_,_,rfl,rfl,wl,9 - 1,M,rfl,by decide,by decide,hw,by lia,fun r1 H1 a1 b1 k1 w1=>?_⟩;refine ⟨_,rfl,_,rfl,_,_,rfl,rfl,_,rfl,_,rfl,_,_,rfl,rfl,_,rfl,_,_,rfl,rfl,wl,9 - 1 - r1,_,rfl,by lia,by lia,w1,by lia,fun r2 H2 a2 b2 k2 w2=>⟨_,_,rfl,rfl,(by show 2≤sizeLine;decide),fun t ht=>?_⟩⟩;exact q (r1,r1+1+r2) _ _ ((k1.trans k2).trans (But.new ht _)) ((w2.keep (Same.new ht _) (aaG _)).more (by lia)) ⟨a1,by show r1 < r1+1+r2;lia,by show r1+1+r2 < 9;lia⟩ ⟨t,rfl,upd_same⟩
theorem PairsIn.but {w:Addr} {H H':Hp} {M:Int} {ps:List (Int × Int)} {us:List V} (hw:Wel H w M) (b:But w H H') (h:PairsIn H ps us):PairsIn H' ps us:=PairsIn.mono (hw.tups b) h
def lN:Sp:=fun vs H Q _=>∃ w M,vs=[.ref w,.int 9]∧Wel H w M∧M < 999900000∧∀ ps qs v H',But w H H'→Wel H' w (M+1000)→Gs ps→Gs qs→HdIn (off w H') ps qs v→Q v H'
theorem yI {a b c d:Int} {k:Int} (h0:0≤k) (h1:k < 4) (P:Int→Prop) (pa:P a) (pb:P b) (pc:P c) (pd:P d):∃ z,atI [V.int a,.int b,.int c,.int d] k=some (.int z)∧P z:=by
  have : k=0∨k=1∨k=2∨k=3:=by lia
  rcases this with rfl|rfl|rfl|rfl
  · exact ⟨a,rfl,pa⟩
  · exact ⟨b,rfl,pb⟩
  · exact ⟨c,rfl,pc⟩
  · exact ⟨d,rfl,pd⟩
theorem jH {H:Hp}:∀ {ps:List (Int × Int)} {us:List V} (n:Nat),PairsIn H ps us→PairsIn H (ps.take n) (us.take n)
  | _,_,0,_=>by simpa using (Paired.nil:PairsIn H [] [])
  | _,_,n+1,.nil=>by simpa using (Paired.nil:PairsIn H [] [])
  | _,_,n+1,.cons a b=>by
    rw [List.take_succ_cons,List.take_succ_cons];exact .cons a (jH n b)
def iA (wl pf:Addr) (H:Hp):Hp:=off pf (off wl H)
theorem sW {wl pf:Addr} {H H':Hp} (b:But wl H H'):Same (iA wl pf H) (iA wl pf H'):=jm (But.of (jm b))
theorem sU {wl pf:Addr} {H:Hp} {o:HO}:Same (iA wl pf H) (iA wl pf (upd H pf o)):=jm fun b u ne h=>by
  by_cases c:b=wl
  · subst c;have : off b H b=none:=by simp [off]
    rw [this] at h;cases h
  · rw [gL c] at h ⊢;rw [aI ne];exact h
theorem sV {wl pf p:Addr} {H:Hp} {o:HO} (h1:p≠wl) (h2:p≠pf):iA wl pf (upd H p o) p=some o:=by
  unfold iA;rw [gL h2,gL h1,upd_same]
abbrev fb:Stmt:=top 45
theorem cI:FnScope ["well","many","found","k","some"] ["well","many"] (aq fb):=⟨rfl,rfl,rfl,by decide +kernel,rfl,by decide +kernel,by decide +kernel⟩
theorem mh (F:Fun K "_law_holds" "_law_holds" fb f fd) (B:Bu K mg) (C__law_draw:Cal P w K mg base "_law_draw" 2 ["well","many"] eW) (C__law_stretch:Cal P w K mg base "_law_stretch" 3 ["well","many"] sv):FnOk P w K mg base CX0 4 f fd ["well","many"] lN:=by
  refine F.ok cI (fun vs H Q E h=>?_) (fun cdv A outer s H vs Q E hr h=>?_)
  · obtain ⟨x,M,rfl,_⟩:=h;rfl
  obtain ⟨wl,M,rfl,hw,hM,q⟩:=h;refine ⟨_,(@ad _ _ _ _ _ (@ao _ _ (2) _ _ _ _ (cI).nd rfl (Or.inl rfl) (@a9 _ _ _ _ ac) (by rfl) (by first|exact .inl rfl|exact .inr rfl|assumption)) (@ad _ _ _ _ _ (@cX _ _ _ _ _ _ _ _ aaT rfl (@cz _ _ _ _ _ _ rfl B.irange (@aa _ _ _ _ _ ae ac (by rfl)) (by rfl)) (@aG _ _ (3) _ (cI).nd rfl (Or.inl rfl) (.inl rfl)) (@ad _ _ _ _ _ (@ao _ _ (4) _ _ _ _ (cI).nd rfl (Or.inl rfl) (@a9 _ _ _ _ ac) (by rfl) (by first|exact .inl rfl|exact .inr rfl|assumption)) (@ad _ _ _ _ _ (@aV _ _ _ _ _ _ _ _ (@ai _ _ _ _ _ _ _ _ gn (pv 1) ae (ak _)) (@ag _ _ _ (@fZ _ (4) _ _ _ _ _ _ _ _ _ _ (["turn","well","many"]) ([none,some 0,some 1]) _ _ _ _ (cI).nd rfl (Or.inl rfl) rfl (@cz _ _ _ _ _ _ rfl B.irange (@aa _ _ _ _ _ (@aK _ _ _ _ _ _ _ ix_list (@a9 _ _ _ _ (@aa _ _ _ _ _ ae (@aa _ _ _ _ _ ae (@aa _ _ _ _ _ ae (@aa _ _ _ _ _ (@am _ _ _ _ _ _ _ _ _ _ _ C__law_draw hr (by lia) rfl (@aa _ _ _ _ _ (pv 0) (@aa _ _ _ _ _ ae ac (by rfl)) (by rfl)) (by decide) (by rfl) (by rfl)) ac (by rfl)) (by rfl)) (by rfl)) (by rfl))) (@am _ _ _ _ _ _ _ _ _ _ _ C__law_draw hr (by lia) rfl (@aa _ _ _ _ _ (pv 0) (@aa _ _ _ _ _ ae ac (by rfl)) (by rfl)) (by decide) (by rfl) (by rfl)) (fun _ _=>rfl)) ac (by rfl)) (by rfl)) rfl ⟨rfl,⟨rfl,trivial⟩⟩ ⟨⟨rfl,Or.inl rfl,Or.inl rfl⟩,⟨⟨rfl,Or.inl rfl,Or.inl rfl⟩,trivial⟩⟩ (fun _ _ _ _=>⟨(@aG _ _ (0) _ (show aa8 (["turn","well","many"]:List Str) by decide +kernel) rfl (Or.inl rfl) (.inr rfl)),bB,(@am _ _ _ _ _ _ _ _ _ _ _ C__law_stretch hr (by lia) rfl (@aa _ _ _ _ _ (pv 1) (@aa _ _ _ _ _ (pv 2) ac (by rfl)) (by rfl)) (by decide) (by rfl) (by rfl))⟩) (by rfl) (by rfl) (by rfl) (by rfl) (by intro _;rfl) (by rfl) (by first|exact .inl rfl|exact .inr rfl|assumption))) aB) (@ag _ _ _ (@cJ _ _ _ _ (@bV _ _ _ _ _ _ _ _ _ _ _ _ aaC abb abc dh (pv 2) (@aa _ _ _ _ _ (@aj _ _ _ _ _ _ _ _ cG (pv 4) (@aX _ _ _ _ _ _ _ _ _ _ dj (pv 4) bi (@aY _ _ _ (@bn _ _ _ _ _ _ _ _ _ cA rfl B.iint aaA (@aa _ _ _ _ _ (@bp _ _ _ _ _ _ _ _ bc (@am _ _ _ _ _ _ _ _ _ _ _ C__law_draw hr (by lia) rfl (@aa _ _ _ _ _ (pv 0) (@aa _ _ _ _ _ ae ac (by rfl)) (by rfl)) (by decide) (by rfl) (by rfl)) ae (ak _)) ac (by rfl)) (by decide) (by decide) (by rfl) (by rfl))))) ac (by rfl)) (by rfl) (by rfl) (by rfl) (by rfl) (by rfl)) (by rfl))))) (by intro _;rfl)) (@ag _ _ _ (@ar _ _ _ _ (@bT _ _ _ _ _ (@aa _ _ _ _ _ (@aK _ _ _ _ _ _ _ ix_list (pv 2) ae (fun _ _=>rfl)) (@aa _ _ _ _ _ (@aK _ _ _ _ _ _ _ ix_list (pv 2) ae (fun _ _=>rfl)) ac (by rfl)) (by rfl))))))),?_⟩;refine ⟨aaK _,fun pf nf=>?_⟩;have nfw:=hw.ne nf;refine ⟨2,rfl,by decide,by decide,cR (n:=2) (fun k σ H'=>∃ (l:List (List (Int × Int))) (us:List V) (c4 c5:Option V),σ=[some (.ref wl),some (.int 9),some (.ref pf),c4,c5]∧H' pf=some (.lst us)∧l.length=k∧Paired (fun ps v=>Gs ps∧StIn (iA wl pf H') ps v) l us∧But wl H H'∧Wel H' wl (M+100 * k)) ⟨[],[],_,_,rfl,upd_same,rfl,.nil,But.new nf _,(hw.keep (Same.new nf _) (aaG _)).more (by lia)⟩ ?_ ?_⟩
  · rintro k σ K0 hk ⟨l,us,c4,c5,rfl,ef,hl,hp,bb,w0⟩;refine ⟨aaK _,fun ps0 ns0=>?_⟩;have w1:=w0.keep (Same.new ns0 (.lst [])) (aaG _);have b1:But wl K0 (upd K0 ps0 (.lst [])):=But.new ns0 _;generalize upd K0 ps0 (.lst [])=K1 at w1 b1 ⊢;refine ⟨_,rfl,_,_,rfl,rfl,true,rfl,aC ?_⟩;refine ⟨_,rfl,wl,7,_,rfl,by decide,by decide,w1,by lia,fun r1 K2 a1 c1 b2 w2=>⟨(by show 4≤sizeLine;decide),fun p3 n3=>?_⟩⟩;have n3w:=w2.ne n3;have w3:=w2.keep (Same.new n3 (.lst [.int 0,.int 1,.int 2,.int r1])) (aaG _);have b3:But wl K2 (upd K2 p3 (.lst [.int 0,.int 1,.int 2,.int r1])):=But.new n3 _;have e3:upd K2 p3 (.lst [.int 0,.int 1,.int 2,.int r1]) p3=some (.lst [.int 0,.int 1,.int 2,.int r1]):=upd_same;generalize upd K2 p3 (.lst [.int 0,.int 1,.int 2,.int r1])=K3 at w3 b3 e3 ⊢;refine ⟨_,rfl,wl,4,_,rfl,by decide,by decide,w3,by lia,fun r2 K4 a2 c2 b4 w4=>?_⟩;obtain ⟨m,hm1,hm2,hm3⟩:=yI (a:=0) (b:=1) (c:=2) (d:=r1) a2 c2 (fun z=>0≤z∧z≤6) (by lia) (by lia) (by lia) (by lia);refine ⟨p3,_,_,_,rfl,rfl,SqL.of (b4 _ _ n3w e3),hm1,m,rfl,by lia,by lia,?_⟩;refine d5 (Trn.range (lo:=0) (n:=m.toNat)) (fun i ys H'=>But wl K4 H'∧Wel H' wl (M+100 * k+2+2 * i)∧∃ ps,ps.length=i∧(∀ p∈ps,Gp p)∧PairsIn H' ps ys) ⟨But.refl,w4.more (by lia),[],rfl,(fun p z=>by simp at z),.nil⟩ (fun i ys H' hi p=>by obtain ⟨_,_,ps,h1,_,h2⟩:=p;exact ⟨trivial,aQ (by have:=h2.length;lia)⟩) (fun i x ys H0 H' hi hx p Nx nx=>?_) (fun ys K5 p p6 n6=>?_)
    · obtain ⟨rfl,rfl⟩:=hx;obtain ⟨bx,wx,ps,h1,h2,h3⟩:=p;refine ⟨_,rfl,_,rfl,wl,_,rfl,wx,by lia,fun p v H5 b5 w5 gp pp=>nx _ _ ⟨bx.trans b5,w5.more (by lia),ps++[p],by simp [h1],fun y hy=>?_,PairsIn.snoc (PairsIn.but wx b5 h3) pp⟩⟩;rcases aau.mp hy with hy|hy
      · exact h2 y hy
      · rw [aaN.mp hy];exact gp
    obtain ⟨b5,w5,ps,h1,h2,h3⟩:=p;have n6w:=w5.ne n6;have b6:But wl K5 (upd K5 p6 (.lst ys)):=But.new n6 _;have w6:=w5.keep (Same.new n6 (.lst ys)) (aaG _);have e6:upd K5 p6 (.lst ys) p6=some (.lst ys):=upd_same;have h6:=PairsIn.mono (Tups.of (Same.new n6 (.lst ys))) h3;have ef5:=((((b1.trans b2).trans b3).trans b4).trans b5) _ _ nfw ef;have npf6:p6≠pf:=fun e=>by rw [e,ef5] at n6;cases n6
    generalize upd K5 p6 (.lst ys)=K6 at b6 w6 e6 h6 ⊢;have B6:=((((b1.trans b2).trans b3).trans b4).trans b5).trans b6;have ef6:=B6 _ _ nfw ef;refine ⟨_,rfl,.inl ⟨rfl,_,SqL.of ef6⟩,_,rfl,_,rfl,_,rfl,wl,4,_,rfl,by decide,by decide,w6,by lia,fun r7 K7 a7 c7 b7 w7=>?_⟩;refine ⟨rfl,.inr ⟨_,rfl,_,rfl,p6,_,rfl,SqL.of (b7 _ _ n6w e6),fun p8 n8=>?_⟩⟩;have ec:∃ c:Nat,c≤1∧(if decide (V.int r7=V.int 0)=true then (1:Int) else 0)=(c:Int):=by
      split
      · exact ⟨1,aab _,rfl⟩
      · exact ⟨0,by decide,rfl⟩
    obtain ⟨c,hc1,hc2⟩:=ec;rw [hc2,ui];have h7:=PairsIn.but w6 b7 h6;have lys:=h6.length;have b8:But wl K7 (upd K7 p8 (.lst (ys.take c))):=But.new n8 _;have w8:=w7.keep (Same.new n8 (.lst (ys.take c))) (aaG _);have e8:upd K7 p8 (.lst (ys.take c)) p8=some (.lst (ys.take c)):=upd_same;have h8:=PairsIn.mono (Tups.of (Same.new n8 (.lst (ys.take c)))) h7;generalize upd K7 p8 (.lst (ys.take c))=K8 at b8 w8 e8 h8 ⊢;refine ⟨p6,p8,_,_,rfl,rfl,(b7.trans b8) _ _ n6w e6,e8,al (by rw [aav];lia),fun p9 n9=>?_⟩;have n9w:=w8.ne n9;have ef8:=((B6.trans b7).trans b8) _ _ nfw ef;have npf9:p9≠pf:=fun e=>by rw [e,ef8] at n9;cases n9
    have b9:But wl K8 (upd K8 p9 (.lst (ys++ys.take c))):=But.new n9 _;have w9:=w8.keep (Same.new n9 (.lst (ys++ys.take c))) (aaG _);have e9:iA wl pf (upd K8 p9 (.lst (ys++ys.take c))) p9=some (.lst (ys++ys.take c)):=sV n9w npf9;have h9:=PairsIn.mono (Tups.of (Same.new n9 (.lst (ys++ys.take c)))) (PairsIn.app h8 (jH c h8));generalize upd K8 p9 (.lst (ys++ys.take c))=K9 at b9 w9 e9 h9 ⊢;have B9:=((B6.trans b7).trans b8).trans b9;have ef9:=B9 _ _ nfw ef;have lus:=hp.length;have T9:∀ c xs,K9 c=some (.tup xs)→iA wl pf K9 c=some (.tup xs):=fun c xs hc=>by
      unfold iA;rw [gL (fun e=>by rw [e,ef9] at hc;cases hc),gL (fun e=>by obtain ⟨_,_,z,_⟩:=w9;rw [e,z] at hc;cases hc)];exact hc
    refine ⟨pf,_,_,rfl,rfl,ef9,aQ (by lia),?_⟩;have o9:Same (iA wl pf K9) (iA wl pf (upd K9 pf (.lst (us++[.ref p9])))):=sU;refine ⟨l++[ps++ps.take c],us++[.ref p9],_,_,rfl,upd_same,by simp [hl],?_,?_,?_⟩
    · refine Paired.app (Paired.mapP hp fun a b h=>⟨h.1,h.2.mono ((sW B9).trans o9)⟩) (.cons ⟨⟨by rw [aah,aav];lia,fun x hx=>?_⟩,StIn.mono o9 ⟨p9,_,rfl,e9,PairsIn.mono T9 h9⟩⟩ .nil);rcases aau.mp hx with hx|hx
      · exact h2 x hx
      · exact h2 x (abo hx)
    · exact fun c o nc hc=>by
        by_cases z:c=pf
        · subst z;rw [nf] at hc;cases hc
        · rw [aI z];exact (bb.trans B9) c o nc hc
    · obtain ⟨wa,wb,we,wf,wg⟩:=w9;exact ⟨wa,wb,by rw [aI (abM nfw)];exact we,wf,wg⟩
  · rintro σ K1 ⟨l,us,c4,c5,rfl,ef,hl,hp,bb,w1⟩
    match l,us,hl,hp with
    | [ps,qs],[x,y],_,.cons ⟨g1,h1⟩ (.cons ⟨g2,h2⟩ .nil) =>
      refine ⟨_,rfl,pf,_,_,_,rfl,rfl,SqL.of ef,rfl,_,rfl,pf,_,_,_,rfl,rfl,SqL.of ef,rfl,(by show 2≤sizeLine;decide),fun t ht=>?_⟩;have st:=Same.new ht (.tup [x,y]);have tw:=w1.ne ht;have S:Same (iA wl pf K1) (off wl (upd K1 t (.tup [x,y]))):=off_le.trans (jm (But.of st));refine q ps qs (.ref t) _ (bb.trans (But.new ht _)) ((w1.keep st (aaG _)).more (by lia)) g1 g2 ⟨t,x,y,rfl,?_,h1.mono S,h2.mono S⟩;rw [gL tw,upd_same]
end
open PySem L2
def pD (p:Int × Int):PyData:=.tuple [.int p.1,.int p.2]
def hD (ps qs:List (Int × Int)):PyData:=.tuple [.list (ps.map pD),.list (qs.map pD)]
theorem ip {H:Hp}:∀ {ps:List (Int × Int)} {us:List V},PairsIn H ps us→DatAll H (ps.map pD) us
  | _,_,.nil=>by simp [DatAll]
  | _,_,.cons ⟨a,e,h⟩ b=>by
    simp only [aax,DatAll,pD,Dat];exact ⟨_,_,rfl,⟨a,_,e,h,_,_,rfl,rfl,_,_,rfl,rfl,rfl⟩,ip b⟩
theorem HdIn.dat {H:Hp} {ps qs:List (Int × Int)} {v:V} (h:HdIn H ps qs v):Dat H (hD ps qs) v:=by
  obtain ⟨a,x,y,rfl,ha,⟨ax,ux,rfl,eax,px⟩,⟨ay,uy,rfl,eay,py⟩⟩:=h;simp only [hD,Dat,DatAll];exact ⟨a,_,rfl,ha,_,_,rfl,⟨ax,ux,rfl,eax,ip px⟩,_,_,rfl,⟨ay,uy,rfl,eay,ip py⟩,rfl⟩
theorem nU {H:Hp}:∀ (ns:List Int),DatAll H (ns.map PyData.int) (ns.map V.int)
  | []=>by simp [DatAll]
  | i :: r=>by
    simp only [aax,DatAll,Dat];exact ⟨_,_,rfl,rfl,nU r⟩
theorem qk {H:Hp} {a:Addr} {ns:List Int} (h:H a=some (.lst (ns.map V.int))):Dat H (.list (ns.map PyData.int)) (.ref a):=by
  simp only [Dat];exact ⟨a,_,rfl,h,nU ns⟩
theorem qA:∀ ns:List Int,gdA (ns.map PyData.int)=true
  | []=>by simp [gdA]
  | i :: r=>by simp [gdA,gdD,qA r]
theorem nX:∀ ps:List (Int × Int),gdA (ps.map pD)=true
  | []=>by simp [gdA]
  | p :: r=>by simp [gdA,gdD,pD,nX r]
theorem oj:∀ ns:List Int,abj (ns.map PyData.int)=0
  | []=>by simp [abj]
  | i :: r=>by simp [abj,abT,oj r]
theorem iJ:∀ ps:List (Int × Int),abj (ps.map pD)≤1
  | []=>by simp [abj]
  | p :: r=>by
    have:=iJ r;simp only [aax,abj,pD,abT];lia
theorem wZ (ps qs:List (Int × Int)):(hD ps qs).depth≤3:=by
  have a:=iJ ps;have b:=iJ qs;simp only [hD,abT,abj];lia
theorem yb (ps qs:List (Int × Int)) (h1:Gs ps) (h2:Gs qs):gdD (hD ps qs)=true:=by
  have a:=h1.1;have b:=h2.1;simp only [hD,gdD,gdA,nX,aaf,aao,abE,Bool.and_true,Bool.true_and,abk,decide_eq_true_eq];lia
theorem t9 (i:Int) (h0:0≤i) (h1:i < 9):atI ("012345678":Str).cps.toList i=some (dig i):=by
  have : i=0∨i=1∨i=2∨i=3∨i=4∨i=5∨i=6∨i=7∨i=8:=by lia
  rcases this with rfl|rfl|rfl|rfl|rfl|rfl|rfl|rfl|rfl <;> rfl
section
variable {P:Program} {w:World} {K:aaa} {mg:Str→Option Value} {base:Heap} {f:Addr} {fd:FuncData}
def yL (H:Hp) (ps:List (Int × Int)) (v:V):Prop:=∃ a,v=.ref a∧H a=some (.lst (ps.map stV))
abbrev cw:Stmt:=top 46
theorem db:FnScope ["holds","words"] ["holds"] (aq cw):=⟨rfl,rfl,rfl,by decide +kernel,rfl,by decide +kernel,by decide +kernel⟩
theorem iz (F:Fun K "_law_holds_written" "_law_holds_written" cw f fd) (B:Bu K mg):FnOk P w K mg base CX0 1 f fd ["holds"] wk:=by
  refine F.ok db (fun vs H Q E h=>?_) (fun cdv A outer s H vs Q E hr h=>?_)
  · obtain ⟨ps,qs,v,rfl,_⟩:=h;rfl
  obtain ⟨ps,qs,v,rfl,⟨a,x,y,rfl,ha,hx,hy⟩,g1,g2,q⟩:=h;refine ⟨_,(@ad _ _ _ _ _ (@fZ _ (1) _ _ _ _ _ _ _ _ _ _ (["some"]) ([none]) _ _ _ _ (db).nd rfl (Or.inl rfl) rfl (@o1 _ _ _ _ (pv 0)) rfl trivial trivial (fun _ _ _ _=>⟨(@aG _ _ (0) _ (show aa8 (["some"]:List Str) by decide +kernel) rfl (Or.inl rfl) (.inr rfl)),bB,(@gm _ _ _ _ _ _ _ _ (["i","j"]) ([none,none]) _ _ _ _ rfl (@nv _ _ _ _ _ rfl (pv 0)) rfl trivial trivial (fun _ _ _ _=>⟨(@lY _ _ _ _ _ _ (2) rfl rfl (@bC _ _ _ _ _ (@aG _ _ (0) _ (show aa8 (["i","j"]:List Str) by decide +kernel) rfl (Or.inl rfl) (.inr rfl)) (@bC _ _ _ _ _ (@aG _ _ (1) _ (show aa8 (["i","j"]:List Str) by decide +kernel) rfl (Or.inl rfl) (.inr rfl)) fc (by rfl)) (by rfl)) (by rfl) (by rfl)),bB,(@aj _ _ _ _ _ _ _ _ au (@aj _ _ _ _ _ _ _ _ au (@aK _ _ _ _ _ _ _ bG af (pv 0) (fun _ _=>rfl)) af) (@aK _ _ _ _ _ _ _ bG af (pv 1) (fun _ _=>rfl)))⟩) (by rfl) (by rfl) (by rfl) (by rfl) (by intro _;rfl))⟩) (by rfl) (by rfl) (by rfl) (by rfl) (by intro _;rfl) (by rfl) (by first|exact .inl rfl|exact .inr rfl|assumption)) (@ag _ _ _ (@ar _ _ _ _ (@bV _ _ _ _ _ _ _ _ _ _ _ _ aaO ab8 ab9 fQ af (@aa _ _ _ _ _ (@aj _ _ _ _ _ _ _ _ cG (@aj _ _ _ _ _ _ _ _ cG (@aK _ _ _ _ _ _ _ ix_list (pv 1) ae (fun _ _=>rfl)) (@a9 _ _ _ _ (@aa _ _ _ _ _ af ac (by rfl)))) (@aK _ _ _ _ _ _ _ ix_list (pv 1) ae (fun _ _=>rfl))) ac (by rfl)) (by rfl) (by rfl) (by rfl) (by rfl) (by rfl))))),?_⟩;have hz:=p_ ps qs g1.1 g2.1;have c1:=g1.1;have c2:=g2.1;refine ⟨_,rfl,a,rfl,⟨_,SqT.of ha⟩,?_⟩;refine d5 (Trn.tup (xs:=[x,y])) (fun i ys H'=>Same H H'∧Paired (yL H') ([ps,qs].take i) ys) ⟨Same.refl _,.nil⟩ (fun i ys H' hi p=>⟨SqT.of (p.1 _ _ ha),aQ (by have:=p.2.length;rw [← this,aav];simp;lia)⟩) (fun i z ys H0 H' hi hz' p Nx nx=>?_) (fun ys H1 p p5 n5=>?_)
  · obtain ⟨rfl,hz'⟩:=hz';obtain ⟨S,hp⟩:=p;have key:∃ rs,[ps,qs][i]?=some rs∧StIn H' rs z∧Gs rs:=by
      have : i=0∨i=1:=by simp at hi;lia
      rcases this with rfl|rfl
      · simp at hz';subst hz';exact ⟨ps,rfl,hx.mono S,g1⟩
      · simp at hz';subst hz';exact ⟨qs,rfl,hy.mono S,g2⟩
    obtain ⟨rs,k1,⟨b,us,rfl,eb,pb⟩,k3,k4⟩:=key;have lb:=pb.length;refine ⟨_,rfl,b,rfl,⟨_,SqL.of eb⟩,?_⟩;refine d5 (Trn.list (xs:=us)) (fun j zs H2=>H2=H'∧zs=(rs.take j).map stV) ⟨rfl,rfl⟩ (fun j zs H2 hj p=>by rw [p.1,p.2];exact ⟨SqL.of eb,aQ (by simp;lia)⟩) (fun j t zs H0 H2 hj ht p Ny ny=>?_) (fun zs H2 p p3 n3=>?_)
    · obtain ⟨rfl,ht⟩:=ht;obtain ⟨rfl,rfl⟩:=p;obtain ⟨r,hr1,c,rfl,hc⟩:=nA pb ht;have gr:=(k4 r (aaM hr1)).r;refine ⟨c,_,rfl,SqT.of hc,rfl,_,_,rfl,_,_,rfl,rfl,?_⟩;refine ⟨_,rfl,_,_,_,rfl,rfl,al (by decide),t9 r.1 gr.1 gr.2.1,_,_,rfl,rfl,al (by show 1+1≤1000;decide),_,rfl,_,_,_,rfl,rfl,al (by decide),t9 r.2 gr.2.2.1 gr.2.2.2,_,_,rfl,rfl,?_,ny _ _ ⟨rfl,?_⟩⟩
      · rw [i_];exact al (by show 1+1+1≤1000;decide)
      · rw [aaz,hr1,aaP];show _++[V.str _]=_++[V.str (mkS (stx r))];congr 3
    obtain ⟨rfl,rfl⟩:=p;rw [← lb,aaL];have s3:=Same.new n3 (.lst (rs.map stV));refine nx _ _ ⟨S.trans s3,?_⟩;rw [aaz,k1];exact Paired.app (Paired.mapP hp fun _ _ h=>by obtain ⟨a,e,h⟩:=h;exact ⟨a,e,s3 _ _ h⟩) (.cons ⟨p3,rfl,upd_same⟩ .nil)
  obtain ⟨S,hp⟩:=p
  match ys,hp with
  | [_,_],.cons ⟨a1,rfl,e1⟩ (.cons ⟨a2,rfl,e2⟩ .nil) =>
    have s5:=Same.new n5 (.lst [V.ref a1,.ref a2]);have e5:upd H1 p5 (.lst [V.ref a1,.ref a2]) p5=some (.lst [V.ref a1,.ref a2]):=upd_same;have e15:=s5 _ _ e1;have e25:=s5 _ _ e2;have S5:=S.trans s5;generalize upd H1 p5 (.lst [V.ref a1,.ref a2])=H2 at S5 e5 e15 e25 ⊢;refine ⟨rfl,_,rfl,p5,_,_,_,rfl,rfl,SqL.of e5,rfl,(by show 1≤sizeLine;decide),fun p6 n6=>?_⟩;have s6:=Same.new n6 (.lst [V.str "/"]);refine ⟨a1,p6,_,_,rfl,rfl,s6 _ _ e15,upd_same,al (by show _+1≤1000;rw [aaf];lia),fun p7 n7=>?_⟩;have s7:=Same.new n7 (.lst (ps.map stV++[V.str "/"]));have S7:=s6.trans s7;have e7:upd (upd H2 p6 (.lst [V.str "/"])) p7 (.lst (ps.map stV++[V.str "/"])) p7=some (.lst (ps.map stV++[V.str "/"])):=upd_same;generalize upd (upd H2 p6 (.lst [V.str "/"])) p7 (.lst (ps.map stV++[V.str "/"]))=H3 at S7 e7 ⊢;refine ⟨_,rfl,p5,_,_,_,rfl,rfl,SqL.of (S7 _ _ e5),rfl,p7,a2,_,_,rfl,rfl,e7,S7 _ _ e25,al (by rw [aah,aaf,aaf];show _+1+_≤1000;lia),fun p9 n9=>?_⟩;have s9:=Same.new n9 (.lst (ps.map stV++[V.str "/"]++qs.map stV));have ew:ps.map stV++[V.str "/"]++qs.map stV=((wds ps qs).map mkS).map V.str:=by rw [ig];exact xw ps qs
    refine ⟨_,p9,_,rfl,rfl,SqL.of (upd_same.trans (congrArg some (congrArg HO.lst ew))),?_,?_⟩
    · rw [bD];exact dZ _ (by lia)
    · rw [bD,gb];exact q _ ((S5.trans S7).trans s9)
end
open PySem L2
def R12 (l:List Nat):Prop:=∀ a b c,l=a++b++c→(∀ x∈b,48≤x∧x≤57)→b.length≤12
theorem R12.sub {l a b c:List Nat} (h:R12 l) (e:l=a++b++c):R12 b:=fun x y z e2 hy=>h (a++x) y (z++c) (by rw [e,e2];simp) hy
theorem R12.take {l:List Nat} (h:R12 l) (n:Nat):R12 (l.take n):=h.sub (a:=[]) (c:=l.drop n) (by simp)
theorem R12.drop {l:List Nat} (h:R12 l) (n:Nat):R12 (l.drop n):=h.sub (a:=l.take n) (c:=[]) (by simp)
theorem sH:∀ (l:List Nat) (a:Nat),(∀ x∈l,48≤x∧x≤57)→l.foldl (fun a c=>a * 10+(c - 48)) a < (a+1) * 10 ^ l.length
  | [],a,_=>by simp
  | c :: r,a,h=>by
    have h1:=h c aai;have:=sH r (a * 10+(c - 48)) fun x hx=>h x (aae _ hx);rw [abD,aao,Nat.pow_succ,Nat.mul_comm (10 ^ r.length) 10,← Nat.mul_assoc];exact aaq this (Nat.mul_le_mul_right _ (by lia))
theorem vG {l:List Nat} (h:∀ x∈l,48≤x∧x≤57) (h12:l.length≤12):rd l < 1000000000000:=by
  have:=sH l 0 h;have e:(10:Nat) ^ l.length≤10 ^ 12:=Nat.pow_le_pow_right (by decide) h12;have e2:(10:Nat) ^ 12=1000000000000:=by decide
  unfold rd;lia
theorem sY (l:List Nat):∃ k,nop l=l.drop k:=by
  unfold nop;split
  · exact ⟨1,by cases l <;> rfl⟩
  · exact ⟨0,rfl⟩
theorem vp {l:List Nat} (h:bU l=true):∀ c∈l,48≤c∧c≤57:=fun c hc=>by
  unfold bU at h;split at h
  · cases h
  · rename_i z;have : l.all isD=true:=by
      cases h:l.all isD with
      | true=>rfl
      | false=>exact absurd (.inr h) z
    exact of_decide_eq_true (aaU.mp this c hc)
theorem oY {l:List Nat} {i:Int} (e:bd l=some i):bU (nop l)=true∧l≠[126,48]∧i=(if l.head?=some 126 then -(rd (nop l):Int) else rd (nop l)):=by
  unfold bd at e;split at e
  · cases e
  · rename_i z;injection e with e
    refine ⟨?_,fun h=>z (.inr h),e.symm⟩;cases h:bU (nop l) with
    | true=>rfl
    | false=>exact absurd (.inl h) z
theorem iR {l:List Nat} {i:Int} (h:R12 l) (e:bd l=some i):InR i:=by
  obtain ⟨h1,_,rfl⟩:=oY e;obtain ⟨k,hk⟩:=sY l;have hd:=vp h1;have hl:(nop l).length≤12:=h (l.take k) (nop l) [] (by rw [hk];simp) hd;have:=vG hd hl;unfold InR;split <;> lia
theorem tJ:∀ (ws:List (List Nat)) (w:List Nat),w∈ws→∃ a c,jl ws=a++w++c
  | [x],w,h=>⟨[],[],by rw [aaN.mp h];simp [jl]⟩
  | x :: y :: r,w,h=>by
    rcases aaj.mp h with rfl|h
    · exact ⟨[],32 :: jl (y :: r),by simp [jl]⟩
    · obtain ⟨a,c,e⟩:=tJ (y :: r) w h;exact ⟨x++32 :: a,c,by rw [show jl (x :: y :: r)=x++32 :: jl (y :: r) from rfl,e];simp⟩
theorem nR:∀ ws:List (List Nat),ws.length≤(jl ws).length+1
  | []=>by simp
  | [x]=>by simp
  | x :: y :: r=>by
    have:=nR (y :: r);rw [show jl (x :: y :: r)=x++32 :: jl (y :: r) from rfl];simp only [aao,aah] at this ⊢;lia
theorem sk:∀ ws:List (List Nat),szs ws≤(jl ws).length+1
  | []=>by simp [szs]
  | [x]=>by simp [szs,jl]
  | x :: y :: r=>by
    have:=sk (y :: r);rw [show jl (x :: y :: r)=x++32 :: jl (y :: r) from rfl];simp only [szs,aax,aba,aao,aah] at this ⊢;lia
theorem tO {l:List Nat} (h:∀ x∈l,48≤x∧x≤57) (h1:l≠[]) (h2:l.length≤640):PySem.intText? (mkS l)=some ((rd l:Nat):Int):=by
  have:=PySem.intText_digits (x:=mkS l) (by rw [bK];exact h) (by rw [bK];exact h1) (by rw [ah];lia);rw [this,bK];rfl
def sgC (c:Nat):Prop:=c=43∨c=45∨c=42
instance (c:Nat):Decidable (sgC c):=by unfold sgC;infer_instance
theorem qO (g:Sg):sgC g.code:=by cases g <;> simp [sgC,Sg.code]
def mY (c:Nat):Sg:=if c=43 then .plus else if c=45 then .minus else .times
theorem kN (g:Sg):mY g.code=g:=by cases g <;> rfl
theorem lv {c:Nat} (h:sgC c):(mY c).code=c:=by rcases h with rfl|rfl|rfl <;> rfl
def sgn (l:List Nat):Nat:=l.count 43+l.count 45+l.count 42
theorem jk (a b:List Nat):sgn (a++b)=sgn a+sgn b:=by unfold sgn;simp only [List.count_append];lia
theorem mX (c:Nat) (b:List Nat) (h:sgC c):sgn (c :: b)=sgn b+1:=by
  unfold sgn;rcases h with rfl|rfl|rfl <;> simp [List.count_cons] <;> lia
theorem mW (c:Nat) (b:List Nat):sgn b≤sgn (c :: b):=by
  have:=jk [c] b;simp only [List.singleton_append] at this;lia
def wob (l:List Nat):List Nat:=if l.head?=some 40∧l.getLast?=some 41∧d7 l=none then l.tail.dropLast else l
theorem fX (l:List Nat):wob l=l∨∃ m,l=40 :: m++[41]∧wob l=m:=by
  unfold wob;split
  · rename_i h;right;obtain ⟨h1,h2,_⟩:=h;cases l with
    | nil=>cases h1
    | cons c r =>
      have hc:c=40:=by simpa using h1
      subst hc;rcases aaY r with rfl|⟨m,y,rfl⟩
      · cases h2
      · rw [aaX] at h2 ⊢;rw [← abG,abA] at h2;injection h2 with h2
        subst h2;exact ⟨m,rfl,by simp⟩
  · exact .inl rfl
theorem jj (l:List Nat):sgn (wob l)≤sgn l:=by
  rcases fX l with h|⟨m,h,e⟩
  · rw [h];exact aab _
  · rw [e,h,jk];have:=mW 40 m;lia
theorem mt (l:List Nat):(wob l).length≤l.length:=by
  rcases fX l with h|⟨m,h,e⟩
  · rw [h];exact aab _
  · rw [e,h];simp;lia
theorem qv {l:List Nat} {c:Nat} (h:c∈wob l):c∈l:=by
  rcases fX l with e|⟨m,e,e2⟩
  · rw [e] at h;exact h
  · rw [e2] at h;rw [e];simp [h]
theorem R12.wob {l:List Nat} (h:R12 l):R12 (wob l):=by
  rcases fX l with e|⟨m,e,e2⟩
  · rw [e];exact h
  · rw [e2];exact h.sub (a:=[40]) (c:=[41]) (by rw [e];simp)
theorem vJ {Pk:Nat→Prop}:∀ (l:List Nat) (i:Nat) (st:LS),(∀ k,st.2.1=some k→Pk k)→(∀ k,st.2.2=some k→Pk k)→(∀ j c,l[j]?=some c→sgC c→Pk (i+j))→(∀ k,(lj i l st).2.1=some k→Pk k)∧∀ k,(lj i l st).2.2=some k→Pk k
  | [],i,st,h1,h2,_=>⟨h1,h2⟩
  | c :: r,i,st,h1,h2,h3=>by
    show (∀ k,(lj (i+1) r (lj1 i c st)).2.1=some k→Pk k)∧_;have h30:=h3 0 c rfl;refine vJ r (i+1) (lj1 i c st) (fun k hk=>?_) (fun k hk=>?_) (fun j c' hj hc'=>by have:=h3 (j+1) c' hj hc';rwa [show i+(j+1)=i+1+j by lia] at this)
    · unfold lj1 at hk;split at hk
      · exact h1 k hk
      · split at hk
        · exact h1 k hk
        · split at hk
          · rename_i z;injection hk with hk
            rw [← hk];exact h30 (by unfold sgC;lia)
          · split at hk <;> exact h1 k hk
    · unfold lj1 at hk;split at hk
      · exact h2 k hk
      · split at hk
        · exact h2 k hk
        · split at hk
          · exact h2 k hk
          · split at hk
            · rename_i z;injection hk with hk
              rw [← hk];exact h30 (by unfold sgC;lia)
            · exact h2 k hk
theorem nQ {l:List Nat} {k:Nat} (h:d7 l=some k):∃ c,l[k]?=some c∧sgC c:=by
  obtain ⟨h1,h2⟩:=vJ (Pk:=fun k=>∃ c,l[k]?=some c∧sgC c) l 0 (0,none,none) (fun k z=>nomatch z) (fun k z=>nomatch z) (fun j c hj hc=>⟨c,by rw [Nat.zero_add];exact hj,hc⟩);unfold d7 at h;cases e:(lj 0 l (0,none,none)).2.1 with
  | none=>rw [e] at h;exact h2 k h
  | some k'=>rw [e] at h;injection h with h;subst h;exact h1 _ e
theorem split_at {l:List Nat} {k c:Nat} (h:l[k]?=some c):l=l.take k++c :: l.drop (k+1):=by
  have hk:k < l.length:=(aam.mp h).1;have e:l[k]=c:=(aam.mp h).2
  conv=>lhs;rw [← ab6 k l,aa0 hk,e]
def dw:Nat→List Nat→Option Wy
  | 0,_=>none
  | n+1,l=>match bd l with
    | some i=>some (.num i)
    | none=>match d7 l with
      | none=>none
      | some k=>match dw n (wob (l.take k)),dw n (wob (l.drop (k+1))) with
        | some a,some b=>some (.node (mY (l.getD k 0)) a b)
        | _,_=>none
theorem rV (b:Bool) (w:Wy):wob (br b w.tx)=w.tx:=by
  cases b with
  | true =>
    unfold wob;rw [if_pos ⟨rfl,abA (l:=40 :: w.tx),tI w⟩];show (w.tx++[41]).dropLast=_;simp
  | false =>
    show wob w.tx=w.tx;unfold wob;rw [if_neg];rintro ⟨h1,_,h3⟩;cases w with
    | num i=>exact iP i h1
    | node g l r=>rw [jT] at h3;cases h3
theorem j5:∀ (w:Wy) (n:Nat),w.size≤n→dw n w.tx=some w
  | .num i,0,h=>absurd h (by simp [Wy.size])
  | .num i,n+1,_=>by
    unfold dw;rw [show bd (Wy.num i).tx=some i from ni i]
  | .node g l r,0,h=>absurd h (by have:=l.size_pos;simp only [Wy.size];lia)
  | .node g l r,n+1,h=>by
    have lp:=l.size_pos;have rp:=r.size_pos;have h:l.size+r.size≤n+1:=h;have etx:(Wy.node g l r).tx=br (aD g l.os) l.tx++g.code :: br (aE g r.os) r.tx:=rfl;have e1:(Wy.node g l r).tx.take (br (aD g l.os) l.tx).length=br (aD g l.os) l.tx:=by rw [etx,List.take_left]
    have e3:(Wy.node g l r).tx.drop ((br (aD g l.os) l.tx).length+1)=br (aE g r.os) r.tx:=by rw [etx,← List.drop_drop,List.drop_left];rfl
    have e4:(Wy.node g l r).tx.getD (br (aD g l.os) l.tx).length 0=g.code:=by
      rw [etx,aaW,acd (aab _)];simp
    unfold dw;rw [o0,jT];show (match dw n (wob ((Wy.node g l r).tx.take (br (aD g l.os) l.tx).length)),dw n (wob ((Wy.node g l r).tx.drop ((br (aD g l.os) l.tx).length+1))) with
        | some a,some b=>some (Wy.node (mY ((Wy.node g l r).tx.getD (br (aD g l.os) l.tx).length 0)) a b)
        | _,_=>none)=_
    rw [e1,e3,e4,rV,rV,j5 l n (by lia),j5 r n (by lia),kN]
theorem j6:∀ (n:Nat) (l:List Nat) (w:Wy),dw n l=some w→R12 l→w.size≤sgn l+1∧b_ w.nums
  | 0,l,w,h,_=>nomatch h
  | n+1,l,w,h,hr=>by
    unfold dw at h;cases e:bd l with
    | some i =>
      rw [e] at h;injection h with h
      subst h;refine ⟨by simp [Wy.size],fun x hx=>?_⟩;simp only [Wy.nums,List.mem_singleton] at hx;subst hx;exact iR hr e
    | none =>
      rw [e] at h;cases e2:d7 l with
      | none=>rw [e2] at h;cases h
      | some k =>
        rw [e2] at h;obtain ⟨c,hc,hs⟩:=nQ e2;have sl:=split_at hc;have hsum:sgn l=sgn (l.take k)+(sgn (l.drop (k+1))+1):=by
          conv=>lhs;rw [sl,jk,mX _ _ hs]
        have w1:=jj (l.take k);have w2:=jj (l.drop (k+1));cases e3:dw n (wob (l.take k)) with
        | none=>simp only [e3] at h;cases h
        | some a =>
          cases e4:dw n (wob (l.drop (k+1))) with
          | none=>simp only [e3,e4] at h;cases h
          | some b =>
            simp only [e3,e4] at h;injection h with h
            subst h;obtain ⟨a1,a2⟩:=j6 n _ a e3 (hr.take k).wob;obtain ⟨b1,b2⟩:=j6 n _ b e4 (hr.drop (k+1)).wob;refine ⟨by show a.size+b.size≤_;lia,fun x hx=>?_⟩;rcases aau.mp (show x∈a.nums++b.nums from hx) with hx|hx
            · exact a2 x hx
            · exact b2 x hx
def rwW (l:List Nat):Option Wy:=if sgn l < 9 then (match dw 9 l with|some w=>if w.tx=l then some w else none|none=>none) else none
theorem rwW_iff {l:List Nat} {w:Wy}:rwW l=some w↔l=w.tx∧w.size≤9:=by
  unfold rwW;constructor
  · intro h;split at h
    · rename_i h9;split at h
      · split at h
        · rename_i w' _ e;injection h with h
          subst h;have:=gf w';refine ⟨e.symm,?_⟩;rw [← e] at h9;unfold sgn at h9;lia
        · cases h
      · cases h
    · cases h
  · rintro ⟨rfl,h⟩;have:=gf w;rw [if_pos (by unfold sgn;lia),j5 w 9 h];exact if_pos rfl
open PySem L2
def dp1 (d:Int) (c:Nat):Int:=d+(if c=40 then 1 else 0) - (if c=41 then 1 else 0)
def cT:Nat→Int→List Nat→Option Nat
  | p,d,[]=>if d=0 then some p else none
  | p,d,c :: r=>if dp1 d c < 0∨(dp1 d c=0∧sgC c) then some p else if dp1 d c=0∧c=41 then some (p+1) else cT (p+1) (dp1 d c) r
def fq (l:List Nat) (p:Nat):Option Nat:=cT p 0 (l.drop p)
theorem qH:∀ (r:List Nat) (p:Nat) (d:Int) (e:Nat),cT p d r=some e→p≤e∧e≤p+r.length
  | [],p,d,e,h=>by
    unfold cT at h;split at h
    · injection h with h;subst h;simp
    · cases h
  | c :: r,p,d,e,h=>by
    unfold cT at h;split at h
    · injection h with h;subst h;simp
    · split at h
      · injection h with h;subst h;simp
      · have:=qH r (p+1) _ e h;simp only [aao];lia
theorem qG {l:List Nat} {p e:Nat} (hp:p≤l.length) (h:fq l p=some e):p≤e∧e≤l.length:=by
  have:=qH _ _ _ _ h;rw [aay] at this;lia
def fO:Nat→List Nat→Nat→List (List Nat)→Option (List (List Nat))
  | 0,_,_,_=>none
  | n+1,l,p,acc =>
    if p < l.length∨acc.length % 2=0 then
      if acc.length % 2=1 then (if sgC (l.getD p 0) then fO n l (p+1) (acc++[[l.getD p 0]]) else none)
      else match fq l p with
        | none=>none
        | some e=>if e=p then none else fO n l e (acc++[(l.drop p).take (e - p)])
    else some acc
def fN (l:List Nat):Option (List (List Nat)):=fO (2 * l.length+2) l 0 []
def PcOk (acc:List (List Nat)):Prop:=∀ k x,acc[k]?=some x→if k % 2=1 then ∃ c,x=[c]∧sgC c else x≠[]
theorem PcOk.snoc {acc:List (List Nat)} {x:List Nat} (h:PcOk acc) (hx:if acc.length % 2=1 then ∃ c,x=[c]∧sgC c else x≠[]):PcOk (acc++[x]):=fun k y hy=>by
  by_cases c:k < acc.length
  · rw [List.getElem?_append_left c] at hy;exact h k y hy
  · rw [acd (by lia)] at hy;have hk:k=acc.length:=by
      have:=(aam.mp hy).1;simp at this;lia
    subst hk;simp at hy;subst hy;exact hx
theorem l7:∀ (n:Nat) (l:List Nat) (p:Nat) (acc ps:List (List Nat)),fO n l p acc=some ps→p≤l.length→acc.flatten=l.take p→PcOk acc→ps.flatten=l∧PcOk ps∧ps.length % 2=1
  | 0,_,_,_,_,h,_,_,_=>nomatch h
  | n+1,l,p,acc,ps,h,hp,hf,ho=>by
    unfold fO at h;split at h
    · split at h
      · rename_i h1 h2;have hlt:p < l.length:=by lia
        split at h
        · rename_i hs;refine l7 n l (p+1) _ ps h hlt ?_ (ho.snoc (by rw [if_pos h2];exact ⟨_,rfl,hs⟩));rw [List.flatten_append,hf,aaz,aaW,aac hlt];simp
        · cases h
      · rename_i h1 h2;split at h
        · cases h
        · rename_i e he;split at h
          · cases h
          · rename_i hne;obtain ⟨b1,b2⟩:=qG hp he;refine l7 n l e _ ps h b2 ?_ (ho.snoc (by
              rw [if_neg h2];intro z;have:=congrArg aa2 z;rw [aav,aay] at this;simp at this;lia))
            rw [List.flatten_append,hf];simp only [abQ,List.flatten_nil,abC];rw [← List.take_add];congr 1;lia
    · rename_i h1;injection h with h
      subst h;have hp2:p=l.length:=by lia
      subst hp2;rw [aaL] at hf;exact ⟨hf,ho,by lia⟩
theorem il {l:List Nat} {ps:List (List Nat)} (h:fN l=some ps):ps.flatten=l∧PcOk ps∧ps.length % 2=1 :=
  l7 _ l 0 [] ps h (aaK _) rfl (fun k x hx=>by simp at hx)
def bg {α:Type}:List α→List α
  | []=>[]
  | [a]=>[a]
  | a :: _ :: r=>a :: bg r
def kJ:List (Option Wy)→Option (List Wy)
  | []=>some []
  | none :: _=>none
  | some w :: r=>match kJ r with|none=>none|some ws=>some (w :: ws)
def o_ (a:Wy × List (Sg × Wy)) (w:Wy):Wy × List (Sg × Wy):=match a.2.getLast? with
  | none=>(.node .times a.1 w,[])
  | some p=>(a.1,a.2.dropLast++[(p.1,.node .times p.2 w)])
def stF (a:Wy × List (Sg × Wy)) (p:Sg × Wy):Wy × List (Sg × Wy):=if p.1=.times then o_ a p.2 else (a.1,a.2++[p])
def iW (a:Wy × List (Sg × Wy)):Wy:=a.2.foldl (fun x p=>.node p.1 x p.2) a.1
def fm (f:Wy) (rest:List (Sg × Wy)):Wy:=iW (rest.foldl stF (f,[]))
theorem f_ (f:Wy) (gs:List (Sg × Wy)) (g:Sg) (x w:Wy):o_ (f,gs++[(g,x)]) w=(f,gs++[(g,.node .times x w)]):=by
  unfold o_;simp only [abA,List.dropLast_concat]
def sz2 (a:Wy × List (Sg × Wy)):Nat:=a.1.size+(a.2.map fun p=>p.2.size).sum
theorem fv {α:Type} (f:α→Nat) (a b:List α):((a++b).map f).sum=(a.map f).sum+(b.map f).sum:=by simp
theorem v9 (a:Wy × List (Sg × Wy)) (p:Sg × Wy):sz2 (stF a p)=sz2 a+p.2.size:=by
  unfold stF;obtain ⟨f,gs⟩:=a;split
  · rcases aaY gs with rfl|⟨m,y,rfl⟩
    · simp [o_,sz2,Wy.size]
    · obtain ⟨g,x⟩:=y;rw [aaX,f_];simp only [sz2,fv,aax,List.map_nil,aba,List.sum_nil,Wy.size];lia
  · simp only [sz2,fv,aax,List.map_nil,aba,List.sum_nil];lia
theorem qc:∀ (gs:List (Sg × Wy)) (f:Wy),(iW (f,gs)).size=sz2 (f,gs)
  | [],f=>by simp [iW,sz2]
  | (g,x) :: gs,f=>by
    have:=qc gs (.node g f x);show (iW (.node g f x,gs)).size=_;rw [this];simp only [sz2,aax,aba,Wy.size];lia
theorem mU:∀ (rest:List (Sg × Wy)) (a:Wy × List (Sg × Wy)),sz2 (rest.foldl stF a)=sz2 a+(rest.map fun p=>p.2.size).sum
  | [],a=>by simp
  | p :: r,a=>by
    rw [abD,mU r,v9,aax,aba];lia
theorem jY (f:Wy) (rest:List (Sg × Wy)):(fm f rest).size=f.size+(rest.map fun p=>p.2.size).sum:=by
  unfold fm;rw [show rest.foldl stF (f,[])=((rest.foldl stF (f,[])).1,(rest.foldl stF (f,[])).2) from rfl,qc];show sz2 (rest.foldl stF (f,[]))=_;rw [mU];simp [sz2]
def Sml (a:Wy × List (Sg × Wy)):Prop:=b_ a.1.nums∧∀ p∈a.2,b_ p.2.nums
theorem gw {g:Sg} {a b:Wy} (ha:b_ a.nums) (hb:b_ b.nums):b_ (Wy.node g a b).nums:=fun i hi=>by
  rcases aau.mp (show i∈a.nums++b.nums from hi) with h|h
  · exact ha i h
  · exact hb i h
theorem Sml.st {a:Wy × List (Sg × Wy)} {p:Sg × Wy} (h:Sml a) (hp:b_ p.2.nums):Sml (stF a p):=by
  unfold stF;obtain ⟨f,gs⟩:=a;split
  · rcases aaY gs with rfl|⟨m,y,rfl⟩
    · exact ⟨gw h.1 hp,fun q hq=>nomatch hq⟩
    · obtain ⟨g,x⟩:=y;rw [aaX] at h ⊢;rw [f_];refine ⟨h.1,fun q hq=>?_⟩;rcases aau.mp hq with hq|hq
      · exact h.2 q (aaV _ hq)
      · rw [aaN.mp hq];exact gw (h.2 (g,x) (aag _ aai)) hp
  · refine ⟨h.1,fun q hq=>?_⟩;rcases aau.mp hq with hq|hq
    · exact h.2 q hq
    · rw [aaN.mp hq];exact hp
theorem Sml.fold:∀ {rest:List (Sg × Wy)} {a:Wy × List (Sg × Wy)},Sml a→(∀ p∈rest,b_ p.2.nums)→Sml (rest.foldl stF a)
  | [],_,h,_=>h
  | p :: rest,a,h,hr=>Sml.fold (rest:=rest) (a:=stF a p) (h.st (hr p aai)) fun q hq=>hr q (aae _ hq)
theorem Sml.sum:∀ {gs:List (Sg × Wy)} {f:Wy},Sml (f,gs)→b_ (iW (f,gs)).nums
  | [],_,h=>h.1
  | (g,x) :: gs,f,h=>Sml.sum (gs:=gs) (f:=.node g f x) ⟨gw h.1 (h.2 (g,x) aai),fun q hq=>h.2 q (aae _ hq)⟩
theorem n_ {f:Wy} {rest:List (Sg × Wy)} (h:b_ f.nums) (hr:∀ p∈rest,b_ p.2.nums):b_ (fm f rest).nums :=
  Sml.sum (Sml.fold ⟨h,fun q hq=>nomatch hq⟩ hr)
def kC (ps:List (List Nat)):List Sg:=(bg ps.tail).map fun x=>mY (x.headD 0)
def da:Nat→List Nat→Option Wy
  | 0,_=>none
  | n+1,l =>
    if l.head?=some 40∧fq l 0=some l.length then (if l.getLast?=some 41 then da n l.tail.dropLast else none)
    else match fN l with
      | none=>none
      | some ps=>if ps.length=1 then (bd l).map .num else match kJ ((bg ps).map (da n)) with
        | none=>none
        | some []=>none
        | some (f :: ws)=>some (fm f ((kC ps).zip ws))
open PySem L2
theorem gg:∀ {os:List (Option Wy)} {ws:List Wy},kJ os=some ws→os=ws.map some
  | [],ws,h=>by injection h with h;subst h;rfl
  | none :: _,_,h=>nomatch h
  | some w :: r,ws,h=>by
    unfold kJ at h;split at h
    · cases h
    · rename_i ws' e;injection h with h
      subst h;rw [gg e];rfl
theorem oz:∀ ws:List Wy,kJ (ws.map some)=some ws
  | []=>rfl
  | w :: r=>by
    show (match kJ (r.map some) with|none=>none|some ws=>some (w :: ws))=_;rw [oz r]
theorem iI {α:Type}:∀ (n:Nat) (xs:List α),xs.length≤n→∀ x∈bg xs,x∈xs
  | _,[],_,x,h=>nomatch h
  | _,[a],_,x,h=>h
  | 0,_ :: _ :: _,hn,_,_=>by simp at hn
  | n+1,a :: b :: r,hn,x,h=>by
    rcases aaj.mp h with rfl|h
    · exact aai
    · exact aae _ (aae _ (iI n r (by simp at hn;lia) x h))
theorem la:∀ (n:Nat) (ps:List (List Nat)),ps.length≤n→((bg ps).map aa2).sum≤ps.flatten.length
  | _,[],_=>by simp [bg]
  | _,[a],_=>by simp [bg]
  | 0,_ :: _ :: _,hn=>by simp at hn
  | n+1,a :: b :: r,hn=>by
    have:=la n r (by simp at hn;lia);show (((a :: bg r).map aa2).sum)≤_;simp only [aax,aba,abQ,aah];lia
theorem gc {α:Type}:∀ (n:Nat) (xs:List α),xs.length≤n→(bg xs).length=(xs.length+1) / 2
  | _,[],_=>by simp [bg]
  | _,[a],_=>by simp [bg]
  | 0,_ :: _ :: _,hn=>by simp at hn
  | n+1,a :: b :: r,hn=>by
    have:=gc n r (by simp at hn;lia);show (bg r).length+1=(r.length+2+1) / 2;lia
theorem og {α:Type}:∀ (n:Nat) (xs:List α),xs.length≤n→∀ k,(bg xs)[k]?=xs[2 * k]?
  | _,[],_,k=>by simp [bg]
  | _,[a],_,k=>by
    cases k with
    | zero=>rfl
    | succ k=>simp [bg]
  | 0,_ :: _ :: _,hn,_=>by simp at hn
  | n+1,a :: b :: r,hn,k=>by
    cases k with
    | zero=>rfl
    | succ k =>
      have:=og n r (by simp at hn;lia) k;show (bg r)[k]?=(a :: b :: r)[2 * (k+1)]?;rw [this,show 2 * (k+1)=2 * k+1+1 by lia,abn,abn]
theorem jZ:∀ {ps:List (List Nat)} {x:List Nat},x∈ps→∃ a c,ps.flatten=a++x++c
  | y :: r,x,h=>by
    rcases aaj.mp h with rfl|h
    · exact ⟨[],r.flatten,by simp⟩
    · obtain ⟨a,c,e⟩:=jZ h;exact ⟨y++a,c,by rw [abQ,e];simp⟩
theorem pU (gs:List Sg) (ws:List Wy):((gs.zip ws).map fun p=>p.2.size).sum≤(ws.map Wy.size).sum:=by
  induction gs generalizing ws with
  | nil=>simp
  | cons g gs ih =>
    cases ws with
    | nil=>simp
    | cons w ws =>
      have:=ih ws;simp only [List.zip_cons_cons,aax,aba];lia
theorem kP:bd []=none:=by
  unfold bd;rw [if_pos (.inl rfl)]
theorem mo (l:List Nat):l.tail.dropLast.length=l.length - 2:=by simp;lia
theorem mn {l:List Nat} (h1:l.head?=some 40) (h2:l.getLast?=some 41):l=40 :: l.tail.dropLast++[41]:=by
  cases l with
  | nil=>cases h1
  | cons c r =>
    have hc:c=40:=by simpa using h1
    subst hc;rcases aaY r with rfl|⟨m,y,rfl⟩
    · cases h2
    · rw [aaX] at h2 ⊢;rw [← abG,abA] at h2;injection h2 with h2
      subst h2;simp
theorem nN {n:Nat}:∀ {xs:List (List Nat)} {ws:List Wy},xs.map (da n)=ws.map some→(∀ x∈xs,∀ w,da n x=some w→w.size≤x.length∧b_ w.nums)→(ws.map Wy.size).sum≤(xs.map aa2).sum∧∀ w∈ws,b_ w.nums
  | [],ws,e,_=>by
    cases ws with
    | nil=>exact ⟨by simp,fun w hw=>nomatch hw⟩
    | cons w ws=>cases e
  | x :: xs,ws,e,h=>by
    cases ws with
    | nil=>cases e
    | cons w ws =>
      injection e with e1 e2
      obtain ⟨a,b⟩:=nN e2 fun y hy=>h y (aae _ hy);obtain ⟨c,d⟩:=h x aai w e1;refine ⟨by simp only [aax,aba];lia,fun y hy=>?_⟩;rcases aaj.mp hy with rfl|hy
      · exact d
      · exact b y hy
theorem mq:∀ (n:Nat) (l:List Nat) (w:Wy),da n l=some w→R12 l→w.size≤l.length∧b_ w.nums
  | 0,l,w,h,_=>nomatch h
  | n+1,l,w,h,hr=>by
    unfold da at h;split at h
    · rename_i hh;split at h
      · rename_i hl;have e:=mn hh.1 hl;obtain ⟨a,b⟩:=mq n _ w h (hr.sub (a:=[40]) (c:=[41]) e);rw [mo] at a;exact ⟨by lia,b⟩
      · cases h
    · split at h
      · cases h
      · rename_i ps hps;obtain ⟨p1,p2,p3⟩:=il hps;split at h
        · cases e:bd l with
          | none=>rw [e] at h;cases h
          | some i =>
            rw [e] at h;injection h with h
            subst h;have hl:l≠[]:=fun z=>by rw [z,kP] at e;cases e
            have:=aa5.mpr hl;refine ⟨this,fun x hx=>?_⟩;simp only [Wy.nums,List.mem_singleton] at hx;subst hx;exact iR hr e
        · split at h
          · cases h
          · cases h
          · rename_i f ws he;injection h with h
            subst h;have em:=gg he;obtain ⟨a,b⟩:=nN em fun x hx w' hw'=>by
              obtain ⟨u,v,e⟩:=jZ (iI _ ps (aab _) x hx);exact mq n x w' hw' (hr.sub (by rw [← p1];exact e))
            have es:=la _ ps (aab _);rw [p1] at es;have zs:=pU (kC ps) ws;refine ⟨?_,n_ (b f aai) fun p hp=>b p.2 (aae _ (List.of_mem_zip hp).2)⟩;rw [jY];simp only [aax,aba] at a;lia
def it:Wy→Wy × List (Sg × Wy)
  | .num i=>(.num i,[])
  | .node g l r=>((if aD g l.os=true then (l,[]) else it l).1,(if aD g l.os=true then (l,[]) else it l).2++(g,(if aE g r.os=true then (r,[]) else it r).1) :: (if aE g r.os=true then (r,[]) else it r).2)
def atx (x:Wy):List Nat:=br x.os.isSome x.tx
def txR (rest:List (Sg × Wy)):List Nat:=(rest.map fun p=>p.1.code :: atx p.2).flatten
theorem uE (a b:List (Sg × Wy)):txR (a++b)=txR a++txR b:=by simp [txR]
theorem jo {b:Bool} {l:List Nat} (h:b=true):br b l=40 :: l++[41]:=by subst h;rfl
theorem rA {g:Sg} {o:Option Sg} (h:aD g o=true):o.isSome=true:=by cases o <;> cases g <;> simp_all [aD]
theorem oX {g:Sg} {o:Option Sg} (h:aE g o=true):o.isSome=true:=by cases o <;> cases g <;> simp_all [aE]
theorem sd:∀ w:Wy,w.tx=atx (it w).1++txR (it w).2
  | .num i=>by simp [it,atx,txR,br,Wy.os]
  | .node g l r=>by
    have hl:=sd l;have hr:=sd r;have e1:br (aD g l.os) l.tx=atx (if aD g l.os=true then (l,[]) else it l).1++txR (if aD g l.os=true then (l,[]) else it l).2:=by
      by_cases c:aD g l.os=true
      · rw [if_pos c,jo c];show _=atx l++[];rw [abC,atx,jo (rA c)]
      · rw [if_neg c,← hl,show aD g l.os=false by simpa using c];rfl
    have e2:br (aE g r.os) r.tx=atx (if aE g r.os=true then (r,[]) else it r).1++txR (if aE g r.os=true then (r,[]) else it r).2:=by
      by_cases c:aE g r.os=true
      · rw [if_pos c,jo c];show _=atx r++[];rw [abC,atx,jo (oX c)]
      · rw [if_neg c,← hr,show aE g r.os=false by simpa using c];rfl
    show br (aD g l.os) l.tx++g.code :: br (aE g r.os) r.tx=atx (if aD g l.os=true then (l,[]) else it l).1++txR ((if aD g l.os=true then (l,[]) else it l).2++(g,(if aE g r.os=true then (r,[]) else it r).1) :: (if aE g r.os=true then (r,[]) else it r).2);rw [e1,e2,uE,abP];rfl
theorem kS:∀ (rest:List (Sg × Wy)) (a b:List (Sg × Wy)) (f x y:Wy) (g:Sg),(∀ p∈rest,p.1=.times)→rest.foldl stF (x,[])=(y,[])→rest.foldl stF (f,a++[(g,x)])=(f,a++[(g,y)])
  | [],a,_,f,x,y,g,_,h=>by injection h with h;subst h;rfl
  | (s,w) :: r,a,b,f,x,y,g,ht,h=>by
    have hs:s=.times:=ht _ aai;subst hs;have e1:stF (x,[]) (.times,w)=(.node .times x w,[]):=rfl;have e2:stF (f,a++[(g,x)]) (.times,w)=(f,a++[(g,.node .times x w)]):=by
      show (if Sg.times=.times then o_ (f,a++[(g,x)]) w else _)=_;rw [if_pos rfl,f_]
    rw [abD,e1] at h;rw [abD,e2];exact kS r a b f _ y g (fun p hp=>ht p (aae _ hp)) h
theorem iH:∀ w:Wy,(w.os=none∨w.os=some .times)→(∀ p∈(it w).2,p.1=.times)∧(it w).2.foldl stF ((it w).1,[])=(w,[])
  | .num i,_=>⟨(fun p hp=>nomatch hp),rfl⟩
  | .node g l r,h=>by
    have hg:g=.times:=by simpa [Wy.os] using h
    subst hg;have e2:(if aE .times r.os=true then (r,[]) else it r)=(r,[]):=by
      cases r with
      | num i=>rfl
      | node s a b=>cases s <;> rfl
    have e1:(∀ p∈(if aD .times l.os=true then (l,[]) else it l).2,p.1=Sg.times)∧(if aD .times l.os=true then (l,[]) else it l).2.foldl stF ((if aD .times l.os=true then (l,[]) else it l).1,[])=(l,[]):=by
      by_cases c:aD .times l.os=true
      · rw [if_pos c];exact ⟨(fun p hp=>nomatch hp),rfl⟩
      · rw [if_neg c];refine iH l ?_;cases l with
        | num i=>exact .inl rfl
        | node s a b=>cases s <;> first|exact .inr rfl|exact absurd rfl c
    have ei:it (.node .times l r)=((if aD .times l.os=true then (l,[]) else it l).1,(if aD .times l.os=true then (l,[]) else it l).2++[(.times,r)]):=by
      show ((if aD .times l.os=true then (l,[]) else it l).1,(if aD .times l.os=true then (l,[]) else it l).2++(Sg.times,(if aE .times r.os=true then (r,[]) else it r).1) :: (if aE .times r.os=true then (r,[]) else it r).2)=_;rw [e2]
    rw [ei];refine ⟨fun p hp=>?_,?_⟩
    · rcases aau.mp hp with hp|hp
      · exact e1.1 p hp
      · rw [aaN.mp hp]
    · rw [abR,e1.2];rfl
theorem kM (f:Wy) (gs:List (Sg × Wy)) (g:Sg) (x:Wy):iW (f,gs++[(g,x)])=.node g (iW (f,gs)) x:=by
  unfold iW;rw [abR];rfl
theorem qC:∀ w:Wy,fm (it w).1 (it w).2=w
  | .num i=>rfl
  | .node g l r=>by
    by_cases hg:g=.times
    · unfold fm;rw [(iH (.node g l r) (.inr (by rw [hg];rfl))).2];rfl
    · have e1:(if aD g l.os=true then (l,[]) else it l)=it l:=by
        rw [if_neg];cases g <;> first|(intro z;cases z)|exact absurd rfl hg
      have hl:=qC l;have e2:(∀ p∈(if aE g r.os=true then (r,[]) else it r).2,p.1=Sg.times)∧(if aE g r.os=true then (r,[]) else it r).2.foldl stF ((if aE g r.os=true then (r,[]) else it r).1,[])=(r,[]):=by
        by_cases c:aE g r.os=true
        · rw [if_pos c];exact ⟨(fun p hp=>nomatch hp),rfl⟩
        · rw [if_neg c];refine iH r ?_;cases r with
          | num i=>exact .inl rfl
          | node s a b=>cases s <;> first|exact .inr rfl|exact absurd (by cases g <;> rfl) c
      show fm (if aD g l.os=true then (l,[]) else it l).1 ((if aD g l.os=true then (l,[]) else it l).2++(g,(if aE g r.os=true then (r,[]) else it r).1) :: (if aE g r.os=true then (r,[]) else it r).2)=_;rw [e1];unfold fm at hl ⊢;rw [abR,abD];have e3:stF ((it l).2.foldl stF ((it l).1,[])) (g,(if aE g r.os=true then (r,[]) else it r).1)=(((it l).2.foldl stF ((it l).1,[])).1,((it l).2.foldl stF ((it l).1,[])).2++[(g,(if aE g r.os=true then (r,[]) else it r).1)]):=if_neg hg;rw [e3,kS _ _ [] _ _ _ g e2.1 e2.2,kM];exact congrArg (fun z=>Wy.node g z r) hl
open PySem L2
theorem pS (x:Wy):atx x≠[]:=by
  unfold atx;cases x with
  | num i =>
    show wn i≠[];unfold wn;intro z;have:=List.append_eq_nil_iff.mp z;exact ua _ this.2
  | node g l r=>show (40 :: (Wy.node g l r).tx++[41]:List Nat)≠[];simp
theorem hX {p:Nat} {d d':Int} {c:Nat} {r:List Nat} (h:dp1 d c=d') (h1:¬ (d' < 0∨(d'=0∧sgC c))) (h2:¬ (d'=0∧c=41)):cT p d (c :: r)=cT (p+1) d' r:=by
  conv=>lhs;unfold cT
  rw [h,if_neg h1,if_neg h2]
theorem j_ {c:Nat} (d:Int) (h:c≠40∧c≠41):dp1 d c=d:=by
  unfold dp1;rw [if_neg h.1,if_neg h.2];lia
theorem j9:∀ (a:List Nat) (p:Nat) (d:Int) (r:List Nat),0≤d→(∀ c∈a,c=126∨(48≤c∧c≤57))→cT p d (a++r)=cT (p+a.length) d r
  | [],p,d,r,_,_=>rfl
  | c :: a,p,d,r,hd,h=>by
    have hc:=h c aai;rw [abG,hX (j_ d (by lia)) (fun z=>by
      rcases z with z|⟨_,z⟩
      · lia
      · unfold sgC at z;lia) (fun z=>by lia),j9 a (p+1) d r hd fun x hx=>h x (aae _ hx)]
    congr 1;simp only [aao];lia
theorem vq {p:Nat} {d:Int} (g:Sg) (r:List Nat) (h:1≤d):cT p d (g.code :: r)=cT (p+1) d r :=
  hX (j_ d (by cases g <;> decide)) (fun z=>by lia) (fun z=>by lia)
theorem mD:∀ (w:Wy) (p:Nat) (d:Int) (r:List Nat),1≤d→cT p d (w.tx++r)=cT (p+w.tx.length) d r
  | .num i,p,d,r,h=>j9 (wn i) p d r (by lia) (ft i)
  | .node g l r',p,d,r,h=>by
    have hb:∀ (b:Bool) (w:Wy) (p:Nat) (r:List Nat),(∀ p d r,1≤d→cT p d (w.tx++r)=cT (p+w.tx.length) d r)→cT p d (br b w.tx++r)=cT (p+(br b w.tx).length) d r:=fun b w p r hw=>by
      cases b with
      | false=>exact hw p d r h
      | true =>
        show cT p d ((40 :: w.tx++[41])++r)=cT (p+(40 :: w.tx++[41]).length) d r;rw [show (40 :: w.tx++[41])++r=40 :: (w.tx++41 :: r) by simp,hX (d':=d+1) (by unfold dp1;simp) (fun z=>by lia) (fun z=>by lia),hw (p+1) (d+1) _ (by lia),hX (d':=d) (by unfold dp1;rw [if_neg (by decide),if_pos rfl];lia) (fun z=>by lia) (fun z=>by lia)];congr 1;simp;lia
    show cT p d ((br (aD g l.os) l.tx++g.code :: br (aE g r'.os) r'.tx)++r)=cT (p+(br (aD g l.os) l.tx++g.code :: br (aE g r'.os) r'.tx).length) d r;rw [abP,hb _ l p _ (fun p d r h=>mD l p d r h),abG,vq g _ h,hb _ r' _ _ (fun p d r h=>mD r' p d r h)];congr 1;simp;lia
theorem mE (x:Wy) (p:Nat) (suf:List Nat) (h:suf=[]∨∃ c r,suf=c :: r∧sgC c):cT p 0 (atx x++suf)=some (p+(atx x).length):=by
  cases x with
  | num i =>
    show cT p 0 (wn i++suf)=some (p+(wn i).length);rw [j9 (wn i) p 0 suf (by decide) (ft i)];rcases h with rfl|⟨c,r,rfl,hc⟩
    · rfl
    · unfold cT;rw [if_pos (.inr ⟨j_ 0 (by unfold sgC at hc;lia),hc⟩)]
  | node g l r =>
    show cT p 0 ((40 :: (Wy.node g l r).tx++[41])++suf)=some (p+(40 :: (Wy.node g l r).tx++[41]).length);rw [show (40 :: (Wy.node g l r).tx++[41])++suf=40 :: ((Wy.node g l r).tx++41 :: suf) by simp,hX (d':=1) (by decide) (fun z=>by lia) (fun z=>by lia),mD _ _ _ _ (by decide)];unfold cT;have e:dp1 1 41=0:=by decide
    rw [e,if_neg (by rintro (z|⟨_,z⟩);lia;unfold sgC at z;lia),if_pos ⟨rfl,rfl⟩];congr 1;simp;lia
def pcs (rest:List (Sg × Wy)):List (List Nat):=(rest.map fun p=>[[p.1.code],atx p.2]).flatten
theorem ic (rest:List (Sg × Wy)):txR rest=[]∨∃ c r,txR rest=c :: r∧sgC c:=by
  cases rest with
  | nil=>exact .inl rfl
  | cons p r=>exact .inr ⟨p.1.code,atx p.2++txR r,by simp [txR],qO p.1⟩
theorem li {l a b:List Nat} {p:Nat} (h:l.drop p=a++b):l.drop (p+a.length)=b:=by
  rw [← List.drop_drop,h,List.drop_left]
theorem qr {n:Nat} {l:List Nat} {p:Nat} {acc:List (List Nat)} {x:Wy} {suf:List Nat} (h0:acc.length % 2=0) (h:l.drop p=atx x++suf) (hs:suf=[]∨∃ c r,suf=c :: r∧sgC c):fO (n+1) l p acc=fO n l (p+(atx x).length) (acc++[atx x]):=by
  have hp:=aa5.mpr (pS x);have e:fq l p=some (p+(atx x).length):=by unfold fq;rw [h];exact mE x p suf hs
  conv=>lhs;unfold fO
  rw [if_pos (.inr h0),if_neg (by lia),e];show (if p+(atx x).length=p then none else fO n l (p+(atx x).length) (acc++[(l.drop p).take (p+(atx x).length - p)]))=_;rw [if_neg (by lia),h,Nat.add_sub_cancel_left,List.take_left]
theorem wE {n:Nat} {l:List Nat} {p:Nat} {acc:List (List Nat)} {g:Sg} {r:List Nat} (h0:acc.length % 2=1) (h:l.drop p=g.code :: r):fO (n+1) l p acc=fO n l (p+1) (acc++[[g.code]]):=by
  have hp:p < l.length:=by
    have:=congrArg aa2 h;rw [aay] at this;simp at this;lia
  have e:l.getD p 0=g.code:=by
    rw [aaW,aac hp];rw [aa0 hp] at h;injection h
  conv=>lhs;unfold fO
  rw [if_pos (.inl hp),if_pos h0,e,if_pos (qO g)]
theorem qp:∀ (rest:List (Sg × Wy)) (n:Nat) (l:List Nat) (p:Nat) (acc:List (List Nat)),acc.length % 2=1→l.drop p=txR rest→2 * rest.length+1≤n→fO n l p acc=some (acc++pcs rest)
  | [],0,_,_,_,_,_,hn=>by simp at hn
  | [],n+1,l,p,acc,h0,h,_=>by
    have hp:l.length≤p:=by
      have:=congrArg aa2 h;rw [aay] at this;simp [txR] at this;lia
    unfold fO;rw [if_neg (by lia)];simp [pcs]
  | (g,x) :: r,0,_,_,_,_,_,hn=>by simp at hn
  | (g,x) :: r,1,_,_,_,_,_,hn=>by simp at hn
  | (g,x) :: r,n+2,l,p,acc,h0,h,hn=>by
    have e1:txR ((g,x) :: r)=g.code :: (atx x++txR r):=by simp [txR]
    rw [e1] at h;rw [wE h0 h];have h2:l.drop (p+1)=atx x++txR r:=li (a:=[g.code]) h;rw [qr (by rw [aah];show (acc.length+1) % 2=0;lia) h2 (ic r)];rw [qp r n l _ _ (by simp only [aah,aao,abE];lia) (li h2) (by simp at hn;lia)];simp [pcs]
theorem i9:∀ rest:List (Sg × Wy),2 * rest.length≤(txR rest).length
  | []=>by simp
  | (g,x) :: r=>by
    have:=i9 r;have hp:=aa5.mpr (pS x);rw [show txR ((g,x) :: r)=g.code :: (atx x++txR r) by simp [txR]];simp only [aao,aah];lia
theorem re (f:Wy) (rest:List (Sg × Wy)):fN (atx f++txR rest)=some (atx f :: pcs rest):=by
  have hl:=i9 rest;unfold fN;have e:2 * (atx f++txR rest).length+2=(2 * (atx f++txR rest).length+1)+1:=rfl;rw [e,qr (by rfl) (suf:=txR rest) rfl (ic rest)];rw [qp rest _ _ _ _ rfl (by rw [Nat.zero_add,List.drop_left]) (by rw [aah];lia)];rfl
theorem lg (f:List Nat):∀ rest:List (Sg × Wy),bg (f :: pcs rest)=f :: rest.map fun p=>atx p.2
  | []=>rfl
  | (g,x) :: r=>by
    have e:pcs ((g,x) :: r)=[g.code] :: atx x :: pcs r:=by simp [pcs]
    rw [e];show f :: bg (atx x :: pcs r)=_;rw [lg (atx x) r];rfl
theorem nI (f:List Nat):∀ rest:List (Sg × Wy),kC (f :: pcs rest)=rest.map (·.1)
  | []=>rfl
  | (g,x) :: r=>by
    have e:pcs ((g,x) :: r)=[g.code] :: atx x :: pcs r:=by simp [pcs]
    have ih:=nI (atx x) r;unfold kC at ih ⊢;rw [e];show (bg ([g.code] :: atx x :: pcs r)).map _=_;show mY g.code :: (bg (pcs r)).map _=_;rw [kN];exact congrArg (List.cons g) ih
theorem mP:∀ rest:List (Sg × Wy),(rest.map (·.1)).zip (rest.map (·.2))=rest
  | []=>rfl
  | p :: r=>by
    show (p.1,p.2) :: ((r.map (·.1)).zip (r.map (·.2)))=_;rw [mP r]
theorem vc {rest:List (Sg × Wy)} {p:Sg × Wy} (h:p∈rest):(atx p.2).length+1≤(txR rest).length:=by
  induction rest with
  | nil=>cases h
  | cons q r ih =>
    rw [show txR (q :: r)=q.1.code :: (atx q.2++txR r) by simp [txR]];simp only [aao,aah];rcases aaj.mp h with rfl|h
    · lia
    · have:=ih h;lia
theorem tj:∀ n:Nat,(∀ w:Wy,w.tx.length < 2 * n→da n w.tx=some w)∧∀ x:Wy,(atx x).length < 2 * n→da n (atx x)=some x
  | 0=>⟨fun w h=>by lia,fun x h=>by lia⟩
  | n+1=>by
    obtain ⟨iT,iS⟩:=tj n;have T:∀ w:Wy,w.tx.length < 2 * (n+1)→da (n+1) w.tx=some w:=fun w h=>by
      have e:=sd w;have hx:=aa5.mpr (pS (it w).1);have he:fq w.tx 0=some (atx (it w).1).length:=by
        have:=mE (it w).1 0 (txR (it w).2) (ic _);rw [Nat.zero_add] at this;unfold fq;rw [ace,e];exact this
      have hp:=re (it w).1 (it w).2;rw [← e] at hp;have hlen:w.tx.length=(atx (it w).1).length+(txR (it w).2).length:=by conv=>lhs;rw [e,aah]
      have nb:¬ (w.tx.head?=some 40∧fq w.tx 0=some w.tx.length):=fun z=>by
        rw [he] at z;have z2:(atx (it w).1).length=w.tx.length:=by injection z.2
        have:=i9 (it w).2;cases w with
        | num i=>exact iP i z.1
        | node g l r =>
          have : 0 < (it (.node g l r)).2.length:=by simp only [it,aah,aao];lia
          lia
      unfold da;rw [if_neg nb,hp];show (if (atx (it w).1 :: pcs (it w).2).length=1 then (bd w.tx).map Wy.num else _)=_;cases w with
      | num i =>
        rw [if_pos (show (atx (it (Wy.num i)).1 :: pcs (it (Wy.num i)).2).length=1 from rfl),show bd (Wy.num i).tx=some i from ni i];rfl
      | node g l r =>
        have hne:(it (.node g l r)).2≠[]:=by simp [it]
        have hpos:=aa5.mpr hne;have hpc:0 < (pcs (it (.node g l r)).2).length:=by
          cases h:(it (.node g l r)).2 with
          | nil=>exact absurd h hne
          | cons a b=>simp [pcs]
        rw [if_neg (by rw [aao];lia),lg,nI];have hl:=i9 (it (.node g l r)).2;have e1:da n (atx (it (.node g l r)).1)=some (it (.node g l r)).1:=iS _ (by lia);have e2:((it (.node g l r)).2.map fun p=>atx p.2).map (da n)=((it (.node g l r)).2.map (·.2)).map some:=by
          rw [abp,abp];refine abF fun p hp=>?_;have:=vc hp;exact iS p.2 (by lia)
        rw [aax,e1,e2,← aax,oz];show some (fm (it (.node g l r)).1 (((it (.node g l r)).2.map (·.1)).zip ((it (.node g l r)).2.map (·.2))))=_;rw [mP,qC]
    refine ⟨T,fun x h=>?_⟩;cases x with
    | num i=>exact T (.num i) h
    | node g l r =>
      have ea:atx (.node g l r)=40 :: (Wy.node g l r).tx++[41]:=rfl;have he:fq (atx (.node g l r)) 0=some (atx (.node g l r)).length:=by
        have:=mE (.node g l r) 0 [] (.inl rfl);rw [Nat.zero_add,abC] at this;unfold fq;rw [ace];exact this
      unfold da;rw [if_pos ⟨by rw [ea];rfl,he⟩,if_pos (by rw [ea];exact abA (l:=40 :: (Wy.node g l r).tx))];have e3:(atx (.node g l r)).tail.dropLast=(Wy.node g l r).tx:=by
        rw [ea];show ((Wy.node g l r).tx++[41]).dropLast=_;simp
      rw [e3];rw [ea] at h;simp at h;exact iT _ (by lia)
def lwW (l:List Nat):Option Wy:=match da 201 l with|some w=>if w.size < 10∧w.tx=l then some w else none|none=>none
theorem qw {l:List Nat} {w:Wy} (hl:l.length≤400):lwW l=some w↔l=w.tx∧w.size≤9:=by
  unfold lwW;constructor
  · intro h;split at h
    · split at h
      · rename_i w' _ e;injection h with h
        subst h;exact ⟨e.2.symm,by lia⟩
      · cases h
    · cases h
  · rintro ⟨rfl,h⟩;rw [(tj 201).1 w (by lia)];exact if_pos ⟨by lia,rfl⟩
theorem xY {l:List Nat} (hl:l.length≤400):lwW l=rwW l:=by
  cases h:lwW l with
  | some w=>exact (rwW_iff.mpr ((qw hl).mp h)).symm
  | none =>
    cases h2:rwW l with
    | none=>rfl
    | some w=>rw [(qw hl).mpr (rwW_iff.mp h2)] at h;cases h
open PySem L2
structure Xc (K:aaa) (mg:Str→Option Value) (aP aT:Addr):Prop where
  mPutError:mg "PutError" = some (.ref aP)
  mNoText:mg "NoText" = some (.ref aT)
  eNoText:EC K aT
  uNoText:Und K aT aP
structure Cq (K:aaa) (mg:Str→Option Value) (t1 t2:Tok):Prop where
  gMOST_NUMBERS:mg "MOST_NUMBERS" = some (.int 9 t1)
  gMOST_STRETCHES:mg "MOST_STRETCHES" = some (.int 40 t2)
def aJ:List Nat→List (List Nat)
  | []=>[[]]
  | c :: r=>match aJ r with
    | []=>[[]]
    | w :: t=>if c=32 then [] :: w :: t else (c :: w) :: t
theorem h_:∀ l:List Nat,aJ l≠[]∧(∀ w∈aJ l,32∉w)∧l=jl (aJ l)
  | []=>⟨by simp [aJ],by simp [aJ],rfl⟩
  | c :: l=>by
    obtain ⟨h1,h2,h3⟩:=h_ l;unfold aJ;cases e:aJ l with
    | nil=>exact absurd e h1
    | cons w r =>
      rw [e] at h2 h3;show (if c=32 then [] :: w :: r else (c :: w) :: r)≠[]∧(∀ x∈(if c=32 then [] :: w :: r else (c :: w) :: r),32∉x)∧c :: l=jl (if c=32 then [] :: w :: r else (c :: w) :: r);by_cases hc:c=32
      · rw [if_pos hc];refine ⟨by simp,fun x hx=>?_,?_⟩
        · rcases aaj.mp hx with rfl|hx
          · simp
          · exact h2 x hx
        · rw [h3,hc];rfl
      · rw [if_neg hc];refine ⟨by simp,fun x hx=>?_,?_⟩
        · rcases aaj.mp hx with rfl|hx
          · intro z;rcases aaj.mp z with z|z
            · exact hc z.symm
            · exact h2 w aai z
          · exact h2 x (aae _ hx)
        · rw [h3];cases r <;> rfl
theorem cP (l:List Nat):acF (mkS l) (" ":Str)=(aJ l).map mkS:=by
  obtain ⟨h1,h2,h3⟩:=h_ l;rw [bD]
  conv=>lhs;rw [h3]
  exact sr h1 h2
theorem i7 {l w:List Nat} (h:w∈aJ l):∃ a c,l=a++w++c:=by
  obtain ⟨_,_,h3⟩:=h_ l;obtain ⟨a,c,e⟩:=tJ _ w h;exact ⟨a,c,by conv=>lhs;rw [h3,e]⟩
theorem i8 (l:List Nat):(aJ l).length≤l.length+1:=by
  obtain ⟨_,_,h3⟩:=h_ l;have:=nR (aJ l);rw [← h3] at this;exact this
theorem lI {l a b c:List Nat} (h:l=a++b++c):b.length≤l.length:=by rw [h];simp;lia
theorem gW {l a b c:List Nat} (h:l=a++b++c) (ha:Asc l):Asc b:=c_ ha fun x hx=>by rw [h];simp [hx]
def fV {α:Type}:List (Option α)→Option (List α)
  | []=>some []
  | none :: _=>none
  | some w :: r=>match fV r with|none=>none|some ws=>some (w :: ws)
theorem cB {α:Type}:∀ {os:List (Option α)} {ws:List α},fV os=some ws→os=ws.map some
  | [],ws,h=>by injection h with h;subst h;rfl
  | none :: _,_,h=>nomatch h
  | some w :: r,ws,h=>by
    unfold fV at h;split at h
    · cases h
    · rename_i ws' e;injection h with h
      subst h;rw [cB e];rfl
theorem eS {α:Type}:∀ {os:List (Option α)},fV os=none→none∈os
  | [],h=>nomatch h
  | none :: _,_=>aai
  | some w :: r,h=>by
    unfold fV at h;split at h
    · rename_i e;exact aae _ (eS e)
    · cases h
theorem my:∀ xs:List (Option Int),inV .non (xs.map fP)=decide (none∈xs)
  | []=>by simp [inV]
  | x :: xs=>by
    have ih:=my xs;unfold inV at ih ⊢;rw [aax,abU,ih,aaH,Bool.or_eq_true,decide_eq_true_eq,decide_eq_true_eq,aaj];refine or_congr ?_ Iff.rfl;cases x with
    | none=>simp [fP,eqV]
    | some i=>simp [fP,eqV]
theorem j0:∀ xs:List (Option Int),(xs.map fP).all eP=true
  | []=>rfl
  | x :: xs=>by
    rw [aax,List.all_cons,j0 xs];cases x <;> rfl
def rrW (l:List Nat):Option (List Int):=if (aJ l).length≤9 then fV ((aJ l).map bd) else none
def Txo (l:List Nat):Prop:=Asc l∧l.length≤400∧R12 l
def RdI (aT:Addr) (vs:List V) (H:Hp) (E:XK) (Pt:List Nat→Prop):Prop:=∃ v,vs=[v]∧((∃ l,v=.str (mkS l)∧Txo l∧Pt l)∨∃ d,Dat H d v∧(∀ z,d≠.str z)∧E (.ref aT) none H)
def OfW (o:Option Wy) (v:V) (H:Hp):Prop:=match o with|none=>v=.non|some w=>WyIn H w v
section
variable {P:Program} {w:World} {K:aaa} {mg:Str→Option Value} {base:Heap} {f:Addr} {fd:FuncData}
def dr (aT:Addr):Sp:=fun vs H Q E=>∃ v,vs=[v]∧((∃ z,v=.str z∧Q .non H)∨∃ d,Dat H d v∧(∀ z,d≠.str z)∧E (.ref aT) none H)
abbrev fE:Stmt:=top 28
theorem lR:FnScope ["thing"] ["thing"] (aq fE):=⟨rfl,rfl,rfl,by decide +kernel,rfl,by decide +kernel,by decide +kernel⟩
theorem km {aP aT:Addr} (F:Fun K "need_text" "need_text" fE f fd) (B:Bu K mg) (XC:Xc K mg aP aT):FnOk P w K mg base (CX1 P w) 1 f fd ["thing"] (dr aT):=by
  refine Fun.ok1 F lR (fun vs H Q E h=>?_) (fun cdv A outer s H vs Q E hr h=>?_)
  · obtain ⟨d,rfl,_⟩:=h;rfl
  obtain ⟨v,rfl,h⟩:=h;refine ⟨_,(@ag _ _ _ (@aV _ _ _ _ _ _ _ _ (@cO _ _ _ _ (@bE _ _ _ (@ap _ _ _ _ _ _ _ _ _ (@a8 _ ("str")) rfl B.iisinstance aad (@aa _ _ _ _ _ (pv 0) (@aa _ _ _ _ _ (@bw _ _ (.ty "str") _ _ rfl B.istr abJ rfl (by decide) (by decide)) ac (by rfl)) (by rfl)) (by decide) (by decide) (by rfl) (by rfl)) (by intro _;rfl))) (@ag _ _ _ (@fM _ _ _ _ _ _ _ _ _ _ rz1 XC.eNoText rfl rfl XC.mNoText (by rfl) (by decide))) aB)),?_⟩;rcases h with ⟨z,rfl,q⟩|⟨d,hd,hn,q⟩
  · exact ⟨_,rfl,_,_,true,rfl,.str z,rfl,true,rfl,av q⟩
  · cases d with
    | str z=>exact absurd rfl (hn z)
    | _=>exact ⟨_,rfl,_,_,false,rfl,hd.ty,rfl,false,rfl,aC q⟩
def gv (aT:Addr):Sp:=fun vs H Q E=>RdI aT vs H E fun l=>(∀ ns p H',rrW l=some ns→Same H H'→H p=none→H' p=some (.lst (ns.map V.int))→Q (.ref p) H')∧(rrW l=none→∀ H',Same H H'→E (.ref aT) none H')
abbrev gz:Stmt:=top 25
theorem iQ:FnScope ["text","row"] ["text"] (aq gz):=⟨rfl,rfl,rfl,by decide +kernel,rfl,by decide +kernel,by decide +kernel⟩
theorem mf {t3 t4:Tok} {aP aT:Addr} (F:Fun K "read_row" "read_row" gz f fd) (B:Bu K mg) (B3:Cq K mg t3 t4) (XC:Xc K mg aP aT) (C_need_text:hZ P w K mg base "need_text" 1 ["thing"] (dr aT)) (C_read_number:Cal P w K mg base "read_number" 2 ["text"] jd):FnOk P w K mg base (CX1 P w) 3 f fd ["text"] (gv aT):=by
  refine Fun.ok1 F iQ (fun vs H Q E h=>?_) (fun cdv A outer s H vs Q E hr h=>?_)
  · obtain ⟨l,rfl,_⟩:=h;rfl
  obtain ⟨v,rfl,h⟩:=h;refine ⟨_,(@ad _ _ _ _ _ (@cJ _ _ _ _ (@g9 _ _ _ _ _ _ _ _ _ _ _ _ C_need_text nz hr (by lia) rfl (@aa _ _ _ _ _ (pv 0) ac (by rfl)) (by decide) (by rfl) (by rfl)) (by rfl)) (@ad _ _ _ _ _ (@fZ _ (1) _ _ _ _ _ _ _ _ _ _ (["word"]) ([none]) _ _ _ _ (iQ).nd rfl (Or.inl rfl) rfl (@cY _ _ _ _ (@bV _ _ _ _ _ _ _ _ _ _ _ _ aaO ab0 ab1 dL (pv 0) (@aa _ _ _ _ _ af ac (by rfl)) (by rfl) (by rfl) (by rfl) (by rfl) (by rfl))) rfl trivial trivial (fun _ _ _ _=>⟨(@aG _ _ (0) _ (show aa8 (["word"]:List Str) by decide +kernel) rfl (Or.inl rfl) (.inr rfl)),bB,(@am _ _ _ _ _ _ _ _ _ _ _ C_read_number hr (by lia) rfl (@aa _ _ _ _ _ (pv 0) ac (by rfl)) (by decide) (by rfl) (by rfl))⟩) (by rfl) (by rfl) (by rfl) (by rfl) (by intro _;rfl) (by rfl) (by first|exact .inl rfl|exact .inr rfl|assumption)) (@ad _ _ _ _ _ (@aV _ _ _ _ _ _ _ _ (@PW.pt _ _ _ (@ck _ _ _ _ _ _ _ (@ai _ _ _ _ _ _ _ _ gn (@ap _ _ _ _ _ _ _ _ _ a6 rfl B.ilen aaI (@aa _ _ _ _ _ (pv 1) ac (by rfl)) (by decide) (by decide) (by rfl) (by rfl)) (@bv _ _ (.int 9) _ _ rfl B3.gMOST_NUMBERS ⟨_,rfl⟩ (by decide)) (ak _)) (@bS _ _ _ _ (@ai _ _ _ _ _ _ _ _ eM aZ (pv 1) (by with_unfolding_all rfl))))) (@ag _ _ _ (@fM _ _ _ _ _ _ _ _ _ _ rz1 XC.eNoText rfl rfl XC.mNoText (by rfl) (by decide))) aB) (@ag _ _ _ (@ar _ _ _ _ (pv 1)))))),?_⟩;rcases h with ⟨l,rfl,⟨ha,hl,h12⟩,q1,q2⟩|⟨d,hd,hn,q⟩
  rotate_left
  · exact ⟨_,rfl,v,rfl,.inr ⟨d,hd,hn,q⟩⟩
  have hw:=i8 l;refine ⟨_,rfl,_,rfl,.inl ⟨_,rfl,?_⟩⟩;refine ⟨_,rfl,rfl,_,_,rfl,rfl,by decide,al (by rw [ah];lia),?_,?_,fun pw nw=>?_⟩
  · rw [cP];exact al (by simp;lia)
  · rw [bD];exact fY _ (by rw [ah];lia)
  rw [cP];have sw:=Same.new nw (.lst (((aJ l).map mkS).map V.str));have ew:upd H pw (.lst (((aJ l).map mkS).map V.str)) pw=_:=upd_same;generalize upd H pw (.lst (((aJ l).map mkS).map V.str))=H1 at sw ew ⊢;have ll:(((aJ l).map mkS).map V.str).length=(aJ l).length:=by simp
  refine ⟨pw,rfl,⟨_,SqL.of ew⟩,?_⟩;refine d5 (Trn.list (xs:=((aJ l).map mkS).map V.str)) (fun i ys H'=>Same H1 H'∧ys=(((aJ l).take i).map bd).map fP) ⟨Same.refl _,rfl⟩ (fun i ys H' hi p=>by rw [p.2];exact ⟨SqL.of (p.1 _ _ ew),aQ (by simp;lia)⟩) (fun i x ys H1 H' hi hx p Nx nx=>?_) (fun ys H' p p5 n5=>?_)
  · obtain ⟨S,rfl⟩:=p;obtain ⟨rfl,hx⟩:=hx;rw [aar,aar] at hx;obtain ⟨z,hz1,rfl⟩:=aaF.mp hx;obtain ⟨wd,hl1,rfl⟩:=aaF.mp hz1;obtain ⟨a,c,e⟩:=i7 (aaM hl1);have:=lI e;refine ⟨_,rfl,wd,rfl,gW e ha,by lia,fun H2 s2=>?_⟩;refine nx _ _ ⟨S.trans s2,?_⟩;rw [aaz,hl1,aaP,aaP];rfl
  obtain ⟨S,rfl⟩:=p;rw [ll,aaL] at *;have s5:=Same.new n5 (.lst (((aJ l).map bd).map fP));have e5:upd H' p5 (.lst (((aJ l).map bd).map fP)) p5=_:=upd_same;have n50:H p5=none:=(sw.trans S).free n5;have S5:=(sw.trans S).trans s5;generalize upd H' p5 (.lst (((aJ l).map bd).map fP))=H2 at s5 e5 S5 ⊢;refine ⟨_,rfl,p5,_,rfl,.inl (SqL.of e5),_,_,rfl,rfl,_,rfl,?_⟩;rw [aaf,aaf];by_cases c9:(aJ l).length≤9
  · rw [decide_eq_false (by lia)];refine av ⟨_,rfl,p5,_,rfl,.inl (SqL.of e5),rfl,j0 _,_,rfl,?_⟩;show if (if false=true then _ else inV .non (((aJ l).map bd).map fP))=true then _ else _
    rw [my];have er:rrW l=fV ((aJ l).map bd):=if_pos c9;cases hall:fV ((aJ l).map bd) with
    | none =>
      rw [decide_eq_true (eS hall)];exact aC (q2 (er.trans hall) H2 S5)
    | some ns =>
      have em:=cB hall;rw [decide_eq_false (by rw [em];simp)];refine av ⟨_,rfl,q1 ns p5 H2 (er.trans hall) S5 n50 ?_⟩;rw [e5,em,abp];rfl
  · rw [decide_eq_true (by lia)];exact aC (aC (q2 (if_neg c9) H2 S5))
open PySem L2
def oN:Sp:=fun vs H Q _=>∃ l,vs=[.str (mkS l)]∧Asc l∧l.length≤900∧∀ H',Same H H'→Q (.str (mkS (wob l))) H'
abbrev cM:Stmt:=top 35
theorem gh:FnScope ["text"] ["text"] (aq cM):=⟨rfl,rfl,rfl,by decide +kernel,rfl,by decide +kernel,by decide +kernel⟩
theorem uY (F:Fun K "without_brackets" "without_brackets" cM f fd) (C_last_joint:Cal P w K mg base "last_joint" 1 ["text"] jf):FnOk P w K mg base CX0 2 f fd ["text"] oN:=by
  refine F.ok gh (fun vs H Q E h=>?_) (fun cdv A outer s H vs Q E hr h=>?_)
  · obtain ⟨l,rfl,_⟩:=h;rfl
  obtain ⟨l,rfl,ha,hl,q⟩:=h;refine ⟨_,(@ad _ _ _ _ _ (@aV _ _ _ _ _ _ _ _ (@PW.pt _ _ _ (@cF _ _ _ _ _ _ _ (@bE _ _ _ (@bV _ _ _ _ _ _ _ _ _ _ _ _ aaO PySem.F.slot_str_startswith PySem.F.type_str_startswith hU (pv 0) (@aa _ _ _ _ _ af ac (by rfl)) (by rfl) (by rfl) (by rfl) (by rfl) (by rfl)) (by intro _;rfl)) (@cF _ _ _ _ _ _ _ (@bE _ _ _ (@bV _ _ _ _ _ _ _ _ _ _ _ _ aaO PySem.F.slot_str_endswith PySem.F.type_str_endswith i0 (pv 0) (@aa _ _ _ _ _ af ac (by rfl)) (by rfl) (by rfl) (by rfl) (by rfl) (by rfl)) (by intro _;rfl)) (@cy _ _ _ _ (@ai _ _ _ _ _ _ _ _ dY (@am _ _ _ _ _ _ _ _ _ _ _ C_last_joint hr (by lia) rfl (@aa _ _ _ _ _ (pv 0) ac (by rfl)) (by decide) (by rfl) (by rfl)) aZ (ak _)))))) (@ag _ _ _ (@ar _ _ _ _ (@aX _ _ _ _ _ _ _ _ _ _ bQ (pv 0) (@aY _ _ _ ae) (@aY _ _ _ (@g8 _ _ _ _ _ _ eU ae))))) aB) (@ag _ _ _ (@ar _ _ _ _ (pv 0)))),?_⟩;have no:¬ (l.head?=some 40∧l.getLast?=some 41∧d7 l=none)→wob l=l:=fun z=>if_neg z;refine ⟨_,rfl,rfl,_,_,rfl,rfl,?_⟩;rw [dW,uM];by_cases h1:l.head?=some 40
  · rw [decide_eq_true h1];refine ⟨true,rfl,aC ⟨_,rfl,rfl,_,_,rfl,rfl,?_⟩⟩;rw [gQ,ye];by_cases h2:l.getLast?=some 41
    · rw [decide_eq_true h2];refine ⟨true,rfl,aC ⟨_,rfl,l,rfl,ha,fun H1 s1=>?_⟩⟩;have e:=mn h1 h2;cases hj:d7 l with
      | none =>
        have ew:wob l=l.tail.dropLast:=if_pos ⟨h1,h2,hj⟩;have ec:bu (mkS l) (some 1) (some (-1))=mkS (wob l):=by
          rw [ew]
          conv=>lhs;rw [e]
          exact om _ 40 41
        refine ⟨rfl,_,rfl,aC ⟨_,rfl,1,rfl,_,rfl,-1,rfl,_,rfl,?_,?_⟩⟩
        · rw [ec,ah];exact al (by have:=mt l;lia)
        · rw [ec];exact q H1 s1
      | some k =>
        have:=q H1 s1;rw [no (fun z=>by rw [hj] at z;cases z.2.2)] at this;exact ⟨rfl,_,rfl,av ⟨_,rfl,this⟩⟩
    · have:=q H (Same.refl _);rw [no (fun z=>h2 z.2.1)] at this;rw [decide_eq_false h2];exact ⟨false,rfl,av (av ⟨_,rfl,this⟩)⟩
  · have:=q H (Same.refl _);rw [no (fun z=>h1 z.1)] at this;rw [decide_eq_false h1];exact ⟨false,rfl,av (av ⟨_,rfl,this⟩)⟩
def jg (n:Nat):Sp:=fun vs H Q _=>∃ l,vs=[.str (mkS l)]∧Asc l∧l.length≤900∧sgn l < n∧∀ v H',Same H H'→OfW (dw n l) v H'→Q v H'
theorem OfW.non {o:Option Wy} {v:V} {H:Hp} (h:OfW o v H):decide (v=.non)=decide (o=none):=by
  cases o with
  | none=>rw [show v=.non from h];simp
  | some w=>rw [lG (show WyIn H w v from h)];simp
theorem OfW.mono {o:Option Wy} {v:V} {H H':Hp} (g:Same H H') (h:OfW o v H):OfW o v H':=by
  cases o with
  | none=>exact h
  | some w=>exact WyIn.mono (Tups.of g) (show WyIn H w v from h)
abbrev gC:Stmt:=top 34
theorem du:FnScope ["text","number","at","left","right"] ["text"] (aq gC):=⟨rfl,rfl,rfl,by decide +kernel,rfl,by decide +kernel,by decide +kernel⟩
theorem sS (F:Fun K "find_way" "find_way" gC f fd) (bF:Binds K fd ["text"] []) (mF:mg "find_way" = some (.ref f)) (C_read_number:Cal P w K mg base "read_number" 2 ["text"] jd) (C_last_joint:Cal P w K mg base "last_joint" 1 ["text"] jf) (C_without_brackets:Cal P w K mg base "without_brackets" 2 ["text"] oN) :
    ∀ n,FnOk P w K mg base CX0 (n+3) f fd ["text"] (jg n):=by
  intro n
  induction n with
  | zero =>
    refine ⟨fun vs H Q E h=>?_,fun A outer s H args us vs Q E _ _ _ _ h=>?_⟩
    · obtain ⟨x,rfl,_⟩:=h;rfl
    · obtain ⟨l,_,_,_,hd,_⟩:=h;lia
  | succ n ih =>
    have C_find_way:Cal P w K mg base "find_way" (n+3) ["text"] (jg n):=⟨f,fd,ih,bF,F.kp,mF⟩
    refine F.ok du (fun vs H Q E h=>?_) (fun cdv A outer s H vs Q E hr h=>?_)
    · obtain ⟨x,rfl,_⟩:=h;rfl
    obtain ⟨l,rfl,ha,hl,hd,q⟩:=h;refine ⟨_,(@ad _ _ _ _ _ (@ao _ _ (1) _ _ _ _ (du).nd rfl (Or.inl rfl) (@am _ _ _ _ _ _ _ _ _ _ _ C_read_number hr (by lia) rfl (@aa _ _ _ _ _ (pv 0) ac (by rfl)) (by decide) (by rfl) (by rfl)) (by rfl) (by first|exact .inl rfl|exact .inr rfl|assumption)) (@ad _ _ _ _ _ (@aV _ _ _ _ _ _ _ _ (@ai _ _ _ _ _ _ _ _ l9 (pv 1) aZ (ak _)) (@ag _ _ _ (@ar _ _ _ _ (pv 1))) aB) (@ad _ _ _ _ _ (@ao _ _ (2) _ _ _ _ (du).nd rfl (Or.inl rfl) (@am _ _ _ _ _ _ _ _ _ _ _ C_last_joint hr (by lia) rfl (@aa _ _ _ _ _ (pv 0) ac (by rfl)) (by decide) (by rfl) (by rfl)) (by rfl) (by first|exact .inl rfl|exact .inr rfl|assumption)) (@ad _ _ _ _ _ (@aV _ _ _ _ _ _ _ _ (@ai _ _ _ _ _ _ _ _ dY (pv 2) aZ (ak _)) (@ag _ _ _ (@ar _ _ _ _ aZ)) aB) (@ad _ _ _ _ _ (@ao _ _ (3) _ _ _ _ (du).nd rfl (Or.inl rfl) (@am _ _ _ _ _ _ _ _ _ _ _ C_find_way hr (by lia) rfl (@aa _ _ _ _ _ (@am _ _ _ _ _ _ _ _ _ _ _ C_without_brackets hr (by lia) rfl (@aa _ _ _ _ _ (@aX _ _ _ _ _ _ _ _ _ _ bQ (pv 0) bi (@aY _ _ _ (pv 2))) ac (by rfl)) (by decide) (by rfl) (by rfl)) ac (by rfl)) (by decide) (by rfl) (by rfl)) (by rfl) (by first|exact .inl rfl|exact .inr rfl|assumption)) (@ad _ _ _ _ _ (@ao _ _ (4) _ _ _ _ (du).nd rfl (Or.inl rfl) (@am _ _ _ _ _ _ _ _ _ _ _ C_find_way hr (by lia) rfl (@aa _ _ _ _ _ (@am _ _ _ _ _ _ _ _ _ _ _ C_without_brackets hr (by lia) rfl (@aa _ _ _ _ _ (@aX _ _ _ _ _ _ _ _ _ _ bQ (pv 0) (@aY _ _ _ (@aj _ _ _ _ _ _ _ _ bt (pv 2) ae)) bi) ac (by rfl)) (by decide) (by rfl) (by rfl)) ac (by rfl)) (by decide) (by rfl) (by rfl)) (by rfl) (by first|exact .inl rfl|exact .inr rfl|assumption)) (@ag _ _ _ (@ar _ _ _ _ (@bO _ _ _ _ _ _ _ _ (@PW.pt _ _ _ (@ck _ _ _ _ _ _ _ (@ai _ _ _ _ _ _ _ _ dY (pv 3) aZ (ak _)) (@bS _ _ _ _ (@ai _ _ _ _ _ _ _ _ dY (pv 4) aZ (ak _))))) aZ (@bT _ _ _ _ _ (@aa _ _ _ _ _ (@aK _ _ _ _ _ _ _ bG (pv 0) (pv 2) (fun _ _=>rfl)) (@aa _ _ _ _ _ (pv 3) (@aa _ _ _ _ _ (pv 4) ac (by rfl)) (by rfl)) (by rfl)))))))))))),?_⟩;refine ⟨_,rfl,l,rfl,ha,hl,fun H1 s1=>?_⟩;unfold dw at q;cases hn:bd l with
    | some i =>
      rw [hn] at q;exact ⟨_,rfl,rfl,_,rfl,aC ⟨_,rfl,q (.int i) H1 s1 rfl⟩⟩
    | none =>
      rw [hn] at q;refine ⟨_,rfl,rfl,_,rfl,av ⟨_,rfl,l,rfl,ha,fun H2 s2=>?_⟩⟩;have s12:=s1.trans s2;cases hj:d7 l with
      | none =>
        rw [hj] at q;exact ⟨_,rfl,rfl,_,rfl,aC (q .non H2 s12 rfl)⟩
      | some k =>
        rw [hj] at q;obtain ⟨c,hc,hs⟩:=nQ hj;have hk:k < l.length:=(aam.mp hc).1;have sl:=split_at hc;have hsum:sgn l=sgn (l.take k)+(sgn (l.drop (k+1))+1):=by
          conv=>lhs;rw [sl,jk,mX _ _ hs]
        have w1:=jj (l.take k);have w2:=jj (l.drop (k+1));have ek:bu (mkS l) none (some ((k:Nat):Int))=mkS (l.take k):=lq _ _ (by lia);have ek2:bu (mkS l) (some (((k:Nat):Int)+1)) none=mkS (l.drop (k+1)):=lu _ (k+1) (by lia);have a1:Asc (l.take k):=c_ ha fun x hx=>abo hx;have a2:Asc (l.drop (k+1)):=c_ ha fun x hx=>abO hx;have l1:=mt (l.take k);have l2:=mt (l.drop (k+1));have b1:(l.take k).length≤900:=by rw [aav];lia
        have b2:(l.drop (k+1)).length≤900:=by rw [aay];lia
        refine ⟨_,rfl,rfl,_,rfl,av ?_⟩;refine ⟨_,rfl,_,rfl,_,rfl,_,rfl,?_,?_⟩
        · rw [ek,ah];exact al (by lia)
        rw [ek];refine ⟨_,rfl,a1,b1,fun H3 s3=>⟨_,rfl,c_ a1 fun x hx=>qv hx,by lia,by lia,fun vl H4 s4 hvl=>?_⟩⟩;refine ⟨_,rfl,_,rfl,_,_,rfl,rfl,_,rfl,_,rfl,?_,?_⟩
        · rw [ek2,ah];exact al (by lia)
        rw [ek2];refine ⟨_,rfl,a2,b2,fun H5 s5=>⟨_,rfl,c_ a2 fun x hx=>qv hx,by lia,by lia,fun vr H6 s6 hvr=>?_⟩⟩;have hvl6:=hvl.mono (s5.trans s6);have S6:=(((s12.trans s3).trans s4).trans s5).trans s6;refine ⟨_,rfl,rfl,_,rfl,?_⟩;rw [hvl6.non];cases el:dw n (wob (l.take k)) with
        | none =>
          simp only [el] at q;exact aC (aC (q .non H6 S6 rfl))
        | some a =>
          refine av ⟨_,rfl,rfl,_,rfl,?_⟩;rw [hvr.non];cases er:dw n (wob (l.drop (k+1))) with
          | none =>
            simp only [el,er] at q;exact aC (q .non H6 S6 rfl)
          | some b =>
            simp only [el,er] at q;rw [el] at hvl6;rw [er] at hvr;have ec:l.getD k 0=c:=by rw [aaW,hc];rfl
            rw [ec] at q;refine av ⟨_,rfl,_,rfl,_,_,c,rfl,rfl,al (by rw [ah];lia),(by rw [bK];exact bA hc),_,rfl,_,rfl,(by show 3≤sizeLine;decide),fun t ht=>?_⟩;have s7:=Same.new ht (.tup [.str ⟨#[c]⟩,vl,vr]);refine q _ _ (S6.trans s7) ⟨t,vl,vr,rfl,?_,WyIn.mono (Tups.of s7) hvl6,WyIn.mono (Tups.of s7) hvr⟩;rw [upd_same,dt,lv hs];rfl
def gu (aT:Addr):Sp:=fun vs H Q E=>RdI aT vs H E fun l=>(∀ w v H',rwW l=some w→Same H H'→WyIn H' w v→Q v H')∧(rwW l=none→∀ H',Same H H'→E (.ref aT) none H')
abbrev gy:Stmt:=top 26
theorem fA:FnScope ["text","signs","way"] ["text"] (aq gy):=⟨rfl,rfl,rfl,by decide +kernel,rfl,by decide +kernel,by decide +kernel⟩
theorem me {tk t3 t4:Tok} {aS aP aT:Addr} (F:Fun K "read_way" "read_way" gy f fd) (B:Bu K mg) (B':Co K mg tk aS) (B3:Cq K mg t3 t4) (XC:Xc K mg aP aT) (C_need_text:hZ P w K mg base "need_text" 1 ["thing"] (dr aT)) (C_find_way:Cal P w K mg base "find_way" 12 ["text"] (jg 9)) (C_write_way:Cal P w K mg base "write_way" 12 ["way"] (lJ 9)):FnOk P w K mg base (CX1 P w) 13 f fd ["text"] (gu aT):=by
  refine Fun.ok1 F fA (fun vs H Q E h=>?_) (fun cdv A outer s H vs Q E hr h=>?_)
  · obtain ⟨l,rfl,_⟩:=h;rfl
  obtain ⟨v,rfl,h⟩:=h;refine ⟨_,(@ad _ _ _ _ _ (@cJ _ _ _ _ (@g9 _ _ _ _ _ _ _ _ _ _ _ _ C_need_text nz hr (by lia) rfl (@aa _ _ _ _ _ (pv 0) ac (by rfl)) (by decide) (by rfl) (by rfl)) (by rfl)) (@ad _ _ _ _ _ (@ao _ _ (1) _ _ _ _ (fA).nd rfl (Or.inl rfl) (@ap _ _ _ _ _ _ _ _ _ (@uq _ rfl) rfl B.isum PyProof.Rows.boot_sum (@aa _ _ _ _ _ (@gm _ _ _ _ _ _ _ _ (["sign","text"]) ([none,some 0]) _ _ _ _ rfl (@o1 _ _ _ _ (@bv _ _ (.ref aS) _ _ rfl B'.gSIGNS rfl (by decide))) rfl ⟨rfl,trivial⟩ ⟨⟨rfl,Or.inl rfl,Or.inl rfl⟩,trivial⟩ (fun _ _ _ _=>⟨(@aG _ _ (0) _ (show aa8 (["sign","text"]:List Str) by decide +kernel) rfl (Or.inl rfl) (.inr rfl)),bB,(@wD _ _ _ _ _ _ _ _ _ _ _ _ _ rfl aaO PySem.F.slot_str_count PySem.F.type_str_count ml (pv 1) (@aa _ _ _ _ _ (pv 0) ac (by rfl)) (by rfl) (by rfl) (by rfl) (by rfl) (by rfl))⟩) (by rfl) (by rfl) (by rfl) (by rfl) (by intro _;rfl)) ac (by rfl)) (by decide) (by decide) (by rfl) (by rfl)) (by rfl) (by first|exact .inl rfl|exact .inr rfl|assumption)) (@ad _ _ _ _ _ (@ao _ _ (2) _ _ _ _ (fA).nd rfl (Or.inl rfl) (@bO _ _ _ _ _ _ _ _ (@ai _ _ _ _ _ _ _ _ iU (pv 1) (@bv _ _ (.int 9) _ _ rfl B3.gMOST_NUMBERS ⟨_,rfl⟩ (by decide)) (ak _)) (@am _ _ _ _ _ _ _ _ _ _ _ C_find_way hr (by lia) rfl (@aa _ _ _ _ _ (pv 0) ac (by rfl)) (by decide) (by rfl) (by rfl)) aZ) (by rfl) (by first|exact .inl rfl|exact .inr rfl|assumption)) (@ad _ _ _ _ _ (@aV _ _ _ _ _ _ _ _ (@PW.pt _ _ _ (@ck _ _ _ _ _ _ _ (@ai _ _ _ _ _ _ _ _ dY (pv 2) aZ (ak _)) (@bS _ _ _ _ (@ai _ _ _ _ _ _ _ _ dX (@am _ _ _ _ _ _ _ _ _ _ _ C_write_way hr (by lia) rfl (@aa _ _ _ _ _ (pv 2) ac (by rfl)) (by decide) (by rfl) (by rfl)) (pv 0) (ak _))))) (@ag _ _ _ (@fM _ _ _ _ _ _ _ _ _ _ rz1 XC.eNoText rfl rfl XC.mNoText (by rfl) (by decide))) aB) (@ag _ _ _ (@ar _ _ _ _ (pv 2))))))),?_⟩;rcases h with ⟨l,rfl,⟨ha,hl,h12⟩,q1,q2⟩|⟨d,hd,hn,q⟩
  rotate_left
  · exact ⟨_,rfl,v,rfl,.inr ⟨d,hd,hn,q⟩⟩
  refine ⟨_,rfl,_,rfl,.inl ⟨_,rfl,?_⟩⟩;refine ⟨aS,rfl,⟨_,B'.sSIGNS H⟩,?_⟩;refine wO (xs:=[.str "+",.str "-",.str "*"]) (fun i ys H'=>H'=H∧ys=(([(l.count 43:Nat),(l.count 45:Nat),(l.count 42:Nat)]:List Int).take i).map V.int) ⟨rfl,rfl⟩ (fun i ys H' hi p=>by obtain ⟨rfl,rfl⟩:=p;exact ⟨B'.sSIGNS _,aQ (by simp;lia)⟩) (fun i x ys H' hx p nx=>?_) (fun ys H' p p5 n5=>?_)
  · obtain ⟨rfl,rfl⟩:=p;have hi:i=0∨i=1∨i=2:=by
      have:=(aam.mp hx).1;simp at this;lia
    have e43:Txt.count (mkS l) ("+":Str)=(l.count 43:Nat):=by rw [show ("+":Str)=mkS [43] by decide +kernel];exact pL _ _
    have e45:Txt.count (mkS l) ("-":Str)=(l.count 45:Nat):=by rw [show ("-":Str)=mkS [45] by decide +kernel];exact pL _ _
    have e42:Txt.count (mkS l) ("*":Str)=(l.count 42:Nat):=by rw [show ("*":Str)=mkS [42] by decide +kernel];exact pL _ _
    rcases hi with rfl|rfl|rfl
    · simp at hx;subst hx;refine ⟨_,rfl,rfl,_,rfl,_,_,rfl,rfl,nx ⟨rfl,?_⟩⟩;rw [e43];rfl
    · simp at hx;subst hx;refine ⟨_,rfl,rfl,_,rfl,_,_,rfl,rfl,nx ⟨rfl,?_⟩⟩;rw [e45];rfl
    · simp at hx;subst hx;refine ⟨_,rfl,rfl,_,rfl,_,_,rfl,rfl,nx ⟨rfl,?_⟩⟩;rw [e42];rfl
  obtain ⟨rfl,rfl⟩:=p;refine ⟨p5,_,rfl,SqL.of upd_same,?_⟩;have S:=Same.new n5 (.lst (([(l.count 43:Nat),(l.count 45:Nat),(l.count 42:Nat)]:List Int).map V.int));by_cases c9:sgn l < 9
  · refine ⟨_,rfl,_,_,rfl,rfl,true,congrArg V.bl (decide_eq_true (by simp;unfold sgn at c9;lia)),aC ⟨_,rfl,l,rfl,ha,by lia,c9,fun v H2 s2 hv=>?_⟩⟩;have S2:=S.trans s2;refine ⟨_,rfl,rfl,_,rfl,?_⟩;rw [hv.non];cases ef:dw 9 l with
    | none =>
      exact aC (aC (q2 (by unfold rwW;rw [if_pos c9,ef]) H2 S2))
    | some wy =>
      rw [ef] at hv;obtain ⟨z1,z2⟩:=j6 9 l wy ef h12;have dl:=wy.deep_le;have hwl:wy.tx.length≤900:=by have:=fu wy z2;lia
      refine av ⟨_,rfl,wy,v,rfl,hv,by lia,by lia,z2,fun H3 s3=>⟨_,rfl,rfl,_,rfl,?_⟩⟩;have ed:decide (V.str (mkS wy.tx)=V.str (mkS l))=decide (wy.tx=l):=bW _ _;by_cases ce:wy.tx=l
      · show if (!decide (V.str (mkS wy.tx)=V.str (mkS l)))=true then _ else _
        rw [ed,decide_eq_true ce];exact av ⟨_,rfl,q1 wy v H3 (by unfold rwW;rw [if_pos c9,ef];exact if_pos ce) (S2.trans s3) (WyIn.mono (Tups.of s3) hv)⟩
      · show if (!decide (V.str (mkS wy.tx)=V.str (mkS l)))=true then _ else _
        rw [ed,decide_eq_false ce];exact aC (q2 (by unfold rwW;rw [if_pos c9,ef];exact if_neg ce) H3 (S2.trans s3))
  · refine ⟨_,rfl,_,_,rfl,rfl,false,congrArg V.bl (decide_eq_false (by simp;unfold sgn at c9;lia)),av ⟨_,rfl,rfl,_,rfl,?_⟩⟩;exact aC (aC (q2 (by unfold rwW;rw [if_neg c9]) _ S))
end
open PySem L2
def stN:List Nat→Option (Int × Int)
  | [a,m,b]=>if m=45∧48≤a∧a < b∧b≤56 then some ((a:Int) - 48,(b:Int) - 48) else none
  | _=>none
theorem mV {z:List Nat} {p:Int × Int} (h:stN z=some p):z=stx p∧Gp p:=by
  match z,h with
  | [a,m,b],h =>
    have h:(if m=45∧48≤a∧a < b∧b≤56 then some ((a:Int) - 48,(b:Int) - 48) else none)=some p:=h;split at h
    · rename_i c;injection h with h
      subst h;obtain ⟨rfl,c1,c2,c3⟩:=c;refine ⟨?_,by unfold Gp;simp only;lia⟩;unfold stx dig;simp only;rw [show 48+((a:Int) - 48).toNat=a by lia,show 48+((b:Int) - 48).toNat=b by lia]
    · cases h
theorem uN {q:Int × Int} (h:Gp q):stN (stx q)=some q:=by
  obtain ⟨a,b⟩:=q;unfold Gp at h;simp only at h;have e:stN [48+a.toNat,45,48+b.toNat]=some (((48+a.toNat:Nat):Int) - 48,((48+b.toNat:Nat):Int) - 48):=if_pos ⟨rfl,by lia,by lia,by lia⟩;refine (show stN (stx (a,b))=_ from e).trans ?_;rw [show ((48+a.toNat:Nat):Int) - 48=a by lia,show ((48+b.toNat:Nat):Int) - 48=b by lia]
theorem w_ {p:Int × Int} (h:Gp p):p∈sfl 9 9:=by
  obtain ⟨g1,g2,g3⟩:=h;have:=uP 9 p.1.toNat p.2.toNat (by lia) (by lia);have e:((p.1.toNat:Int),(p.2.toNat:Int))=p:=by
    obtain ⟨a,b⟩:=p;simp only at *;rw [show (a.toNat:Int)=a by lia,show (b.toNat:Int)=b by lia]
  rw [e] at this;exact this
def rsW (ws:List (List Nat)):Option (List (Int × Int)):=if ws.length≤40 then fV (ws.map stN) else none
def kD:List (List Nat)→Nat
  | []=>0
  | z :: r=>if z=[47] then 0 else kD r+1
theorem mw:∀ ws:List (List Nat),[47]∈ws→ws[kD ws]?=some [47]∧∀ m,m < kD ws→ws[m]?≠some [47]
  | z :: r,h=>by
    unfold kD;by_cases c:z=[47]
    · rw [if_pos c];exact ⟨by rw [c];rfl,fun m hm=>absurd hm (Nat.not_lt_zero _)⟩
    · rw [if_neg c];obtain ⟨h1,h2⟩:=mw r ((aaj.mp h).resolve_left (fun e=>c e.symm));refine ⟨h1,fun m hm=>?_⟩;cases m with
      | zero=>intro e;injection e with e;exact c e
      | succ m=>exact h2 m (by lia)
def rhW (l:List Nat):Option (List (Int × Int) × List (Int × Int)) :=
  if (aJ l).countP (fun z=>decide (z=[47]))=1 then
    match rsW ((aJ l).take (kD (aJ l))),rsW ((aJ l).drop (kD (aJ l)+1)) with
    | some ps,some qs=>some (ps,qs)
    | _,_=>none
  else none
def OvP (H:Hp) (o:Option (Int × Int)) (v:V):Prop:=match o with|none=>v=.non|some p=>fW H p v
def KnX (H:Hp) (kvs:List (Key × V)) (qs:List (Int × Int)):Prop:=∀ z:List Nat,(dG kvs (Sum.inr (mkS z))=none∧∀ q∈qs,q.1 < q.2→stx q≠z)∨∃ q v,q∈qs∧q.1 < q.2∧z=stx q∧dG kvs (Sum.inr (mkS z))=some v∧fW H q v
theorem KnX.mono {H H':Hp} {kvs:List (Key × V)} {qs:List (Int × Int)} (t:Tups H H') (h:KnX H kvs qs):KnX H' kvs qs:=fun z=>by
  rcases h z with h|⟨q,v,h1,h2,h3,h4,a,e,h5⟩
  · exact .inl h
  · exact .inr ⟨q,v,h1,h2,h3,h4,a,e,t _ _ h5⟩
theorem KnX.put {H H':Hp} {kvs:List (Key × V)} {qs:List (Int × Int)} {q:Int × Int} {v:V} (t:Tups H H') (h:KnX H kvs qs) (hq:fW H' q v) (hl:q.1 < q.2):KnX H' (gI kvs (Sum.inr (mkS (stx q))) v) (qs++[q]):=fun z=>by
  rw [rY];by_cases c:(Sum.inr (mkS z):Key)=Sum.inr (mkS (stx q))
  · rw [if_pos c];injection c with c
    exact .inr ⟨q,v,by simp,hl,ff c,rfl,hq⟩
  · rw [if_neg c];rcases (h.mono t) z with ⟨h1,h2⟩|⟨q',v',h1,h2,h3,h4,h5⟩
    · refine .inl ⟨h1,fun x hx hl' e=>?_⟩;rcases aau.mp hx with hx|hx
      · exact h2 x hx hl' e
      · rw [aaN.mp hx] at e;exact c (by rw [e])
    · exact .inr ⟨q',v',aaV _ h1,h2,h3,h4,h5⟩
theorem KnX.skip {H:Hp} {kvs:List (Key × V)} {qs:List (Int × Int)} {q:Int × Int} (h:KnX H kvs qs) (hl:¬ q.1 < q.2):KnX H kvs (qs++[q]):=fun z=>by
  rcases h z with ⟨h1,h2⟩|⟨q',v',h1,h2,h3,h4,h5⟩
  · refine .inl ⟨h1,fun x hx hl' e=>?_⟩;rcases aau.mp hx with hx|hx
    · exact h2 x hx hl' e
    · rw [aaN.mp hx] at hl';exact hl hl'
  · exact .inr ⟨q',v',aaV _ h1,h2,h3,h4,h5⟩
theorem g_ {H:Hp}:∀ {os:List (Option (Int × Int))} {ys:List V},Paired (OvP H) os ys→(V.non∈ys↔none∈os)
  | _,_,.nil=>by simp
  | _,_,.cons (a:=o) (b:=y) h t=>by
    rw [aaj,aaj,g_ t];refine or_congr ?_ Iff.rfl;cases o with
    | none=>rw [show y=.non from h];simp
    | some p=>obtain ⟨a,e,_⟩:=h;subst e;simp
theorem iq {H:Hp}:∀ {ps:List (Int × Int)} {ys:List V},Paired (OvP H) (ps.map some) ys→PairsIn H ps ys
  | [],_,h=>by cases h;exact .nil
  | p :: ps,_,h=>by
    cases h with
    | cons h t=>exact .cons h (iq t)
theorem l8 {H:Hp} {os:List (Option (Int × Int))} {ys:List V} {o:Option (Int × Int)} {y:V} (h:Paired (OvP H) os ys) (g:OvP H o y):Paired (OvP H) (os++[o]) (ys++[y]):=Paired.app h (.cons g .nil)
theorem qt {H:Hp}:∀ {os:List (Option (Int × Int))} {ys:List V},Paired (OvP H) os ys→∀ y∈ys,∃ o,OvP H o y
  | _,_,.nil,y,hy=>nomatch hy
  | _,_,.cons (a:=o) (b:=b) h t,y,hy=>by
    rcases aaj.mp hy with rfl|hy
    · exact ⟨o,h⟩
    · exact qt t y hy
theorem OvP.mono {H H':Hp} {o:Option (Int × Int)} {y:V} (g:Same H H') (h:OvP H o y):OvP H' o y:=by
  cases o with
  | none=>exact h
  | some p=>obtain ⟨a,e,h⟩:=h;exact ⟨a,e,g _ _ h⟩
section
variable {P:Program} {w:World} {K:aaa} {mg:Str→Option Value} {base:Heap} {f:Addr} {fd:FuncData}
def sA (aT:Addr):Sp:=fun vs H Q E=>∃ (a:Addr) (ws:List (List Nat)),vs=[.ref a]∧H a=some (.lst ((ws.map mkS).map V.str))∧ws.length≤401 ∧
  (∀ ps b us H',rsW ws=some ps→Same H H'→H b=none→H' b=some (.lst us)→PairsIn H' ps us→Q (.ref b) H')∧(rsW ws=none→∀ H',Same H H'→E (.ref aT) none H')
abbrev dc:Stmt:=top 38
theorem cU:FnScope ["words","known","stretches"] ["words"] (aq dc):=⟨rfl,rfl,rfl,by decide +kernel,rfl,by decide +kernel,by decide +kernel⟩
theorem gK {t3 t4:Tok} {aP aT:Addr} (F:Fun K "read_stretches" "read_stretches" dc f fd) (B:Bu K mg) (B3:Cq K mg t3 t4) (XC:Xc K mg aP aT) (C_shorter_first:Cal P w K mg base "shorter_first" 1 ["many"] wj) (C_write_stretch:Cal P w K mg base "write_stretch" 1 ["stretch"] wc):FnOk P w K mg base (CX1 P w) 2 f fd ["words"] (sA aT):=by
  refine Fun.ok1 F cU (fun vs H Q E h=>?_) (fun cdv A outer s H vs Q E hr h=>?_)
  · obtain ⟨a,ps,rfl,_⟩:=h;rfl
  obtain ⟨a,ws,rfl,ea,hlw,q1,q2⟩:=h;refine ⟨_,(@ad _ _ _ _ _ (@ao _ _ (1) _ _ _ _ (cU).nd rfl (Or.inr rfl) (@xR _ (.dK []) _ _ _ _ _ _ _ _ (["first","last"]) ([none,none]) _ _ _ _ _ (Or.inl rfl) (u1 hr.units) rfl (@cY _ _ _ _ (@am _ _ _ _ _ _ _ _ _ _ _ C_shorter_first hr (by lia) rfl (@aa _ _ _ _ _ (@bv _ _ (.int 9) _ _ rfl B3.gMOST_NUMBERS ⟨_,rfl⟩ (by decide)) ac (by rfl)) (by decide) (by rfl) (by rfl))) rfl trivial trivial (fun _ _ _ _=>⟨(@lY _ _ _ _ _ _ (2) rfl rfl (@bC _ _ _ _ _ (@aG _ _ (0) _ (show aa8 (["first","last"]:List Str) by decide +kernel) rfl (Or.inl rfl) (.inr rfl)) (@bC _ _ _ _ _ (@aG _ _ (1) _ (show aa8 (["first","last"]:List Str) by decide +kernel) rfl (Or.inl rfl) (.inr rfl)) fc (by rfl)) (by rfl)) (by rfl) (by rfl)),(@jD _ _ _ (@ai _ _ _ _ _ _ _ _ iU (pv 0) (pv 1) (ak _))),(@am _ _ _ _ _ _ _ _ _ _ _ C_write_stretch hr (by lia) rfl (@aa _ _ _ _ _ (@bT _ _ _ _ _ (@aa _ _ _ _ _ (pv 0) (@aa _ _ _ _ _ (pv 1) ac (by rfl)) (by rfl))) ac (by rfl)) (by decide) (by rfl) (by rfl)),(@bT _ _ _ _ _ (@aa _ _ _ _ _ (pv 0) (@aa _ _ _ _ _ (pv 1) ac (by rfl)) (by rfl)))⟩) (by rfl) (by rfl) (by rfl) (by rfl) (by intro _;rfl)) (by rfl) (by first|exact .inl rfl|exact .inr rfl|assumption)) (@ad _ _ _ _ _ (@fZ _ (2) _ _ _ _ _ _ _ _ _ _ (["word","known"]) ([none,some 1]) _ _ _ _ (cU).nd rfl (Or.inl rfl) rfl (@cY _ _ _ _ (pv 0)) rfl ⟨rfl,trivial⟩ ⟨⟨rfl,Or.inl rfl,Or.inl rfl⟩,trivial⟩ (fun _ _ _ _=>⟨(@aG _ _ (0) _ (show aa8 (["word","known"]:List Str) by decide +kernel) rfl (Or.inl rfl) (.inr rfl)),bB,(@sO _ _ _ _ _ _ _ (u1 hr.units) (pv 1) (pv 0) ⟨rfl,rfl,rfl,rfl⟩)⟩) (by rfl) (by rfl) (by rfl) (by rfl) (by intro _;rfl) (by rfl) (by first|exact .inl rfl|exact .inr rfl|assumption)) (@ad _ _ _ _ _ (@aV _ _ _ _ _ _ _ _ (@PW.pt _ _ _ (@ck _ _ _ _ _ _ _ (@ai _ _ _ _ _ _ _ _ gn (@ap _ _ _ _ _ _ _ _ _ a6 rfl B.ilen aaI (@aa _ _ _ _ _ (pv 2) ac (by rfl)) (by decide) (by decide) (by rfl) (by rfl)) (@bv _ _ (.int 40) _ _ rfl B3.gMOST_STRETCHES ⟨_,rfl⟩ (by decide)) (ak _)) (@bS _ _ _ _ (@ai _ _ _ _ _ _ _ _ (sR rfl hr.units) aZ (pv 2) (by with_unfolding_all rfl))))) (@ag _ _ _ (@fM _ _ _ _ _ _ _ _ _ _ rz1 XC.eNoText rfl rfl XC.mNoText (by rfl) (by decide))) aB) (@ag _ _ _ (@ar _ _ _ _ (pv 2)))))),?_⟩;refine ⟨9,rfl,by decide,fun pl us H1 s1 _ el hus=>?_⟩;refine ⟨pl,rfl,⟨_,SqL.of el⟩,?_⟩;have lus:=hus.length;have l81:=qi 9 9;have gd:=sG 9 9;refine yg (Trn.list (xs:=us)) (fun p i H'=>Same H1 H'∧∃ kvs,H' p=some (.dK kvs)∧kvs.length≤i∧KnX H' kvs ((sfl 9 9).take i)) (fun p hp=>⟨Same.new hp _,[],upd_same,aab _,fun z=>.inl ⟨rfl,fun x hx=>by simp at hx⟩⟩) (fun p i H' hi z=>SqL.of (z.1 _ _ el)) (fun p i x H2 H' hp hi hx z Nx nx=>?_) (fun p H2 hp z=>?_)
  · obtain ⟨rfl,hx⟩:=hx;obtain ⟨S,kvs,ek,lk,hk⟩:=z;obtain ⟨r,hri,hrr⟩:=nA (PairsIn.mono (Tups.of S) hus) hx;obtain ⟨b,rfl,hb⟩:=hrr;have hr9:=gd r (aaM hri);have etake:(sfl 9 9).take (i+1)=(sfl 9 9).take i++[r]:=by rw [aaz,hri];rfl
    refine ⟨b,_,rfl,SqT.of hb,rfl,_,_,rfl,_,_,rfl,rfl,?_⟩;refine ⟨_,rfl,_,rfl,_,_,rfl,rfl,_,rfl,kE (fun c=>?_) (fun c=>?_)⟩
    · have c:r.1 < r.2:=of_decide_eq_true c;refine ⟨_,rfl,_,rfl,(by show 2≤sizeLine;decide),fun t ht=>?_⟩;refine ⟨r,.ref t,rfl,⟨t,rfl,upd_same⟩,⟨hr9.1,hr9.2.2.1,hr9.2.1,hr9.2.2.2⟩,?_⟩;have st:=Same.new ht (.tup [.int r.1,.int r.2]);refine ⟨_,rfl,_,rfl,(by show 2≤sizeLine;decide),fun u hu=>?_⟩;have su:=Same.new hu (.tup [.int r.1,.int r.2]);have ek2:=su _ _ (st _ _ ek);have S2:=S.trans (st.trans su);have eu:upd (upd H' t (.tup [.int r.1,.int r.2])) u (.tup [.int r.1,.int r.2]) u=some (.tup [.int r.1,.int r.2]):=upd_same;have T2:=Tups.of (st.trans su);generalize upd (upd H' t (.tup [.int r.1,.int r.2])) u (.tup [.int r.1,.int r.2])=H3 at ek2 S2 eu T2 ⊢;have T3:Tups H3 (upd H3 p (.dK (gI kvs (Sum.inr (mkS (stx r))) (.ref u)))):=fun c xs hc=>by
        rw [aI (fun e=>by rw [e,ek2] at hc;cases hc)];exact hc
      refine ⟨_,DPut.k (k:=Sum.inr (mkS (stx r))) ek2 (aQ (by lia)),nx _ ⟨S2.upd hp,_,upd_same,?_,?_⟩⟩
      · have:=fT kvs (Sum.inr (mkS (stx r))) (.ref u);lia
      · rw [etake];exact KnX.put (T2.trans T3) hk ⟨u,rfl,T3 _ _ eu⟩ c
    · have c:¬ r.1 < r.2:=fun z=>c (decide_eq_true z);refine nx _ ⟨S,kvs,ek,by lia,?_⟩;rw [etake];exact hk.skip c
  obtain ⟨S,kvs,ek,lk,hk⟩:=z;rw [← lus,aaL] at hk;have ea2:=(s1.trans S) _ _ ea;refine ⟨_,rfl,a,rfl,⟨_,SqL.of ea2⟩,?_⟩;have ll:((ws.map mkS).map V.str).length=ws.length:=by simp
  refine d5 (Trn.list (xs:=(ws.map mkS).map V.str)) (fun i ys H'=>H'=H2∧Paired (OvP H2) ((ws.map stN).take i) ys) ⟨rfl,.nil⟩ (fun i ys H' hi z=>by rw [z.1];exact ⟨SqL.of ea2,aQ (by have:=abg z.2;rw [← this,aav,aaf];lia)⟩) (fun i x ys H0 H' hi hx z Nx nx=>?_) (fun ys H' z p5 n5=>?_)
  · obtain ⟨rfl,hx⟩:=hx;obtain ⟨rfl,hy⟩:=z;rw [aar,aar] at hx;obtain ⟨z0,hz0,rfl⟩:=aaF.mp hx;obtain ⟨r,hr2,rfl⟩:=aaF.mp hz0;have etk:(ws.map stN).take (i+1)=(ws.map stN).take i++[stN r]:=by rw [aaz,aar,hr2];rfl
    rcases hk r with ⟨h1,h2⟩|⟨q0,v,h1,h2,h3,h4,h5⟩
    · have e0:stN r=none:=by
        cases e:stN r with
        | none=>rfl
        | some p0 =>
          obtain ⟨e1,g0⟩:=mV e;exact absurd e1.symm (h2 p0 (w_ g0) g0.2.1)
      refine ⟨_,rfl,p,rfl,.inl ⟨kvs,.inl ek⟩,_,rfl,none,?_,nx _ _ ⟨rfl,?_⟩⟩
      · rw [← h1];exact DGet.k (k:=Sum.inr (mkS r)) ek
      · rw [etk,e0];exact l8 hy rfl
    · have g0:=gd q0 h1;have e0:stN r=some q0:=by rw [h3];exact uN ⟨g0.1,h2,g0.2.2.2⟩
      refine ⟨_,rfl,p,rfl,.inl ⟨kvs,.inl ek⟩,_,rfl,some v,?_,nx _ _ ⟨rfl,?_⟩⟩
      · rw [← h4];exact DGet.k (k:=Sum.inr (mkS r)) ek
      · rw [etk,e0];exact l8 hy h5
  obtain ⟨rfl,hy⟩:=z;rw [ll,← aaf (f:=stN),aaL] at hy;have s5:=Same.new n5 (.lst ys);have e5:upd H' p5 (.lst ys) p5=some (.lst ys):=upd_same;have n50:H p5=none:=(s1.trans S).free n5;have hy5:=Paired.mapP hy fun _ _ z=>OvP.mono s5 z;have ly:=abg hy;rw [aaf] at ly;have S5:=(s1.trans S).trans s5;generalize upd H' p5 (.lst ys)=H3 at s5 e5 hy5 S5 ⊢;refine ⟨_,rfl,p5,_,rfl,.inl (SqL.of e5),_,_,rfl,rfl,_,rfl,?_⟩;by_cases c40:ws.length≤40
  · rw [decide_eq_false (by lia)];have er:rsW ws=fV (ws.map stN):=if_pos c40;have hn:=g_ hy5;refine av ⟨_,rfl,p5,ys,rfl,rfl,SqL.of e5,fun v hv=>?_,_,rfl,?_⟩
    · obtain ⟨o,h⟩:=qt hy5 v hv;cases o with
      | none=>exact .inl h
      | some p0=>obtain ⟨b,e,h⟩:=h;exact .inr ⟨b,_,e,SqT.of h⟩
    cases hall:fV (ws.map stN) with
    | none =>
      rw [decide_eq_true (hn.mpr (eS hall))];exact aC (q2 (er.trans hall) H3 S5)
    | some ps =>
      have em:=cB hall;rw [decide_eq_false (fun z=>by rw [hn,em] at z;simp at z)];refine av ⟨_,rfl,q1 ps p5 ys H3 (er.trans hall) S5 n50 e5 ?_⟩;rw [em] at hy5;exact iq hy5
  · rw [decide_eq_true (by lia)];exact aC (aC (q2 (if_neg c40) H3 S5))
def sB (aT:Addr):Sp:=fun vs H Q E=>RdI aT vs H E fun l=>(∀ ps qs t H',rhW l=some (ps,qs)→Same H H'→NewHd H H' ps qs t→Q (.ref t) H')∧(rhW l=none→∀ H',Same H H'→E (.ref aT) none H')
theorem uk (ws:List (List Nat)):(ws.map mkS).countP (fun z=>decide (z=mkS [47]))=ws.countP (fun z=>decide (z=[47])):=by
  rw [List.countP_map];refine List.countP_congr fun z _=>?_;show decide (mkS z=mkS [47])=true↔decide (z=[47])=true;rw [decide_eq_true_eq,decide_eq_true_eq];exact ⟨fun h=>ff h,fun h=>by rw [h]⟩
abbrev eY:Stmt:=top 27
theorem d8:FnScope ["text","words","middle"] ["text"] (aq eY):=⟨rfl,rfl,rfl,by decide +kernel,rfl,by decide +kernel,by decide +kernel⟩
theorem jJ {aP aT:Addr} (F:Fun K "read_holds" "read_holds" eY f fd) (B:Bu K mg) (XC:Xc K mg aP aT) (C_need_text:hZ P w K mg base "need_text" 1 ["thing"] (dr aT)) (C_read_stretches:hZ P w K mg base "read_stretches" 2 ["words"] (sA aT)):FnOk P w K mg base (CX1 P w) 3 f fd ["text"] (sB aT):=by
  refine Fun.ok1 F d8 (fun vs H Q E h=>?_) (fun cdv A outer s H vs Q E hr h=>?_)
  · obtain ⟨l,rfl,_⟩:=h;rfl
  obtain ⟨v,rfl,h⟩:=h;refine ⟨_,(@ad _ _ _ _ _ (@cJ _ _ _ _ (@g9 _ _ _ _ _ _ _ _ _ _ _ _ C_need_text nz hr (by lia) rfl (@aa _ _ _ _ _ (pv 0) ac (by rfl)) (by decide) (by rfl) (by rfl)) (by rfl)) (@ad _ _ _ _ _ (@ao _ _ (1) _ _ _ _ (d8).nd rfl (Or.inl rfl) (@bV _ _ _ _ _ _ _ _ _ _ _ _ aaO ab0 ab1 dL (pv 0) (@aa _ _ _ _ _ af ac (by rfl)) (by rfl) (by rfl) (by rfl) (by rfl) (by rfl)) (by rfl) (by first|exact .inl rfl|exact .inr rfl|assumption)) (@ad _ _ _ _ _ (@aV _ _ _ _ _ _ _ _ (@ai _ _ _ _ _ _ _ _ dX (@bV _ _ _ _ _ _ _ _ _ _ _ _ aaC acm aco kU (pv 1) (@aa _ _ _ _ _ af ac (by rfl)) (by rfl) (by rfl) (by rfl) (by rfl) (by rfl)) ae (ak _)) (@ag _ _ _ (@fM _ _ _ _ _ _ _ _ _ _ rz1 XC.eNoText rfl rfl XC.mNoText (by rfl) (by decide))) aB) (@ad _ _ _ _ _ (@ao _ _ (2) _ _ _ _ (d8).nd rfl (Or.inl rfl) (@bV _ _ _ _ _ _ _ _ _ _ _ _ aaC acn acp rm (pv 1) (@aa _ _ _ _ _ af ac (by rfl)) (by rfl) (by rfl) (by rfl) (by rfl) (by rfl)) (by rfl) (by first|exact .inl rfl|exact .inr rfl|assumption)) (@ag _ _ _ (@ar _ _ _ _ (@bT _ _ _ _ _ (@aa _ _ _ _ _ (@g9 _ _ _ _ _ _ _ _ _ _ _ _ C_read_stretches nz hr (by lia) rfl (@aa _ _ _ _ _ (@aX _ _ _ _ _ _ _ _ _ _ dj (pv 1) bi (@aY _ _ _ (pv 2))) ac (by rfl)) (by decide) (by rfl) (by rfl)) (@aa _ _ _ _ _ (@g9 _ _ _ _ _ _ _ _ _ _ _ _ C_read_stretches nz hr (by lia) rfl (@aa _ _ _ _ _ (@aX _ _ _ _ _ _ _ _ _ _ dj (pv 1) (@aY _ _ _ (@aj _ _ _ _ _ _ _ _ bt (pv 2) ae)) bi) ac (by rfl)) (by decide) (by rfl) (by rfl)) ac (by rfl)) (by rfl))))))))),?_⟩;rcases h with ⟨l,rfl,⟨ha,hl,h12⟩,q1,q2⟩|⟨d,hd,hn,q⟩
  rotate_left
  · exact ⟨_,rfl,v,rfl,.inr ⟨d,hd,hn,q⟩⟩
  have hw:=i8 l;refine ⟨_,rfl,_,rfl,.inl ⟨_,rfl,?_⟩⟩;refine ⟨_,rfl,rfl,_,_,rfl,rfl,by decide,al (by rw [ah];lia),?_,?_,fun pw nw=>?_⟩
  · rw [cP];exact al (by simp;lia)
  · rw [bD];exact fY _ (by rw [ah];lia)
  rw [cP];have sw:=Same.new nw (.lst (((aJ l).map mkS).map V.str));have ew:upd H pw (.lst (((aJ l).map mkS).map V.str)) pw=some (.lst (((aJ l).map mkS).map V.str)):=upd_same;generalize upd H pw (.lst (((aJ l).map mkS).map V.str))=H1 at sw ew ⊢;unfold rhW at q1 q2;generalize aJ l=ws at hw ew q1 q2 ⊢;refine ⟨_,rfl,.inl ⟨rfl,_,SqL.of ew⟩,pw,_,_,rfl,rfl,SqL.of ew,?_⟩;rw [ig,uk];by_cases c1:ws.countP (fun z=>decide (z=[47]))=1
  rotate_left
  · refine ⟨rfl,true,?_,aC (q2 (if_neg c1) H1 sw)⟩;show V.bl (!decide (V.int ((ws.countP fun z=>decide (z=[47]):Nat):Int)=V.int 1))=V.bl true;rw [decide_eq_false (fun z=>by injection z with z;lia)];rfl
  rw [if_pos c1] at q1 q2;refine ⟨rfl,false,by rw [c1];rfl,av ?_⟩;have hmem:[47]∈ws:=by
    have:=List.countP_pos_iff.mp (show 0 < ws.countP (fun z=>decide (z=[47])) by lia);obtain ⟨z,hz,e⟩:=this;rw [of_decide_eq_true e] at hz;exact hz
  obtain ⟨i1,i2⟩:=mw ws hmem;have hk:kD ws < ws.length:=(aam.mp i1).1;generalize kD ws=k at i1 i2 hk q1 q2;refine ⟨_,rfl,.inl ⟨rfl,_,SqL.of ew⟩,pw,ws.map mkS,mkS [47],k,rfl,rfl,SqL.of ew,by rw [aar,i1];rfl,fun m hm z=>?_,by rw [aaf];lia,?_⟩
  · rw [aar] at z;obtain ⟨x,hx,e⟩:=aaF.mp z;exact i2 m hm (by rw [hx,ff e])
  refine ⟨_,rfl,_,rfl,(k:Nat),rfl,pw,_,rfl,SqL.of ew,fun p2 n2=>?_⟩;have ll:((ws.map mkS).map V.str).length=ws.length:=by simp
  rw [ge _ _ (by lia)];have e1:((ws.map mkS).map V.str).take k=((ws.take k).map mkS).map V.str:=by rw [abW,abW]
  have e2:((ws.map mkS).map V.str).drop (k+1)=((ws.drop (k+1)).map mkS).map V.str:=by rw [abV,abV]
  rw [e1];have s2:=Same.new n2 (.lst (((ws.take k).map mkS).map V.str));refine ⟨p2,ws.take k,rfl,upd_same,by rw [aav];lia,fun ps a us H3 hps s3 na ea pa=>?_,fun hno H3 s3=>q2 (by simp only [hno]) H3 (sw.trans (s2.trans s3))⟩;have S3:=s2.trans s3;refine ⟨_,rfl,_,rfl,_,_,rfl,rfl,(k:Int)+1,rfl,pw,_,rfl,SqL.of (S3 _ _ ew),fun p4 n4=>?_⟩;have e3:(k:Int)+1=((k+1:Nat):Int):=by lia
  rw [e3,ln _ _ (by lia),e2];have s4:=Same.new n4 (.lst (((ws.drop (k+1)).map mkS).map V.str));refine ⟨p4,ws.drop (k+1),rfl,upd_same,by rw [aay];lia,fun qs b vs H5 hqs s5 nb eb pb=>⟨(by show 2≤sizeLine;decide),fun t ht=>?_⟩,fun hno H5 s5=>q2 (by simp only [hps,hno]) H5 ((sw.trans S3).trans (s4.trans s5))⟩;have st:=Same.new ht (.tup [.ref a,.ref b]);have S5:=s4.trans s5;have hb3:H3 b=none:=s4.free nb;have ha1:H1 a=none:=s2.free na;have hb1:H1 b=none:=S3.free hb3;exact q1 ps qs t _ (by simp only [hps,hqs]) ((((sw.trans S3).trans S5)).trans st) ⟨a,b,us,vs,upd_same,(fun e=>by rw [← e,ea] at hb3;cases hb3),sw.free ha1,sw.free hb1,st _ _ (S5 _ _ ea),st _ _ eb,PairsIn.mono (Tups.of (S5.trans st)) pa,PairsIn.mono (Tups.of st) pb⟩
end
open PySem L2
theorem mS (l:List Nat) (c:Nat):decide (l.take 1=[c])=decide (l.head?=some c):=by
  cases l with
  | nil=>simp
  | cons a r=>simp
theorem vw (l:List Nat):bu (mkS l) none (some 1)=mkS (l.take 1):=by
  cases l with
  | nil=>decide +kernel
  | cons a r=>exact lq (a :: r) 1 (by simp)
theorem yH (b:Bool):(if b=true then (1:Int) else 0)=((if b=true then 1 else 0:Nat):Int):=by cases b <;> rfl
theorem mi (l:List Nat):nop l=l.drop (if decide (l.head?=some 126)=true then 1 else 0):=by
  unfold nop;by_cases c:l.head?=some 126
  · rw [if_pos c,decide_eq_true c,if_pos rfl];cases l <;> rfl
  · rw [if_neg c,decide_eq_false c];rfl
theorem rM (c:Nat):(!(!(aaB ("0123456789":Str) (mkS [c]) 0 ("0123456789":Str).length 1).isEmpty))=!isD c:=by
  rw [mC];rfl
section
variable {P:Program} {w:World} {K:aaa} {mg:Str→Option Value} {base:Heap} {f:Addr} {fd:FuncData}
def lM:Sp:=fun vs H Q _=>∃ l,vs=[.str (mkS l)]∧Asc l∧l.length≤640∧R12 l∧∀ H',Same H H'→Q (fP (bd l)) H'
abbrev eB:Stmt:=top 54
theorem fC:FnScope ["word","figures"] ["word"] (aq eB):=⟨rfl,rfl,rfl,by decide +kernel,rfl,by decide +kernel,by decide +kernel⟩
theorem kw (F:Fun K "_law_number" "_law_number" eB f fd) (B:Bu K mg):FnOk P w K mg base CX0 1 f fd ["word"] lM:=by
  refine F.ok fC (fun vs H Q E h=>?_) (fun cdv A outer s H vs Q E hr h=>?_)
  · obtain ⟨l,rfl,_⟩:=h;rfl
  obtain ⟨l,rfl,ha,hl,h12,q⟩:=h;refine ⟨_,(@ad _ _ _ _ _ (@ao _ _ (1) _ _ _ _ (fC).nd rfl (Or.inl rfl) (@aX _ _ _ _ _ _ _ _ _ _ bQ (pv 0) (@aY _ _ _ (@bn _ _ _ _ _ _ _ _ _ cA rfl B.iint aaA (@aa _ _ _ _ _ (@bp _ _ _ _ _ _ _ _ bc (@aX _ _ _ _ _ _ _ _ _ _ bQ (pv 0) bi (@aY _ _ _ ae)) af (ak _)) ac (by rfl)) (by decide) (by decide) (by rfl) (by rfl))) bi) (by rfl) (by first|exact .inl rfl|exact .inr rfl|assumption)) (@ad _ _ _ _ _ (@aV _ _ _ _ _ _ _ _ (@PW.pt _ _ _ (@ck _ _ _ _ _ _ _ (@ai _ _ _ _ _ _ _ _ bc (pv 1) af (ak _)) (@bS _ _ _ _ (@ai _ _ _ _ _ _ _ _ (@wF _ hr.units) (@gm _ _ _ _ _ _ _ _ (["sign"]) ([none]) _ _ _ _ rfl (@lX _ _ _ _ (pv 1)) rfl trivial trivial (fun _ _ _ _=>⟨(@aG _ _ (0) _ (show aa8 (["sign"]:List Str) by decide +kernel) rfl (Or.inl rfl) (.inr rfl)),(@jD _ _ _ (@ai _ _ _ _ _ _ _ _ dJ (pv 0) af (by with_unfolding_all rfl))),(pv 0)⟩) (by rfl) (by rfl) (by rfl) (by rfl) (by intro _;rfl)) (@a9 _ _ _ _ ac) (ak _))))) (@ag _ _ _ (@ar _ _ _ _ aZ)) aB) (@ad _ _ _ _ _ (@aV _ _ _ _ _ _ _ _ (@PW.pt _ _ _ (@cF _ _ _ _ _ _ _ (@ai _ _ _ _ _ _ _ _ bc (@aK _ _ _ _ _ _ _ bG (pv 1) ae (fun _ _=>rfl)) af (ak _)) (@cy _ _ _ _ (@ai _ _ _ _ _ _ _ _ dX (pv 0) af (ak _))))) (@ag _ _ _ (@ar _ _ _ _ aZ)) aB) (@ag _ _ _ (@ar _ _ _ _ (@aj _ _ _ _ _ _ _ _ fe (@bn _ _ _ _ _ _ _ _ _ cj rfl B.iint aaA (@aa _ _ _ _ _ (pv 1) ac (by rfl)) (by decide) (by decide) (by rfl) (by rfl)) (@aK _ _ _ _ _ _ _ ix_list (@a9 _ _ _ _ (@aa _ _ _ _ _ ae (@aa _ _ _ _ _ (@g8 _ _ _ _ _ _ eU ae) ac (by rfl)) (by rfl))) (@bn _ _ _ _ _ _ _ _ _ cA rfl B.iint aaA (@aa _ _ _ _ _ (@bp _ _ _ _ _ _ _ _ bc (@aX _ _ _ _ _ _ _ _ _ _ bQ (pv 0) bi (@aY _ _ _ ae)) af (ak _)) ac (by rfl)) (by decide) (by decide) (by rfl) (by rfl)) (fun _ _=>rfl)))))))),?_⟩;have e1:decide (V.str (bu (mkS l) none (some 1))=V.str ("~":Str))=decide (l.head?=some 126):=by rw [vw,oy,bW,mS]
  have l1:(bu (mkS l) none (some 1)).length≤sizeLine:=by rw [vw,ah,aav];exact al (by lia)
  have hn:bu (mkS l) (some (if decide (l.head?=some 126)=true then (1:Int) else 0)) none=mkS (nop l):=by
    rw [yH,mi];refine lu l _ ?_;by_cases c:l.head?=some 126
    · rw [decide_eq_true c,if_pos rfl];cases l with
      | nil=>cases c
      | cons a r=>simp
    · rw [decide_eq_false c];exact aaK _
  have lnop:(nop l).length≤l.length:=by rw [mi,aay];lia
  have hna:Asc (nop l):=c_ ha fun c hc=>by rw [mi] at hc;exact abO hc
  refine ⟨_,rfl,_,rfl,1,rfl,_,rfl,l1,rfl,.inr ⟨_,rfl,?_⟩⟩;refine ⟨_,rfl,_,rfl,?_⟩;rw [e1,hn];refine ⟨by rw [ah];exact al (by lia),?_⟩;have e0:decide (V.str (mkS (nop l))=V.str ("":Str))=decide (nop l=[]):=by rw [tY];exact bW _ []
  refine ⟨_,rfl,rfl,_,rfl,?_⟩;rw [e0];have q0:bU (nop l)=false∨l=[126,48]→∀ H',Same H H'→Q .non H':=fun z H' s=>by
    have:=q H' s;rw [show bd l=none from if_pos z] at this;exact this
  by_cases c0:nop l=[]
  · rw [decide_eq_true c0];exact aC (aC (q0 (.inl (by unfold bU;rw [if_pos (.inl c0)])) H (Same.refl _)))
  rw [decide_eq_false c0];refine av ⟨_,rfl,_,rfl,hna,?_⟩;refine tu (fun i ys H'=>H'=H∧ys=(((nop l).take i).filter fun c=>!isD c).map ch) ⟨rfl,rfl⟩ (fun i ys H' hi p=>by
    rw [p.2,aaf];have h1:=List.length_filter_le (fun c=>!isD c) ((nop l).take i);rw [aav] at h1;exact aQ (by lia)) (fun i cc ys H' hx p nx=>?_) (fun ys H' p p5 n5=>?_)
  · obtain ⟨rfl,rfl⟩:=p;rw [iC] at hx;refine ⟨_,rfl,_,_,rfl,rfl,?_⟩;rw [iV,rM];have etk:(nop l).take (i+1)=(nop l).take i++[cc]:=by rw [aaz,hx];rfl
    cases hd:isD cc with
    | true =>
      refine ⟨false,rfl,av (nx ⟨rfl,?_⟩)⟩;rw [etk,List.filter_append];simp [hd]
    | false =>
      refine ⟨true,rfl,aC ⟨_,rfl,nx ⟨rfl,?_⟩⟩⟩;rw [etk,List.filter_append,aaP];simp [hd,ch]
  obtain ⟨rfl,rfl⟩:=p;rw [fR,aaL] at *;have S5:=Same.new n5 (.lst (((nop l).filter fun c=>!isD c).map ch));have e5:upd H' p5 (.lst (((nop l).filter fun c=>!isD c).map ch)) p5=_:=upd_same;generalize upd H' p5 (.lst (((nop l).filter fun c=>!isD c).map ch))=H5 at S5 e5 ⊢;refine ⟨aaK _,fun p6 n6=>⟨0,p5,p6,_,[],by decide,rfl,rfl,SqL.of ((Same.new n6 _) _ _ e5),SqL.of upd_same,?_⟩⟩;have S6:=S5.trans (Same.new n6 (.lst []));generalize upd H5 p6 (.lst [])=H6 at S6 ⊢;by_cases cd:(nop l).all isD=true
  rotate_left
  · refine .inl ⟨fun z=>cd ?_,true,rfl,aC (q0 (.inl (by unfold bU;rw [if_pos (.inr (by simpa using cd))])) H6 S6)⟩;rw [aaf] at z;have z:=ack.mp z;rw [List.filter_eq_nil_iff] at z;exact List.all_eq_true.mpr fun x hx=>by have:=z x hx;simpa using this
  have hdig:∀ c∈nop l,48≤c∧c≤57:=fun c hc=>of_decide_eq_true (aaU.mp cd c hc);have ef:((nop l).filter fun c=>!isD c).map ch=[]:=by
    rw [List.map_eq_nil_iff,List.filter_eq_nil_iff];intro a ha;have:=aaU.mp cd a ha;simp [this]
  refine .inr ⟨fun _=>true,by rw [ef],(fun j x y h=>by rw [ef] at h;simp at h),false,by rw [ef];rfl,av ?_⟩;obtain ⟨a,r,ear⟩:∃ a r,nop l=a :: r:=by
    cases h:nop l with
    | nil=>exact absurd h c0
    | cons a r=>exact ⟨a,r,rfl⟩
  have z48:∀ b,decide (V.str (⟨#[b]⟩:Str)=V.str ("0":Str))=decide (b=48):=fun b=>by
    rw [show ("0":Str)=mkS [48] by decide +kernel,iV,bW];simp
  have ew0:decide (V.str (mkS l)=V.str ("0":Str))=decide (l=[48]):=by rw [show ("0":Str)=mkS [48] by decide +kernel];exact bW l [48]
  have ea:atI (mkS (nop l)).cps.toList 0=some a:=by rw [bK,ear];exact bA (j:=0) rfl
  have lz:(mkS (nop l)).length≤sizeLine:=by rw [ah];exact al (by lia)
  have hgood:bU (nop l)=true→l≠[126,48]→bd l=some (if l.head?=some 126 then -(rd (nop l):Int) else rd (nop l)):=fun h1 h2=>by
    unfold bd;rw [if_neg];rintro (z|z)
    · rw [h1] at z;cases z
    · exact h2 z
  have hf:bU (nop l)=(decide (nop l=[48]) || !decide ((nop l).head?=some 48)):=by
    unfold bU;rw [if_neg];rintro (z|z);exact c0 z;rw [cd] at z;cases z
  refine ⟨_,rfl,_,_,_,rfl,rfl,lz,ea,rfl,_,rfl,?_⟩;rw [z48];by_cases hN:bU (nop l)=true∧l≠[126,48]
  rotate_left
  · have hN':bU (nop l)=false∨l=[126,48]:=by
      cases h:bU (nop l) with
      | false=>exact .inl rfl
      | true=>exact .inr (by
          by_cases z:l=[126,48]
          · exact z
          · exact absurd ⟨h,z⟩ hN)
    have c48:a=48:=by
      rcases hN' with z|z
      · rw [hf,ear] at z;by_cases c:a=48
        · exact c
        · simp [c] at z
      · rw [z] at ear;have e:nop [126,48]=[48]:=rfl;rw [e] at ear;injection ear with e1 e2
        exact e1.symm
    have cl:l≠[48]:=fun z=>by
      rcases hN' with h|h
      · rw [z] at h;exact absurd h (by decide)
      · rw [z] at h;cases h
    rw [decide_eq_true c48];refine aC ⟨_,rfl,rfl,_,rfl,?_⟩;show if (!decide (V.str (mkS l)=V.str ("0":Str)))=true then _ else _
    rw [ew0,decide_eq_false cl];exact aC (q0 hN' H6 S6)
  · have e:=hgood hN.1 hN.2;have cl:a=48→l=[48]:=fun c48=>by
      have h:=hN.1;rw [hf,ear,c48] at h;have h2:nop l=[48]:=by
        rw [ear,c48];simpa using h
      unfold nop at h2;split at h2
      · cases l with
        | nil=>cases h2
        | cons x y =>
          rename_i z;have z:x=126:=by simpa using z
          exact absurd (by rw [z,show y=[48] from h2]) hN.2
      · exact h2
    have h12n:(nop l).length≤12:=h12 (l.take (if decide (l.head?=some 126)=true then 1 else 0)) (nop l) [] (by rw [mi];simp) hdig;have hb:=vG hdig h12n;by_cases c48:a=48
    all_goals first
      | (rw [decide_eq_true c48]
         refine aC ⟨_,rfl,rfl,_,rfl,?_⟩;show if (!decide (V.str (mkS l)=V.str ("0":Str)))=true then _ else _
         rw [ew0,decide_eq_true (cl c48)];refine av ?_)
      | (rw [decide_eq_false c48]
         refine av ?_)
    all_goals
      refine ⟨_,rfl,_,_,rfl,tO hdig c0 (by lia),by rw [ah];lia,?_⟩;refine ⟨_,rfl,(by show 2≤sizeLine;decide),fun p7 n7=>?_⟩;refine ⟨_,rfl,1,rfl,_,rfl,l1,rfl,.inr ⟨_,rfl,?_⟩⟩;have S7:=S6.trans (Same.new n7 (.lst [.int 1,.int (-1)]));have gd:=q _ S7;rw [e] at gd;rw [e1];by_cases c:l.head?=some 126
      · rw [decide_eq_true c,if_pos rfl];rw [if_pos c] at gd;refine ⟨p7,_,_,_,rfl,rfl,SqL.of upd_same,rfl,_,_,rfl,rfl,.inr ⟨by decide,by decide⟩,?_⟩;show Q (V.int ((rd (nop l):Nat) * -1:Int)) _;rw [show ((rd (nop l):Nat):Int) * -1=-(rd (nop l):Int) by lia];exact gd
      · rw [decide_eq_false c];rw [if_neg c] at gd;refine ⟨p7,_,_,_,rfl,rfl,SqL.of upd_same,rfl,_,_,rfl,rfl,.inr ⟨by decide,by decide⟩,?_⟩;show Q (V.int ((rd (nop l):Nat) * 1:Int)) _;rw [Int.mul_one];exact gd
end
open PySem L2
theorem sF (c:Nat):(!(aaB ("+-*":Str) (mkS [c]) 0 ("+-*":Str).length 1).isEmpty)=decide (sgC c):=by
  have:=StrLaws.found_one ("+-*":Str) c;have e:mkS [c]=⟨#[c]⟩:=rfl;rw [e,this,show ("+-*":Str)=mkS [43,45,42] by decide +kernel,bK,aaH,decide_eq_true_eq,decide_eq_true_eq];simp only [aaj,abz,or_false,sgC]
theorem uu {l:List Nat} {k c:Nat} (h:l[k]?=some c):atI (mkS l).cps.toList ((k:Nat):Int)=some c:=by
  rw [bK];exact bA h
theorem d3 (a b:Int):decide (V.int a=V.int b)=decide (a=b):=by
  by_cases h:a=b
  · subst h;rw [decide_eq_true rfl,decide_eq_true rfl]
  · rw [decide_eq_false h,decide_eq_false (fun z=>by injection z with z;exact h z)]
section
variable {P:Program} {w:World} {K:aaa} {mg:Str→Option Value} {base:Heap} {f:Addr} {fd:FuncData}
def qf:Sp:=fun vs H Q _=>∃ (l:List Nat) (p:Nat),vs=[.str (mkS l),.int p]∧l.length≤900∧p≤l.length∧∀ H',Same H H'→Q (sQ (fq l p)) H'
abbrev gF:Stmt:=top 55
theorem d4:FnScope ["text","at","deep","place"] ["text","at"] (aq gF):=⟨rfl,rfl,rfl,by decide +kernel,rfl,by decide +kernel,by decide +kernel⟩
theorem o6 (F:Fun K "_law_end" "_law_end" gF f fd) (B:Bu K mg):FnOk P w K mg base CX0 1 f fd ["text","at"] qf:=by
  refine F.ok d4 (fun vs H Q E h=>?_) (fun cdv A outer s H vs Q E hr h=>?_)
  · obtain ⟨l,p,rfl,_⟩:=h;rfl
  obtain ⟨l,p,rfl,hl,hp,q⟩:=h;refine ⟨_,(@ad _ _ _ _ _ (@ao _ _ (2) _ _ _ _ (d4).nd rfl (Or.inl rfl) ae (by rfl) (by first|exact .inl rfl|exact .inr rfl|assumption)) (@ad _ _ _ _ _ (@cX _ _ _ _ _ _ _ _ aaT rfl (@rf _ _ _ _ _ _ _ rfl B.irange (@aa _ _ _ _ _ (pv 1) (@aa _ _ _ _ _ (@ap _ _ _ _ _ _ _ _ _ bH rfl B.ilen aaI (@aa _ _ _ _ _ (pv 0) ac (by rfl)) (by decide) (by decide) (by rfl) (by rfl)) ac (by rfl)) (by rfl)) (by rfl) (by rfl)) (@aG _ _ (3) _ (d4).nd rfl (Or.inl rfl) (.inl rfl)) (@ad _ _ _ _ _ (@ao _ _ (2) _ _ _ _ (d4).nd rfl (Or.inl rfl) (@aj _ _ _ _ _ _ _ _ dC (@aj _ _ _ _ _ _ _ _ bt (pv 2) (@bn _ _ _ _ _ _ _ _ _ cA rfl B.iint aaA (@aa _ _ _ _ _ (@bp _ _ _ _ _ _ _ _ bc (@aK _ _ _ _ _ _ _ bG (pv 0) (pv 3) (fun _ _=>rfl)) af (ak _)) ac (by rfl)) (by decide) (by decide) (by rfl) (by rfl))) (@bn _ _ _ _ _ _ _ _ _ cA rfl B.iint aaA (@aa _ _ _ _ _ (@bp _ _ _ _ _ _ _ _ bc (@aK _ _ _ _ _ _ _ bG (pv 0) (pv 3) (fun _ _=>rfl)) af (ak _)) ac (by rfl)) (by decide) (by decide) (by rfl) (by rfl))) (by rfl) (by first|exact .inl rfl|exact .inr rfl|assumption)) (@ad _ _ _ _ _ (@aV _ _ _ _ _ _ _ _ (@PW.pt _ _ _ (@ck _ _ _ _ _ _ _ (@ai _ _ _ _ _ _ _ _ iU (pv 2) ae (ak _)) (@bS _ _ _ _ (@PW.pt _ _ _ (@cF _ _ _ _ _ _ _ (@ai _ _ _ _ _ _ _ _ bc (pv 2) ae (ak _)) (@cy _ _ _ _ (@ai _ _ _ _ _ _ _ _ ir (@aK _ _ _ _ _ _ _ bG (pv 0) (pv 3) (fun _ _=>rfl)) af (by with_unfolding_all rfl)))))))) (@ag _ _ _ (@ar _ _ _ _ (pv 3))) aB) (@ag _ _ _ (@aV _ _ _ _ _ _ _ _ (@PW.pt _ _ _ (@cF _ _ _ _ _ _ _ (@ai _ _ _ _ _ _ _ _ bc (pv 2) ae (ak _)) (@cy _ _ _ _ (@ai _ _ _ _ _ _ _ _ bc (@aK _ _ _ _ _ _ _ bG (pv 0) (pv 3) (fun _ _=>rfl)) af (ak _))))) (@ag _ _ _ (@ar _ _ _ _ (@aj _ _ _ _ _ _ _ _ bt (pv 3) ae))) aB)))) (by intro _;rfl)) (@ag _ _ _ (@ar _ _ _ _ (@bO _ _ _ _ _ _ _ _ (@ai _ _ _ _ _ _ _ _ bc (pv 2) ae (ak _)) (@ap _ _ _ _ _ _ _ _ _ bH rfl B.ilen aaI (@aa _ _ _ _ _ (pv 0) ac (by rfl)) (by decide) (by decide) (by rfl) (by rfl)) aZ))))),?_⟩;have ll:((mkS l).length:Int)=(l.length:Nat):=by rw [ah]
  have lz:(mkS l).length≤sizeLine:=by rw [ah];exact al (by lia)
  refine ⟨_,rfl,_,rfl,_,rfl,lz,(p:Int),((mkS l).length:Int),rfl,⟨by lia,by lia,by lia,by lia⟩,?_⟩;have en:(((mkS l).length:Int) - (p:Int)).toNat=l.length - p:=by lia
  rw [en];refine cR (n:=l.length - p) (fun i σ H'=>∃ (d:Int) (cc:Option V),σ=[some (.str (mkS l)),some (.int (p:Nat)),some (.int d),cc]∧Same H H'∧cT (p+i) d (l.drop (p+i))=fq l p) ⟨0,_,rfl,Same.refl _,rfl⟩ ?_ ?_
  · rintro i σ H' hi ⟨d,cc,rfl,S,he⟩;have hlt:p+i < l.length:=by lia
    obtain ⟨c,hc⟩:∃ c,l[p+i]?=some c:=⟨_,aac hlt⟩
    have hat:atI (mkS l).cps.toList ((p:Int)+(i:Nat))=some c:=by
      have:=uu hc
      rwa [show ((p+i:Nat):Int)=(p:Int)+(i:Nat) by lia] at this
    have hdrop:l.drop (p+i)=c :: l.drop (p+(i+1)):=by
      have:=(aam.mp hc).2;rw [aa0 hlt,this];rfl
    rw [hdrop] at he;unfold cT at he;have e40:decide (V.str (⟨#[c]⟩:Str)=V.str ("(":Str))=decide (c=40):=by rw [dW,rR]
    have e41:decide (V.str (⟨#[c]⟩:Str)=V.str (")":Str))=decide (c=41):=by rw [gQ,rR]
    have ed:d+(if decide (V.str (⟨#[c]⟩:Str)=V.str ("(":Str))=true then (1:Int) else 0) - (if decide (V.str (⟨#[c]⟩:Str)=V.str (")":Str))=true then (1:Int) else 0)=dp1 d c:=by
      rw [e40,e41];unfold dp1;simp only [decide_eq_true_eq]
    refine ⟨_,rfl,_,rfl,_,rfl,_,_,c,rfl,rfl,lz,hat,rfl,.inr ⟨_,rfl,_,_,rfl,rfl,_,rfl,_,rfl,_,_,c,rfl,rfl,lz,hat,rfl,.inr ⟨_,rfl,_,_,rfl,rfl,?_⟩⟩⟩;show uG _ _ _ [some (V.str (mkS l)),some (V.int (p:Nat)),some (V.int (d+(if decide (V.str (⟨#[c]⟩:Str)=V.str ("(":Str))=true then (1:Int) else 0) - (if decide (V.str (⟨#[c]⟩:Str)=V.str (")":Str))=true then (1:Int) else 0))),some (V.int ((p:Int)+(i:Nat)))] _;rw [ed];generalize dp1 d c=d' at he;have next:d'=0→¬ sgC c→c=41→Q (.int ((p:Int)+(i:Nat)+1)) H':=fun h1 h2 h3=>by
      have:=q H' S;rw [← he,if_neg (fun z=>by rcases z with z|z;lia;exact h2 z.2),if_pos ⟨h1,h3⟩] at this;rw [show (p:Int)+(i:Nat)+1=((p+i+1:Nat):Int) by lia];exact this
    by_cases h1:d' < 0
    · have:=q H' S;rw [← he,if_pos (.inl h1)] at this;refine ⟨_,rfl,_,_,rfl,rfl,_,rfl,?_⟩;rw [decide_eq_true h1];refine aC (aC ⟨_,rfl,?_⟩);exact this
    refine ⟨_,rfl,_,_,rfl,rfl,_,rfl,?_⟩;rw [decide_eq_false h1];refine av ?_;refine ⟨_,rfl,rfl,_,rfl,?_⟩;show if decide (V.int d'=V.int 0)=true then _ else _
    rw [d3];by_cases h0:d'=0
    · rw [decide_eq_true h0];refine aC ⟨_,rfl,_,rfl,_,_,c,rfl,rfl,lz,hat,_,_,rfl,rfl,decide (sgC c),congrArg V.bl (sF c),?_⟩;by_cases h2:sgC c
      · have:=q H' S;rw [← he,if_pos (.inr ⟨h0,h2⟩)] at this;rw [decide_eq_true h2];exact aC ⟨_,rfl,this⟩
      · rw [decide_eq_false h2];refine av ⟨_,rfl,rfl,_,rfl,?_⟩;show if decide (V.int d'=V.int 0)=true then _ else _
        rw [d3,decide_eq_true h0];refine aC ⟨_,rfl,_,rfl,_,_,c,rfl,rfl,lz,hat,rfl,_,rfl,?_⟩;rw [e41];by_cases h3:c=41
        · rw [decide_eq_true h3];exact aC ⟨_,rfl,_,_,rfl,rfl,next h0 h2 h3⟩
        · rw [decide_eq_false h3];refine av ⟨d',_,rfl,S,?_⟩;rw [if_neg (fun z=>by rcases z with z|z;exact h1 z;exact h2 z.2),if_neg (fun z=>h3 z.2)] at he;exact he
    · rw [decide_eq_false h0];refine av (av ⟨_,rfl,rfl,_,rfl,?_⟩);show if decide (V.int d'=V.int 0)=true then _ else _
      rw [d3,decide_eq_false h0];refine av (av ⟨d',_,rfl,S,?_⟩);rw [if_neg (fun z=>by rcases z with z|z;exact h1 z;exact h0 z.1),if_neg (fun z=>h0 z.1)] at he;exact he
  · rintro σ H' ⟨d,cc,rfl,S,he⟩;rw [show p+(l.length - p)=l.length by lia,List.drop_length] at he;unfold cT at he;have:=q H' S;rw [← he] at this;refine ⟨_,rfl,rfl,_,rfl,?_⟩;show if decide (V.int d=V.int 0)=true then _ else _
    rw [d3];by_cases h0:d=0
    · rw [decide_eq_true h0];rw [if_pos h0] at this;refine aC ⟨_,rfl,_,rfl,lz,?_⟩;rw [ll];exact this
    · rw [decide_eq_false h0];rw [if_neg h0] at this;exact av this
def je (n:Nat):Sp:=fun vs H Q _=>∃ w v,vs=[v]∧WyIn H w v∧w.deep≤n∧∀ H',Same H H'→Q (.int (w.size:Nat)) H'
abbrev fK:Stmt:=top 59
theorem lV:FnScope ["way"] ["way"] (aq fK):=⟨rfl,rfl,rfl,by decide +kernel,rfl,by decide +kernel,by decide +kernel⟩
theorem nE (F:Fun K "_law_many" "_law_many" fK f fd) (bF:Binds K fd ["way"] []) (mF:mg "_law_many" = some (.ref f)) (B:Bu K mg):∀ n,FnOk P w K mg base CX0 (n+1) f fd ["way"] (je n):=by
  intro n
  induction n with
  | zero =>
    refine ⟨fun vs H Q E h=>?_,fun A outer s H args us vs Q E _ _ _ _ h=>?_⟩
    · obtain ⟨x,v,rfl,_⟩:=h;rfl
    · obtain ⟨wy,v,_,_,hd,_⟩:=h;cases wy <;> exact absurd hd (by simp [Wy.deep])
  | succ n ih =>
    have C__law_many:Cal P w K mg base "_law_many" (n+1) ["way"] (je n):=⟨f,fd,ih,bF,F.kp,mF⟩
    refine F.ok lV (fun vs H Q E h=>?_) (fun cdv A outer s H vs Q E hr h=>?_)
    · obtain ⟨x,v,rfl,_⟩:=h;rfl
    obtain ⟨wy,v,rfl,hw,hd,q⟩:=h;refine ⟨_,(@ag _ _ _ (@ar _ _ _ _ (@bO _ _ _ _ _ _ _ _ (@cO _ _ _ _ (@bE _ _ _ (@ap _ _ _ _ _ _ _ _ _ (@a8 _ ("tuple")) rfl B.iisinstance aad (@aa _ _ _ _ _ (pv 0) (@aa _ _ _ _ _ (@bw _ _ (.ty "tuple") _ _ rfl B.ituple abh rfl (by decide) (by decide)) ac (by rfl)) (by rfl)) (by decide) (by decide) (by rfl) (by rfl)) (by intro _;rfl))) ae (@aj _ _ _ _ _ _ _ _ bt (@am _ _ _ _ _ _ _ _ _ _ _ C__law_many hr (by lia) rfl (@aa _ _ _ _ _ (@aK _ _ _ _ _ _ _ ix_tup (pv 0) ae (fun _ _=>rfl)) ac (by rfl)) (by decide) (by rfl) (by rfl)) (@am _ _ _ _ _ _ _ _ _ _ _ C__law_many hr (by lia) rfl (@aa _ _ _ _ _ (@aK _ _ _ _ _ _ _ ix_tup (pv 0) ae (fun _ _=>rfl)) ac (by rfl)) (by decide) (by rfl) (by rfl)))))),?_⟩;cases wy with
    | num i =>
      cases hw;exact ⟨_,rfl,_,_,false,rfl,.int i,rfl,false,rfl,aC (q H (Same.refl _))⟩
    | node g l r =>
      obtain ⟨a,vl,vr,rfl,ha,hl,hr'⟩:=hw;have d:max l.deep r.deep+1≤n+1:=hd;refine ⟨_,rfl,_,_,true,rfl,.tup ha,rfl,true,rfl,av ?_⟩;refine ⟨_,rfl,a,_,1,_,rfl,rfl,SqT.of ha,rfl,l,vl,rfl,hl,by lia,fun H1 s1=>?_⟩;refine ⟨_,rfl,a,_,2,_,rfl,rfl,SqT.of (s1 _ _ ha),rfl,r,vr,rfl,hr'.mono (Tups.of s1),by lia,fun H2 s2=>?_⟩;refine ⟨_,_,rfl,rfl,?_⟩;have:=q H2 (s1.trans s2);rw [show (((Wy.node g l r).size:Nat):Int)=(l.size:Nat)+(r.size:Nat) from by simp [Wy.size]] at this;exact this
end
open PySem L2
theorem on (l:List Nat) (a b:Nat) (hab:a≤b):bu (mkS l) (some (a:Int)) (some (b:Int))=mkS ((l.drop a).take (b - a)):=by
  have e:aan (some (a:Int)) (some (b:Int)) 1 (mkS l).length=abf ((min a l.length:Nat):Int) ((min b l.length:Nat):Int) 1:=by
    unfold aan;rw [ah];simp only [show (1:Int) > 0 by decide,if_true];congr 1 <;> lia
  unfold bu;rw [e,dN l (min a l.length) (min b l.length) (by lia) (by lia) _ (gH _ _ (by lia))];congr 1;by_cases h:a≤l.length
  · rw [ab7 h];by_cases h2:b≤l.length
    · rw [ab7 h2]
    · rw [acH (by lia),aaQ (by rw [aay];lia),aaQ (by rw [aay];lia)]
  · rw [acH (a:=a) (by lia),abZ (aab _),abZ (by lia)];simp
theorem pK (l:List Nat) (k:Nat):bu (mkS l) (some (k:Int)) none=mkS (l.drop k):=by
  have e:aan (some (k:Int)) none 1 (mkS l).length=abf ((min k l.length:Nat):Int) (l.length:Int) 1:=by
    unfold aan;rw [ah];simp only [show (1:Int) > 0 by decide,if_true];congr 1 <;> lia
  unfold bu;rw [e,dN l (min k l.length) l.length (by lia) (aab _) _ (gH _ _ (by lia))];rw [aaQ (by rw [aay];lia)];by_cases h:k≤l.length
  · rw [ab7 h]
  · rw [acH (by lia),abZ (aab _),abZ (by lia)]
theorem gP (l:List Nat) (k:Nat):bu (mkS l) none (some (k:Int))=mkS (l.take k):=by
  have e:aan none (some (k:Int)) 1 (mkS l).length=abf ((0:Nat):Int) ((min k l.length:Nat):Int) 1:=by
    unfold aan;rw [ah];simp only [show (1:Int) > 0 by decide,if_true];congr 1;lia
  unfold bu;rw [e,dN l 0 (min k l.length) (aaK _) (by lia) _ (gH 0 _ (aaK _))];by_cases h:k≤l.length
  · rw [ab7 h];simp
  · rw [acH (by lia)];simp only [ace,Nat.sub_zero];rw [aaQ (aab _),aaQ (by lia)]
theorem qX (c:Nat):(!(!(aaB ("+-*":Str) (⟨#[c]⟩:Str) 0 ("+-*":Str).length 1).isEmpty))=!decide (sgC c):=by
  rw [show (⟨#[c]⟩:Str)=mkS [c] from rfl,sF]
def tS (x:List Nat):V:=.str (mkS x)
def OfP (H:Hp) (o:Option (List (List Nat))) (v:V) (H':Hp):Prop:=match o with|none=>v=.non|some ps=>∃ a,v=.ref a∧H a=none∧H' a=some (.lst (ps.map tS))
section
variable {P:Program} {w:World} {K:aaa} {mg:Str→Option Value} {base:Heap} {f:Addr} {fd:FuncData}
def jy:Sp:=fun vs H Q _=>∃ l:List Nat,vs=[.str (mkS l)]∧l.length≤900∧∀ v H',Same H H'→OfP H (fN l) v H'→Q v H'
abbrev eA:Stmt:=top 56
theorem bR:FnScope ["text","found","at","end"] ["text"] (aq eA):=⟨rfl,rfl,rfl,by decide +kernel,rfl,by decide +kernel,by decide +kernel⟩
theorem ku (F:Fun K "_law_pieces" "_law_pieces" eA f fd) (B:Bu K mg) (C__law_end:Cal P w K mg base "_law_end" 1 ["text","at"] qf):FnOk P w K mg base CX0 2 f fd ["text"] jy:=by
  refine F.ok bR (fun vs H Q E h=>?_) (fun cdv A outer s H vs Q E hr h=>?_)
  · obtain ⟨l,rfl,_⟩:=h;rfl
  obtain ⟨l,rfl,hl,q⟩:=h;refine ⟨_,(@ad _ _ _ _ _ (@ao _ _ (1) _ _ _ _ (bR).nd rfl (Or.inl rfl) (@a9 _ _ _ _ ac) (by rfl) (by first|exact .inl rfl|exact .inr rfl|assumption)) (@ad _ _ _ _ _ (@ao _ _ (2) _ _ _ _ (bR).nd rfl (Or.inl rfl) ae (by rfl) (by first|exact .inl rfl|exact .inr rfl|assumption)) (@ad _ _ _ _ _ (@jC _ _ _ _ _ _ aaT (@PW.pt _ _ _ (@ck _ _ _ _ _ _ _ (@ai _ _ _ _ _ _ _ _ iU (pv 2) (@ap _ _ _ _ _ _ _ _ _ bH rfl B.ilen aaI (@aa _ _ _ _ _ (pv 0) ac (by rfl)) (by decide) (by decide) (by rfl) (by rfl)) (ak _)) (@bS _ _ _ _ (@ai _ _ _ _ _ _ _ _ bc (@aj _ _ _ _ _ _ _ _ dD (@ap _ _ _ _ _ _ _ _ _ a6 rfl B.ilen aaI (@aa _ _ _ _ _ (pv 1) ac (by rfl)) (by decide) (by decide) (by rfl) (by rfl)) ae) ae (ak _))))) (@ag _ _ _ (@aV _ _ _ _ _ _ _ _ (@ai _ _ _ _ _ _ _ _ bc (@aj _ _ _ _ _ _ _ _ dD (@ap _ _ _ _ _ _ _ _ _ a6 rfl B.ilen aaI (@aa _ _ _ _ _ (pv 1) ac (by rfl)) (by decide) (by decide) (by rfl) (by rfl)) ae) ae (ak _)) (@ad _ _ _ _ _ (@aV _ _ _ _ _ _ _ _ (@ai _ _ _ _ _ _ _ _ dJ (@aK _ _ _ _ _ _ _ bG (pv 0) (pv 2) (fun _ _=>rfl)) af (by with_unfolding_all rfl)) (@ag _ _ _ (@ar _ _ _ _ aZ)) aB) (@ad _ _ _ _ _ (@cJ _ _ _ _ (@bV _ _ _ _ _ _ _ _ _ _ _ _ aaC abb abc dh (pv 1) (@aa _ _ _ _ _ (@aK _ _ _ _ _ _ _ bG (pv 0) (pv 2) (fun _ _=>rfl)) ac (by rfl)) (by rfl) (by rfl) (by rfl) (by rfl) (by rfl)) (by rfl)) (@ag _ _ _ (@ao _ _ (2) _ _ _ _ (bR).nd rfl (Or.inl rfl) (@aj _ _ _ _ _ _ _ _ bt (pv 2) ae) (by rfl) (by first|exact .inl rfl|exact .inr rfl|assumption))))) (@ad _ _ _ _ _ (@ao _ _ (3) _ _ _ _ (bR).nd rfl (Or.inl rfl) (@am _ _ _ _ _ _ _ _ _ _ _ C__law_end hr (by lia) rfl (@aa _ _ _ _ _ (pv 0) (@aa _ _ _ _ _ (pv 2) ac (by rfl)) (by rfl)) (by decide) (by rfl) (by rfl)) (by rfl) (by first|exact .inl rfl|exact .inr rfl|assumption)) (@ad _ _ _ _ _ (@aV _ _ _ _ _ _ _ _ (@PW.pt _ _ _ (@ck _ _ _ _ _ _ _ (@ai _ _ _ _ _ _ _ _ dY (pv 3) aZ (ak _)) (@bS _ _ _ _ (@ai _ _ _ _ _ _ _ _ bc (pv 3) (pv 2) (ak _))))) (@ag _ _ _ (@ar _ _ _ _ aZ)) aB) (@ad _ _ _ _ _ (@cJ _ _ _ _ (@bV _ _ _ _ _ _ _ _ _ _ _ _ aaC abb abc dh (pv 1) (@aa _ _ _ _ _ (@aX _ _ _ _ _ _ _ _ _ _ bQ (pv 0) (@aY _ _ _ (pv 2)) (@aY _ _ _ (pv 3))) ac (by rfl)) (by rfl) (by rfl) (by rfl) (by rfl) (by rfl)) (by rfl)) (@ag _ _ _ (@ao _ _ (2) _ _ _ _ (bR).nd rfl (Or.inl rfl) (pv 3) (by rfl) (by first|exact .inl rfl|exact .inr rfl|assumption))))))))) (@ag _ _ _ (@ar _ _ _ _ (pv 1)))))),?_⟩;have ll:((mkS l).length:Int)=(l.length:Nat):=by rw [ah]
  have lz:(mkS l).length≤sizeLine:=by rw [ah];exact al (by lia)
  refine ⟨aaK _,fun pf nf=>?_⟩;refine ⟨fun m σ H'=>∃ (p:Nat) (acc:List (List Nat)) (cc:Option V),σ=[some (.str (mkS l)),some (.ref pf),some (.int p),cc]∧H' pf=some (.lst (acc.map tS))∧Same H H'∧p≤l.length∧acc.length≤p∧fO m l p acc=fN l∧2 * (l.length - p)+(1 - acc.length % 2) < m,?_,?_⟩
  · exact ⟨2 * l.length+2,0,[],_,rfl,upd_same,Same.new nf _,aaK _,aab _,rfl,by simp⟩
  rintro m σ H' ⟨p,acc,cc,rfl,ef,S,hp,hac,he,hm⟩;cases m with
  | zero=>lia
  | succ n =>
    unfold fO at he;have lacc:(acc.map tS).length=acc.length:=aaf _;have emod:decide (V.int (((acc.map tS).length:Int) % 2)=V.int 0)=decide (acc.length % 2=0):=by
      rw [d3,lacc,aaH,decide_eq_true_eq,decide_eq_true_eq];lia
    have emod1:decide (V.int (((acc.map tS).length:Int) % 2)=V.int 1)=decide (acc.length % 2=1):=by
      rw [d3,lacc,aaH,decide_eq_true_eq,decide_eq_true_eq];lia
    refine uC (A:=(p < l.length∨acc.length % 2=0)→_) ?body fun body=>uC (A:=¬ (p < l.length∨acc.length % 2=0)→_) ?fin fun fin=>⟨_,rfl,_,rfl,_,rfl,lz,_,_,rfl,rfl,_,rfl,kE (fun c=>aC (body (.inl (by have:=of_decide_eq_true c;lia)))) (fun c=>⟨_,rfl,pf,_,rfl,.inl (SqL.of ef),_,_,rfl,rfl,(by show (0:Int) < 2;decide),rfl,decide (acc.length % 2=0),congrArg V.bl emod,kE (fun d=>body (.inr (of_decide_eq_true d))) (fun d=>fin (fun z=>z.elim (fun z=>c (decide_eq_true (by lia))) (fun z=>d (decide_eq_true z))))⟩)⟩
    case body =>
      intro hc;rw [if_pos hc] at he;refine ⟨fun σ' H'=>∃ m',m' < n+1∧_,fun σ' H' h=>h,?_⟩;refine ⟨_,rfl,pf,_,rfl,.inl (SqL.of ef),_,_,rfl,rfl,(by show (0:Int) < 2;decide),rfl,decide (acc.length % 2=1),congrArg V.bl emod1,?_⟩;by_cases co:acc.length % 2=1
      · rw [if_pos co] at he;rw [decide_eq_true co];have hlt:p < l.length:=by lia
        obtain ⟨c,hcc⟩:∃ c,l[p]?=some c:=⟨_,aac hlt⟩
        have egd:l.getD p 0=c:=by rw [aaW,hcc];rfl
        rw [egd] at he;refine aC ⟨_,rfl,_,rfl,_,_,c,rfl,rfl,lz,uu hcc,_,_,rfl,rfl,!decide (sgC c),congrArg V.bl (qX c),?_⟩;by_cases h2:sgC c
        · rw [if_pos h2] at he;rw [decide_eq_true h2];refine av ⟨_,rfl,.inl ⟨rfl,_,SqL.of ef⟩,_,rfl,_,rfl,_,_,c,rfl,rfl,lz,uu hcc,pf,_,_,rfl,rfl,ef,aQ (by rw [lacc];lia),?_⟩;refine ⟨_,rfl,_,_,rfl,rfl,n,acg _,p+1,acc++[[c]],_,rfl,?_,S.upd nf,hlt,by simp;lia,he,?_⟩
          · rw [upd_same,aaP];rfl
          · simp only [aah,aao,abE];lia
        · rw [if_neg h2] at he;rw [decide_eq_false h2];have:=q .non H' S (by rw [← he];rfl);exact aC this
      · rw [if_neg co] at he;rw [decide_eq_false co];refine av ⟨_,rfl,_,rfl,l,p,rfl,hl,hp,fun H1 s1=>?_⟩;have S1:=S.trans s1;have ef1:=s1 _ _ ef;cases hen:fq l p with
        | none =>
          rw [hen] at he;exact ⟨_,rfl,rfl,_,rfl,aC (aC (q .non H1 S1 (by rw [← he];rfl)))⟩
        | some e =>
          rw [hen] at he;have he:(if e=p then none else fO n l e (acc++[(l.drop p).take (e - p)]))=fN l:=he;obtain ⟨b1,b2⟩:=qG hp hen;refine ⟨_,rfl,rfl,_,rfl,av ⟨_,rfl,_,rfl,rfl,decide (e=p),?_,?_⟩⟩
          · show V.bl (decide (V.int (e:Nat)=V.int (p:Nat)))=_;rw [d3];congr 1;rw [aaH,decide_eq_true_eq,decide_eq_true_eq];lia
          by_cases hne:e=p
          · rw [if_pos hne] at he;rw [decide_eq_true hne];exact aC (q .non H1 S1 (by rw [← he];rfl))
          · rw [if_neg hne] at he;rw [decide_eq_false hne];have ec:bu (mkS l) (some ((p:Nat):Int)) (some ((e:Nat):Int))=mkS ((l.drop p).take (e - p)):=on l p e b1;refine av ⟨_,rfl,.inl ⟨rfl,_,SqL.of ef1⟩,_,rfl,_,rfl,_,rfl,_,rfl,_,rfl,_,rfl,?_,?_⟩
            · rw [ec,ah,aav,aay];exact al (by lia)
            rw [ec];refine ⟨pf,_,_,rfl,rfl,ef1,aQ (by rw [lacc];lia),?_⟩;refine ⟨_,rfl,n,acg _,e,acc++[(l.drop p).take (e - p)],_,rfl,?_,S1.upd nf,b2,by simp;lia,he,?_⟩
            · rw [upd_same,aaP];rfl
            · simp only [aah,aao,abE];lia
    case fin =>
      intro hc;rw [if_neg hc] at he;refine ⟨_,rfl,?_⟩;exact q _ H' S (by rw [← he];exact ⟨pf,rfl,nf,ef⟩)
end
open PySem L2
theorem ql (n:Nat):(aaR 1 (((2 * n+1:Nat)):Int) 2).toNat=n:=by
  unfold aaR;simp only [show (2:Int) > 0 by decide,if_true];split <;> lia
theorem uh (xs:List V) (c m:Nat) (h:c+m≤xs.length):eR xs (some (c:Int)) (some ((c:Int)+(m:Int)))=(xs.drop c).take m:=by
  have e0:HT.sIx xs.length 0 (some (c:Int))=c:=by
    simp only [HT.sIx];split <;> lia
  have e1:HT.sIx xs.length xs.length (some ((c:Int)+(m:Int)))=c+m:=by
    simp only [HT.sIx];split <;> lia
  unfold eR;rw [e0,e1,show c+m - c=m by lia]
def FlIn (H:Hp):List (Sg × Wy)→List V→Prop
  | [],vs=>vs=[]
  | p :: r,vs=>∃ v t,vs=.str p.1.str :: v :: t∧WyIn H p.2 v∧FlIn H r t
theorem FlIn.mono {H H':Hp} (t:Tups H H'):∀ {r:List (Sg × Wy)} {vs:List V},FlIn H r vs→FlIn H' r vs
  | [],_,h=>h
  | _ :: _,_,⟨v,u,e,h1,h2⟩=>⟨v,u,e,h1.mono t,FlIn.mono t h2⟩
theorem FlIn.len {H:Hp}:∀ {r:List (Sg × Wy)} {vs:List V},FlIn H r vs→vs.length=2 * r.length
  | [],_,h=>by rw [show _=[] from h];rfl
  | _ :: r,_,⟨v,u,e,h1,h2⟩=>by
    have:=FlIn.len h2;subst e;simp only [aao];lia
theorem FlIn.app {H:Hp}:∀ {a b:List (Sg × Wy)} {x y:List V},FlIn H a x→FlIn H b y→FlIn H (a++b) (x++y)
  | [],_,_,_,h,g=>by rw [show _=[] from h];exact g
  | _ :: _,_,_,_,⟨v,u,e,h1,h2⟩,g=>by
    subst e;exact ⟨v,_,rfl,h1,FlIn.app h2 g⟩
theorem FlIn.one {H:Hp} {p:Sg × Wy} {v:V} (h:WyIn H p.2 v):FlIn H [p] [.str p.1.str,v]:=⟨v,[],rfl,h,rfl⟩
theorem FlIn.at {H:Hp}:∀ {r:List (Sg × Wy)} {vs:List V},FlIn H r vs→∀ {i:Nat} {p:Sg × Wy},r[i]?=some p→∃ v,vs[2 * i]?=some (.str p.1.str)∧vs[2 * i+1]?=some v∧WyIn H p.2 v
  | [],_,_,i,p,h=>by simp at h
  | q :: r,_,⟨v,u,e,h1,h2⟩,0,p,h=>by
    injection h with h
    subst h e;exact ⟨v,rfl,rfl,h1⟩
  | q :: r,_,⟨v,u,e,h1,h2⟩,i+1,p,h=>by
    obtain ⟨v',a,b,c⟩:=FlIn.at h2 (i:=i) h;subst e;exact ⟨v',by rw [show 2 * (i+1)=2 * i+1+1 by lia];exact a,by rw [show 2 * (i+1)+1=2 * i+1+1+1 by lia];exact b,c⟩
theorem FlIn.split {H:Hp}:∀ {a b:List (Sg × Wy)} {vs:List V},FlIn H (a++b) vs→∃ x y,vs=x++y∧FlIn H a x∧FlIn H b y
  | [],_,vs,h=>⟨[],vs,rfl,rfl,h⟩
  | _ :: _,_,_,⟨v,u,e,h1,h2⟩=>by
    obtain ⟨x,y,e2,h3,h4⟩:=FlIn.split h2;subst e e2;exact ⟨_ :: v :: x,y,rfl,⟨v,x,rfl,h1,h3⟩,h4⟩
theorem vo {H:Hp} {f:Wy} {gs:List (Sg × Wy)} {u0:V} {gl:List V} (h0:WyIn H f u0) (h:FlIn H gs gl):∃ ms x wl,u0 :: gl=ms++[x]∧WyIn H wl x ∧
    ∀ (H':Hp) (w':Wy) (y:V),Tups H H'→WyIn H' (.node .times wl w') y→∃ u0' gl',ms++[y]=u0' :: gl'∧WyIn H' (o_ (f,gs) w').1 u0'∧FlIn H' (o_ (f,gs) w').2 gl':=by
  rcases aaY gs with rfl|⟨m,p,rfl⟩
  · rw [show gl=[] from h];exact ⟨[],u0,f,rfl,h0,fun H' w' y t hy=>⟨y,[],rfl,hy,rfl⟩⟩
  · rw [aaX] at h;obtain ⟨x,y,rfl,h1,v,_,rfl,h2,e⟩:=FlIn.split h;rw [show _=[] from e];refine ⟨u0 :: x++[.str p.1.str],v,p.2,by simp,h2,fun H' w' y t hy=>?_⟩;obtain ⟨g,z⟩:=p;rw [aaX,f_];exact ⟨u0,x++[.str g.str,y],by simp,h0.mono t,(h1.mono t).app (FlIn.one (p:=(g,_)) hy)⟩
theorem lQ (ms:List V) (x y:V):ixN (ms++[x]).length (-1)=some ms.length∧(ms++[x]).set ms.length y=ms++[y]:=by
  refine ⟨?_,?_⟩
  · rw [aah];unfold ixN;simp;lia
  · rw [List.set_append_right _ _ (by simp)];simp
theorem qV (g:Sg):decide (V.str g.str=V.str ("*":Str))=decide (g=.times):=by cases g <;> decide +kernel
section
variable {P:Program} {w:World} {K:aaa} {mg:Str→Option Value} {base:Heap} {f:Addr} {fd:FuncData}
def oV:Sp:=fun vs H Q _=>∃ (a:Addr) (f:Wy) (rest:List (Sg × Wy)) (v0:V) (fl:List V),vs=[.ref a]∧H a=some (.lst (v0 :: fl))∧WyIn H f v0∧FlIn H rest fl∧rest.length≤450∧∀ v H',Same H H'→WyIn H' (fm f rest) v→Q v H'
abbrev eD:Stmt:=top 57
theorem bJ:FnScope ["found","some","k","way"] ["found"] (aq eD):=⟨rfl,rfl,rfl,by decide +kernel,rfl,by decide +kernel,by decide +kernel⟩
theorem ky (F:Fun K "_law_folded" "_law_folded" eD f fd) (B:Bu K mg):FnOk P w K mg base CX0 1 f fd ["found"] oV:=by
  refine F.ok bJ (fun vs H Q E h=>?_) (fun cdv A outer s H vs Q E hr h=>?_)
  · obtain ⟨a,f,rest,v0,fl,rfl,_⟩:=h;rfl
  obtain ⟨a,f,rest,v0,fl,rfl,ea,hf,hfl,h450,q⟩:=h;refine ⟨_,(@ad _ _ _ _ _ (@ao _ _ (1) _ _ _ _ (bJ).nd rfl (Or.inl rfl) (@aX _ _ _ _ _ _ _ _ _ _ dj (pv 0) bi (@aY _ _ _ ae)) (by rfl) (by first|exact .inl rfl|exact .inr rfl|assumption)) (@ad _ _ _ _ _ (@cX _ _ _ _ _ _ _ _ aaT rfl (kQ rfl B.irange (aa ae (aa (ap a6 rfl B.ilen aaI (aa (pv 0) ac)) (aa ae ac)))) (@aG _ _ (2) _ (bJ).nd rfl (Or.inl rfl) (.inl rfl)) (@ag _ _ _ (@aV _ _ _ _ _ _ _ _ (@ai _ _ _ _ _ _ _ _ bc (@aK _ _ _ _ _ _ _ ix_list (pv 0) (pv 2) (fun _ _=>rfl)) af (ak _)) (@ag _ _ _ (@gJ _ _ _ _ _ _ (@bT _ _ _ _ _ (@aa _ _ _ _ _ af (@aa _ _ _ _ _ (@aK _ _ _ _ _ _ _ ix_list (pv 1) (@g8 _ _ _ _ _ _ eU ae) (fun _ _=>rfl)) (@aa _ _ _ _ _ (@aK _ _ _ _ _ _ _ ix_list (pv 0) (@aj _ _ _ _ _ _ _ _ bt (pv 2) ae) (fun _ _=>rfl)) ac (by rfl)) (by rfl)) (by rfl))) (@lZ _ _ _ _ _ _ _ (pv 1) (@g8 _ _ _ _ _ _ eU ae) gY (by intro _;rfl)) (by rfl) (by rfl) (by rfl))) (@ag _ _ _ (@ao _ _ (1) _ _ _ _ (bJ).nd rfl (Or.inl rfl) (@aj _ _ _ _ _ _ _ _ cG (pv 1) (@aX _ _ _ _ _ _ _ _ _ _ dj (pv 0) (@aY _ _ _ (pv 2)) (@aY _ _ _ (@aj _ _ _ _ _ _ _ _ bt (pv 2) ae)))) (by rfl) (by first|exact .inl rfl|exact .inr rfl|assumption))))) (by intro _;rfl)) (@ad _ _ _ _ _ (@ao _ _ (3) _ _ _ _ (bJ).nd rfl (Or.inl rfl) (@aK _ _ _ _ _ _ _ ix_list (pv 1) ae (fun _ _=>rfl)) (by rfl) (by first|exact .inl rfl|exact .inr rfl|assumption)) (@ad _ _ _ _ _ (@cX _ _ _ _ _ _ _ _ aaT rfl (kQ rfl B.irange (aa ae (aa (ap a6 rfl B.ilen aaI (aa (pv 1) ac)) (aa ae ac)))) (@aG _ _ (2) _ (bJ).nd rfl (Or.inl rfl) (.inl rfl)) (@ag _ _ _ (@ao _ _ (3) _ _ _ _ (bJ).nd rfl (Or.inl rfl) (@bT _ _ _ _ _ (@aa _ _ _ _ _ (@aK _ _ _ _ _ _ _ ix_list (pv 1) (pv 2) (fun _ _=>rfl)) (@aa _ _ _ _ _ (pv 3) (@aa _ _ _ _ _ (@aK _ _ _ _ _ _ _ ix_list (pv 1) (@aj _ _ _ _ _ _ _ _ bt (pv 2) ae) (fun _ _=>rfl)) ac (by rfl)) (by rfl)) (by rfl))) (by rfl) (by first|exact .inl rfl|exact .inr rfl|assumption))) (by intro _;rfl)) (@ag _ _ _ (@ar _ _ _ _ (pv 3))))))),?_⟩;have lfl:=hfl.len;refine ⟨_,rfl,1,rfl,a,_,rfl,SqL.of ea,fun p1 n1=>?_⟩;have ec:eR (v0 :: fl) none (some 1)=[v0]:=ge (v0 :: fl) 1 (by simp);rw [ec];have s1:=Same.new n1 (.lst [v0]);have e1:upd H p1 (.lst [v0]) p1=_:=upd_same;generalize upd H p1 (.lst [v0])=H1 at s1 e1 ⊢;have l0:((v0 :: fl).length:Int)=((2 * rest.length+1:Nat):Int):=by simp [lfl]
  refine ⟨_,rfl,a,_,rfl,.inl (SqL.of (s1 _ _ ea)),_,_,_,rfl,⟨by decide,by decide,by rw [l0];lia,by rw [l0];lia,by decide,by decide⟩,?_⟩;rw [l0,ql];refine tU Trn.up (fun i σ H'=>∃ (p:Addr) (u0:V) (gl:List V) (cc c3:Option V),σ=[some (.ref a),some (.ref p),cc,c3]∧Same H H'∧H p=none∧H' p=some (.lst (u0 :: gl))∧WyIn H' ((rest.take i).foldl stF (f,[])).1 u0∧FlIn H' ((rest.take i).foldl stF (f,[])).2 gl∧gl.length≤2 * i) ⟨p1,v0,[],_,_,rfl,s1,n1,e1,hf.mono (Tups.of s1),rfl,aab _⟩ (fun _ _ _ _ _=>trivial) (fun i x σ H2 H' hi hx z=>?_) (fun σ H' z=>?_)
  · obtain ⟨rfl,rfl⟩:=hx;obtain ⟨p,u0,gl,cc,c3,rfl,S,np,ep,h0,hg,hgl⟩:=z;obtain ⟨pr,hpr⟩:∃ pr,rest[i]?=some pr:=⟨_,aac hi⟩
    obtain ⟨v,f1,f2,hv⟩:=(hfl.mono (Tups.of S)).at hpr;have ea2:=S _ _ ea;have ek:(1:Int)+((i:Nat):Int) * 2=((2 * i+1:Nat):Int):=by lia
    rw [ek];have a1:atI (v0 :: fl) ((2 * i+1:Nat):Int)=some (.str pr.1.str):=bA (by rw [abn];exact f1);have a2:atI (v0 :: fl) (((2 * i+1:Nat):Int)+1)=some v:=by
      have : ((2 * i+1:Nat):Int)+1=((2 * i+1+1:Nat):Int):=by lia
      rw [this];exact bA (by rw [abn];exact f2)
    have etk:(rest.take (i+1)).foldl stF (f,[])=stF ((rest.take i).foldl stF (f,[])) pr:=by rw [aaz,hpr,abR];rfl
    generalize (rest.take i).foldl stF (f,[])=st at h0 hg etk;refine ⟨_,rfl,_,rfl,a,_,_,_,rfl,rfl,SqL.of ea2,a1,rfl,_,rfl,?_⟩;rw [qV];by_cases ct:pr.1=.times
    · rw [decide_eq_true ct];obtain ⟨f',gs⟩:=st;obtain ⟨ms,xl,wl,e2,hxl,hput⟩:=vo h0 hg;rw [e2] at ep;obtain ⟨z1,z2⟩:=lQ ms xl (.ref 0);refine aC ⟨_,rfl,_,rfl,p,_,_,_,rfl,rfl,SqL.of ep,uv _ _,_,rfl,_,rfl,_,_,rfl,rfl,a,_,_,_,rfl,rfl,SqL.of ea2,a2,(by show 3≤sizeLine;decide),fun t nt=>?_⟩;have sT:=Same.new nt (.tup [.str "*",xl,v]);have eT:upd H' t (.tup [.str "*",xl,v]) t=_:=upd_same;refine ⟨_,rfl,_,rfl,p,_,_,_,rfl,rfl,sT _ _ ep,(lQ ms xl (.ref t)).1,?_⟩;rw [(lQ ms xl (.ref t)).2];have ntp:t≠p:=fun z=>by rw [z,ep] at nt;cases nt
      have T3:Tups (upd H' t (.tup [.str "*",xl,v])) (upd (upd H' t (.tup [.str "*",xl,v])) p (.lst (ms++[.ref t]))):=fun c xs hc=>by
        rw [aI (fun e=>by rw [e,sT _ _ ep] at hc;cases hc)];exact hc
      have T4:=(Tups.of sT).trans T3;obtain ⟨u0',gl',e3,w1,w2⟩:=hput (upd (upd H' t (.tup [.str "*",xl,v])) p (.lst (ms++[.ref t]))) pr.2 (.ref t) T4 ⟨t,xl,v,rfl,T3 _ _ eT,hxl.mono T4,hv.mono T4⟩;have e5:upd (upd H' t (.tup [.str "*",xl,v])) p (.lst (ms++[.ref t])) p=some (.lst (u0' :: gl')):=by rw [upd_same,e3]
      have lgl:gl'.length=gl.length:=by
        have h1:=congrArg aa2 e2;have h2:=congrArg aa2 e3;simp at h1 h2;lia
      refine ⟨p,u0',gl',_,_,rfl,(S.trans sT).upd np,np,e5,?_,?_,by lia⟩
      · rw [etk];unfold stF;rw [if_pos ct];exact w1
      · rw [etk];unfold stF;rw [if_pos ct];exact w2
    · rw [decide_eq_false ct];have ek2:((2 * i+1:Nat):Int)+2=((2 * i+1:Nat):Int)+((2:Nat):Int):=rfl;have ecut:eR (v0 :: fl) (some ((2 * i+1:Nat):Int)) (some (((2 * i+1:Nat):Int)+2))=[.str pr.1.str,v]:=by
        rw [ek2,uh (v0 :: fl) (2 * i+1) 2 (by simp only [aao];lia),List.drop_succ_cons];have h1:2 * i < fl.length:=by lia
        have h2:2 * i+1 < fl.length:=by lia
        rw [aa0 h1,aa0 h2];have g1:=(aam.mp f1).2;have g2:=(aam.mp f2).2;rw [g1,g2];rfl
      refine av ⟨_,rfl,_,rfl,_,rfl,_,rfl,_,rfl,_,_,rfl,rfl,_,rfl,a,_,rfl,SqL.of ea2,fun p4 n4=>?_⟩;rw [ecut];have s4:=Same.new n4 (.lst [.str pr.1.str,v]);refine ⟨p,p4,_,_,rfl,rfl,s4 _ _ ep,upd_same,al (by simp;lia),fun p5 n5=>?_⟩;have s5:=s4.trans (Same.new n5 (.lst (u0 :: gl++[.str pr.1.str,v])));refine ⟨p5,u0,gl++[.str pr.1.str,v],_,_,rfl,S.trans s5,(S.trans s4).free n5,upd_same,?_,?_,by simp;lia⟩
      · rw [etk];unfold stF;rw [if_neg ct];exact h0.mono (Tups.of s5)
      · rw [etk];unfold stF;rw [if_neg ct];exact (hg.mono (Tups.of s5)).app (FlIn.one (hv.mono (Tups.of s5)))
  · obtain ⟨p,u0,gl,cc,c3,rfl,S,np,ep,h0,hg,hgl⟩:=z;rw [aaL] at h0 hg;have efw:fm f rest=iW (rest.foldl stF (f,[])):=rfl;generalize rest.foldl stF (f,[])=st at h0 hg efw;obtain ⟨f',gs⟩:=st;have lgl:gl.length=2 * gs.length:=hg.len;have l1:((u0 :: gl).length:Int)=((2 * gs.length+1:Nat):Int):=by simp [lgl]
    refine ⟨_,rfl,p,_,0,_,rfl,rfl,SqL.of ep,bA (j:=0) rfl,?_⟩;refine ⟨_,rfl,p,_,rfl,.inl (SqL.of ep),_,_,_,rfl,⟨by decide,by decide,by rw [l1];lia,by rw [l1];lia,by decide,by decide⟩,?_⟩;rw [l1,ql];refine tU Trn.up (fun i σ H2=>∃ (wv:V) (cc:Option V),σ=[some (.ref a),some (.ref p),cc,some wv]∧Same H' H2∧WyIn H2 (iW (f',gs.take i)) wv) ⟨u0,_,rfl,Same.refl _,h0⟩ (fun _ _ _ _ _=>trivial) (fun i x σ H2 H3 hi hx z=>?_) (fun σ H2 z=>?_)
    · obtain ⟨rfl,rfl⟩:=hx;obtain ⟨wv,cc,rfl,S2,hw⟩:=z;obtain ⟨pr,hpr⟩:∃ pr,gs[i]?=some pr:=⟨_,aac hi⟩
      obtain ⟨v,f1,f2,hv⟩:=(hg.mono (Tups.of S2)).at hpr;have ep2:=S2 _ _ ep;have ek:(1:Int)+((i:Nat):Int) * 2=((2 * i+1:Nat):Int):=by lia
      rw [ek];have a1:atI (u0 :: gl) ((2 * i+1:Nat):Int)=some (.str pr.1.str):=bA (by rw [abn];exact f1);have a2:atI (u0 :: gl) (((2 * i+1:Nat):Int)+1)=some v:=by
        have : ((2 * i+1:Nat):Int)+1=((2 * i+1+1:Nat):Int):=by lia
        rw [this];exact bA (by rw [abn];exact f2)
      refine ⟨_,rfl,_,rfl,p,_,_,_,rfl,rfl,SqL.of ep2,a1,_,rfl,_,rfl,_,rfl,_,_,rfl,rfl,p,_,_,_,rfl,rfl,SqL.of ep2,a2,(by show 3≤sizeLine;decide),fun t nt=>?_⟩;have sT:=Same.new nt (.tup [.str pr.1.str,wv,v]);refine ⟨.ref t,_,rfl,S2.trans sT,?_⟩;have es:iW (f',gs.take (i+1))=.node pr.1 (iW (f',gs.take i)) pr.2:=by
        rw [aaz,hpr];obtain ⟨g,z⟩:=pr;exact kM f' (gs.take i) g z
      rw [es];exact ⟨t,wv,v,rfl,upd_same,hw.mono (Tups.of sT),hv.mono (Tups.of sT)⟩
    · obtain ⟨wv,cc,rfl,S2,hw⟩:=z;rw [aaL] at hw;exact ⟨_,rfl,q wv H2 (S.trans S2) (by rw [efw];exact hw)⟩
end
open PySem L2
theorem Trn.enum {K:aaa} {a:Addr} {xs:List V}:Trn (xr K a) xs.length (fun H=>SqL K H a xs) (fun i x H H'=>∃ p y,H p=none∧x=.ref p∧H'=upd H p (.tup [.int i,y])∧xs[i]?=some y) :=
  ⟨fun i H hi q=>⟨xs,xs[i],q,by simp [hi]⟩,fun H q=>⟨xs,q,aab _⟩,fun i H x H' hi q y=>by
    obtain ⟨p,z,n,e1,e2,e3⟩:=y;exact ⟨p,z,n,e1,e2,e3 xs q⟩⟩
theorem oa {α:Type} (ys:List α):∀ n,n≤ys.length→(aby n).filterMap (ys[·]?)=ys.take n
  | 0,_=>by simp
  | n+1,h=>by
    rw [List.range_succ,List.filterMap_append,oa ys n (by lia),aaz];congr 1
theorem oM {α:Type} (xs:List α):gk xs 0 2=bg xs:=by
  unfold gk;have hl:=gc _ xs (aab _);have e:abf 0 (xs.length:Int) 2=(aby (bg xs).length).map fun k=>2 * k:=by
    unfold abf;simp only [show (2:Int) > 0 by decide,if_true];rw [hl];have : ((if (0:Int) < (xs.length:Int) then ((xs.length:Int) - 0+2 - 1) / 2 else 0)).toNat=(xs.length+1) / 2:=by split <;> lia
    rw [this];refine abF fun k _=>?_;lia
  rw [e,List.filterMap_map];have : ((fun i:Nat=>xs[i]?) ∘ fun k=>2 * k)=fun k:Nat=>(bg xs)[k]?:=by
    funext k;exact (og _ xs (aab _) k).symm
  rw [this,oa _ _ (aab _),aaL]
theorem lh {α β:Type} (g:α→β):∀ (n:Nat) (xs:List α),xs.length≤n→bg (xs.map g)=(bg xs).map g
  | _,[],_=>rfl
  | _,[a],_=>rfl
  | 0,_ :: _ :: _,hn=>by simp at hn
  | n+1,a :: b :: r,hn=>by
    show g a :: bg (r.map g)=g a :: (bg r).map g;rw [lh g n r (by simp at hn;lia)]
theorem sJ:∀ {ps:List (List Nat)} {x:List Nat},x∈ps→(∀ y∈ps,y≠[])→x.length+(ps.length - 1)≤ps.flatten.length
  | y :: r,x,h,hn=>by
    have hy:=aa5.mpr (hn y aai);have all:∀ (r:List (List Nat)),(∀ y∈r,y≠[])→r.length≤r.flatten.length:=fun r=>by
      induction r with
      | nil=>intro _;simp
      | cons a r ih =>
        intro h;have:=ih fun y hy=>h y (aae _ hy);have ha:=aa5.mpr (h a aai);simp only [aao,abQ,aah];lia
    simp only [abQ,aah,aao];rcases aaj.mp h with rfl|h
    · have:=all r fun y hy=>hn y (aae _ hy);lia
    · have:=sJ h fun y hy=>hn y (aae _ hy);have hp:=List.length_pos_of_mem h;lia
theorem PcOk.ne {ps:List (List Nat)} (h:PcOk ps):∀ y∈ps,y≠[]:=fun y hy=>by
  obtain ⟨k,hk,rfl⟩:=List.getElem_of_mem hy;have:=h k _ (aac hk);split at this
  · obtain ⟨c,e,_⟩:=this;rw [e];simp
  · exact this
def mix:List (List Nat)→List V→List V
  | _ :: s :: r,u :: us=>u :: tS s :: mix r us
  | [_],u :: _=>[u]
  | _,_=>[]
theorem tf:∀ (n:Nat) (ps:List (List Nat)) (us:List V),ps.length≤n→us.length=(ps.length+1) / 2→(mix ps us).length=ps.length∧∀ k x,ps[k]?=some x→(mix ps us)[k]?=if k % 2=0 then us[k / 2]? else some (tS x)
  | _,[],us,_,_=>⟨by cases us <;> rfl,fun k x h=>by simp at h⟩
  | _,[p],us,_,hu=>by
    cases us with
    | nil=>simp at hu
    | cons u us =>
      refine ⟨rfl,fun k x h=>?_⟩;cases k with
      | zero=>rfl
      | succ k=>simp at h
  | 0,_ :: _ :: _,_,hn,_=>by simp at hn
  | n+1,p :: s :: r,us,hn,hu=>by
    cases us with
    | nil=>simp at hu;lia
    | cons u us =>
      obtain ⟨h1,h2⟩:=tf n r us (by simp at hn;lia) (by simp at hu;lia);refine ⟨by show (mix r us).length+2=r.length+2;lia,fun k x h=>?_⟩
      match k,h with
      | 0,h=>rfl
      | 1,h=>injection h with h;subst h;rfl
      | k+2,h =>
        have:=h2 k x h;show (mix r us)[k]?=_;rw [this];have e1:(k+2) % 2=k % 2:=by lia
        have e2:(k+2) / 2=k / 2+1:=by lia
        rw [e1,e2];rfl
theorem s_ {H:Hp}:∀ (n:Nat) (ps:List (List Nat)) (us:List V) (f:Wy) (ws:List Wy),ps.length≤n→ps.length % 2=1→ws.length+1=(ps.length+1) / 2→PcOk ps→Paired (WyIn H) (f :: ws) us→∃ v0 fl,mix ps us=v0 :: fl∧WyIn H f v0∧FlIn H ((kC ps).zip ws) fl
  | _,[],_,_,_,_,ho,_,_,_=>by simp at ho
  | _,[p],us,f,ws,_,_,_,_,hp=>by
    cases hp with
    | cons h t=>exact ⟨_,[],rfl,h,rfl⟩
  | 0,_ :: _ :: _,_,_,_,hn,_,_,_,_=>by simp at hn
  | n+1,p :: s :: r,us,f,ws,hn,ho,hw,hk,hp=>by
    cases hp with
    | @cons _ u _ us' h t =>
      cases ws with
      | nil=>simp only [abE,aao] at hw ho;lia
      | cons w' ws =>
        have hk':PcOk r:=fun k x hx=>by
          have:=hk (k+2) x hx
          rwa [show (k+2) % 2=k % 2 by lia] at this
        obtain ⟨v0,fl,e,h1,h2⟩:=s_ n r us' w' ws (by simp at hn;lia) (by simp at ho;lia) (by simp at hw;lia) hk' t;obtain ⟨c,hc,hs⟩:∃ c,s=[c]∧sgC c:=hk 1 s rfl;refine ⟨u,tS s :: mix r us',rfl,h,?_⟩;have eo:kC (p :: s :: r)=mY c :: kC r:=by
          subst hc;cases r with
          | nil=>simp at ho
          | cons a t=>rfl
        rw [eo,e];refine ⟨v0,fl,?_,h1,h2⟩;show tS s :: v0 :: fl=V.str (mY c).str :: v0 :: fl;rw [hc,dt,lv hs];rfl
theorem uf (m:List Nat) (y:Nat):bu (mkS (m++[y])) (some (-1)) none=mkS [y]:=by
  have hl:(m++[y]).length=m.length+1:=by simp
  have e:aan (some (-1)) none 1 (mkS (m++[y])).length=abf ((m.length:Nat):Int) ((m.length+1:Nat):Int) 1:=by
    unfold aan;rw [ah,hl];simp only [show (1:Int) > 0 by decide,if_true];congr 1 <;> (try lia)
    all_goals (split <;> lia)
  unfold bu;rw [e,dN _ m.length (m.length+1) (by lia) (by lia) _ (gH m.length (m.length+1) (by lia))];congr 1;simp
theorem lF:∀ {os:List (Option Wy)},kJ os=none→none∈os
  | [],h=>nomatch h
  | none :: _,_=>aai
  | some w :: r,h=>by
    unfold kJ at h;split at h
    · rename_i e;exact aae _ (lF e)
    · cases h
theorem qu {H:Hp}:∀ {os:List (Option Wy)} {ys:List V},Paired (fun o v=>OfW o v H) os ys→(V.non∈ys↔none∈os)
  | _,_,.nil=>by simp
  | _,_,.cons (a:=o) (b:=y) h t=>by
    rw [aaj,aaj,qu t];refine or_congr ?_ Iff.rfl;have:=OfW.non h;cases o with
    | none=>rw [show y=.non from h];simp
    | some w =>
      have h2:=of_decide_eq_false (lG (show WyIn H w y from h));simp only [reduceCtorEq,iff_false];exact fun z=>h2 z.symm
theorem nH {H:Hp} {K:aaa}:∀ {os:List (Option Wy)} {ys:List V},Paired (fun o v=>OfW o v H) os ys→∀ v∈ys,v=.non∨(∃ i,v=.int i)∨∃ a ys,v=.ref a∧SqT K H a ys
  | _,_,.nil,v,hv=>nomatch hv
  | _,_,.cons (a:=o) (b:=y) h t,v,hv=>by
    rcases aaj.mp hv with rfl|hv
    · cases o with
      | none=>exact .inl h
      | some w=>cases w with
        | num i=>exact .inr (.inl ⟨i,h⟩)
        | node g l r=>obtain ⟨a,vl,vr,e,ha,_⟩:=(show WyIn H (.node g l r) v from h);exact .inr (.inr ⟨a,_,e,SqT.of ha⟩)
    · exact nH t v hv
theorem nG {H:Hp}:∀ {ws:List Wy} {ys:List V},Paired (fun o v=>OfW o v H) (ws.map some) ys→Paired (WyIn H) ws ys
  | [],_,h=>by cases h;exact .nil
  | w :: ws,_,h=>by
    cases h with
    | cons h t=>exact .cons h (nG t)
section
variable {P:Program} {w:World} {K:aaa} {mg:Str→Option Value} {base:Heap} {f:Addr} {fd:FuncData}
def uO (n:Nat):Sp:=fun vs H Q _=>∃ l:List Nat,vs=[.str (mkS l)]∧Asc l∧R12 l∧l.length≤400∧l.length < 2 * n∧∀ v H',Same H H'→OfW (da n l) v H'→Q v H'
abbrev gD:Stmt:=top 58
theorem fB:FnScope ["text","found","parts"] ["text"] (aq gD):=⟨rfl,rfl,rfl,by decide +kernel,rfl,by decide +kernel,by decide +kernel⟩
theorem o5 (F:Fun K "_law_way" "_law_way" gD f fd) (bF:Binds K fd ["text"] []) (mF:mg "_law_way" = some (.ref f)) (B:Bu K mg) (C__law_end:Cal P w K mg base "_law_end" 1 ["text","at"] qf) (C__law_pieces:Cal P w K mg base "_law_pieces" 2 ["text"] jy) (C__law_number:Cal P w K mg base "_law_number" 1 ["word"] lM) (C__law_folded:Cal P w K mg base "_law_folded" 1 ["found"] oV) :
    ∀ n,FnOk P w K mg base CX0 (n+3) f fd ["text"] (uO n):=by
  intro n
  induction n with
  | zero =>
    refine ⟨fun vs H Q E h=>?_,fun A outer s H args us vs Q E _ _ _ _ h=>?_⟩
    · obtain ⟨x,rfl,_⟩:=h;rfl
    · obtain ⟨l,_,_,_,_,hd,_⟩:=h;lia
  | succ n ih =>
    have C__law_way:Cal P w K mg base "_law_way" (n+3) ["text"] (uO n):=⟨f,fd,ih,bF,F.kp,mF⟩
    refine F.ok fB (fun vs H Q E h=>?_) (fun cdv A outer s H vs Q E hr h=>?_)
    · obtain ⟨x,rfl,_⟩:=h;rfl
    obtain ⟨l,rfl,ha,h12,h400,hd,q⟩:=h;refine ⟨_,(@ad _ _ _ _ _ (@aV _ _ _ _ _ _ _ _ (@PW.pt _ _ _ (@cF _ _ _ _ _ _ _ (@ai _ _ _ _ _ _ _ _ bc (@aX _ _ _ _ _ _ _ _ _ _ bQ (pv 0) bi (@aY _ _ _ ae)) af (ak _)) (@cy _ _ _ _ (@ai _ _ _ _ _ _ _ _ bc (@am _ _ _ _ _ _ _ _ _ _ _ C__law_end hr (by lia) rfl (@aa _ _ _ _ _ (pv 0) (@aa _ _ _ _ _ ae ac (by rfl)) (by rfl)) (by decide) (by rfl) (by rfl)) (@ap _ _ _ _ _ _ _ _ _ bH rfl B.ilen aaI (@aa _ _ _ _ _ (pv 0) ac (by rfl)) (by decide) (by decide) (by rfl) (by rfl)) (ak _))))) (@ag _ _ _ (@ar _ _ _ _ (@bO _ _ _ _ _ _ _ _ (@ai _ _ _ _ _ _ _ _ bc (@aX _ _ _ _ _ _ _ _ _ _ bQ (pv 0) (@aY _ _ _ (@g8 _ _ _ _ _ _ eU ae)) bi) af (ak _)) (@am _ _ _ _ _ _ _ _ _ _ _ C__law_way hr (by lia) rfl (@aa _ _ _ _ _ (@aX _ _ _ _ _ _ _ _ _ _ bQ (pv 0) (@aY _ _ _ ae) (@aY _ _ _ (@g8 _ _ _ _ _ _ eU ae))) ac (by rfl)) (by decide) (by rfl) (by rfl)) aZ))) aB) (@ad _ _ _ _ _ (@ao _ _ (1) _ _ _ _ (fB).nd rfl (Or.inl rfl) (@am _ _ _ _ _ _ _ _ _ _ _ C__law_pieces hr (by lia) rfl (@aa _ _ _ _ _ (pv 0) ac (by rfl)) (by decide) (by rfl) (by rfl)) (by rfl) (by first|exact .inl rfl|exact .inr rfl|assumption)) (@ad _ _ _ _ _ (@aV _ _ _ _ _ _ _ _ (@ai _ _ _ _ _ _ _ _ dY (pv 1) aZ (ak _)) (@ag _ _ _ (@ar _ _ _ _ aZ)) aB) (@ad _ _ _ _ _ (@aV _ _ _ _ _ _ _ _ (@ai _ _ _ _ _ _ _ _ bc (@ap _ _ _ _ _ _ _ _ _ a6 rfl B.ilen aaI (@aa _ _ _ _ _ (pv 1) ac (by rfl)) (by decide) (by decide) (by rfl) (by rfl)) ae (ak _)) (@ag _ _ _ (@ar _ _ _ _ (@am _ _ _ _ _ _ _ _ _ _ _ C__law_number hr (by lia) rfl (@aa _ _ _ _ _ (pv 0) ac (by rfl)) (by decide) (by rfl) (by rfl)))) aB) (@ad _ _ _ _ _ (@ao _ _ (2) _ _ _ _ (fB).nd rfl (Or.inr rfl) (@gm _ _ _ _ _ _ _ _ (["part"]) ([none]) _ _ _ _ rfl (@cY _ _ _ _ (sM rfl (pv 1) ae)) rfl trivial trivial (fun _ _ _ _=>⟨(@aG _ _ (0) _ (show aa8 (["part"]:List Str) by decide +kernel) rfl (Or.inl rfl) (.inr rfl)),bB,(@am _ _ _ _ _ _ _ _ _ _ _ C__law_way hr (by lia) rfl (@aa _ _ _ _ _ (pv 0) ac (by rfl)) (by decide) (by rfl) (by rfl))⟩) (by rfl) (by rfl) (by rfl) (by rfl) (by intro _;rfl)) (by rfl) (by first|exact .inl rfl|exact .inr rfl|assumption)) (@ad _ _ _ _ _ (@aV _ _ _ _ _ _ _ _ (@ai _ _ _ _ _ _ _ _ (uW rfl hr.units) aZ (pv 2) (by with_unfolding_all rfl)) (@ag _ _ _ (@ar _ _ _ _ aZ)) aB) (@ag _ _ _ (@ar _ _ _ _ (@am _ _ _ _ _ _ _ _ _ _ _ C__law_folded hr (by lia) rfl (@aa _ _ _ _ _ (@gm _ _ _ _ _ _ _ _ (["k","sign","parts"]) ([none,none,some 2]) _ _ _ _ rfl (@uV _ _ _ _ _ _ _ _ rfl B.ienumerate (@aa _ _ _ _ _ (pv 1) ac (by rfl)) (by rfl)) rfl ⟨rfl,trivial⟩ ⟨⟨rfl,Or.inl rfl,Or.inl rfl⟩,trivial⟩ (fun _ _ _ _=>⟨(@lY _ _ _ _ _ _ (2) rfl rfl (@bC _ _ _ _ _ (@aG _ _ (0) _ (show aa8 (["k","sign","parts"]:List Str) by decide +kernel) rfl (Or.inl rfl) (.inr rfl)) (@bC _ _ _ _ _ (@aG _ _ (1) _ (show aa8 (["k","sign","parts"]:List Str) by decide +kernel) rfl (Or.inl rfl) (.inr rfl)) fc (by rfl)) (by rfl)) (by rfl) (by rfl)),bB,(@bO _ _ _ _ _ _ _ _ (@ai _ _ _ _ _ _ _ _ bc (@aj _ _ _ _ _ _ _ _ dD (pv 0) ae) ae (ak _)) (@aK _ _ _ _ _ _ _ (@tL _ _ rfl) (pv 2) (@aj _ _ _ _ _ _ _ _ hE (pv 0) ae) (fun _ _=>rfl)) (pv 1))⟩) (by rfl) (by rfl) (by rfl) (by rfl) (by intro _;rfl)) ac (by rfl)) (by decide) (by rfl) (by rfl)))))))))),?_⟩;have e1:decide (V.str (bu (mkS l) none (some 1))=V.str ("(":Str))=decide (l.head?=some 40):=by rw [vw,dW,bW,mS]
    have l1:(bu (mkS l) none (some 1)).length≤sizeLine:=by rw [vw,ah,aav];exact al (by lia)
    have ll:((mkS l).length:Int)=(l.length:Nat):=by rw [ah]
    have lz:(mkS l).length≤sizeLine:=by rw [ah];exact al (by lia)
    unfold da at q;by_cases hb:l.head?=some 40∧fq l 0=some l.length
    · rw [if_pos hb] at q;refine ⟨_,rfl,1,rfl,_,rfl,l1,rfl,_,rfl,?_⟩;rw [e1,decide_eq_true hb.1];refine aC ⟨_,rfl,l,0,rfl,by lia,aaK _,fun H1 s1=>?_⟩;rw [hb.2];refine ⟨_,rfl,_,rfl,lz,rfl,true,?_,aC ?_⟩
      · show V.bl (decide (V.int (l.length:Nat)=V.int ((mkS l).length:Nat)))=_;rw [ll,decide_eq_true rfl]
      obtain ⟨m,y,em⟩:∃ m y,l=m++[y]:=by
        rcases aaY l with e|⟨m,y,e⟩
        · rw [e] at hb;cases hb.1
        · exact ⟨m,y,by rw [e,aaX]⟩
      have ec:bu (mkS l) (some (-1)) none=mkS [y]:=by rw [em];exact uf m y
      have eg:l.getLast?=some y:=by rw [em,abA]
      have ey:decide (V.str (bu (mkS l) (some (-1)) none)=V.str (")":Str))=decide (l.getLast?=some 41):=by
        rw [ec,gQ,bW,eg];simp
      refine ⟨_,rfl,_,rfl,-1,rfl,_,rfl,by rw [ec,ah];exact al (by simp),rfl,_,rfl,?_⟩;rw [ey];by_cases h41:l.getLast?=some 41
      · rw [decide_eq_true h41];rw [if_pos h41] at q;have e:=mn hb.1 h41;have ecm:bu (mkS l) (some 1) (some (-1))=mkS l.tail.dropLast:=by
          conv=>lhs;rw [e]
          exact om _ 40 41
        have lm:=mo l;have l2:l.length=l.tail.dropLast.length+2:=by
          have:=congrArg aa2 e;rw [this];simp
        refine aC ⟨_,rfl,1,rfl,_,rfl,-1,rfl,_,rfl,by rw [ecm,ah];exact al (by lia),?_⟩;rw [ecm];exact ⟨_,rfl,gW (a:=[40]) (c:=[41]) e ha,h12.sub (a:=[40]) (c:=[41]) e,by lia,by lia,fun v H2 s2 hv=>q v H2 (s1.trans s2) hv⟩
      · rw [decide_eq_false h41];rw [if_neg h41] at q;exact av (q .non H1 s1 rfl)
    · rw [if_neg hb] at q;by_cases hh:l.head?=some 40
      all_goals first
        | (refine ⟨_,rfl,1,rfl,_,rfl,l1,rfl,_,rfl,?_⟩
           rw [e1,decide_eq_true hh];refine aC ⟨_,rfl,l,0,rfl,by lia,aaK _,fun H1 s1=>?_⟩;refine ⟨_,rfl,_,rfl,lz,by cases fq l 0 <;> rfl,false,?_,av ?_⟩
           · have hne:fq l 0≠some l.length:=fun z=>hb ⟨hh,z⟩;show V.bl (decide (sQ (fq l 0)=V.int ((mkS l).length:Nat)))=_;rw [ll];congr 1;refine decide_eq_false fun z=>hne ?_;cases h:fq l 0 with
             | none=>rw [h] at z;cases z
             | some k =>
               rw [h] at z;injection z with z
               congr 1;lia)
        | (obtain ⟨H1,hH1,s1⟩:∃ H1,H=H1∧Same H H1:=⟨H,rfl,Same.refl _⟩
           refine ⟨_,rfl,1,rfl,_,rfl,l1,rfl,_,rfl,?_⟩;rw [e1,decide_eq_false hh];refine av (av ?_);rw [hH1])
      all_goals
        refine ⟨_,rfl,l,rfl,by lia,fun v H2 s2 hv=>?_⟩;have s12:=s1.trans s2;cases hps:fN l with
        | none =>
          rw [hps] at hv q;rw [show v=.non from hv];exact ⟨_,rfl,rfl,_,rfl,aC (q .non H2 s12 rfl)⟩
        | some ps =>
          rw [hps] at hv q;obtain ⟨a,rfl,na,ea⟩:=hv;obtain ⟨k1,k2,k3⟩:=il hps;have hne:=k2.ne;have lps:(ps.map tS).length=ps.length:=aaf _;have d1:decide (V.int ((ps.map tS).length:Nat)=V.int 1)=decide (ps.length=1):=by
            rw [d3,lps,aaH,decide_eq_true_eq,decide_eq_true_eq];lia
          refine ⟨_,rfl,rfl,_,rfl,av ⟨_,rfl,a,_,rfl,.inl (SqL.of ea),rfl,decide (ps.length=1),congrArg V.bl d1,?_⟩⟩;by_cases c1:ps.length=1
          · rw [decide_eq_true c1];have q:∀ v H',Same H H'→OfW ((bd l).map .num) v H'→Q v H':=fun v H' s z=>q v H' s (by
              show OfW (if ps.length=1 then _ else _) v H';rw [if_pos c1];exact z)
            refine aC ⟨_,rfl,l,rfl,ha,by lia,h12,fun H3 s3=>q _ H3 (s12.trans s3) ?_⟩;cases bd l with
            | none=>rfl
            | some i=>exact (rfl:fP (some i)=V.int i)
          rw [decide_eq_false c1];have hsub:∀ x∈ps,∃ u v,l=u++x++v:=fun x hx=>by
            obtain ⟨u,v,e⟩:=jZ hx;exact ⟨u,v,by rw [← k1];exact e⟩
          have hxl:∀ x∈ps,x.length+(ps.length - 1)≤l.length:=fun x hx=>by
            have:=sJ hx hne;rw [k1] at this;exact this
          have lel:=gc _ ps (aab _);have hp3:3≤ps.length:=by lia
          have hpl:ps.length≤400:=by
            obtain ⟨x,hx⟩:∃ x,x∈ps:=List.exists_mem_of_length_pos (by lia);have:=hxl x hx;have:=aa5.mpr (hne x hx);lia
          refine av ⟨_,rfl,a,_,2,rfl,rfl,SqL.of ea,by decide,fun p3 n3=>?_⟩;rw [oM,lh tS _ ps (aab _)];have s3:=Same.new n3 (.lst ((bg ps).map tS));have e3:upd H2 p3 (.lst ((bg ps).map tS)) p3=_:=upd_same;generalize upd H2 p3 (.lst ((bg ps).map tS))=H3 at s3 e3 ⊢;refine ⟨p3,rfl,⟨_,SqL.of e3⟩,?_⟩;have lem:((bg ps).map tS).length=(bg ps).length:=aaf _;refine d5 (Trn.list (xs:=(bg ps).map tS)) (fun i ys H'=>Same H3 H'∧Paired (fun o v=>OfW o v H') (((bg ps).map (da n)).take i) ys) ⟨Same.refl _,.nil⟩ (fun i ys H' hi z=>⟨SqL.of (z.1 _ _ e3),aQ (by have:=abg z.2;rw [aav,aaf] at this;lia)⟩) (fun i x ys H0 H' hi hx z Nx nx=>?_) (fun ys H4 z p5 n5=>?_)
          · obtain ⟨rfl,hx⟩:=hx;obtain ⟨S,hy⟩:=z;rw [aar] at hx;obtain ⟨x,hx2,rfl⟩:=aaF.mp hx;have hm:=iI _ ps (aab _) x (aaM hx2);obtain ⟨u,v,e⟩:=hsub x hm;have hl:=hxl x hm;refine ⟨_,rfl,x,rfl,gW e ha,h12.sub e,by lia,by lia,fun v5 H5 s5 hv5=>nx _ _ ⟨S.trans s5,?_⟩⟩;have etk:((bg ps).map (da n)).take (i+1)=((bg ps).map (da n)).take i++[da n x]:=by rw [aaz,aar,hx2];rfl
            rw [etk];exact Paired.app (Paired.mapP hy fun _ _ z=>z.mono s5) (.cons hv5 .nil)
          obtain ⟨S,hy⟩:=z;rw [lem,← aaf (f:=da n),aaL] at hy;have s5:=Same.new n5 (.lst ys);have e5:upd H4 p5 (.lst ys) p5=_:=upd_same;have hy5:=Paired.mapP hy fun _ _ z=>OfW.mono s5 z;have S5:=(s3.trans S).trans s5;have ly:=abg hy5;rw [aaf] at ly;generalize upd H4 p5 (.lst ys)=H5 at s5 e5 hy5 S5 ⊢;clear hy e3 s3 S s5;refine ⟨_,rfl,p5,ys,rfl,rfl,SqL.of e5,fun v hv=>nH hy5 v hv,_,rfl,?_⟩;have hn:=qu hy5;have q:∀ v H',Same H H'→OfW (match kJ ((bg ps).map (da n)) with|none=>none|some []=>none|some (f :: ws)=>some (fm f ((kC ps).zip ws))) v H'→Q v H':=fun v H' s z=>q v H' s (by
            show OfW (if ps.length=1 then _ else _) v H';rw [if_neg c1];exact z)
          cases hall:kJ ((bg ps).map (da n)) with
          | none =>
            rw [hall] at q;rw [decide_eq_true (hn.mpr (lF hall))];exact aC (q .non H5 (s12.trans S5) rfl)
          | some fws =>
            rw [hall] at q;have em:=gg hall;rw [em] at hy5 hn;rw [decide_eq_false (fun z=>by have:=hn.mp z;simp at this)];have lf:fws.length=(bg ps).length:=by
              have:=congrArg aa2 em;rw [aaf,aaf] at this;exact this.symm
            cases fws with
            | nil=>simp at lf;lia
            | cons fw ws =>
            have hws:=nG hy5;have lys:ys.length=(ps.length+1) / 2:=by
              have:=abg hws;rw [← this,lf,lel]
            obtain ⟨mx1,mx2⟩:=tf _ ps ys (aab _) lys;have ea5:=S5 _ _ ea;refine av ⟨_,rfl,a,rfl,⟨_,SqL.of ea5⟩,?_⟩;refine d5 (Trn.enum (xs:=ps.map tS)) (fun i zs H'=>Same H5 H'∧zs=(mix ps ys).take i) ⟨Same.refl _,rfl⟩ (fun i zs H' hi z=>⟨SqL.of (z.1 _ _ ea5),aQ (by rw [z.2,aav];lia)⟩) (fun i x zs H0 H' hi hx z Nx nx=>?_) (fun zs H6 z p6 n6=>?_)
            · obtain ⟨S,rfl⟩:=z;obtain ⟨pp,y,npp,rfl,rfl,hy⟩:=hx;rw [aar] at hy;obtain ⟨x,hx2,rfl⟩:=aaF.mp hy;have sp:=Same.new npp (.tup [.int (i:Nat),tS x]);have Sp:=S.trans sp;have hmx:=mx2 i x hx2;have hil:i < ps.length:=(aam.mp hx2).1;refine ⟨pp,_,rfl,SqT.of upd_same,rfl,_,_,rfl,_,_,rfl,rfl,?_⟩;generalize upd H0 pp (.tup [.int (i:Nat),tS x])=Hp' at sp Sp ⊢;have dm:decide (V.int (((i:Nat):Int) % 2)=V.int 0)=decide (i % 2=0):=by
                rw [d3,aaH,decide_eq_true_eq,decide_eq_true_eq];lia
              refine ⟨_,rfl,_,_,rfl,rfl,(by show (0:Int) < 2;decide),rfl,decide (i % 2=0),congrArg V.bl dm,?_⟩;by_cases ce:i % 2=0
              · rw [decide_eq_true ce];rw [if_pos ce] at hmx;obtain ⟨v,hv⟩:∃ v,ys[i / 2]?=some v:=⟨_,aac (by lia)⟩
                rw [hv] at hmx;have ei:((i:Nat):Int) / 2=((i / 2:Nat):Int):=by lia
                refine aC ⟨_,rfl,_,rfl,_,_,rfl,rfl,⟨by decide,by decide⟩,p5,_,_,v,rfl,rfl,SqL.of (Sp _ _ e5),by rw [ei];exact bA hv,nx _ _ ⟨Sp,?_⟩⟩;rw [aaz,hmx];rfl
              · rw [decide_eq_false ce];rw [if_neg ce] at hmx;refine av ⟨_,rfl,nx _ _ ⟨Sp,?_⟩⟩;rw [aaz,hmx];rfl
            obtain ⟨S,rfl⟩:=z;rw [lps,← mx1,aaL];have s6:=Same.new n6 (.lst (mix ps ys));have hws6:=Paired.mapP hws fun _ _ z=>WyIn.mono (Tups.of (S.trans s6)) z;obtain ⟨v0,fl,e6,w1,w2⟩:=s_ _ ps ys fw ws (aab _) k3 (by simp at lf;lia) k2 hws6;refine ⟨p6,fw,(kC ps).zip ws,v0,fl,rfl,by rw [upd_same,e6],w1,w2,?_,fun v7 H7 s7 hv7=>q v7 H7 (((s12.trans S5).trans (S.trans s6)).trans s7) hv7⟩;rw [List.length_zip];simp at lf;lia
end
open PySem L2
theorem oh (c:Nat):(!(!(aaB ("012345678":Str) (⟨#[c]⟩:Str) 0 ("012345678":Str).length 1).isEmpty))=!decide (48≤c∧c≤56):=by
  have:=StrLaws.found_one ("012345678":Str) c;rw [this,show ("012345678":Str)=mkS [48,49,50,51,52,53,54,55,56] by decide +kernel,bK];congr 1;rw [aaH,decide_eq_true_eq,decide_eq_true_eq];simp only [aaj,abz,or_false];lia
theorem j8:∀ (n:Nat) (ps:List (List Nat)),ps.length≤n→(∀ y∈ps,y≠[])→((bg ps).map aa2).sum+ps.length / 2≤ps.flatten.length
  | _,[],_,_=>by simp [bg]
  | _,[a],_,_=>by simp [bg]
  | 0,_ :: _ :: _,hn,_=>by simp at hn
  | n+1,a :: b :: r,hn,h=>by
    have:=j8 n r (by simp at hn;lia) fun y hy=>h y (aae _ (aae _ hy));have hb:=aa5.mpr (h b (aae _ aai));show (((a :: bg r).map aa2).sum)+_≤_;simp only [aax,aba,abQ,aah,aao];lia
theorem kW {n:Nat}:∀ {xs:List (List Nat)} {ws:List Wy},xs.map (da n)=ws.map some→(∀ x∈xs,∀ w,da n x=some w→2 * w.size≤x.length+1)→2 * (ws.map Wy.size).sum≤(xs.map aa2).sum+xs.length
  | [],ws,e,_=>by
    cases ws with
    | nil=>simp
    | cons w ws=>cases e
  | x :: xs,ws,e,h=>by
    cases ws with
    | nil=>cases e
    | cons w ws =>
      injection e with e1 e2
      have a:=kW e2 fun y hy=>h y (aae _ hy);have c:=h x aai w e1;simp only [aax,aba,aao];lia
theorem jO:∀ (n:Nat) (l:List Nat) (w:Wy),da n l=some w→2 * w.size≤l.length+1
  | 0,l,w,h=>nomatch h
  | n+1,l,w,h=>by
    unfold da at h;split at h
    · rename_i hh;split at h
      · rename_i hl;have a:=jO n _ w h;rw [mo] at a;lia
      · cases h
    · split at h
      · cases h
      · rename_i ps hps;obtain ⟨p1,p2,p3⟩:=il hps;split at h
        · cases e:bd l with
          | none=>rw [e] at h;cases h
          | some i =>
            rw [e] at h;injection h with h
            subst h;have hl:l≠[]:=fun z=>by rw [z,kP] at e;cases e
            have:=aa5.mpr hl;simp only [Wy.size];lia
        · split at h
          · cases h
          · cases h
          · rename_i f ws he;injection h with h
            subst h;have em:=gg he;have a:=kW em fun x hx w' hw'=>jO n x w' hw';have es:=j8 _ ps (aab _) p2.ne;have le:=gc _ ps (aab _);rw [p1] at es;have zs:=pU (kC ps) ws;rw [jY];simp only [aax,aba] at a;lia
section
variable {P:Program} {w:World} {K:aaa} {mg:Str→Option Value} {base:Heap} {f:Addr} {fd:FuncData}
def oR:Sp:=fun vs H Q _=>∃ l:List Nat,vs=[.str (mkS l)]∧l.length≤900∧∀ v H',Same H H'→OvP H' (stN l) v→Q v H'
abbrev cW:Stmt:=top 60
theorem gx:FnScope ["word"] ["word"] (aq cW):=⟨rfl,rfl,rfl,by decide +kernel,rfl,by decide +kernel,by decide +kernel⟩
theorem kl (F:Fun K "_law_stretch_in" "_law_stretch_in" cW f fd) (B:Bu K mg):FnOk P w K mg base CX0 1 f fd ["word"] oR:=by
  refine F.ok gx (fun vs H Q E h=>?_) (fun cdv A outer s H vs Q E hr h=>?_)
  · obtain ⟨l,rfl,_⟩:=h;rfl
  obtain ⟨l,rfl,hl,q⟩:=h;refine ⟨_,(@ad _ _ _ _ _ (@aV _ _ _ _ _ _ _ _ (@PW.pt _ _ _ (@ck _ _ _ _ _ _ _ (@ai _ _ _ _ _ _ _ _ dX (@ap _ _ _ _ _ _ _ _ _ bH rfl B.ilen aaI (@aa _ _ _ _ _ (pv 0) ac (by rfl)) (by decide) (by decide) (by rfl) (by rfl)) ae (ak _)) (@ck _ _ _ _ _ _ _ (@ai _ _ _ _ _ _ _ _ dX (@aK _ _ _ _ _ _ _ bG (pv 0) ae (fun _ _=>rfl)) af (ak _)) (@ck _ _ _ _ _ _ _ (@ai _ _ _ _ _ _ _ _ dJ (@aK _ _ _ _ _ _ _ bG (pv 0) ae (fun _ _=>rfl)) af (by with_unfolding_all rfl)) (@bS _ _ _ _ (@ai _ _ _ _ _ _ _ _ dJ (@aK _ _ _ _ _ _ _ bG (pv 0) ae (fun _ _=>rfl)) af (by with_unfolding_all rfl))))))) (@ag _ _ _ (@ar _ _ _ _ aZ)) aB) (@ag _ _ _ (@ar _ _ _ _ (@bO _ _ _ _ _ _ _ _ (@ai _ _ _ _ _ _ _ _ iU (@bn _ _ _ _ _ _ _ _ _ cj rfl B.iint aaA (@aa _ _ _ _ _ (@aK _ _ _ _ _ _ _ bG (pv 0) ae (fun _ _=>rfl)) ac (by rfl)) (by decide) (by decide) (by rfl) (by rfl)) (@bn _ _ _ _ _ _ _ _ _ cj rfl B.iint aaA (@aa _ _ _ _ _ (@aK _ _ _ _ _ _ _ bG (pv 0) ae (fun _ _=>rfl)) ac (by rfl)) (by decide) (by decide) (by rfl) (by rfl)) (ak _)) (@bT _ _ _ _ _ (@aa _ _ _ _ _ (@bn _ _ _ _ _ _ _ _ _ cj rfl B.iint aaA (@aa _ _ _ _ _ (@aK _ _ _ _ _ _ _ bG (pv 0) ae (fun _ _=>rfl)) ac (by rfl)) (by decide) (by decide) (by rfl) (by rfl)) (@aa _ _ _ _ _ (@bn _ _ _ _ _ _ _ _ _ cj rfl B.iint aaA (@aa _ _ _ _ _ (@aK _ _ _ _ _ _ _ bG (pv 0) ae (fun _ _=>rfl)) ac (by rfl)) (by decide) (by decide) (by rfl) (by rfl)) ac (by rfl)) (by rfl))) aZ)))),?_⟩;have ll:((mkS l).length:Int)=(l.length:Nat):=by rw [ah]
  have lz:(mkS l).length≤sizeLine:=by rw [ah];exact al (by lia)
  have no:stN l=none→Q .non H:=fun e=>q .non H (Same.refl _) (by rw [e];rfl);refine ⟨_,rfl,_,rfl,lz,rfl,!decide (l.length=3),?_,?_⟩
  · show V.bl (!decide (V.int ((mkS l).length:Nat)=V.int 3))=_;rw [ll,d3];congr 2;rw [aaH,decide_eq_true_eq,decide_eq_true_eq];lia
  by_cases c3:l.length=3
  rotate_left
  · rw [decide_eq_false c3];refine aC (aC (no ?_))
    match l,c3 with
    | [],_=>rfl
    | [_],_=>rfl
    | [_,_],_=>rfl
    | [_,_,_],c=>exact absurd rfl c
    | _ :: _ :: _ :: _ :: _,_=>rfl
  rw [decide_eq_true c3]
  match l,c3 with
  | [a,m,b],_ =>
  have a0:atI (mkS [a,m,b]).cps.toList 0=some a:=by rw [bK];rfl
  have a1:atI (mkS [a,m,b]).cps.toList 1=some m:=by rw [bK];rfl
  have a2:atI (mkS [a,m,b]).cps.toList 2=some b:=by rw [bK];rfl
  have e45:decide (V.str (⟨#[m]⟩:Str)=V.str ("-":Str))=decide (m=45):=by rw [show ("-":Str)=mkS [45] by decide +kernel,rR]
  have hst:stN [a,m,b]=if m=45∧48≤a∧a < b∧b≤56 then some ((a:Int) - 48,(b:Int) - 48) else none:=rfl
  refine av ⟨_,rfl,_,_,m,rfl,rfl,lz,a1,rfl,!decide (m=45),congrArg V.bl (congrArg not e45),?_⟩;by_cases c45:m=45
  rotate_left
  · rw [decide_eq_false c45];exact aC (aC (no (by rw [hst,if_neg (fun z=>c45 z.1)])))
  rw [decide_eq_true c45];refine av ⟨_,rfl,_,_,a,rfl,rfl,lz,a0,_,_,rfl,rfl,!decide (48≤a∧a≤56),congrArg V.bl (oh a),?_⟩;by_cases ca:48≤a∧a≤56
  rotate_left
  · rw [decide_eq_false ca];exact aC (aC (no (by rw [hst,if_neg (fun z=>ca ⟨z.2.1,by lia⟩)])))
  rw [decide_eq_true ca];refine av ⟨_,rfl,_,_,b,rfl,rfl,lz,a2,_,_,rfl,rfl,!decide (48≤b∧b≤56),congrArg V.bl (oh b),?_⟩;by_cases cb:48≤b∧b≤56
  rotate_left
  · rw [decide_eq_false cb];exact aC (no (by rw [hst,if_neg (fun z=>cb ⟨by lia,z.2.2.2⟩)]))
  rw [decide_eq_true cb];have ia:=mB a ⟨ca.1,by lia⟩;have ib:=mB b ⟨cb.1,by lia⟩;refine av ⟨_,rfl,_,_,a,rfl,rfl,lz,a0,_,_,rfl,ia,(by show 1≤640;decide),_,rfl,_,_,b,rfl,rfl,lz,a2,_,_,rfl,ib,(by show 1≤640;decide),_,_,rfl,rfl,decide (a < b),?_,?_⟩
  · show V.bl (decide (((a - 48:Nat):Int) < ((b - 48:Nat):Int)))=_;congr 1;rw [aaH,decide_eq_true_eq,decide_eq_true_eq];lia
  by_cases cl:a < b
  · rw [decide_eq_true cl];refine aC ⟨_,rfl,_,_,a,rfl,rfl,lz,a0,_,_,rfl,ia,(by show 1≤640;decide),_,rfl,_,_,b,rfl,rfl,lz,a2,_,_,rfl,ib,(by show 1≤640;decide),(by show 2≤sizeLine;decide),fun t nt=>?_⟩;refine q _ _ (Same.new nt _) ?_;rw [hst,if_pos ⟨c45,ca.1,cl,cb.2⟩];refine ⟨t,rfl,?_⟩;rw [upd_same,show ((a - 48:Nat):Int)=(a:Int) - 48 by lia,show ((b - 48:Nat):Int)=(b:Int) - 48 by lia]
  · rw [decide_eq_false cl];exact av (no (by rw [hst,if_neg (fun z=>cl z.2.2.1)]))
def OvL (H:Hp) (W:List (List Nat)) (z:V):Prop:=∃ a ys,z=.ref a∧H a=some (.lst ys)∧Paired (OvP H) (W.map stN) ys
theorem OvL.mono {H H':Hp} {W:List (List Nat)} {z:V} (g:Same H H') (h:OvL H W z):OvL H' W z:=by
  obtain ⟨a,ys,e,h1,h2⟩:=h;exact ⟨a,ys,e,g _ _ h1,Paired.mapP h2 fun _ _ z=>z.mono g⟩
def xu (k:Int) (l:List Nat) (u:V) (H:Hp):Prop :=
  (k=0∧match rrW l with|none=>u=.non|some ns=>∃ a,u=.ref a∧H a=some (.lst (ns.map V.int))) ∨
  (k=1∧OfW (rwW l) u H) ∨
  (k=2∧match rhW l with|none=>u=.non|some (ps,qs)=>HdIn H ps qs u)
def ym (k:Int) (H0:Hp) (v u:V) (H:Hp):Prop:=(∃ l,v=.str (mkS l)∧Txo l∧xu k l u H)∨((∃ d,Dat H0 d v∧∀ z,d≠.str z)∧u=.non)
def ThT (H:Hp) (v:V):Prop:=(∃ l,v=.str (mkS l)∧Txo l)∨∃ d,Dat H d v∧∀ z,d≠.str z
def sD:Sp:=fun vs H Q _=>∃ (k:Int) (v:V),vs=[.int k,v]∧0≤k∧k < 3∧ThT H v∧∀ u H',Same H H'→ym k H v u H'→Q u H'
abbrev gG:Stmt:=top 61
theorem cQ:FnScope ["kind","text","words","row","way","at","both"] ["kind","text"] (aq gG):=⟨rfl,rfl,rfl,by decide +kernel,rfl,by decide +kernel,by decide +kernel⟩
theorem o7 (F:Fun K "_law_due" "_law_due" gG f fd) (B:Bu K mg) (C__law_number:Cal P w K mg base "_law_number" 1 ["word"] lM) (C__law_way:Cal P w K mg base "_law_way" 204 ["text"] (uO 201)) (C__law_many:Cal P w K mg base "_law_many" 201 ["way"] (je 200)) (C__law_written:Cal P w K mg base "_law_written" 11 ["way"] (lJ 9)) (C__law_stretch_in:Cal P w K mg base "_law_stretch_in" 1 ["word"] oR):FnOk P w K mg base CX0 205 f fd ["kind","text"] sD:=by
  refine F.ok cQ (fun vs H Q E h=>?_) (fun cdv A outer s H vs Q E hr h=>?_)
  · obtain ⟨k,v,rfl,_⟩:=h;rfl
  obtain ⟨k,v,rfl,k0,k3,h,q⟩:=h;refine ⟨_,(@ad _ _ _ _ _ (@aV _ _ _ _ _ _ _ _ (@cO _ _ _ _ (@bE _ _ _ (@ap _ _ _ _ _ _ _ _ _ (@a8 _ ("str")) rfl B.iisinstance aad (@aa _ _ _ _ _ (pv 1) (@aa _ _ _ _ _ (@bw _ _ (.ty "str") _ _ rfl B.istr abJ rfl (by decide) (by decide)) ac (by rfl)) (by rfl)) (by decide) (by decide) (by rfl) (by rfl)) (by intro _;rfl))) (@ag _ _ _ (@ar _ _ _ _ aZ)) aB) (@ad _ _ _ _ _ (@ao _ _ (2) _ _ _ _ (cQ).nd rfl (Or.inl rfl) (@bV _ _ _ _ _ _ _ _ _ _ _ _ aaO ab0 ab1 dL (pv 1) (@aa _ _ _ _ _ af ac (by rfl)) (by rfl) (by rfl) (by rfl) (by rfl) (by rfl)) (by rfl) (by first|exact .inl rfl|exact .inr rfl|assumption)) (@ad _ _ _ _ _ (@aV _ _ _ _ _ _ _ _ (@ai _ _ _ _ _ _ _ _ bc (pv 0) ae (ak _)) (@ad _ _ _ _ _ (@fZ _ (3) _ _ _ _ _ _ _ _ _ _ (["word"]) ([none]) _ _ _ _ (cQ).nd rfl (Or.inl rfl) rfl (@cY _ _ _ _ (pv 2)) rfl trivial trivial (fun _ _ _ _=>⟨(@aG _ _ (0) _ (show aa8 (["word"]:List Str) by decide +kernel) rfl (Or.inl rfl) (.inr rfl)),bB,(@am _ _ _ _ _ _ _ _ _ _ _ C__law_number hr (by lia) rfl (@aa _ _ _ _ _ (pv 0) ac (by rfl)) (by decide) (by rfl) (by rfl))⟩) (by rfl) (by rfl) (by rfl) (by rfl) (by intro _;rfl) (by rfl) (by first|exact .inl rfl|exact .inr rfl|assumption)) (@ag _ _ _ (@ar _ _ _ _ (@bO _ _ _ _ _ _ _ _ (@PW.pt _ _ _ (@ck _ _ _ _ _ _ _ (@ai _ _ _ _ _ _ _ _ eM aZ (pv 3) (by with_unfolding_all rfl)) (@bS _ _ _ _ (@ai _ _ _ _ _ _ _ _ gn (@ap _ _ _ _ _ _ _ _ _ a6 rfl B.ilen aaI (@aa _ _ _ _ _ (pv 3) ac (by rfl)) (by decide) (by decide) (by rfl) (by rfl)) ae (ak _))))) aZ (pv 3))))) aB) (@ad _ _ _ _ _ (@aV _ _ _ _ _ _ _ _ (@ai _ _ _ _ _ _ _ _ bc (pv 0) ae (ak _)) (@ad _ _ _ _ _ (@ao _ _ (4) _ _ _ _ (cQ).nd rfl (Or.inl rfl) (@am _ _ _ _ _ _ _ _ _ _ _ C__law_way hr (by lia) rfl (@aa _ _ _ _ _ (pv 1) ac (by rfl)) (by decide) (by rfl) (by rfl)) (by rfl) (by first|exact .inl rfl|exact .inr rfl|assumption)) (@ag _ _ _ (@ar _ _ _ _ (@bO _ _ _ _ _ _ _ _ (@PW.pt _ _ _ (@cF _ _ _ _ _ _ _ (@ai _ _ _ _ _ _ _ _ l9 (pv 4) aZ (ak _)) (@cF _ _ _ _ _ _ _ (@ai _ _ _ _ _ _ _ _ iU (@am _ _ _ _ _ _ _ _ _ _ _ C__law_many hr (by lia) rfl (@aa _ _ _ _ _ (pv 4) ac (by rfl)) (by decide) (by rfl) (by rfl)) ae (ak _)) (@cy _ _ _ _ (@ai _ _ _ _ _ _ _ _ bc (@am _ _ _ _ _ _ _ _ _ _ _ C__law_written hr (by lia) rfl (@aa _ _ _ _ _ (pv 4) ac (by rfl)) (by decide) (by rfl) (by rfl)) (pv 1) (ak _)))))) (pv 4) aZ)))) aB) (@ad _ _ _ _ _ (@aV _ _ _ _ _ _ _ _ (@ai _ _ _ _ _ _ _ _ dX (@bV _ _ _ _ _ _ _ _ _ _ _ _ aaC acm aco kU (pv 2) (@aa _ _ _ _ _ af ac (by rfl)) (by rfl) (by rfl) (by rfl) (by rfl) (by rfl)) ae (ak _)) (@ag _ _ _ (@ar _ _ _ _ aZ)) aB) (@ad _ _ _ _ _ (@ao _ _ (5) _ _ _ _ (cQ).nd rfl (Or.inl rfl) (@bV _ _ _ _ _ _ _ _ _ _ _ _ aaC acn acp (@kT _ hr.units) (@gm _ _ _ _ _ _ _ _ (["word"]) ([none]) _ _ _ _ rfl (@cY _ _ _ _ (pv 2)) rfl trivial trivial (fun _ _ _ _=>⟨(@aG _ _ (0) _ (show aa8 (["word"]:List Str) by decide +kernel) rfl (Or.inl rfl) (.inr rfl)),bB,(@bp _ _ _ _ _ _ _ _ bc (pv 0) af (ak _))⟩) (by rfl) (by rfl) (by rfl) (by rfl) (by intro _;rfl)) (@aa _ _ _ _ _ dE ac (by rfl)) (by rfl) (by rfl) (by rfl) (by rfl) (by rfl)) (by rfl) (by first|exact .inl rfl|exact .inr rfl|assumption)) (@ad _ _ _ _ _ (@fZ _ (6) _ _ _ _ _ _ _ _ _ _ (["some"]) ([none]) _ _ _ _ (cQ).nd rfl (Or.inl rfl) rfl (@o1 _ _ _ _ (@bT _ _ _ _ _ (@aa _ _ _ _ _ (@aX _ _ _ _ _ _ _ _ _ _ dj (pv 2) bi (@aY _ _ _ (pv 5))) (@aa _ _ _ _ _ (@aX _ _ _ _ _ _ _ _ _ _ dj (pv 2) (@aY _ _ _ (@aj _ _ _ _ _ _ _ _ bt (pv 5) ae)) bi) ac (by rfl)) (by rfl)))) rfl trivial trivial (fun _ _ _ _=>⟨(@aG _ _ (0) _ (show aa8 (["some"]:List Str) by decide +kernel) rfl (Or.inl rfl) (.inr rfl)),bB,(@gm _ _ _ _ _ _ _ _ (["word"]) ([none]) _ _ _ _ rfl (@nv _ _ _ _ _ rfl (pv 0)) rfl trivial trivial (fun _ _ _ _=>⟨(@aG _ _ (0) _ (show aa8 (["word"]:List Str) by decide +kernel) rfl (Or.inl rfl) (.inr rfl)),bB,(@am _ _ _ _ _ _ _ _ _ _ _ C__law_stretch_in hr (by lia) rfl (@aa _ _ _ _ _ (pv 0) ac (by rfl)) (by decide) (by rfl) (by rfl))⟩) (by rfl) (by rfl) (by rfl) (by rfl) (by intro _;rfl))⟩) (by rfl) (by rfl) (by rfl) (by rfl) (by intro _;rfl) (by rfl) (by first|exact .inl rfl|exact .inr rfl|assumption)) (@ad _ _ _ _ _ (@aV _ _ _ _ _ _ _ _ (@PW.pt _ _ _ (@ck _ _ _ _ _ _ _ (@ai _ _ _ _ _ _ _ _ (sR rfl hr.units) aZ (@aj _ _ _ _ _ _ _ _ cG (@aK _ _ _ _ _ _ _ ix_list (pv 6) ae (fun _ _=>rfl)) (@aK _ _ _ _ _ _ _ ix_list (pv 6) ae (fun _ _=>rfl))) (by with_unfolding_all rfl)) (@bS _ _ _ _ (@ai _ _ _ _ _ _ _ _ gn (@ap _ _ _ _ _ _ _ _ _ (@rQ _ rfl) rfl B.imax PyProof.Rows.boot_max (@aa _ _ _ _ _ (@ap _ _ _ _ _ _ _ _ _ a6 rfl B.ilen aaI (@aa _ _ _ _ _ (@aK _ _ _ _ _ _ _ ix_list (pv 6) ae (fun _ _=>rfl)) ac (by rfl)) (by decide) (by decide) (by rfl) (by rfl)) (@aa _ _ _ _ _ (@ap _ _ _ _ _ _ _ _ _ a6 rfl B.ilen aaI (@aa _ _ _ _ _ (@aK _ _ _ _ _ _ _ ix_list (pv 6) ae (fun _ _=>rfl)) ac (by rfl)) (by decide) (by decide) (by rfl) (by rfl)) ac (by rfl)) (by rfl)) (by decide) (by decide) (by rfl) (by rfl)) ae (ak _))))) (@ag _ _ _ (@ar _ _ _ _ aZ)) aB) (@ag _ _ _ (@ar _ _ _ _ (@bT _ _ _ _ _ (@aa _ _ _ _ _ (@aK _ _ _ _ _ _ _ ix_list (pv 6) ae (fun _ _=>rfl)) (@aa _ _ _ _ _ (@aK _ _ _ _ _ _ _ ix_list (pv 6) ae (fun _ _=>rfl)) ac (by rfl)) (by rfl))))))))))))),?_⟩;rcases h with ⟨l,rfl,ht⟩|⟨d,hd,hn⟩
  rotate_left
  · have:=q .non H (Same.refl _) (.inr ⟨⟨d,hd,hn⟩,rfl⟩);cases d with
    | str z=>exact absurd rfl (hn z)
    | _=>exact ⟨_,rfl,_,_,false,rfl,hd.ty,rfl,false,rfl,aC this⟩
  obtain ⟨ha,hl,h12⟩:=ht;have hw:=i8 l;refine ⟨_,rfl,_,_,true,rfl,.str _,rfl,true,rfl,av ?_⟩;refine ⟨_,rfl,rfl,_,_,rfl,rfl,by decide,al (by rw [ah];lia),?_,?_,fun pw nw=>?_⟩
  · rw [cP];exact al (by simp;lia)
  · rw [bD];exact fY _ (by rw [ah];lia)
  rw [cP];have sw:=Same.new nw (.lst (((aJ l).map mkS).map V.str));have ew:upd H pw (.lst (((aJ l).map mkS).map V.str)) pw=some (.lst (((aJ l).map mkS).map V.str)):=upd_same;generalize upd H pw (.lst (((aJ l).map mkS).map V.str))=H1 at sw ew ⊢;have lwd:(((aJ l).map mkS).map V.str).length=(aJ l).length:=by simp
  have q':∀ u H',Same H H'→xu k l u H'→Q u H':=fun u H' s z=>q u H' s (.inl ⟨l,rfl,⟨ha,hl,h12⟩,z⟩);refine ⟨_,rfl,rfl,decide (k=0),congrArg V.bl (d3 k 0),?_⟩;by_cases ck0:k=0
  · rw [decide_eq_true ck0];refine aC ⟨_,rfl,pw,rfl,⟨_,SqL.of ew⟩,?_⟩;refine d5 (Trn.list (xs:=((aJ l).map mkS).map V.str)) (fun i ys H'=>Same H1 H'∧ys=(((aJ l).take i).map bd).map fP) ⟨Same.refl _,rfl⟩ (fun i ys H' hi p=>by rw [p.2];exact ⟨SqL.of (p.1 _ _ ew),aQ (by simp;lia)⟩) (fun i x ys H1 H' hi hx p Nx nx=>?_) (fun ys H' p p5 n5=>?_)
    · obtain ⟨S,rfl⟩:=p;obtain ⟨rfl,hx⟩:=hx;rw [aar,aar] at hx;obtain ⟨z,hz1,rfl⟩:=aaF.mp hx;obtain ⟨wd,hl1,rfl⟩:=aaF.mp hz1;obtain ⟨a,c,e⟩:=i7 (aaM hl1);have:=lI e;refine ⟨_,rfl,wd,rfl,gW e ha,by lia,h12.sub e,fun H2 s2=>?_⟩;refine nx _ _ ⟨S.trans s2,?_⟩;rw [aaz,hl1,aaP,aaP];rfl
    obtain ⟨S,rfl⟩:=p;rw [lwd,aaL];have s5:=Same.new n5 (.lst (((aJ l).map bd).map fP));have e5:upd H' p5 (.lst (((aJ l).map bd).map fP)) p5=_:=upd_same;have S5:=(sw.trans S).trans s5;generalize upd H' p5 (.lst (((aJ l).map bd).map fP))=H2 at s5 e5 S5 ⊢;refine ⟨_,rfl,p5,_,rfl,.inl (SqL.of e5),rfl,j0 _,_,rfl,?_⟩;show if (if false=true then _ else inV .non (((aJ l).map bd).map fP))=true then _ else _
    rw [my];have nn:rrW l=none→Q .non H2:=fun e=>q' .non H2 S5 (.inl ⟨ck0,by rw [e]⟩);by_cases cn:none∈(aJ l).map bd
    · rw [decide_eq_true cn];refine aC (aC (nn ?_));unfold rrW;split
      · cases hall:fV ((aJ l).map bd) with
        | none=>rfl
        | some ns=>rw [cB hall] at cn;simp at cn
      · rfl
    rw [decide_eq_false cn];refine av ⟨_,rfl,p5,_,rfl,.inl (SqL.of e5),_,_,rfl,rfl,_,rfl,?_⟩;rw [aaf,aaf];by_cases c9:(aJ l).length≤9
    · rw [decide_eq_false (by lia)];have er:rrW l=fV ((aJ l).map bd):=if_pos c9;cases hall:fV ((aJ l).map bd) with
      | none=>exact absurd (eS hall) cn
      | some ns =>
        have em:=cB hall;refine av ⟨_,rfl,q' (.ref p5) H2 S5 (.inl ⟨ck0,?_⟩)⟩;rw [er,hall];refine ⟨p5,rfl,?_⟩;rw [e5,em,abp];rfl
    · rw [decide_eq_true (by lia)];exact aC (nn (if_neg c9))
  rw [decide_eq_false ck0];refine av ⟨_,rfl,rfl,decide (k=1),congrArg V.bl (d3 k 1),?_⟩;by_cases ck1:k=1
  · rw [decide_eq_true ck1];refine aC ⟨_,rfl,l,rfl,ha,h12,hl,by lia,fun v H2 s2 hv=>?_⟩;have S2:=sw.trans s2;have q1:∀ u H',Same H H'→OfW (lwW l) u H'→Q u H':=fun u H' s z=>q' u H' s (.inr (.inl ⟨ck1,by rw [← xY hl];exact z⟩));cases hlw:da 201 l with
    | none =>
      rw [hlw] at hv;rw [show v=.non from hv];exact ⟨_,rfl,rfl,_,rfl,av (av (q1 .non H2 S2 (by unfold lwW;rw [hlw];rfl)))⟩
    | some wy =>
      rw [hlw] at hv;have b2:=jO 201 l wy hlw;obtain ⟨_,sm⟩:=mq 201 l wy hlw h12;have dl:=wy.deep_le;have hnon:=lG (show WyIn H2 wy v from hv);refine ⟨_,rfl,rfl,true,by rw [hnon];rfl,aC ⟨_,rfl,wy,v,rfl,hv,by lia,fun H3 s3=>⟨_,_,rfl,rfl,decide (wy.size < 10),?_,?_⟩⟩⟩
      · show V.bl (decide (((wy.size:Nat):Int) < 10))=_;congr 1;rw [aaH,decide_eq_true_eq,decide_eq_true_eq];lia
      have hv3:=WyIn.mono (Tups.of s3) (show WyIn H2 wy v from hv);by_cases c10:wy.size < 10
      rotate_left
      · rw [decide_eq_false c10];exact av (av (q1 .non H3 (S2.trans s3) (by unfold lwW;rw [hlw];show OfW (if _ then _ else _) _ _;rw [if_neg (fun z=>c10 z.1)];rfl)))
      rw [decide_eq_true c10];refine aC ⟨_,rfl,wy,v,rfl,hv3,by lia,by lia,sm,fun H4 s4=>⟨_,rfl,rfl,decide (wy.tx=l),congrArg V.bl (bW _ _),?_⟩⟩;by_cases ct:wy.tx=l
      · rw [decide_eq_true ct];exact aC ⟨_,rfl,q1 v H4 ((S2.trans s3).trans s4) (by unfold lwW;rw [hlw];show OfW (if _ then _ else _) _ _;rw [if_pos ⟨c10,ct⟩];exact WyIn.mono (Tups.of s4) hv3)⟩
      · rw [decide_eq_false ct];exact av (q1 .non H4 ((S2.trans s3).trans s4) (by unfold lwW;rw [hlw];show OfW (if _ then _ else _) _ _;rw [if_neg (fun z=>ct z.2)];rfl))
  rw [decide_eq_false ck1];refine av ?_;have ck2:k=2:=by lia
  have q2:∀ u H',Same H H'→(match rhW l with|none=>u=.non|some (ps,qs)=>HdIn H' ps qs u)→Q u H':=fun u H' s z=>q' u H' s (.inr (.inr ⟨ck2,z⟩));unfold rhW at q2;clear q q';have hws:∀ w∈aJ l,w.length≤900:=fun w h=>by
    obtain ⟨a,c,e⟩:=i7 h;have:=lI e;lia
  generalize aJ l=ws at hw ew lwd q2 hws ⊢;refine ⟨_,rfl,.inl ⟨rfl,_,SqL.of ew⟩,pw,_,_,rfl,rfl,SqL.of ew,?_⟩;rw [ig,uk];by_cases c1:ws.countP (fun z=>decide (z=[47]))=1
  rotate_left
  · rw [if_neg c1] at q2;refine ⟨rfl,true,?_,aC (q2 .non H1 sw rfl)⟩;show V.bl (!decide (V.int ((ws.countP fun z=>decide (z=[47]):Nat):Int)=V.int 1))=V.bl true;rw [decide_eq_false (fun z=>by injection z with z;lia)];rfl
  rw [if_pos c1] at q2;refine ⟨rfl,false,by rw [c1];rfl,av ?_⟩;have hmem:[47]∈ws:=by
    have:=List.countP_pos_iff.mp (show 0 < ws.countP (fun z=>decide (z=[47])) by lia);obtain ⟨z,hz,e⟩:=this;rw [of_decide_eq_true e] at hz;exact hz
  obtain ⟨i1,i2⟩:=mw ws hmem;have hk:kD ws < ws.length:=(aam.mp i1).1;generalize kD ws=j at i1 i2 hk q2;refine ⟨_,rfl,pw,rfl,⟨_,SqL.of ew⟩,?_⟩;refine d5 (Trn.list (xs:=(ws.map mkS).map V.str)) (fun i ys H'=>Same H1 H'∧ys=((ws.take i).map fun z=>decide (z=[47])).map V.bl) ⟨Same.refl _,rfl⟩ (fun i ys H' hi p=>by rw [p.2];exact ⟨SqL.of (p.1 _ _ ew),aQ (by simp;lia)⟩) (fun i x ys H1 H' hi hx p Nx nx=>?_) (fun ys H' p p5 n5=>?_)
  · obtain ⟨S,rfl⟩:=p;obtain ⟨rfl,hx⟩:=hx;rw [aar,aar] at hx;obtain ⟨z,hz1,rfl⟩:=aaF.mp hx;obtain ⟨wd,hl1,rfl⟩:=aaF.mp hz1;refine ⟨_,rfl,rfl,nx _ _ ⟨S,?_⟩⟩;rw [aaz,hl1,aaP,aaP];show _++[V.bl (decide (V.str (mkS wd)=V.str (mkS [47])))]=_;rw [bW];rfl
  obtain ⟨S,rfl⟩:=p;rw [lwd,aaL];have s5:=Same.new n5 (.lst ((ws.map fun z=>decide (z=[47])).map V.bl));have e5:upd H' p5 (.lst ((ws.map fun z=>decide (z=[47])).map V.bl)) p5=_:=upd_same;have S5:=(sw.trans S).trans s5;have ew5:=s5 _ _ (S _ _ ew);generalize upd H' p5 (.lst ((ws.map fun z=>decide (z=[47])).map V.bl))=H5 at s5 e5 S5 ew5 ⊢;refine ⟨.inl ⟨rfl,_,SqL.of e5⟩,p5,_,j,rfl,rfl,SqL.of e5,?_,fun m hm=>?_,by rw [aaf];lia,?_⟩
  · rw [aar,i1];simp
  · rw [aar,aac (by lia)];have:=i2 m hm;rw [aac (by lia)] at this;simp only [acl];congr 1;exact decide_eq_false fun z=>this (by rw [z])
  refine ⟨_,rfl,_,rfl,(j:Nat),rfl,pw,_,rfl,SqL.of ew5,fun p2 n2=>?_⟩;rw [ge _ _ (by lia)];have e1:((ws.map mkS).map V.str).take j=((ws.take j).map mkS).map V.str:=by rw [abW,abW]
  have e2:((ws.map mkS).map V.str).drop (j+1)=((ws.drop (j+1)).map mkS).map V.str:=by rw [abV,abV]
  rw [e1];have s2:=Same.new n2 (.lst (((ws.take j).map mkS).map V.str));have ep2:upd H5 p2 (.lst (((ws.take j).map mkS).map V.str)) p2=_:=upd_same;have ew6:=s2 _ _ ew5;generalize upd H5 p2 (.lst (((ws.take j).map mkS).map V.str))=H6 at s2 ep2 ew6 ⊢;refine ⟨_,rfl,_,rfl,_,_,rfl,rfl,(j:Int)+1,rfl,pw,_,rfl,SqL.of ew6,fun p4 n4=>?_⟩;have e3:(j:Int)+1=((j+1:Nat):Int):=by lia
  rw [e3,ln _ _ (by lia),e2];have s4:=Same.new n4 (.lst (((ws.drop (j+1)).map mkS).map V.str));have ep4:upd H6 p4 (.lst (((ws.drop (j+1)).map mkS).map V.str)) p4=_:=upd_same;have ep2':=s4 _ _ ep2;generalize upd H6 p4 (.lst (((ws.drop (j+1)).map mkS).map V.str))=H7 at s4 ep4 ep2' ⊢;refine ⟨(by show 2≤sizeLine;decide),fun pt nt=>⟨pt,rfl,⟨_,SqT.of upd_same⟩,?_⟩⟩;have st:=Same.new nt (.tup [.ref p2,.ref p4]);have ept:upd H7 pt (.tup [.ref p2,.ref p4]) pt=_:=upd_same;have S8:=S5.trans ((s2.trans s4).trans st);have ep2:=st _ _ ep2';have ep4:=st _ _ ep4;generalize upd H7 pt (.tup [.ref p2,.ref p4])=H8 at st ept S8 ep2 ep4 ⊢;clear s2 s4 st ew6 ew5 e5 s5 S ew ep2';have hj1:(ws.take j).length≤400:=by rw [aav];lia
  have hj2:(ws.drop (j+1)).length≤400:=by rw [aay];lia
  have hA:∀ w∈ws.take j,w.length≤900:=fun w hw'=>hws w (abo hw');have hC:∀ w∈ws.drop (j+1),w.length≤900:=fun w hw'=>hws w (abO hw');generalize ws.take j=A' at ep2 hj1 q2 hA;generalize ws.drop (j+1)=C' at ep4 hj2 q2 hC;refine d5 (Trn.tup (xs:=[.ref p2,.ref p4])) (fun i zs H'=>Same H8 H'∧Paired (OvL H') ([A',C'].take i) zs) ⟨Same.refl _,.nil⟩ (fun i zs H' hi z=>⟨SqT.of (z.1 _ _ ept),aQ (by have:=abg z.2;rw [aav] at this;simp at this;lia)⟩) (fun i x zs H0 H' hi hx z Nx nx=>?_) (fun zs H9 z p9 n9=>?_)
  · obtain ⟨rfl,hx⟩:=hx;obtain ⟨S,hz⟩:=z;obtain ⟨W,p,hW,rfl,ep,hlW,hWl⟩:∃ (W:List (List Nat)) (p:Addr),[A',C'][i]?=some W∧x=.ref p∧H8 p=some (.lst ((W.map mkS).map V.str))∧W.length≤400∧∀ w∈W,w.length≤900:=by
      have hi2:i < 2:=hi
      match i,hi2,hx with
      | 0,_,hx=>injection hx with hx;exact ⟨A',p2,rfl,hx.symm,ep2,hj1,hA⟩
      | 1,_,hx=>injection hx with hx;exact ⟨C',p4,rfl,hx.symm,ep4,hj2,hC⟩
    have ep':=S _ _ ep;have lW:((W.map mkS).map V.str).length=W.length:=by simp
    refine ⟨_,rfl,p,rfl,⟨_,SqL.of ep'⟩,?_⟩;refine d5 (Trn.list (xs:=(W.map mkS).map V.str)) (fun i ys Hh=>Same H' Hh∧Paired (OvP Hh) ((W.map stN).take i) ys) ⟨Same.refl _,.nil⟩ (fun i ys Hh hi z=>⟨SqL.of (z.1 _ _ ep'),aQ (by have:=abg z.2;rw [aav,aaf] at this;lia)⟩) (fun i x ys H0 Hh hi hx z Nx' nx'=>?_) (fun ys Hh z p5 n5=>?_)
    · obtain ⟨rfl,hx⟩:=hx;obtain ⟨S2,hy⟩:=z;rw [aar,aar] at hx;obtain ⟨z,hz1,rfl⟩:=aaF.mp hx;obtain ⟨wd,hl1,rfl⟩:=aaF.mp hz1;refine ⟨_,rfl,wd,rfl,hWl wd (aaM hl1),fun v H2 s2 hv=>nx' _ _ ⟨S2.trans s2,?_⟩⟩;have etk:(W.map stN).take (i+1)=(W.map stN).take i++[stN wd]:=by rw [aaz,aar,hl1];rfl
      rw [etk];exact l8 (Paired.mapP hy fun _ _ z=>z.mono s2) hv
    obtain ⟨S2,hy⟩:=z;rw [lW,← aaf (f:=stN),aaL] at hy;have s5:=Same.new n5 (.lst ys);refine nx _ _ ⟨S.trans (S2.trans s5),?_⟩;have etk:[A',C'].take (i+1)=[A',C'].take i++[W]:=by rw [aaz,hW];rfl
    rw [etk];exact Paired.app (Paired.mapP hz fun _ _ z=>z.mono (S2.trans s5)) (.cons ⟨p5,ys,rfl,upd_same,Paired.mapP hy fun _ _ z=>z.mono s5⟩ .nil)
  obtain ⟨S,hz0⟩:=z;have hz1:Paired (OvL H9) [A',C'] zs:=hz0;have s9:=Same.new n9 (.lst zs);have e9:upd H9 p9 (.lst zs) p9=_:=upd_same;have hz2:=Paired.mapP hz1 fun _ _ z=>OvL.mono s9 z;clear hz0 hz1;have S9:=S8.trans (S.trans s9);generalize upd H9 p9 (.lst zs)=HA at s9 e9 hz2 S9 ⊢;cases hz2 with
  | cons h1 t1 =>
  cases t1 with
  | cons h2 t2 =>
  cases t2;obtain ⟨a,ys,rfl,eya,hya⟩:=h1;obtain ⟨b,zs,rfl,eyb,hyb⟩:=h2;clear S s9 ept ep2 ep4;have lya:=abg hya;have lyb:=abg hyb;rw [aaf] at lya lyb;have b0:atI [V.ref a,V.ref b] 0=some (.ref a):=rfl;have b1:atI [V.ref a,V.ref b] 1=some (.ref b):=rfl;have no:(rsW A'=none∨rsW C'=none)→∀ H',Same H H'→Q .non H':=fun z H' s=>q2 .non H' s (by
    rcases z with z|z
    · simp only [z]
    · cases e:rsW A' with
      | none=>simp only [z]
      | some x=>simp only [z])
  refine ⟨_,rfl,p9,_,0,_,rfl,rfl,SqL.of e9,b0,_,rfl,p9,_,1,_,rfl,rfl,SqL.of e9,b1,a,b,ys,zs,rfl,rfl,eya,eyb,al (by lia),fun pc nc=>?_⟩;have sc:=Same.new nc (.lst (ys++zs));have epc:upd HA pc (.lst (ys++zs)) pc=_:=upd_same;have e9:=sc _ _ e9;have eya:=sc _ _ eya;have eyb:=sc _ _ eyb;have hya:=Paired.mapP hya fun _ _ z=>OvP.mono sc z;have hyb:=Paired.mapP hyb fun _ _ z=>OvP.mono sc z;have SB:=S9.trans sc;generalize upd HA pc (.lst (ys++zs))=HB at sc epc e9 eya eyb hya hyb SB ⊢;have na:=g_ hya;have nb:=g_ hyb;have rn:∀ {W:List (List Nat)},none∈W.map stN→rsW W=none:=fun {W} h=>by
    unfold rsW;split
    · cases hall:fV (W.map stN) with
      | none=>rfl
      | some x=>rw [cB hall] at h;simp at h
    · rfl
  refine ⟨pc,_,rfl,rfl,SqL.of epc,fun v hv=>?_,_,rfl,?_⟩
  · have : ∃ o,OvP HB o v:=(aau.mp hv).elim (qt hya v) (qt hyb v);obtain ⟨o,h⟩:=this;cases o with
    | none=>exact .inl h
    | some p0=>obtain ⟨b,e,h⟩:=h;exact .inr ⟨b,_,e,SqT.of h⟩
  by_cases cn:V.non∈ys++zs
  · rw [decide_eq_true cn];refine aC (aC (no ?_ HB SB));rcases aau.mp cn with h|h
    · exact .inl (rn (na.mp h))
    · exact .inr (rn (nb.mp h))
  rw [decide_eq_false cn];refine av ?_;refine ⟨_,rfl,p9,_,0,_,rfl,rfl,SqL.of e9,b0,a,_,rfl,.inl (SqL.of eya),_,rfl,p9,_,1,_,rfl,rfl,SqL.of e9,b1,b,_,rfl,.inl (SqL.of eyb),_,_,rfl,_,_,rfl,rfl,decide (¬ (A'.length≤40∧C'.length≤40)),?_,?_⟩
  · show V.bl (decide (40 < (if ((zs.length:Nat):Int) > ((ys.length:Nat):Int) then ((zs.length:Nat):Int) else ((ys.length:Nat):Int))))=_;congr 1;rw [aaH,decide_eq_true_eq,decide_eq_true_eq];split <;> lia
  by_cases c40:A'.length≤40∧C'.length≤40
  rotate_left
  · rw [decide_eq_true c40];refine aC (no ?_ HB SB);by_cases c:A'.length≤40
    · exact .inr (if_neg (fun z=>c40 ⟨c,z⟩))
    · exact .inl (if_neg c)
  rw [decide_eq_false (fun z=>z c40)];have good:∀ {W:List (List Nat)} {us:List V},W.length≤40→Paired (OvP HB) (W.map stN) us→V.non∉us→∃ ps,rsW W=some ps∧PairsIn HB ps us:=fun {W us} h1 h2 h3=>by
    have hn:=g_ h2;have er:rsW W=fV (W.map stN):=if_pos h1;cases hall:fV (W.map stN) with
    | none=>exact absurd (hn.mpr (eS hall)) h3
    | some ps =>
      have em:=cB hall;rw [em] at h2;exact ⟨ps,er.trans hall,iq h2⟩
  obtain ⟨ps,hps,pa⟩:=good c40.1 hya fun z=>cn (aaV _ z);obtain ⟨qs,hqs,pb⟩:=good c40.2 hyb fun z=>cn (aag _ z);refine av ⟨_,rfl,p9,_,0,_,rfl,rfl,SqL.of e9,b0,_,rfl,p9,_,1,_,rfl,rfl,SqL.of e9,b1,(by show 2≤sizeLine;decide),fun t nt=>?_⟩;have sT:=Same.new nt (.tup [.ref a,.ref b]);refine q2 (.ref t) _ (SB.trans sT) ?_;simp only [hps,hqs];exact ⟨t,_,_,rfl,upd_same,⟨a,ys,rfl,sT _ _ eya,PairsIn.mono (Tups.of sT) pa⟩,⟨b,zs,rfl,sT _ _ eyb,PairsIn.mono (Tups.of sT) pb⟩⟩
end
open PySem L2
structure Xk (mg:Str→Option Value) (aR aS aW aN aL aF aO aA aH aT aM:Addr):Prop where
  mNoRow:mg "NoRow" = some (.ref aR)
  mNoSigns:mg "NoSigns" = some (.ref aS)
  mNoWay:mg "NoWay" = some (.ref aW)
  mNoNumber:mg "NoNumber" = some (.ref aN)
  mNoPlace:mg "NoPlace" = some (.ref aL)
  mNoFit:mg "NoFit" = some (.ref aF)
  mNoForm:mg "NoForm" = some (.ref aO)
  mNoAsk:mg "NoAsk" = some (.ref aA)
  mNoHolds:mg "NoHolds" = some (.ref aH)
  mNoText:mg "NoText" = some (.ref aT)
  mTooMany:mg "TooMany" = some (.ref aM)
  iValueError:mg "ValueError" = none
structure Kx (K:aaa) (C:Addr):Prop where
  ex:ExC K C
  kv:aaE K (.ref C) (.type "ValueError")=some true
structure Kg (K:aaa) (aR aS aW aN aL aF aO aA aH aT aM:Addr) (t:Value) (j:Nat):Prop where
  k0:aaE K t (.ref aR)=some (decide (j=0))
  k1:aaE K t (.ref aS)=some (decide (j=1))
  k2:aaE K t (.ref aW)=some (decide (j=2))
  k3:aaE K t (.ref aN)=some (decide (j=3))
  k4:aaE K t (.ref aH)=some (decide (j=4))
  k5:aaE K t (.ref aM)=some (decide (j=5))
  k6:aaE K t (.ref aT)=some (decide (j=6))
  ko:acf K t [.ref aA,.ref aF,.ref aO,.ref aL]=some false
def pX:List V:=[.str "NoRow",.str "NoSigns",.str "NoWay",.str "NoNumber",.str "NoHolds",.str "TooMany",.str "NoText"]
def qS (j:Nat):List Bool:=[decide (j=0),decide (j=1),decide (j=2),decide (j=3),decide (j=4),decide (j=5),decide (j=6)]
theorem rX:∀ j,j < 7→(qS j).countP id=1:=by decide
theorem xx:∀ j,j < 7→(qS j)[j]?=some true∧∀ m,m < j→(qS j)[m]?=some false:=by decide
theorem vT {a b c d:Addr} {us:List Value} (r:Vals [.ref a,.ref b,.ref c,.ref d] us):us=[.ref a,.ref b,.ref c,.ref d]:=by
  cases r with
  | cons p r=>cases r with
    | cons p' r=>cases r with
      | cons p'' r=>cases r with
        | cons p3 r=>cases r;cases p;cases p';cases p'';cases p3;rfl
def ss (K:aaa) (aR aS aW aN aL aF aO aA aH aT aM:Addr):Sp:=fun vs H Q _=>∃ (x:V) (t:Value) (j:Nat) (nm:Str),vs=[x]∧CauT K H x t∧Kg K aR aS aW aN aL aF aO aA aH aT aM t j∧j < 7∧aaE K t (.type "ValueError")=some true∧pX[j]?=some (.str nm)∧∀ H',Same H H'→Q (.str nm) H'
theorem NewHd.hd {H H':Hp} {ps qs:List (Int × Int)} {t:Addr} (h:NewHd H H' ps qs t):HdIn H' ps qs (.ref t):=by
  obtain ⟨a,b,us,vs,h1,_,_,_,h2,h3,h4,h5⟩:=h;exact ⟨t,_,_,rfl,h1,⟨a,us,rfl,h2,h4⟩,⟨b,vs,rfl,h3,h5⟩⟩
def qR (k:Int) (l:List Nat) (u:V) (H:Hp):Prop :=
  (k=0∧match rrW l with|none=>u=.str "NoText" | some ns=>∃ a,u=.ref a∧H a=some (.lst (ns.map V.int))) ∨
  (k=1∧match rwW l with|none=>u=.str "NoText" | some w=>WyIn H w u) ∨
  (k=2∧match rhW l with|none=>u=.str "NoText" | some (ps,qs)=>HdIn H ps qs u)
def qQ (k:Int) (H0:Hp) (v u:V) (H:Hp):Prop:=(∃ l,v=.str (mkS l)∧Txo l∧qR k l u H)∨((∃ d,Dat H0 d v∧∀ z,d≠.str z)∧u=.str "NoText")
section
variable {P:Program} {w:World} {K:aaa} {mg:Str→Option Value} {base:Heap} {f:Addr} {fd:FuncData}
abbrev fF:Stmt:=top 50
theorem dH:FnScope ["caught","kinds","odd"] ["caught"] (aq fF):=⟨rfl,rfl,rfl,by decide +kernel,rfl,by decide +kernel,by decide +kernel⟩
theorem uX {aR aS aW aN aL aF aO aA aH aT aM:Addr} (F:Fun K "_law_word" "_law_word" fF f fd) (B:Bu K mg) (XK:Xk mg aR aS aW aN aL aF aO aA aH aT aM):FnOk P w K mg base CX0 1 f fd ["caught"] (ss K aR aS aW aN aL aF aO aA aH aT aM):=by
  refine F.ok dH (fun vs H Q E h=>?_) (fun cdv A outer s H vs Q E hr h=>?_)
  · obtain ⟨x,t,j,nm,rfl,_⟩:=h;rfl
  obtain ⟨x,t,j,nm,rfl,hx,kf,j7,kv,hn,q⟩:=h;refine ⟨_,(@ad _ _ _ _ _ (@ao _ _ (1) _ _ _ _ (dH).nd rfl (Or.inl rfl) (@a9 _ _ _ _ (@aa _ _ _ _ _ (@ap _ _ _ _ _ _ _ _ _ bP rfl B.iisinstance aad (@aa _ _ _ _ _ (pv 0) (@aa _ _ _ _ _ (@bv _ _ (.ref aR) _ _ rfl XK.mNoRow rfl (by decide)) ac (by rfl)) (by rfl)) (by decide) (by decide) (by rfl) (by rfl)) (@aa _ _ _ _ _ (@ap _ _ _ _ _ _ _ _ _ bP rfl B.iisinstance aad (@aa _ _ _ _ _ (pv 0) (@aa _ _ _ _ _ (@bv _ _ (.ref aS) _ _ rfl XK.mNoSigns rfl (by decide)) ac (by rfl)) (by rfl)) (by decide) (by decide) (by rfl) (by rfl)) (@aa _ _ _ _ _ (@ap _ _ _ _ _ _ _ _ _ bP rfl B.iisinstance aad (@aa _ _ _ _ _ (pv 0) (@aa _ _ _ _ _ (@bv _ _ (.ref aW) _ _ rfl XK.mNoWay rfl (by decide)) ac (by rfl)) (by rfl)) (by decide) (by decide) (by rfl) (by rfl)) ac (by rfl)) (by rfl)) (by rfl))) (by rfl) (by first|exact .inl rfl|exact .inr rfl|assumption)) (@ad _ _ _ _ _ (@ao _ _ (1) _ _ _ _ (dH).nd rfl (Or.inl rfl) (@aj _ _ _ _ _ _ _ _ cG (pv 1) (@a9 _ _ _ _ (@aa _ _ _ _ _ (@ap _ _ _ _ _ _ _ _ _ bP rfl B.iisinstance aad (@aa _ _ _ _ _ (pv 0) (@aa _ _ _ _ _ (@bv _ _ (.ref aN) _ _ rfl XK.mNoNumber rfl (by decide)) ac (by rfl)) (by rfl)) (by decide) (by decide) (by rfl) (by rfl)) (@aa _ _ _ _ _ (@ap _ _ _ _ _ _ _ _ _ bP rfl B.iisinstance aad (@aa _ _ _ _ _ (pv 0) (@aa _ _ _ _ _ (@bv _ _ (.ref aH) _ _ rfl XK.mNoHolds rfl (by decide)) ac (by rfl)) (by rfl)) (by decide) (by decide) (by rfl) (by rfl)) (@aa _ _ _ _ _ (@ap _ _ _ _ _ _ _ _ _ bP rfl B.iisinstance aad (@aa _ _ _ _ _ (pv 0) (@aa _ _ _ _ _ (@bv _ _ (.ref aM) _ _ rfl XK.mTooMany rfl (by decide)) ac (by rfl)) (by rfl)) (by decide) (by decide) (by rfl) (by rfl)) ac (by rfl)) (by rfl)) (by rfl)))) (by rfl) (by first|exact .inl rfl|exact .inr rfl|assumption)) (@ad _ _ _ _ _ (@cJ _ _ _ _ (@bV _ _ _ _ _ _ _ _ _ _ _ _ aaC abb abc dh (pv 1) (@aa _ _ _ _ _ (@ap _ _ _ _ _ _ _ _ _ bP rfl B.iisinstance aad (@aa _ _ _ _ _ (pv 0) (@aa _ _ _ _ _ (@bv _ _ (.ref aT) _ _ rfl XK.mNoText rfl (by decide)) ac (by rfl)) (by rfl)) (by decide) (by decide) (by rfl) (by rfl)) ac (by rfl)) (by rfl) (by rfl) (by rfl) (by rfl) (by rfl)) (by rfl)) (@ad _ _ _ _ _ (@ao _ _ (2) _ _ _ _ (dH).nd rfl (Or.inl rfl) (@ap _ _ _ _ _ _ _ _ _ kH rfl B.iisinstance aad (@aa _ _ _ _ _ (pv 0) (@aa _ _ _ _ _ (@bT _ _ _ _ _ (@aa _ _ _ _ _ (@bv _ _ (.ref aA) _ _ rfl XK.mNoAsk rfl (by decide)) (@aa _ _ _ _ _ (@bv _ _ (.ref aF) _ _ rfl XK.mNoFit rfl (by decide)) (@aa _ _ _ _ _ (@bv _ _ (.ref aO) _ _ rfl XK.mNoForm rfl (by decide)) (@aa _ _ _ _ _ (@bv _ _ (.ref aL) _ _ rfl XK.mNoPlace rfl (by decide)) ac (by rfl)) (by rfl)) (by rfl)) (by rfl))) ac (by rfl)) (by rfl)) (by decide) (by decide) (by rfl) (by rfl)) (by rfl) (by first|exact .inl rfl|exact .inr rfl|assumption)) (@ad _ _ _ _ _ (@aV _ _ _ _ _ _ _ _ (@PW.pt _ _ _ (@ck _ _ _ _ _ _ _ (@jB _ _ _ (pv 2) (fun _=>rfl)) (@ck _ _ _ _ _ _ _ (@ai _ _ _ _ _ _ _ _ dX (@bV _ _ _ _ _ _ _ _ _ _ _ _ aaC acm aco (@rq _ hr.units) (pv 1) (@aa _ _ _ _ _ dE ac (by rfl)) (by rfl) (by rfl) (by rfl) (by rfl) (by rfl)) ae (ak _)) (@bS _ _ _ _ (@cO _ _ _ _ (@bE _ _ _ (@ap _ _ _ _ _ _ _ _ _ bP rfl B.iisinstance aad (@aa _ _ _ _ _ (pv 0) (@aa _ _ _ _ _ (@bw _ _ (.ty "ValueError") _ _ rfl XK.iValueError (by decide +kernel) rfl (by decide) (by decide)) ac (by rfl)) (by rfl)) (by decide) (by decide) (by rfl) (by rfl)) (by intro _;rfl))))))) (@ag _ _ _ (@ar _ _ _ _ af)) aB) (@ag _ _ _ (@ar _ _ _ _ (@aK _ _ _ _ _ _ _ ix_list (@a9 _ _ _ _ (@aa _ _ _ _ _ af (@aa _ _ _ _ _ af (@aa _ _ _ _ _ af (@aa _ _ _ _ _ af (@aa _ _ _ _ _ af (@aa _ _ _ _ _ af (@aa _ _ _ _ _ af ac (by rfl)) (by rfl)) (by rfl)) (by rfl)) (by rfl)) (by rfl)) (by rfl))) (@bV _ _ _ _ _ _ _ _ _ _ _ _ aaC acn acp (@kT _ hr.units) (pv 1) (@aa _ _ _ _ _ dE ac (by rfl)) (by rfl) (by rfl) (by rfl) (by rfl) (by rfl)) (fun _ _=>rfl))))))))),?_⟩;refine ⟨_,rfl,x,_,t,_,_,rfl,hx,fun _ z=>z,kf.k0,_,rfl,x,_,t,_,_,rfl,hx,fun _ z=>z,kf.k1,_,rfl,x,_,t,_,_,rfl,hx,fun _ z=>z,kf.k2,(by show 3≤sizeLine;decide),fun pk nk=>?_⟩;have g1:=Same.new nk (.lst [.bl (decide (j=0)),.bl (decide (j=1)),.bl (decide (j=2))]);have ek1:upd H pk (.lst [.bl (decide (j=0)),.bl (decide (j=1)),.bl (decide (j=2))]) pk=_:=upd_same;generalize upd H pk (.lst [.bl (decide (j=0)),.bl (decide (j=1)),.bl (decide (j=2))])=H1 at g1 ek1 ⊢;have hx1:=hx.mono g1;refine ⟨_,rfl,_,rfl,x,_,t,_,_,rfl,hx1,fun _ z=>z,kf.k3,_,rfl,x,_,t,_,_,rfl,hx1,fun _ z=>z,kf.k4,_,rfl,x,_,t,_,_,rfl,hx1,fun _ z=>z,kf.k5,(by show 3≤sizeLine;decide),fun pl nl=>?_⟩;have g2:=Same.new nl (.lst [.bl (decide (j=3)),.bl (decide (j=4)),.bl (decide (j=5))]);have ek2:upd H1 pl (.lst [.bl (decide (j=3)),.bl (decide (j=4)),.bl (decide (j=5))]) pl=_:=upd_same;have ek1':=g2 _ _ ek1;generalize upd H1 pl (.lst [.bl (decide (j=3)),.bl (decide (j=4)),.bl (decide (j=5))])=H2 at g2 ek2 ek1' ⊢;refine ⟨pk,pl,_,_,rfl,rfl,ek1',ek2,(by show 6≤sizeLine;decide),fun pm nm'=>?_⟩;have g3:=Same.new nm' (.lst ([.bl (decide (j=0)),.bl (decide (j=1)),.bl (decide (j=2))]++[.bl (decide (j=3)),.bl (decide (j=4)),.bl (decide (j=5))]));have ek:upd H2 pm (.lst ([.bl (decide (j=0)),.bl (decide (j=1)),.bl (decide (j=2))]++[.bl (decide (j=3)),.bl (decide (j=4)),.bl (decide (j=5))])) pm=some (.lst [.bl (decide (j=0)),.bl (decide (j=1)),.bl (decide (j=2)),.bl (decide (j=3)),.bl (decide (j=4)),.bl (decide (j=5))]):=upd_same;have G2:=g1.trans g2;have nm0:H pm=none:=G2.free nm';have G3:=G2.trans g3;generalize upd H2 pm (.lst ([.bl (decide (j=0)),.bl (decide (j=1)),.bl (decide (j=2))]++[.bl (decide (j=3)),.bl (decide (j=4)),.bl (decide (j=5))]))=H3 at g3 ek G3 ⊢;refine ⟨_,rfl,.inl ⟨rfl,_,SqL.of ek⟩,_,rfl,x,_,t,_,_,rfl,(hx.mono G3),fun _ z=>z,kf.k6,pm,_,_,rfl,rfl,ek,(by show 6 < sizeLine;decide),?_⟩;have G4:=G3.upd (o:=.lst ([.bl (decide (j=0)),.bl (decide (j=1)),.bl (decide (j=2)),.bl (decide (j=3)),.bl (decide (j=4)),.bl (decide (j=5))]++[.bl (decide (j=6))])) nm0;have ek4:upd H3 pm (.lst ([.bl (decide (j=0)),.bl (decide (j=1)),.bl (decide (j=2)),.bl (decide (j=3)),.bl (decide (j=4)),.bl (decide (j=5))]++[.bl (decide (j=6))])) pm=some (.lst ((qS j).map V.bl)):=upd_same;generalize upd H3 pm (.lst ([.bl (decide (j=0)),.bl (decide (j=1)),.bl (decide (j=2)),.bl (decide (j=3)),.bl (decide (j=4)),.bl (decide (j=5))]++[.bl (decide (j=6))]))=H4 at G4 ek4 ⊢;refine ⟨_,rfl,(by show 4≤sizeLine;decide),fun p1 n1=>⟨x,p1,_,t,_,false,rfl,(hx.mono G4).mono (Same.new n1 _),upd_same,fun _ r=>vT r,kf.ko,?_⟩⟩;have G5:=G4.trans (Same.new n1 (.tup [.ref aA,.ref aF,.ref aO,.ref aL]));have ek5:=(Same.new n1 (.tup [.ref aA,.ref aF,.ref aO,.ref aL])) _ _ ek4;generalize upd H4 p1 (.tup [.ref aA,.ref aF,.ref aO,.ref aL])=H5 at G5 ek5 ⊢;have hx5:=hx.mono G5;refine ⟨_,rfl,false,rfl,av ?_⟩;refine ⟨_,rfl,.inl ⟨rfl,_,SqL.of ek5⟩,pm,qS j,rfl,rfl,SqL.of ek5,?_⟩;rw [rX j j7];refine ⟨rfl,_,rfl,x6 rfl ?_⟩;refine ⟨_,rfl,x,_,t,_,_,rfl,hx5,fun _ z=>z,kv,true,rfl,av ?_⟩;refine ⟨(by show 7≤sizeLine;decide),fun pn nn=>?_⟩;have g7:=Same.new nn (.lst pX);obtain ⟨k1,k2⟩:=xx j j7;refine ⟨_,rfl,.inl ⟨rfl,_,SqL.of (g7 _ _ ek5)⟩,pm,qS j,j,rfl,rfl,SqL.of (g7 _ _ ek5),k1,k2,(by show 7≤1000;decide),?_⟩;exact ⟨pn,_,_,_,rfl,rfl,SqL.of upd_same,bA hn,q _ (G5.trans g7)⟩
def oQ:Sp:=fun vs H Q _=>∃ (k:Int) (v:V),vs=[.int k,v]∧0≤k∧k < 3∧ThT H v∧∀ u H',Same H H'→qQ k H v u H'→Q u H'
abbrev fH:Stmt:=top 62
theorem bM:FnScope ["kind","text","caught","found","e"] ["kind","text"] (aq fH):=⟨rfl,rfl,rfl,by decide +kernel,rfl,by decide +kernel,by decide +kernel⟩
theorem nB {aP aR aS aW aN aL aF aO aA aH aT aM:Addr} (F:Fun K "_law_told" "_law_told" fH f fd) (B:Bu K mg) (XC:Xc K mg aP aT) (E6:Kg K aR aS aW aN aL aF aO aA aH aT aM (.ref aT) 6) (X6:Kx K aT)
    (C_read_row:hZ P w K mg base "read_row" 3 ["text"] (gv aT)) (C_read_way:hZ P w K mg base "read_way" 13 ["text"] (gu aT)) (C_read_holds:hZ P w K mg base "read_holds" 3 ["text"] (sB aT)) (C__law_word:Cal P w K mg base "_law_word" 1 ["caught"] (ss K aR aS aW aN aL aF aO aA aH aT aM)):FnOk P w K mg base CX0 14 f fd ["kind","text"] oQ:=by
  refine F.ok bM (fun vs H Q E h=>?_) (fun cdv A outer s H vs Q E hr h=>?_)
  · obtain ⟨k,v,rfl,_⟩:=h;rfl
  obtain ⟨k,v,rfl,k0,k3,h,q⟩:=h;refine ⟨_,(@ad _ _ _ _ _ (@ao _ _ (2) _ _ _ _ (bM).nd rfl (Or.inl rfl) aZ (by rfl) (by first|exact .inl rfl|exact .inr rfl|assumption)) (@ad _ _ _ _ _ (@ao _ _ (3) _ _ _ _ (bM).nd rfl (Or.inl rfl) aZ (by rfl) (by first|exact .inl rfl|exact .inr rfl|assumption)) (@ad _ _ _ _ _ (@wu _ _ _ _ (4) _ _ _ _ _ _ _ _ rfl rfl rfl rfl XC.mPutError (bM).nd rfl rfl (fun _ _=>(ag (aV (ai bc (pv 0) ae (ak _)) (ag (ao (i:=3) (bM).nd rfl (Or.inl rfl) (l6 C_read_row rfl hr (by lia) rfl (aa (pv 1) ac)))) (ag (aV (ai bc (pv 0) ae (ak _)) (ag (ao (i:=3) (bM).nd rfl (Or.inl rfl) (l6 C_read_way rfl hr (by lia) rfl (aa (pv 1) ac)))) (ag (ao (i:=3) (bM).nd rfl (Or.inl rfl) (l6 C_read_holds rfl hr (by lia) rfl (aa (pv 1) ac))))))))) (fun _=>(ag (ao (i:=2) (bM).nd rfl (Or.inl rfl) (pv 4)))) (by decide)) (@ad _ _ _ _ _ (@aV _ _ _ _ _ _ _ _ (@ai _ _ _ _ _ _ _ _ dY (pv 2) aZ (ak _)) (@ag _ _ _ (@ar _ _ _ _ (@aK _ _ _ _ _ _ _ ix_list (@a9 _ _ _ _ (@aa _ _ _ _ _ af (@aa _ _ _ _ _ (pv 3) ac (by rfl)) (by rfl))) (@bn _ _ _ _ _ _ _ _ _ cA rfl B.iint aaA (@aa _ _ _ _ _ (@o2 _ _ _ _ (@ap _ _ _ _ _ _ _ _ _ (@a8 _ ("str")) rfl B.iisinstance aad (@aa _ _ _ _ _ (pv 3) (@aa _ _ _ _ _ (@bw _ _ (.ty "str") _ _ rfl B.istr abJ rfl (by decide) (by decide)) ac (by rfl)) (by rfl)) (by decide) (by decide) (by rfl) (by rfl))) ac (by rfl)) (by decide) (by decide) (by rfl) (by rfl)) (fun _ _=>rfl)))) aB) (@ag _ _ _ (@ar _ _ _ _ (@am _ _ _ _ _ _ _ _ _ _ _ C__law_word hr (by lia) rfl (@aa _ _ _ _ _ (pv 2) ac (by rfl)) (by decide) (by rfl) (by rfl)))))))),?_⟩;have d0:=d3 k 0;have d1:=d3 k 1;refine ⟨_,rfl,rfl,decide (k=0),congrArg V.bl d0,?_⟩;by_cases ck0:k=0
  · rw [decide_eq_true ck0];rcases h with ⟨l,rfl,ht⟩|⟨d,hd,hn⟩
    · refine aC ⟨_,rfl,_,rfl,.inl ⟨l,rfl,ht,fun ns p H1 e s1 n ep=>?_,fun e H1 s1=>?_⟩⟩
      · obtain ⟨u,hu⟩:∃ u,V.ref p=u:=⟨_,rfl⟩
        have ty:∀ H',Same H1 H'→∃ n,TyOf K H' u (.type n)∧aaE K (.type n) (.type "str")=some false:=fun H' g=>⟨_,by rw [← hu];exact .lst (g _ _ ep),rfl⟩
        have qq:∀ H',Same H1 H'→Q u H':=fun H' g=>q _ H' (s1.trans g) (.inl ⟨l,rfl,ht,.inl ⟨ck0,by rw [e,← hu];exact ⟨p,rfl,g _ _ ep⟩⟩⟩);rw [hu];refine ⟨_,rfl,rfl,_,rfl,tN rfl ⟨_,rfl,(by show 2≤sizeLine;decide),fun pl nl=>?_⟩⟩;have sl:=Same.new nl (.lst [.str "told",u]);obtain ⟨nm,t1,t2⟩:=ty _ sl;exact ⟨_,rfl,u,_,false,rfl,t1,t2,false,rfl,.inr ⟨true,rfl,pl,[.str "told",u],1,u,rfl,rfl,SqL.of upd_same,rfl,qq _ sl⟩⟩
      · have qq:∀ H',Same H H'→Q (.str "NoText") H':=fun H' g=>q _ H' g (.inl ⟨l,rfl,ht,.inl ⟨ck0,by rw [e]⟩⟩);intro C hC;cases hC;refine ⟨XC.uNoText,fun ea ne=>⟨_,rfl,?_⟩⟩;have g2:=s1.trans (Same.new ne (bX ea aT));have ee:upd H1 ea (bX ea aT) ea=some (bX ea aT):=upd_same;generalize upd H1 ea (bX ea aT)=H2 at g2 ee ⊢;refine ⟨_,rfl,rfl,_,rfl,k8 (fun z=>nomatch z) ?_⟩;exact ⟨_,rfl,.ref ea,.ref aT,6,"NoText",rfl,.inr ⟨ea,aT,rfl,ee,X6.ex,rfl⟩,E6,by decide,X6.kv,rfl,fun H5 g5=>qq H5 (g2.trans g5)⟩
    · refine aC ⟨_,rfl,_,rfl,.inr ⟨d,hd,hn,?_⟩⟩;have qq:∀ H',Same H H'→Q (.str "NoText") H':=fun H' g=>q _ H' g (.inr ⟨⟨d,hd,hn⟩,rfl⟩);intro C hC;cases hC;refine ⟨XC.uNoText,fun ea ne=>⟨_,rfl,?_⟩⟩;have g2:=(Same.refl H).trans (Same.new ne (bX ea aT));have ee:upd H ea (bX ea aT) ea=some (bX ea aT):=upd_same;generalize upd H ea (bX ea aT)=H2 at g2 ee ⊢;refine ⟨_,rfl,rfl,_,rfl,k8 (fun z=>nomatch z) ?_⟩;exact ⟨_,rfl,.ref ea,.ref aT,6,"NoText",rfl,.inr ⟨ea,aT,rfl,ee,X6.ex,rfl⟩,E6,by decide,X6.kv,rfl,fun H5 g5=>qq H5 (g2.trans g5)⟩
  rw [decide_eq_false ck0];refine av ⟨_,rfl,rfl,decide (k=1),congrArg V.bl d1,?_⟩;by_cases ck1:k=1
  · rw [decide_eq_true ck1];rcases h with ⟨l,rfl,ht⟩|⟨d,hd,hn⟩
    · refine aC ⟨_,rfl,_,rfl,.inl ⟨l,rfl,ht,fun wy u H1 e s1 hu=>?_,fun e H1 s1=>?_⟩⟩
      · have ty:∀ H',Same H1 H'→∃ n,TyOf K H' u (.type n)∧aaE K (.type n) (.type "str")=some false:=fun H' g=>by
          cases wy with
          | num i=>rw [show u=.int i from hu];exact ⟨_,.int i,rfl⟩
          | node s a b=>obtain ⟨t,vl,vr,e2,ht',_⟩:=(show WyIn H1 (.node s a b) u from hu);rw [e2];exact ⟨_,.tup (g _ _ ht'),rfl⟩
        have qq:∀ H',Same H1 H'→Q u H':=fun H' g=>q _ H' (s1.trans g) (.inl ⟨l,rfl,ht,.inr (.inl ⟨ck1,by rw [e];exact hu.mono (Tups.of g)⟩)⟩);refine ⟨_,rfl,rfl,_,rfl,tN rfl ⟨_,rfl,(by show 2≤sizeLine;decide),fun pl nl=>?_⟩⟩;have sl:=Same.new nl (.lst [.str "told",u]);obtain ⟨nm,t1,t2⟩:=ty _ sl;exact ⟨_,rfl,u,_,false,rfl,t1,t2,false,rfl,.inr ⟨true,rfl,pl,[.str "told",u],1,u,rfl,rfl,SqL.of upd_same,rfl,qq _ sl⟩⟩
      · have qq:∀ H',Same H H'→Q (.str "NoText") H':=fun H' g=>q _ H' g (.inl ⟨l,rfl,ht,.inr (.inl ⟨ck1,by rw [e]⟩)⟩);intro C hC;cases hC;refine ⟨XC.uNoText,fun ea ne=>⟨_,rfl,?_⟩⟩;have g2:=s1.trans (Same.new ne (bX ea aT));have ee:upd H1 ea (bX ea aT) ea=some (bX ea aT):=upd_same;generalize upd H1 ea (bX ea aT)=H2 at g2 ee ⊢;refine ⟨_,rfl,rfl,_,rfl,k8 (fun z=>nomatch z) ?_⟩;exact ⟨_,rfl,.ref ea,.ref aT,6,"NoText",rfl,.inr ⟨ea,aT,rfl,ee,X6.ex,rfl⟩,E6,by decide,X6.kv,rfl,fun H5 g5=>qq H5 (g2.trans g5)⟩
    · refine aC ⟨_,rfl,_,rfl,.inr ⟨d,hd,hn,?_⟩⟩;have qq:∀ H',Same H H'→Q (.str "NoText") H':=fun H' g=>q _ H' g (.inr ⟨⟨d,hd,hn⟩,rfl⟩);intro C hC;cases hC;refine ⟨XC.uNoText,fun ea ne=>⟨_,rfl,?_⟩⟩;have g2:=(Same.refl H).trans (Same.new ne (bX ea aT));have ee:upd H ea (bX ea aT) ea=some (bX ea aT):=upd_same;generalize upd H ea (bX ea aT)=H2 at g2 ee ⊢;refine ⟨_,rfl,rfl,_,rfl,k8 (fun z=>nomatch z) ?_⟩;exact ⟨_,rfl,.ref ea,.ref aT,6,"NoText",rfl,.inr ⟨ea,aT,rfl,ee,X6.ex,rfl⟩,E6,by decide,X6.kv,rfl,fun H5 g5=>qq H5 (g2.trans g5)⟩
  rw [decide_eq_false ck1];have ck2:k=2:=by lia
  rcases h with ⟨l,rfl,ht⟩|⟨d,hd,hn⟩
  · refine av ⟨_,rfl,_,rfl,.inl ⟨l,rfl,ht,fun ps qs t H1 e s1 nh=>?_,fun e H1 s1=>?_⟩⟩
    · have hh:=nh.hd;obtain ⟨u,hu⟩:∃ u,V.ref t=u:=⟨_,rfl⟩
      rw [hu] at hh;have ty:∀ H',Same H1 H'→∃ n,TyOf K H' u (.type n)∧aaE K (.type n) (.type "str")=some false:=fun H' g=>by
        obtain ⟨a,x,y,e2,h1,_⟩:=hh;rw [e2];exact ⟨_,.tup (g _ _ h1),rfl⟩
      have qq:∀ H',Same H1 H'→Q u H':=fun H' g=>q _ H' (s1.trans g) (.inl ⟨l,rfl,ht,.inr (.inr ⟨ck2,by rw [e];exact hh.mono g⟩)⟩);rw [hu];refine ⟨_,rfl,rfl,_,rfl,tN rfl ⟨_,rfl,(by show 2≤sizeLine;decide),fun pl nl=>?_⟩⟩;have sl:=Same.new nl (.lst [.str "told",u]);obtain ⟨nm,t1,t2⟩:=ty _ sl;exact ⟨_,rfl,u,_,false,rfl,t1,t2,false,rfl,.inr ⟨true,rfl,pl,[.str "told",u],1,u,rfl,rfl,SqL.of upd_same,rfl,qq _ sl⟩⟩
    · have qq:∀ H',Same H H'→Q (.str "NoText") H':=fun H' g=>q _ H' g (.inl ⟨l,rfl,ht,.inr (.inr ⟨ck2,by rw [e]⟩)⟩);intro C hC;cases hC;refine ⟨XC.uNoText,fun ea ne=>⟨_,rfl,?_⟩⟩;have g2:=s1.trans (Same.new ne (bX ea aT));have ee:upd H1 ea (bX ea aT) ea=some (bX ea aT):=upd_same;generalize upd H1 ea (bX ea aT)=H2 at g2 ee ⊢;refine ⟨_,rfl,rfl,_,rfl,k8 (fun z=>nomatch z) ?_⟩;exact ⟨_,rfl,.ref ea,.ref aT,6,"NoText",rfl,.inr ⟨ea,aT,rfl,ee,X6.ex,rfl⟩,E6,by decide,X6.kv,rfl,fun H5 g5=>qq H5 (g2.trans g5)⟩
  · refine av ⟨_,rfl,_,rfl,.inr ⟨d,hd,hn,?_⟩⟩;have qq:∀ H',Same H H'→Q (.str "NoText") H':=fun H' g=>q _ H' g (.inr ⟨⟨d,hd,hn⟩,rfl⟩);intro C hC;cases hC;refine ⟨XC.uNoText,fun ea ne=>⟨_,rfl,?_⟩⟩;have g2:=(Same.refl H).trans (Same.new ne (bX ea aT));have ee:upd H ea (bX ea aT) ea=some (bX ea aT):=upd_same;generalize upd H ea (bX ea aT)=H2 at g2 ee ⊢;refine ⟨_,rfl,rfl,_,rfl,k8 (fun z=>nomatch z) ?_⟩;exact ⟨_,rfl,.ref ea,.ref aT,6,"NoText",rfl,.inr ⟨ea,aT,rfl,ee,X6.ex,rfl⟩,E6,by decide,X6.kv,rfl,fun H5 g5=>qq H5 (g2.trans g5)⟩
end
open PySem L2
def oA (l:List Nat) (r:Nat):Prop:=∀ a b,l=a++b→(∀ x∈b,48≤x∧x≤57)→b.length≤r
theorem uT:R12 []:=fun a b c e _=>by
  have:=congrArg aa2 e;simp at this;lia
theorem uL:oA [] 0:=fun a b e _=>by
  have:=congrArg aa2 e;simp at this;lia
theorem uK {l:List Nat} {r c:Nat} (h:oA l r):oA (l++[c]) (r+1):=fun a b e hb=>by
  rcases aaY b with rfl|⟨b',y,rfl⟩
  · simp
  · rw [aaX] at e hb ⊢;rw [← abP] at e;have e1:=List.append_inj_left' e rfl;have:=h a b' e1 fun x hx=>hb x (aaV _ hx);simp;lia
theorem v_ {l:List Nat} {c:Nat} (hc:¬ (48≤c∧c≤57)):oA (l++[c]) 0:=fun a b e hb=>by
  rcases aaY b with rfl|⟨b',y,rfl⟩
  · simp
  · rw [aaX] at e hb;rw [← abP] at e;have e2:=List.append_inj_right' e rfl;injection e2 with e2
    exact absurd (e2 ▸ hb y (by simp)) hc
theorem nq {l:List Nat} {c r:Nat} (h:R12 l) (hs:oA (l++[c]) r) (hr:r≤12):R12 (l++[c]):=fun a b z e hb=>by
  rcases aaY z with rfl|⟨z',y,rfl⟩
  · rw [abC] at e;have:=hs a b e hb;lia
  · rw [aaX,← abP] at e;exact h a b z' (List.append_inj_left' e rfl) hb
section
variable {P:Program} {w:World} {K:aaa} {mg:Str→Option Value} {base:Heap} {f:Addr} {fd:FuncData}
def sE:Sp:=fun vs H Q _=>∃ l:List Nat,vs=[.str (mkS l)]∧Asc l∧l.length≤900∧∀ b H',Same H H'→(b=false→l.length≤400∧R12 l)→Q (.bl b) H'
abbrev eE:Stmt:=top 63
theorem cV:FnScope ["text","run","sign"] ["text"] (aq eE):=⟨rfl,rfl,rfl,by decide +kernel,rfl,by decide +kernel,by decide +kernel⟩
theorem kA (F:Fun K "_law_beyond" "_law_beyond" eE f fd) (B:Bu K mg):FnOk P w K mg base CX0 1 f fd ["text"] sE:=by
  refine F.ok cV (fun vs H Q E h=>?_) (fun cdv A outer s H vs Q E hr h=>?_)
  · obtain ⟨l,rfl,_⟩:=h;rfl
  obtain ⟨l,rfl,ha,hl,q⟩:=h;refine ⟨_,(@ad _ _ _ _ _ (@ao _ _ (1) _ _ _ _ (cV).nd rfl (Or.inl rfl) ae (by rfl) (by first|exact .inl rfl|exact .inr rfl|assumption)) (@ad _ _ _ _ _ (@cX _ _ _ _ _ _ _ _ aaT rfl (@lX _ _ _ _ (pv 0)) (@aG _ _ (2) _ (cV).nd rfl (Or.inl rfl) (.inl rfl)) (@ad _ _ _ _ _ (@ao _ _ (1) _ _ _ _ (cV).nd rfl (Or.inl rfl) (@aj _ _ _ _ _ _ _ _ fe (@aj _ _ _ _ _ _ _ _ bt (pv 1) ae) (@bn _ _ _ _ _ _ _ _ _ cA rfl B.iint aaA (@aa _ _ _ _ _ (@bp _ _ _ _ _ _ _ _ ir (pv 2) af (by with_unfolding_all rfl)) ac (by rfl)) (by decide) (by decide) (by rfl) (by rfl))) (by rfl) (by first|exact .inl rfl|exact .inr rfl|assumption)) (@ag _ _ _ (@aV _ _ _ _ _ _ _ _ (@ai _ _ _ _ _ _ _ _ gn (pv 1) ae (ak _)) (@ag _ _ _ (@ar _ _ _ _ dE)) aB))) (by intro _;rfl)) (@ag _ _ _ (@ar _ _ _ _ (@bp _ _ _ _ _ _ _ _ gn (@ap _ _ _ _ _ _ _ _ _ bH rfl B.ilen aaI (@aa _ _ _ _ _ (pv 0) ac (by rfl)) (by decide) (by decide) (by rfl) (by rfl)) ae (ak _)))))),?_⟩;have ll:((mkS l).length:Int)=(l.length:Nat):=by rw [ah]
  have lz:(mkS l).length≤sizeLine:=by rw [ah];exact al (by lia)
  refine ⟨_,rfl,_,rfl,ha,qB (fun i σ H'=>∃ (r:Nat) (cc:Option V),σ=[some (.str (mkS l)),some (.int (r:Nat)),cc]∧Same H H'∧r≤12∧R12 (l.take i)∧oA (l.take i) r) ⟨0,_,rfl,Same.refl _,by decide,uT,uL⟩ ?_ ?_⟩
  · rintro i c σ H' hc ⟨r,cc,rfl,S,hr12,h12,hsf⟩;rw [iC] at hc;have etk:l.take (i+1)=l.take i++[c]:=by rw [aaz,hc];rfl
    rw [etk];by_cases hd:48≤c∧c≤57
    · have hsf2:oA (l.take i++[c]) (r+1):=uK hsf;refine ⟨_,rfl,_,_,rfl,rfl,_,rfl,_,_,rfl,rfl,.inr ⟨true,congrArg (fun z=>[V.bl z]) ((mC c).trans (decide_eq_true hd)),_,_,rfl,rfl,.inr ⟨by decide,by decide⟩,?_⟩⟩;refine ⟨_,rfl,_,_,rfl,rfl,decide (12 < ((r:Nat):Int)+1),by show V.bl (decide (12 < (((r:Nat):Int)+1) * 1))=_;rw [Int.mul_one],?_⟩;by_cases h13:12 < ((r:Nat):Int)+1
      · rw [decide_eq_true h13];exact aC (q true H' S (fun e=>nomatch e))
      · rw [decide_eq_false h13];refine av ⟨r+1,some (.str (⟨#[c]⟩:Str)),?_,S,by lia,nq h12 hsf2 (by lia),hsf2⟩;show [some (V.str (mkS l)),some (V.int ((((r:Nat):Int)+1) * 1)),some (V.str (⟨#[c]⟩:Str))]=_;rw [Int.mul_one];rfl
    · have hsf2:oA (l.take i++[c]) 0:=v_ hd;refine ⟨_,rfl,_,_,rfl,rfl,_,rfl,_,_,rfl,rfl,.inr ⟨false,congrArg (fun z=>[V.bl z]) ((mC c).trans (decide_eq_false hd)),_,_,rfl,rfl,.inr ⟨by decide,by decide⟩,?_⟩⟩;refine ⟨_,rfl,_,_,rfl,rfl,false,by show V.bl (decide (12 < (((r:Nat):Int)+1) * 0))=_;rw [Int.mul_zero];rfl,av ⟨0,some (.str (⟨#[c]⟩:Str)),?_,S,by decide,nq h12 hsf2 (by decide),hsf2⟩⟩;show [some (V.str (mkS l)),some (V.int ((((r:Nat):Int)+1) * 0)),some (V.str (⟨#[c]⟩:Str))]=_;rw [Int.mul_zero];rfl
  · rintro σ H' ⟨r,cc,rfl,S,hr12,h12,hsf⟩;rw [fR,aaL] at h12;refine ⟨_,rfl,_,rfl,lz,_,_,rfl,rfl,?_⟩;refine q _ H' S fun e=>⟨?_,h12⟩
    have:=of_decide_eq_false e;lia
def sx:Sp:=fun vs H Q _=>∃ wl M,vs=[.ref wl]∧Wel H wl M∧M < 999000000∧∀ c H',c < 128→But wl H H'→Wel H' wl (M+2)→Q (.str (mkS [c])) H'
abbrev fI:Stmt:=top 52
theorem eX:FnScope ["well","wide","menu"] ["well"] (aq fI):=⟨rfl,rfl,rfl,by decide +kernel,rfl,by decide +kernel,by decide +kernel⟩
theorem nC (F:Fun K "_law_sign" "_law_sign" fI f fd) (B:Bu K mg) (C__law_draw:Cal P w K mg base "_law_draw" 2 ["well","many"] eW):FnOk P w K mg base CX0 3 f fd ["well"] sx:=by
  refine F.ok eX (fun vs H Q E h=>?_) (fun cdv A outer s H vs Q E hr h=>?_)
  · obtain ⟨l,_,rfl,_⟩:=h;rfl
  obtain ⟨wl,M,rfl,hw,hM,q⟩:=h;refine ⟨_,(@ad _ _ _ _ _ (@ao _ _ (1) _ _ _ _ (eX).nd rfl (Or.inl rfl) af (by rfl) (by first|exact .inl rfl|exact .inr rfl|assumption)) (@ad _ _ _ _ _ (@ao _ _ (2) _ _ _ _ (eX).nd rfl (Or.inl rfl) (@aK _ _ _ _ _ _ _ ix_list (@a9 _ _ _ _ (@aa _ _ _ _ _ af (@aa _ _ _ _ _ (pv 1) ac (by rfl)) (by rfl))) (@am _ _ _ _ _ _ _ _ _ _ _ C__law_draw hr (by lia) rfl (@aa _ _ _ _ _ (pv 0) (@aa _ _ _ _ _ ae ac (by rfl)) (by rfl)) (by decide) (by rfl) (by rfl)) (fun _ _=>rfl)) (by rfl) (by first|exact .inl rfl|exact .inr rfl|assumption)) (@ag _ _ _ (@ar _ _ _ _ (@aK _ _ _ _ _ _ _ bG (pv 2) (@am _ _ _ _ _ _ _ _ _ _ _ C__law_draw hr (by lia) rfl (@aa _ _ _ _ _ (pv 0) (@aa _ _ _ _ _ (@ap _ _ _ _ _ _ _ _ _ bH rfl B.ilen aaI (@aa _ _ _ _ _ (pv 2) ac (by rfl)) (by decide) (by decide) (by rfl) (by rfl)) ac (by rfl)) (by rfl)) (by decide) (by rfl) (by rfl)) (fun _ _=>rfl)))))),?_⟩;obtain ⟨zw,hzw⟩:∃ zw:Str,(" !\"#$&'()*+,-./0123456789:;<=>?@ABCDEFGHIJKLMNOPQRSTUVWXYZ[\\]^_`abcdefghijklmnopqrstuvwxyz{|}~\n\t":Str)=zw:=⟨_,rfl⟩
  have aw:zw.cps.all (· < 128)=true∧0 < zw.length∧zw.length < 200:=by rw [← hzw];decide +kernel
  obtain ⟨zn,hzn⟩:∃ zn:Str,("0123 ~+-*()/-":Str)=zn:=⟨_,rfl⟩
  have an:zn.cps.all (· < 128)=true∧0 < zn.length∧zn.length < 200:=by rw [← hzn];decide +kernel
  rw [hzw,hzn];clear hzw hzn;refine ⟨_,rfl,(by show 2≤sizeLine;decide),fun p n=>?_⟩;have s1:=Same.new n (.lst [.str zn,.str zw]);have e1:upd H p (.lst [.str zn,.str zw]) p=_:=upd_same;have npw:=hw.ne n;have hw1:=hw.keep s1 (aaG _);generalize upd H p (.lst [.str zn,.str zw])=H1 at s1 e1 hw1 ⊢;refine ⟨_,rfl,wl,2,M,rfl,by decide,by decide,hw1,by lia,fun r H2 a0 a1 b2 w2=>?_⟩;obtain ⟨z,hz,zz⟩:∃ z:Str,atI [V.str zn,.str zw] r=some (.str z)∧z.cps.all (· < 128)=true∧0 < z.length∧z.length < 200:=by
    have : r=0∨r=1:=by lia
    rcases this with rfl|rfl
    · exact ⟨zn,rfl,an⟩
    · exact ⟨zw,rfl,aw⟩
  obtain ⟨za,zl,zm⟩:=zz;have zle:z.length≤sizeLine:=al (by lia);refine ⟨p,_,_,_,rfl,rfl,SqL.of (b2 _ _ npw e1),hz,_,rfl,_,rfl,_,rfl,_,rfl,zle,wl,(z.length:Nat),M+1,rfl,by lia,by lia,w2,by lia,fun r2 H3 a2 a3 b3 w3=>?_⟩;have hlt:r2.toNat < z.cps.size:=by have : z.length=z.cps.size:=rfl;lia
  obtain ⟨c,hc⟩:∃ c,z.cps.toList[r2.toNat]?=some c:=⟨_,aac (by simpa using hlt)⟩
  have hat:atI z.cps.toList r2=some c:=by
    have:=bA hc
    rwa [show ((r2.toNat:Nat):Int)=r2 by lia] at this
  refine ⟨_,_,c,rfl,rfl,zle,hat,?_⟩;have hc128:c < 128:=by
    rw [aa4] at za;exact of_decide_eq_true (za c (by simpa using aaM hc))
  exact q c H3 hc128 ((But.of s1).trans (b2.trans b3)) (w3.more (by lia))
end
open PySem L2
theorem lit {z:Str} {n:Nat} (h:z.cps.all (· < 128)=true∧z.length≤n):∃ l,z=mkS l∧Asc l∧l.length≤n:=by
  refine ⟨z.cps.toList,(oK z).symm,?_,?_⟩
  · unfold Asc;rw [oK];exact h.1
  · have : z.length=z.cps.size:=rfl;simp;lia
theorem vd {x:Str} {i j c:Nat} (h:c∈(abH x i j).cps):c∈x.cps:=by
  unfold abH at h;rw [Array.mem_extract_iff_getElem] at h;obtain ⟨k,hk,e⟩:=h;rw [← e];exact Array.getElem_mem _
theorem qZ {x y z:Str} (hx:x.cps.all (· < 128)=true) (hz:z.cps.all (· < 128)=true):(eL x y z).cps.all (· < 128)=true:=by
  unfold eL;split
  · exact hx
  · have h1:=aca x y 0 x.length 1;rw [aa4] at *;have hs:∀ i j,∀ c∈(abH x i j).cps,decide (c < 128)=true:=fun i j c hc=>hx c (vd hc)
    match h:aaB x y 0 x.length 1,h1 with
    | [],_ =>
      intro c hc;exact hs _ _ c hc
    | [k],_ =>
      intro c hc;have hc:c∈((abH x 0 k).cps++z.cps++(abH x (k+y.length) x.length).cps):=hc;rcases Array.mem_append.mp hc with hc|hc
      · rcases Array.mem_append.mp hc with hc|hc
        · exact hs _ _ c hc
        · exact hz c hc
      · exact hs _ _ c hc
    | _ :: _ :: _,h1=>simp at h1
theorem jA {l:List Nat} {y z:Str} {n:Nat} (ha:Asc l) (hz:z.cps.all (· < 128)=true∧z.length≤n):∃ l',eL (mkS l) y z=mkS l'∧Asc l'∧l'.length≤l.length+n:=by
  obtain ⟨l',e,h1,h2⟩:=lit (z:=eL (mkS l) y z) (n:=l.length+n) ⟨qZ ha hz.1,by have:=kO (mkS l) y z;rw [ah] at this;lia⟩;exact ⟨l',e,h1,h2⟩
theorem bL {a b:List Nat} (ha:Asc a) (hb:Asc b):Asc (a++b):=by
  unfold Asc mkS at *;rw [aa4] at *;intro c hc;simp at hc;rcases hc with h|h
  · exact ha c (by simpa using h)
  · exact hb c (by simpa using h)
theorem cL {c:Nat} (h:c < 128):Asc [c]:=by
  unfold Asc mkS;rw [aa4];intro x hx;simp at hx;rw [hx];exact decide_eq_true h
theorem jv (x:List Nat) (r:List (List Nat)):szs (x :: r)=x.length+1+szs r:=by unfold szs;simp;lia
theorem sj (l:List Nat):szs (aJ l)≤l.length+1:=by
  obtain ⟨_,_,h3⟩:=h_ l;have:=sk (aJ l);rw [← h3] at this;exact this
theorem v8 {W:List (List Nat)} {j:Nat} (h:j < W.length):szs W=szs (W.take j)+(W[j].length+1+szs (W.drop (j+1))):=by
  have e:W=W.take j++W[j] :: W.drop (j+1):=by rw [← aa0 h,ab6]
  conv=>lhs;rw [e,eV,jv]
theorem iO:∀ {ws:List (List Nat)},(∀ x∈ws,Asc x)→Asc (jl ws)
  | [],_=>by unfold Asc mkS jl;simp
  | [x],h=>h x aai
  | x :: y :: r,h=>by
    show Asc (x++32 :: jl (y :: r));exact bL (h x aai) (bL (a:=[32]) (cL (by decide)) (iO fun z hz=>h z (aae _ hz)))
section
variable {P:Program} {w:World} {K:aaa} {mg:Str→Option Value} {base:Heap} {f:Addr} {fd:FuncData}
def lK:Sp:=fun vs H Q _=>∃ (wl:Addr) (M:Int) (l:List Nat),vs=[.ref wl,.str (mkS l)]∧Wel H wl M∧M < 990000000∧Asc l∧l.length≤900∧∀ l' H',Asc l'→l'.length≤l.length+8→But wl H H'→Wel H' wl (M+20)→Q (.str (mkS l')) H'
abbrev eh:Stmt:=top 53
theorem bq:FnScope ["well","text","at","to","words","one","odd","word","way"] ["well","text"] (aq eh):=⟨rfl,rfl,rfl,by decide +kernel,rfl,by decide +kernel,by decide +kernel⟩
theorem kn (F:Fun K "_law_spoilt" "_law_spoilt" eh f fd) (B:Bu K mg) (C__law_draw:Cal P w K mg base "_law_draw" 2 ["well","many"] eW) (C__law_sign:Cal P w K mg base "_law_sign" 3 ["well"] sx):FnOk P w K mg base CX0 4 f fd ["well","text"] lK:=by
  refine F.ok bq (fun vs H Q E h=>?_) (fun cdv A outer s H vs Q E hr h=>?_)
  · obtain ⟨l,_,_,rfl,_⟩:=h;rfl
  obtain ⟨wl,M,l,rfl,hw,hM,ha,hl,q⟩:=h;refine ⟨_,(@ad _ _ _ _ _ (@ao _ _ (2) _ _ _ _ (bq).nd rfl (Or.inl rfl) (@am _ _ _ _ _ _ _ _ _ _ _ C__law_draw hr (by lia) rfl (@aa _ _ _ _ _ (pv 0) (@aa _ _ _ _ _ (@aj _ _ _ _ _ _ _ _ bt (@ap _ _ _ _ _ _ _ _ _ bH rfl B.ilen aaI (@aa _ _ _ _ _ (pv 1) ac (by rfl)) (by decide) (by decide) (by rfl) (by rfl)) ae) ac (by rfl)) (by rfl)) (by decide) (by rfl) (by rfl)) (by rfl) (by first|exact .inl rfl|exact .inr rfl|assumption)) (@ad _ _ _ _ _ (@ao _ _ (3) _ _ _ _ (bq).nd rfl (Or.inl rfl) (@aj _ _ _ _ _ _ _ _ bt (pv 2) (@am _ _ _ _ _ _ _ _ _ _ _ C__law_draw hr (by lia) rfl (@aa _ _ _ _ _ (pv 0) (@aa _ _ _ _ _ (@aj _ _ _ _ _ _ _ _ dC (@aj _ _ _ _ _ _ _ _ bt (@ap _ _ _ _ _ _ _ _ _ bH rfl B.ilen aaI (@aa _ _ _ _ _ (pv 1) ac (by rfl)) (by decide) (by decide) (by rfl) (by rfl)) ae) (pv 2)) ac (by rfl)) (by rfl)) (by decide) (by rfl) (by rfl))) (by rfl) (by first|exact .inl rfl|exact .inr rfl|assumption)) (@ad _ _ _ _ _ (@ao _ _ (4) _ _ _ _ (bq).nd rfl (Or.inl rfl) (@bV _ _ _ _ _ _ _ _ _ _ _ _ aaO ab0 ab1 dL (pv 1) (@aa _ _ _ _ _ af ac (by rfl)) (by rfl) (by rfl) (by rfl) (by rfl) (by rfl)) (by rfl) (by first|exact .inl rfl|exact .inr rfl|assumption)) (@ad _ _ _ _ _ (@ao _ _ (5) _ _ _ _ (bq).nd rfl (Or.inl rfl) (@am _ _ _ _ _ _ _ _ _ _ _ C__law_draw hr (by lia) rfl (@aa _ _ _ _ _ (pv 0) (@aa _ _ _ _ _ (@ap _ _ _ _ _ _ _ _ _ a6 rfl B.ilen aaI (@aa _ _ _ _ _ (pv 4) ac (by rfl)) (by decide) (by decide) (by rfl) (by rfl)) ac (by rfl)) (by rfl)) (by decide) (by rfl) (by rfl)) (by rfl) (by first|exact .inl rfl|exact .inr rfl|assumption)) (@ad _ _ _ _ _ (@ao _ _ (6) _ _ _ _ (bq).nd rfl (Or.inl rfl) (@a9 _ _ _ _ (@aa _ _ _ _ _ af (@aa _ _ _ _ _ af (@aa _ _ _ _ _ af (@aa _ _ _ _ _ af (@aa _ _ _ _ _ af (@aa _ _ _ _ _ af (@aa _ _ _ _ _ af (@aa _ _ _ _ _ af (@aa _ _ _ _ _ af (@aa _ _ _ _ _ af (@aa _ _ _ _ _ af (@aa _ _ _ _ _ af (@aa _ _ _ _ _ af (@aa _ _ _ _ _ af (@aa _ _ _ _ _ af (@aa _ _ _ _ _ af (@aa _ _ _ _ _ af ac (by rfl)) (by rfl)) (by rfl)) (by rfl)) (by rfl)) (by rfl)) (by rfl)) (by rfl)) (by rfl)) (by rfl)) (by rfl)) (by rfl)) (by rfl)) (by rfl)) (by rfl)) (by rfl)) (by rfl))) (by rfl) (by first|exact .inl rfl|exact .inr rfl|assumption)) (@ad _ _ _ _ _ (@ao _ _ (7) _ _ _ _ (bq).nd rfl (Or.inl rfl) (@aK _ _ _ _ _ _ _ ix_list (pv 6) (@am _ _ _ _ _ _ _ _ _ _ _ C__law_draw hr (by lia) rfl (@aa _ _ _ _ _ (pv 0) (@aa _ _ _ _ _ ae ac (by rfl)) (by rfl)) (by decide) (by rfl) (by rfl)) (fun _ _=>rfl)) (by rfl) (by first|exact .inl rfl|exact .inr rfl|assumption)) (@ad _ _ _ _ _ (@ao _ _ (8) _ _ _ _ (bq).nd rfl (Or.inl rfl) (@am _ _ _ _ _ _ _ _ _ _ _ C__law_draw hr (by lia) rfl (@aa _ _ _ _ _ (pv 0) (@aa _ _ _ _ _ ae ac (by rfl)) (by rfl)) (by decide) (by rfl) (by rfl)) (by rfl) (by first|exact .inl rfl|exact .inr rfl|assumption)) (@ad _ _ _ _ _ (@aV _ _ _ _ _ _ _ _ (@ai _ _ _ _ _ _ _ _ bc (pv 8) ae (ak _)) (@ag _ _ _ (@ar _ _ _ _ (@aj _ _ _ _ _ _ _ _ au (@aj _ _ _ _ _ _ _ _ au (@aX _ _ _ _ _ _ _ _ _ _ bQ (pv 1) bi (@aY _ _ _ (pv 2))) (@am _ _ _ _ _ _ _ _ _ _ _ C__law_sign hr (by lia) rfl (@aa _ _ _ _ _ (pv 0) ac (by rfl)) (by decide) (by rfl) (by rfl))) (@aX _ _ _ _ _ _ _ _ _ _ bQ (pv 1) (@aY _ _ _ (pv 2)) bi)))) aB) (@ad _ _ _ _ _ (@aV _ _ _ _ _ _ _ _ (@ai _ _ _ _ _ _ _ _ bc (pv 8) ae (ak _)) (@ag _ _ _ (@ar _ _ _ _ (@aj _ _ _ _ _ _ _ _ au (@aX _ _ _ _ _ _ _ _ _ _ bQ (pv 1) bi (@aY _ _ _ (pv 2))) (@aX _ _ _ _ _ _ _ _ _ _ bQ (pv 1) (@aY _ _ _ (@aj _ _ _ _ _ _ _ _ bt (pv 2) ae)) bi)))) aB) (@ad _ _ _ _ _ (@aV _ _ _ _ _ _ _ _ (@ai _ _ _ _ _ _ _ _ bc (pv 8) ae (ak _)) (@ag _ _ _ (@ar _ _ _ _ (@aj _ _ _ _ _ _ _ _ au (@aj _ _ _ _ _ _ _ _ au (@aX _ _ _ _ _ _ _ _ _ _ bQ (pv 1) bi (@aY _ _ _ (pv 2))) (@am _ _ _ _ _ _ _ _ _ _ _ C__law_sign hr (by lia) rfl (@aa _ _ _ _ _ (pv 0) ac (by rfl)) (by decide) (by rfl) (by rfl))) (@aX _ _ _ _ _ _ _ _ _ _ bQ (pv 1) (@aY _ _ _ (@aj _ _ _ _ _ _ _ _ bt (pv 2) ae)) bi)))) aB) (@ad _ _ _ _ _ (@aV _ _ _ _ _ _ _ _ (@ai _ _ _ _ _ _ _ _ bc (pv 8) ae (ak _)) (@ag _ _ _ (@ar _ _ _ _ (@aj _ _ _ _ _ _ _ _ au (@aj _ _ _ _ _ _ _ _ au (@aj _ _ _ _ _ _ _ _ au (@aj _ _ _ _ _ _ _ _ au (@aX _ _ _ _ _ _ _ _ _ _ bQ (pv 1) bi (@aY _ _ _ (pv 2))) af) (@aX _ _ _ _ _ _ _ _ _ _ bQ (pv 1) (@aY _ _ _ (pv 2)) (@aY _ _ _ (pv 3)))) af) (@aX _ _ _ _ _ _ _ _ _ _ bQ (pv 1) (@aY _ _ _ (pv 3)) bi)))) aB) (@ad _ _ _ _ _ (@ww _ _ _ _ _ _ _ _ (Tk.cmp Tk.constI rfl) (@ai _ _ _ _ _ _ _ _ bc (pv 8) ae (ak _)) (@sI _ _ _ _ (im (im (PE.kk (pv 1)) rfl (by decide)) rfl (by decide))) aB) (@ad _ _ _ _ _ (@aV _ _ _ _ _ _ _ _ (@ai _ _ _ _ _ _ _ _ bc (pv 8) ae (ak _)) (@ag _ _ _ (@cJ _ _ _ _ (@bV _ _ _ _ _ _ _ _ _ _ _ _ aaC PySem.F.slot_list_insert PySem.F.type_list_insert rl (pv 4) (@aa _ _ _ _ _ (pv 5) (@aa _ _ _ _ _ (pv 7) ac (by rfl)) (by rfl)) (by rfl) (by rfl) (by rfl) (by rfl) (by rfl)) (by rfl))) (@ag _ _ _ (@aV _ _ _ _ _ _ _ _ (@ai _ _ _ _ _ _ _ _ bc (pv 8) ae (ak _)) (@ag _ _ _ (@gJ _ _ _ _ _ _ (pv 7) (@lZ _ _ _ _ _ _ _ (pv 4) (pv 5) gY (by intro _;rfl)) (by rfl) (by rfl) (by rfl))) (@ag _ _ _ (@aV _ _ _ _ _ _ _ _ (@ai _ _ _ _ _ _ _ _ bc (pv 8) ae (ak _)) (@ag _ _ _ (@cJ _ _ _ _ (@bV _ _ _ _ _ _ _ _ _ _ _ _ aaC PySem.F.slot_list_pop PySem.F.type_list_pop sZ (pv 4) (@aa _ _ _ _ _ (pv 5) ac (by rfl)) (by rfl) (by rfl) (by rfl) (by rfl) (by rfl)) (by rfl))) (@ag _ _ _ (@ar _ _ _ _ (@aK _ _ _ _ _ _ _ ix_list (@a9 _ _ _ _ (xT (Tk.bin Tk.constS) (aj au af (pv 1)) (sP (aj au (pv 1) af) (kR (im (PE.kk (pv 1)) rfl (by decide)) (PA.k (aa (aj au (pv 1) af) ac)))))) (@am _ _ _ _ _ _ _ _ _ _ _ C__law_draw hr (by lia) rfl (@aa _ _ _ _ _ (pv 0) (@aa _ _ _ _ _ ae ac (by rfl)) (by rfl)) (by decide) (by rfl) (by rfl)) (fun _ _=>rfl))))))))) (@ag _ _ _ (@ar _ _ _ _ (@bV _ _ _ _ _ _ _ _ _ _ _ _ aaO ab8 ab9 fQ af (@aa _ _ _ _ _ (pv 4) ac (by rfl)) (by rfl) (by rfl) (by rfl) (by rfl) (by rfl))))))))))))))))),?_⟩;have ll:((mkS l).length:Int)=(l.length:Nat):=by rw [ah]
  have lz:(mkS l).length≤sizeLine:=by rw [ah];exact al (by lia)
  have hcnt:=i8 l;have hne:(aJ l).length≠0:=fun z=>(h_ l).1 (ack.mp z);refine ⟨_,rfl,_,rfl,_,rfl,lz,_,_,rfl,rfl,wl,((mkS l).length:Int)+1,M,rfl,by lia,by lia,hw,by lia,fun r1 H1 a0 a1 b1 w1=>?_⟩;obtain ⟨p,rfl⟩:∃ p:Nat,r1=(p:Int):=⟨r1.toNat,by lia⟩
  refine ⟨_,rfl,_,rfl,_,rfl,_,rfl,lz,_,_,rfl,rfl,_,rfl,_,_,rfl,rfl,wl,((mkS l).length:Int)+1 - (p:Int),M+1,rfl,by lia,by lia,w1,by lia,fun r2 H2 c0 c1 b2 w2=>?_⟩;obtain ⟨d,rfl⟩:∃ d:Nat,r2=(d:Int):=⟨r2.toNat,by lia⟩
  refine ⟨_,_,rfl,rfl,?_⟩;refine ⟨_,rfl,rfl,_,_,rfl,rfl,by decide,lz,?_,?_,fun pw nw=>?_⟩
  · rw [cP];exact al (by simp;lia)
  · rw [bD];exact fY _ (by rw [ah];lia)
  rw [cP];have sw:=Same.new nw (.lst (((aJ l).map mkS).map V.str));have ew:upd H2 pw (.lst (((aJ l).map mkS).map V.str)) pw=some (.lst (((aJ l).map mkS).map V.str)):=upd_same;have npw:=w2.ne nw;have w3:=w2.keep sw (aaG _);generalize upd H2 pw (.lst (((aJ l).map mkS).map V.str))=H3 at sw ew w3 ⊢;have lwd:(((aJ l).map mkS).map V.str).length=(aJ l).length:=by simp
  refine ⟨_,rfl,_,rfl,pw,_,rfl,.inl (SqL.of ew),wl,((((aJ l).map mkS).map V.str).length:Int),M+1+1,rfl,by lia,by lia,w3,by lia,fun r3 H4 d0 d1 b4 w4=>?_⟩;obtain ⟨j,rfl⟩:∃ j:Nat,r3=(j:Int):=⟨r3.toNat,by lia⟩
  have hj:j < (aJ l).length:=by lia
  refine ⟨(by show 17≤sizeLine;decide),fun po no=>?_⟩;obtain ⟨ods,hods⟩:∃ ods,[V.str "",.str "0",.str "~0",.str "00",.str "01",.str "~",.str "~~1",.str "-1",.str "+1",.str "1_0",.str "1.0",.str "/",.str "0-1",.str "1-0",.str "0-9",.str "0-1-2",.str "~01"]=ods:=⟨_,rfl⟩
  have lods:ods.length=17:=by rw [← hods];rfl
  have aods:∀ x∈ods,∃ lw,x=.str (mkS lw)∧Asc lw∧lw.length≤5:=by
    rw [← hods];have go:∀ z:Str,z.cps.all (· < 128)=true∧z.length≤5→∃ lw,V.str z=.str (mkS lw)∧Asc lw∧lw.length≤5:=fun z h=>by
      obtain ⟨lw,e,h1,h2⟩:=lit h;exact ⟨lw,by rw [e],h1,h2⟩
    intro x hx;simp only [aaj,abz,or_false] at hx;rcases hx with rfl|rfl|rfl|rfl|rfl|rfl|rfl|rfl|rfl|rfl|rfl|rfl|rfl|rfl|rfl|rfl|rfl <;> exact go _ (by decide +kernel)
  rw [hods];have so:=Same.new no (.lst ods);have eo:upd H4 po (.lst ods) po=some (.lst ods):=upd_same;have npo:=w4.ne no;have ew4:=so _ _ (b4 _ _ npw ew);have w5:=w4.keep so (aaG _);have B5:But wl H2 (upd H4 po (.lst ods)):=(But.of sw).trans (b4.trans (But.of so));generalize upd H4 po (.lst ods)=H5 at so eo ew4 w5 B5 ⊢;clear hods;refine ⟨_,rfl,_,rfl,wl,17,M+1+1+1,rfl,by decide,by decide,w5,by lia,fun r4 H6 e0 e1' b6 w6=>?_⟩;have hlt:r4.toNat < ods.length:=by lia
  obtain ⟨lw,hlw,alw,llw⟩:=aods ods[r4.toNat] (acG hlt);have hat:atI ods r4=some (.str (mkS lw)):=by
    have h:atI ods ((r4.toNat:Nat):Int)=some ods[r4.toNat]:=bA (aac hlt);rw [show ((r4.toNat:Nat):Int)=r4 by lia] at h;rw [h,hlw]
  refine ⟨po,_,_,_,rfl,rfl,SqL.of (b6 _ _ npo eo),hat,?_⟩;refine ⟨_,rfl,wl,9,M+1+1+1+1,rfl,by decide,by decide,w6,by lia,fun r5 H7 f0 f1 b7 w7=>?_⟩;have ew7:=b7 _ _ npw (b6 _ _ npw ew4);have B7:But wl H H7:=((b1.trans b2).trans B5).trans (b6.trans b7);have npw0:H2 pw=none:=nw;have fin:∀ l' H',Asc l'→l'.length≤l.length+8→But wl H7 H'→Wel H' wl (M+15)→Q (.str (mkS l')) H':=fun l' H' x1 x2 x3 x4=>q l' H' x1 x2 (B7.trans x3) (x4.more (by lia));have w7':Wel H7 wl (M+13):=w7.more (by lia);have ct:∀ k:Nat,bu (mkS l) none (some (k:Int))=mkS (l.take k):=fun k=>gP l k;have cd:∀ k:Nat,bu (mkS l) (some (k:Int)) none=mkS (l.drop k):=fun k=>pK l k;have cd1:bu (mkS l) (some ((p:Int)+1)) none=mkS (l.drop (p+1)):=by
    rw [show (p:Int)+1=((p+1:Nat):Int) by lia];exact cd (p+1)
  have lt:∀ k:Nat,(bu (mkS l) none (some (k:Int))).length≤900:=fun k=>by rw [ct,ah,aav];lia
  have ld:∀ k:Nat,(bu (mkS l) (some (k:Int)) none).length≤900:=fun k=>by rw [cd,ah,aay];lia
  have ld1:(bu (mkS l) (some ((p:Int)+1)) none).length≤900:=by rw [cd1,ah,aay];lia
  have at1:∀ k,Asc (l.take k):=fun k=>c_ ha fun x hx=>abo hx;have ad1:∀ k,Asc (l.drop k):=fun k=>c_ ha fun x hx=>abO hx;have apl:∀ a b:Str,(a++b).length=a.length+b.length:=fun a b=>i_ a b;have big:∀ {n:Nat},n≤100000→n≤sizeLine:=fun h=>by rw [sizeLine_eq];lia
  refine ⟨_,rfl,rfl,decide (r5=0),congrArg V.bl (d3 r5 0),?_⟩;by_cases k0:r5=0
  · rw [decide_eq_true k0];refine aC ⟨_,rfl,_,rfl,_,rfl,_,rfl,big (by have:=lt p;lia),_,rfl,wl,M+13,rfl,w7',by lia,fun c H8 hc b8 w8=>⟨_,_,rfl,rfl,?_,_,rfl,_,rfl,_,rfl,_,rfl,big (by have:=ld p;lia),_,_,rfl,rfl,?_,?_⟩⟩
    · rw [ah];exact big (by have:=lt p;simp;lia)
    · rw [apl,ah];exact big (by have:=lt p;have:=ld p;simp;lia)
    · have e:bu (mkS l) none (some (p:Int))++mkS [c]++bu (mkS l) (some (p:Int)) none=mkS (l.take p++[c]++l.drop p):=by rw [ct,cd,aU,aU]
      show Q (.str (bu (mkS l) none (some (p:Int))++mkS [c]++bu (mkS l) (some (p:Int)) none)) H8;rw [e];refine fin _ H8 (bL (bL (at1 p) (cL hc)) (ad1 p)) ?_ b8 w8;simp;lia
  rw [decide_eq_false k0];refine av ⟨_,rfl,rfl,decide (r5=1),congrArg V.bl (d3 r5 1),?_⟩;by_cases k1:r5=1
  · rw [decide_eq_true k1];refine aC ⟨_,rfl,_,rfl,_,rfl,_,rfl,big (by have:=lt p;lia),_,rfl,_,rfl,_,_,rfl,rfl,_,rfl,_,rfl,big (by lia),_,_,rfl,rfl,big (by have:=lt p;lia),?_⟩;show Q (.str (bu (mkS l) none (some (p:Int))++bu (mkS l) (some ((p:Int)+1)) none)) H7;rw [ct,cd1,aU];refine fin _ H7 (bL (at1 p) (ad1 (p+1))) ?_ But.refl (w7'.more (by lia));simp;lia
  rw [decide_eq_false k1];refine av ⟨_,rfl,rfl,decide (r5=2),congrArg V.bl (d3 r5 2),?_⟩;by_cases k2:r5=2
  · rw [decide_eq_true k2];refine aC ⟨_,rfl,_,rfl,_,rfl,_,rfl,big (by have:=lt p;lia),_,rfl,wl,M+13,rfl,w7',by lia,fun c H8 hc b8 w8=>⟨_,_,rfl,rfl,?_,_,rfl,_,rfl,_,_,rfl,rfl,_,rfl,_,rfl,big (by lia),_,_,rfl,rfl,?_,?_⟩⟩
    · rw [ah];exact big (by have:=lt p;simp;lia)
    · rw [apl,ah];exact big (by have:=lt p;simp;lia)
    · have e:bu (mkS l) none (some (p:Int))++mkS [c]++bu (mkS l) (some ((p:Int)+1)) none=mkS (l.take p++[c]++l.drop (p+1)):=by rw [ct,cd1,aU,aU]
      show Q (.str (bu (mkS l) none (some (p:Int))++mkS [c]++bu (mkS l) (some ((p:Int)+1)) none)) H8;rw [e];refine fin _ H8 (bL (bL (at1 p) (cL hc)) (ad1 (p+1))) ?_ b8 w8;simp;lia
  rw [decide_eq_false k2];refine av ⟨_,rfl,rfl,decide (r5=3),congrArg V.bl (d3 r5 3),?_⟩;by_cases k3:r5=3
  · rw [decide_eq_true k3];have em:bu (mkS l) (some (p:Int)) (some ((p:Int)+(d:Int)))=mkS ((l.drop p).take d):=by
      rw [show (p:Int)+(d:Int)=((p+d:Nat):Int) by lia,on l p (p+d) (by lia),show p+d - p=d by lia]
    have lm:(bu (mkS l) (some (p:Int)) (some ((p:Int)+(d:Int)))).length≤900:=by rw [em,ah,aav,aay];lia
    have ed:bu (mkS l) (some ((p:Int)+(d:Int))) none=mkS (l.drop (p+d)):=by
      rw [show (p:Int)+(d:Int)=((p+d:Nat):Int) by lia];exact cd (p+d)
    have le:(bu (mkS l) (some ((p:Int)+(d:Int))) none).length≤900:=by rw [ed,ah,aay];lia
    have lo:("(":Str).length=1:=rfl;have lc:(")":Str).length=1:=rfl;refine aC ⟨_,rfl,_,rfl,_,rfl,_,rfl,big (by have:=lt p;lia),_,_,rfl,rfl,big (by have:=lt p;lia),_,rfl,_,rfl,_,rfl,_,rfl,_,rfl,_,rfl,big (by lia),_,_,rfl,rfl,?_,_,_,rfl,rfl,?_,_,rfl,_,rfl,_,rfl,_,rfl,big (by lia),_,_,rfl,rfl,?_,?_⟩
    · rw [apl];exact big (by have:=lt p;lia)
    · rw [apl,apl];exact big (by have:=lt p;lia)
    · rw [apl,apl,apl];exact big (by have:=lt p;lia)
    show Q (.str (bu (mkS l) none (some (p:Int))++("(":Str)++bu (mkS l) (some (p:Int)) (some ((p:Int)+(d:Int)))++(")":Str)++bu (mkS l) (some ((p:Int)+(d:Int))) none)) H7;rw [ct,em,ed,dW,gQ,aU,aU,aU,aU];refine fin _ H7 (bL (bL (bL (bL (at1 p) (cL (by decide))) (c_ (ad1 p) fun x hx=>abo hx)) (cL (by decide))) (ad1 (p+d))) ?_ But.refl (w7'.more (by lia));simp;lia
  rw [decide_eq_false k3];refine av ⟨_,rfl,rfl,decide (r5=4),congrArg V.bl (d3 r5 4),?_⟩;by_cases k4:r5=4
  · rw [decide_eq_true k4];obtain ⟨l1,z1,z2,z3⟩:=jA (y:="(") (z:="") (n:=0) ha (by decide +kernel);obtain ⟨l2,z4,z5,z6⟩:=jA (y:=")") (z:="") (n:=0) z2 (by decide +kernel);refine aC ⟨_,rfl,mkS l,rfl,by rw [ah];lia,eL (mkS l) "(" "",rfl,by rw [z1,ah];lia,?_⟩;show Q (.str (eL (eL (mkS l) "(" "") ")" "")) H7;rw [z1,z4];exact fin l2 H7 z5 (by lia) But.refl (w7'.more (by lia))
  rw [decide_eq_false k4];refine av ?_;have hz0:=sj l;have hasc0:∀ x∈aJ l,Asc x:=fun x hx=>by
    obtain ⟨a,c,e⟩:=i7 hx;exact gW e ha
  have b8':∀ o,But wl H2 (upd H7 pw o):=fun o c ob hc h=>by
    rw [aI (ba h nw)];exact b7 _ _ hc (b6 _ _ hc (B5 _ _ hc h))
  have fin:∀ l' H',Asc l'→l'.length≤l.length+8→But wl H2 H'→Wel H' wl (M+15)→Q (.str (mkS l')) H':=fun l' H' x1 x2 x3 x4=>q l' H' x1 x2 ((b1.trans b2).trans x3) (x4.more (by lia));generalize aJ l=W at hz0 hasc0 ew7 hj lwd hcnt;have hd:=v8 hj;refine ⟨_,rfl,rfl,decide (r5=5),congrArg V.bl (d3 r5 5),?_⟩;by_cases k5:r5=5
  · rw [decide_eq_true k5];refine aC ⟨_,rfl,.inl ⟨rfl,_,SqL.of ew7⟩,_,rfl,_,rfl,pw,_,(j:Int),_,rfl,rfl,ew7,by lia,by lia,by lia,?_⟩;have el:((W.map mkS).map V.str).take ((j:Int)).toNat++V.str (mkS lw) :: ((W.map mkS).map V.str).drop ((j:Int)).toNat=((W.take j++lw :: W.drop j).map mkS).map V.str:=by
      rw [acu];simp [abW,abV]
    rw [el];have e8:upd H7 pw (.lst (((W.take j++lw :: W.drop j).map mkS).map V.str)) pw=_:=upd_same;have b8:=b8' (.lst (((W.take j++lw :: W.drop j).map mkS).map V.str));have hs:szs (W.take j++lw :: W.drop j)≤l.length+7:=by
      rw [eV,jv];have : szs (W.take j)+szs (W.drop j)=szs W:=by rw [← eV,ab6]
      lia
    have hasc:∀ x∈W.take j++lw :: W.drop j,Asc x:=fun x hx=>by
      rcases aau.mp hx with h|h
      · exact hasc0 x (abo h)
      · rcases aaj.mp h with rfl|h
        · exact alw
        · exact hasc0 x (abO h)
    have lj:=iF (W.take j++lw :: W.drop j);refine ⟨rfl,_,rfl,_,pw,(W.take j++lw :: W.drop j).map mkS,rfl,rfl,SqL.of e8,?_,?_⟩
    · rw [bD];exact dZ _ (by lia)
    rw [bD,gb];exact fin _ _ (iO hasc) (by lia) b8 (by
      obtain ⟨x,y,e,h1,h2⟩:=w7';exact ⟨x,y,by rw [aI (abM npw)];exact e,h1,h2⟩)
  rw [decide_eq_false k5];refine av ⟨_,rfl,rfl,decide (r5=6),congrArg V.bl (d3 r5 6),?_⟩;by_cases k6:r5=6
  · rw [decide_eq_true k6];refine aC ⟨_,rfl,_,rfl,_,rfl,pw,_,(j:Int),j,rfl,rfl,ew7,?_,?_⟩
    · unfold ixN;rw [if_pos (by lia),if_pos (by lia)];rfl
    have el:((W.map mkS).map V.str).set j (V.str (mkS lw))=((W.set j lw).map mkS).map V.str:=by
      rw [List.map_set,List.map_set]
    rw [el];have e8:upd H7 pw (.lst (((W.set j lw).map mkS).map V.str)) pw=_:=upd_same;have b8:=b8' (.lst (((W.set j lw).map mkS).map V.str));have hs:szs (W.set j lw)≤l.length+7:=by
      have e:W.set j lw=W.take j++lw :: W.drop (j+1):=List.set_eq_take_append_cons_drop.trans (if_pos hj);rw [e,eV,jv];lia
    have hasc:∀ x∈W.set j lw,Asc x:=fun x hx=>by
      rcases List.mem_or_eq_of_mem_set hx with h|h
      · exact hasc0 x h
      · rw [h];exact alw
    have lj:=iF (W.set j lw);refine ⟨rfl,_,rfl,_,pw,(W.set j lw).map mkS,rfl,rfl,SqL.of e8,?_,?_⟩
    · rw [bD];exact dZ _ (by lia)
    rw [bD,gb];exact fin _ _ (iO hasc) (by lia) b8 (by
      obtain ⟨x,y,e,h1,h2⟩:=w7';exact ⟨x,y,by rw [aI (abM npw)];exact e,h1,h2⟩)
  rw [decide_eq_false k6];refine av ⟨_,rfl,rfl,decide (r5=7),congrArg V.bl (d3 r5 7),?_⟩;by_cases k7:r5=7
  · rw [decide_eq_true k7];refine aC ⟨_,rfl,.inl ⟨rfl,_,SqL.of ew7⟩,_,rfl,pw,_,(j:Int),j,_,rfl,rfl,ew7,by lia,by lia,?_,aac (by lia),?_⟩
    · exact (mx (show ixN ((W.map mkS).map V.str).length (j:Int)=some j by unfold ixN;rw [if_pos (by lia),if_pos (by lia)];rfl)).1
    have el:((W.map mkS).map V.str).eraseIdx j=((W.eraseIdx j).map mkS).map V.str:=by
      simp [acv,abW,abV]
    rw [el];have e8:upd H7 pw (.lst (((W.eraseIdx j).map mkS).map V.str)) pw=_:=upd_same;have b8:=b8' (.lst (((W.eraseIdx j).map mkS).map V.str));have hs:szs (W.eraseIdx j)≤l.length+7:=by
      rw [acv,eV];lia
    have hasc:∀ x∈W.eraseIdx j,Asc x:=fun x hx=>hasc0 x (List.mem_of_mem_eraseIdx hx);have lj:=iF (W.eraseIdx j);refine ⟨rfl,_,rfl,_,pw,(W.eraseIdx j).map mkS,rfl,rfl,SqL.of e8,?_,?_⟩
    · rw [bD];exact dZ _ (by lia)
    rw [bD,gb];exact fin _ _ (iO hasc) (by lia) b8 (by
      obtain ⟨x,y,e,h1,h2⟩:=w7';exact ⟨x,y,by rw [aI (abM npw)];exact e,h1,h2⟩)
  rw [decide_eq_false k7];refine av ?_;have eb:(" ":Str)=mkS [32]:=bD;have enl:("\n":Str)=mkS [10]:=by decide +kernel
  have l1':(" ":Str).length=1:=rfl;have l2':("\n":Str).length=1:=rfl;obtain ⟨lr,z1,z2,z3⟩:=jA (y:=" ") (z:="  ") (n:=2) ha (by decide +kernel);obtain ⟨xs,hxs⟩:∃ xs,[V.str ((" ":Str)++mkS l),.str (mkS l++(" ":Str)),.str (eL (mkS l) " " "  "),.str (mkS l++("\n":Str))]=xs:=⟨_,rfl⟩
  have lxs:xs.length=4:=by rw [← hxs];rfl
  have hall:∀ x∈xs,∃ l',x=.str (mkS l')∧Asc l'∧l'.length≤l.length+8:=by
    rw [← hxs];intro x hx;simp only [aaj,abz,or_false] at hx;rcases hx with rfl|rfl|rfl|rfl
    · exact ⟨[32]++l,by rw [eb,aU],bL (cL (by decide)) ha,by simp⟩
    · exact ⟨l++[32],by rw [eb,aU],bL ha (cL (by decide)),by simp⟩
    · exact ⟨lr,by rw [z1],z2,by lia⟩
    · exact ⟨l++[10],by rw [enl,aU],bL ha (cL (by decide)),by simp⟩
  refine ⟨_,rfl,_,_,rfl,rfl,big (by rw [ah];lia),_,rfl,_,_,rfl,rfl,big (by rw [ah];lia),_,rfl,mkS l,rfl,by rw [ah];lia,_,rfl,_,_,rfl,rfl,big (by rw [ah];lia),(by show 4≤sizeLine;decide),fun p8 n8=>?_⟩;rw [hxs];have s8:=Same.new n8 (.lst xs);have e8:upd H7 p8 (.lst xs) p8=_:=upd_same;have np8:=w7'.ne n8;have w8:=w7'.keep s8 (aaG _);have b8:But wl H2 (upd H7 p8 (.lst xs)):=B5.trans ((b6.trans b7).trans (But.of s8));generalize upd H7 p8 (.lst xs)=H8 at s8 e8 w8 b8 ⊢;refine ⟨_,rfl,wl,4,M+13,rfl,by decide,by decide,w8,by lia,fun r H9 g0 g1 b9 w9=>?_⟩;have hlt:r.toNat < xs.length:=by lia
  obtain ⟨l',hl',al',ll'⟩:=hall xs[r.toNat] (acG hlt);have hat:atI xs r=some (.str (mkS l')):=by
    have h:atI xs ((r.toNat:Nat):Int)=some xs[r.toNat]:=bA (aac hlt);rw [show ((r.toNat:Nat):Int)=r by lia] at h;rw [h,hl']
  exact ⟨p8,_,_,_,rfl,rfl,SqL.of (b9 _ _ np8 e8),hat,fin l' H9 al' ll' (b8.trans b9) (w9.more (by lia))⟩
end
open PySem L2
def eJ:Wy→PyData
  | .num i=>.int i
  | .node g l r=>.tuple [.str g.str,eJ l,eJ r]
theorem WyIn.dat {H:Hp}:∀ {w:Wy} {v:V},WyIn H w v→Dat H (eJ w) v
  | .num i,v,h=>by
    simp only [eJ,Dat];exact h
  | .node g l r,v,h=>by
    obtain ⟨a,vl,vr,rfl,ha,hl,hr⟩:=h;simp only [eJ,Dat,DatAll];exact ⟨a,_,rfl,ha,_,_,rfl,rfl,_,_,rfl,WyIn.dat hl,_,_,rfl,WyIn.dat hr,rfl⟩
theorem jq:∀ w:Wy,(eJ w).depth≤w.deep
  | .num i=>by simp [eJ,abT]
  | .node g l r=>by
    have a:=jq l;have b:=jq r;simp only [eJ,abT,abj];show max 0 (max (eJ l).depth (max (eJ r).depth 0))+1≤max l.deep r.deep+1;lia
theorem pG:∀ w:Wy,gdD (eJ w)=true
  | .num i=>rfl
  | .node g l r=>by
    have a:=pG l;have b:=pG r;simp [eJ,gdD,gdA,a,b]
theorem qj {W:List (List Nat)} {ps:List (Int × Int)} (h:rsW W=some ps):Gs ps:=by
  unfold rsW at h;split at h
  · rename_i c;have em:=cB h;have hl:ps.length=W.length:=by
      have:=congrArg aa2 em;rw [aaf,aaf] at this;exact this.symm
    refine ⟨by lia,fun p hp=>?_⟩;have : some p∈ps.map some:=List.mem_map_of_mem hp;rw [← em] at this;obtain ⟨z,_,e⟩:=ab5.mp this;exact (mV e).2
  · cases h
theorem uQ {l:List Nat} {ps qs:List (Int × Int)} (h:rhW l=some (ps,qs)):Gs ps∧Gs qs:=by
  unfold rhW at h;split at h
  · split at h
    · rename_i e1 e2;injection h with h
      injection h with h1 h2
      subst h1 h2;exact ⟨qj e1,qj e2⟩
    · cases h
  · cases h
theorem tZ {k:Int} {l:List Nat} {u:V} {H:Hp} (h:xu k l u H):(u=.non∧∀ f H',qR k l f H'→f=.str "NoText") ∨
    (decide (u=.non)=false∧∃ d,Dat H d u∧gdD d=true∧d.depth < 12∧∀ f H',qR k l f H'→Dat H' d f):=by
  rcases h with ⟨rfl,h⟩|⟨rfl,h⟩|⟨rfl,h⟩
  · cases e:rrW l with
    | none =>
      rw [e] at h;refine .inl ⟨h,fun f H' z=>?_⟩;rcases z with ⟨_,z⟩|⟨z,_⟩|⟨z,_⟩
      · rw [e] at z;exact z
      · exact absurd z (by decide)
      · exact absurd z (by decide)
    | some ns =>
      rw [e] at h;obtain ⟨a,rfl,ha⟩:=h;have hn9:ns.length≤9:=by
        unfold rrW at e;split at e
        · rename_i c;have:=congrArg aa2 (cB e);rw [aaf,aaf] at this;lia
        · cases e
      refine .inr ⟨rfl,.list (ns.map PyData.int),qk ha,?_,?_,fun f H' z=>?_⟩
      · simp [gdD,qA];lia
      · simp [abT,oj]
      · rcases z with ⟨_,z⟩|⟨z,_⟩|⟨z,_⟩
        · rw [e] at z;obtain ⟨b,rfl,hb⟩:=z;exact qk hb
        · exact absurd z (by decide)
        · exact absurd z (by decide)
  · cases e:rwW l with
    | none =>
      rw [e] at h;refine .inl ⟨h,fun f H' z=>?_⟩;rcases z with ⟨z,_⟩|⟨_,z⟩|⟨z,_⟩
      · exact absurd z (by decide)
      · rw [e] at z;exact z
      · exact absurd z (by decide)
    | some wy =>
      rw [e] at h;have h9:=(rwW_iff.mp e).2;have dl:=wy.deep_le;have dd:=jq wy;refine .inr ⟨lG (show WyIn H wy u from h),eJ wy,WyIn.dat (show WyIn H wy u from h),pG wy,by lia,fun f H' z=>?_⟩;rcases z with ⟨z,_⟩|⟨_,z⟩|⟨z,_⟩
      · exact absurd z (by decide)
      · rw [e] at z;exact WyIn.dat z
      · exact absurd z (by decide)
  · cases e:rhW l with
    | none =>
      rw [e] at h;refine .inl ⟨h,fun f H' z=>?_⟩;rcases z with ⟨z,_⟩|⟨z,_⟩|⟨_,z⟩
      · exact absurd z (by decide)
      · exact absurd z (by decide)
      · rw [e] at z;exact z
    | some pq =>
      obtain ⟨ps,qs⟩:=pq;rw [e] at h;obtain ⟨g1,g2⟩:=uQ e;have dp:=wZ ps qs;have hh:HdIn H ps qs u:=h;refine .inr ⟨by obtain ⟨a,x,y,e,_⟩:=hh;rw [e];rfl,hD ps qs,hh.dat,yb ps qs g1 g2,by lia,fun f H' z=>?_⟩;rcases z with ⟨z,_⟩|⟨z,_⟩|⟨_,z⟩
      · exact absurd z (by decide)
      · exact absurd z (by decide)
      · rw [e] at z;exact HdIn.dat z
theorem qM {H:Hp} {d:PyData} {z:Str} (h:Dat H d (.str z)):d=.str z:=by
  cases d with
  | str y=>simp only [Dat] at h;injection h with h;rw [h]
  | none=>simp [Dat] at h
  | bool b=>simp [Dat] at h
  | int i=>simp [Dat] at h
  | list ds=>simp only [Dat] at h;obtain ⟨_,_,e,_⟩:=h;cases e
  | tuple ds=>simp only [Dat] at h;obtain ⟨_,_,e,_⟩:=h;cases e
  | dict ds=>simp only [Dat] at h;obtain ⟨_,_,e,_⟩:=h;cases e
theorem dtv {k:Int} {H0 H:Hp} {v u:V} (h:ym k H0 v u H):(u=.non∧∀ H1 f H',qQ k H1 v f H'→f=.str "NoText") ∨
    (decide (u=.non)=false∧∃ d,Dat H d u∧gdD d=true∧d.depth < 12∧∀ H1 f H',qQ k H1 v f H'→Dat H' d f):=by
  rcases h with ⟨l,rfl,ht,h⟩|⟨⟨d,hd,hn⟩,rfl⟩
  · have key:∀ {H1:Hp} {f:V} {H':Hp},qQ k H1 (.str (mkS l)) f H'→qR k l f H':=fun {H1 f H'} z=>by
      rcases z with ⟨l',e,_,z⟩|⟨⟨d,hd,hn⟩,_⟩
      · injection e with e
        rw [ff e];exact z
      · exact absurd (qM hd) (hn _)
    rcases tZ h with ⟨h1,h2⟩|⟨h1,d,h2,h3,h4,h5⟩
    · exact .inl ⟨h1,fun H1 f H' z=>h2 f H' (key z)⟩
    · exact .inr ⟨h1,d,h2,h3,h4,fun H1 f H' z=>h5 f H' (key z)⟩
  · refine .inl ⟨rfl,fun H1 f H' z=>?_⟩;rcases z with ⟨l',e,_,_⟩|⟨_,e⟩
    · rw [e] at hd;exact absurd (qM hd) (hn _)
    · exact e
section
variable {P:Program} {w:World} {K:aaa} {mg:Str→Option Value} {base:Heap} {f:Addr} {fd:FuncData}
def ThR (H:Hp) (v:V):Prop:=(∃ l,v=.str (mkS l)∧Asc l∧l.length≤900)∨∃ d,Dat H d v∧(∀ z,d≠.str z)∧d.showable=true∧d.depth≤60∧d.shown.length≤sizeLine
def jw:Sp:=fun vs H Q _=>∃ v,vs=[v]∧ThR H v∧∀ H',Same H H'→Q (.bl true) H'
abbrev e_:Stmt:=top 64
theorem cf:FnScope ["text","kept","kind","due","turn","found"] ["text"] (aq e_):=⟨rfl,rfl,rfl,by decide +kernel,rfl,by decide +kernel,by decide +kernel⟩
theorem kq (F:Fun K "_law_right" "_law_right" e_ f fd) (B:Bu K mg) (C__law_beyond:Cal P w K mg base "_law_beyond" 1 ["text"] sE) (C__law_due:Cal P w K mg base "_law_due" 205 ["kind","text"] sD) (C__law_told:Cal P w K mg base "_law_told" 14 ["kind","text"] oQ) (C__law_same:Cal P w K mg base "_law_same" 13 ["found","due"] (lL 12)):FnOk P w K mg base CX0 206 f fd ["text"] jw:=by
  refine F.ok cf (fun vs H Q E h=>?_) (fun cdv A outer s H vs Q E hr h=>?_)
  · obtain ⟨v,rfl,_⟩:=h;rfl
  obtain ⟨v,rfl,h,q⟩:=h;refine ⟨_,(@ad _ _ _ _ _ (@aV _ _ _ _ _ _ _ _ (@PW.pt _ _ _ (@cF _ _ _ _ _ _ _ (@bE _ _ _ (@ap _ _ _ _ _ _ _ _ _ (@a8 _ ("str")) rfl B.iisinstance aad (@aa _ _ _ _ _ (pv 0) (@aa _ _ _ _ _ (@bw _ _ (.ty "str") _ _ rfl B.istr abJ rfl (by decide) (by decide)) ac (by rfl)) (by rfl)) (by decide) (by decide) (by rfl) (by rfl)) (by intro _;rfl)) (@cy _ _ _ _ (@bE _ _ _ (@am _ _ _ _ _ _ _ _ _ _ _ C__law_beyond hr (by lia) rfl (@aa _ _ _ _ _ (pv 0) ac (by rfl)) (by decide) (by rfl) (by rfl)) (by intro _;rfl))))) (@ag _ _ _ (@ar _ _ _ _ dE)) aB) (@ad _ _ _ _ _ (@ao _ _ (1) _ _ _ _ (cf).nd rfl (Or.inl rfl) (@ap _ _ _ _ _ _ _ _ _ (@lA _ hr.gd hr.units) rfl B.irepr PyProof.Rows.boot_repr (@aa _ _ _ _ _ (pv 0) ac (by rfl)) (by decide) (by decide) (by rfl) (by rfl)) (by rfl) (by first|exact .inl rfl|exact .inr rfl|assumption)) (@ad _ _ _ _ _ (@cX _ _ _ _ _ _ _ _ aaT rfl (@cz _ _ _ _ _ _ rfl B.irange (@aa _ _ _ _ _ ae ac (by rfl)) (by rfl)) (@aG _ _ (2) _ (cf).nd rfl (Or.inl rfl) (.inl rfl)) (@ad _ _ _ _ _ (@ao _ _ (3) _ _ _ _ (cf).nd rfl (Or.inl rfl) (@am _ _ _ _ _ _ _ _ _ _ _ C__law_due hr (by lia) rfl (@aa _ _ _ _ _ (pv 2) (@aa _ _ _ _ _ (pv 0) ac (by rfl)) (by rfl)) (by decide) (by rfl) (by rfl)) (by rfl) (by first|exact .inl rfl|exact .inr rfl|assumption)) (@ag _ _ _ (@cX _ _ _ _ _ _ _ _ aaT rfl (@cz _ _ _ _ _ _ rfl B.irange (@aa _ _ _ _ _ ae ac (by rfl)) (by rfl)) (@aG _ _ (4) _ (cf).nd rfl (Or.inl rfl) (.inl rfl)) (@ad _ _ _ _ _ (@ao _ _ (5) _ _ _ _ (cf).nd rfl (Or.inl rfl) (@am _ _ _ _ _ _ _ _ _ _ _ C__law_told hr (by lia) rfl (@aa _ _ _ _ _ (pv 2) (@aa _ _ _ _ _ (pv 0) ac (by rfl)) (by rfl)) (by decide) (by rfl) (by rfl)) (by rfl) (by first|exact .inl rfl|exact .inr rfl|assumption)) (@ad _ _ _ _ _ (@aV _ _ _ _ _ _ _ _ (@PW.pt _ _ _ (@ck _ _ _ _ _ _ _ (@ai _ _ _ _ _ _ _ _ dX (@ap _ _ _ _ _ _ _ _ _ (@lA _ hr.gd hr.units) rfl B.irepr PyProof.Rows.boot_repr (@aa _ _ _ _ _ (pv 0) ac (by rfl)) (by decide) (by decide) (by rfl) (by rfl)) (pv 1) (ak _)) (@bS _ _ _ _ (@PW.pt _ _ _ (@cF _ _ _ _ _ _ _ (@ai _ _ _ _ _ _ _ _ dY (pv 3) aZ (ak _)) (@cy _ _ _ _ (@ai _ _ _ _ _ _ _ _ dX (pv 5) af (ak _)))))))) (@ag _ _ _ (@ar _ _ _ _ dE)) aB) (@ag _ _ _ (@aV _ _ _ _ _ _ _ _ (@PW.pt _ _ _ (@cF _ _ _ _ _ _ _ (@ai _ _ _ _ _ _ _ _ l9 (pv 3) aZ (ak _)) (@cy _ _ _ _ (@cO _ _ _ _ (@bE _ _ _ (@am _ _ _ _ _ _ _ _ _ _ _ C__law_same hr (by lia) rfl (@aa _ _ _ _ _ (pv 5) (@aa _ _ _ _ _ (pv 3) ac (by rfl)) (by rfl)) (by decide) (by rfl) (by rfl)) (by intro _;rfl)))))) (@ag _ _ _ (@ar _ _ _ _ dE)) aB)))) (by intro _;rfl)))) (by intro _;rfl)) (@ag _ _ _ (@ar _ _ _ _ dE))))),?_⟩;rcases h with ⟨l,rfl,ha,hl⟩|⟨d,hd,hn,z1,z2,z3⟩
  · refine ⟨_,rfl,_,_,true,rfl,.str _,rfl,true,rfl,aC ⟨_,rfl,l,rfl,ha,hl,fun b H1 s1 hb=>⟨b,rfl,?_⟩⟩⟩;cases b with
    | true=>exact aC (q H1 s1)
    | false =>
    obtain ⟨h400,h12⟩:=hb rfl;refine av ?_;have thd:∀ H',Same H H'→ThT H' (.str (mkS l)):=fun H' _=>.inl ⟨l,rfl,ha,h400,h12⟩;obtain ⟨d,hd',z1,z2,z3⟩:∃ d,(∀ H',Same H H'→Dat H' d (.str (mkS l)))∧d.showable=true∧d.depth≤60∧d.shown.length≤sizeLine:=by
      refine ⟨.str (mkS l),fun H' _=>by simp only [Dat],rfl,by simp [abT],?_⟩;have hr:=PySem.StrLaws.reprText_len (mkS l) (fun c hc=>by
        have : c < 128:=by
          unfold Asc at ha;rw [aa4] at ha;exact of_decide_eq_true (ha c (by simpa using hc))
        exact aaq this (by decide))
      rw [ah] at hr;show (reprText (mkS l)).length≤sizeLine;rw [sizeLine_eq];lia
    generalize V.str (mkS l)=v at hd' thd ⊢;refine ⟨_,rfl,_,_,rfl,hd' _ s1,z1,z2,z3,?_⟩;refine ⟨3,rfl,by decide,by decide,?_⟩;refine cR (n:=(3:Int).toNat) (fun i σ H'=>∃ c2 c3 c4 c5,σ=[some v,some (.str d.shown),c2,c3,c4,c5]∧Same H1 H') ⟨_,_,_,_,rfl,Same.refl _⟩ ?_ ?_
    · rintro i σ H' hi ⟨c2,c3,c4,c5,rfl,S⟩;have hi3:i < 3:=hi;have S':=s1.trans S;refine ⟨_,rfl,_,rfl,(0+(i:Int)),v,rfl,by lia,by lia,thd _ S',fun u H2 s2 hu=>?_⟩;have hdt:=dtv hu;refine ⟨2,rfl,by decide,by decide,?_⟩;refine cR (n:=(2:Int).toNat) (fun j σ H3=>∃ c4 c5,σ=[some v,some (.str d.shown),some (.int (0+(i:Int))),some u,c4,c5]∧Same H2 H3) ⟨_,_,rfl,Same.refl _⟩ ?_ ?_
      · rintro j σ H3 hj ⟨c4,c5,rfl,S3⟩;have S'':=S'.trans (s2.trans S3);refine ⟨_,rfl,_,rfl,(0+(i:Int)),v,rfl,by lia,by lia,thd _ S'',fun fo H4 s4 hf=>?_⟩;have S4:=S''.trans s4;have Sx:=S3.trans s4;refine ⟨_,rfl,_,_,rfl,hd' _ S4,z1,z2,z3,_,rfl,rfl,false,?_,?_⟩
        · show V.bl (!decide (V.str d.shown=V.str d.shown))=_;rw [decide_eq_true rfl];rfl
        rcases hdt with ⟨rfl,h1⟩|⟨h0,dd,h1,h2,h3,h4⟩
        · have ef:=h1 _ _ _ hf;subst ef;refine av ⟨_,rfl,rfl,true,rfl,aC ⟨_,rfl,rfl,false,?_,av ?_⟩⟩
          · show V.bl (!decide (V.str ("NoText":Str)=V.str ("NoText":Str)))=_;rw [decide_eq_true rfl];rfl
          exact ⟨_,rfl,rfl,false,rfl,av (av ⟨_,_,rfl,Sx⟩)⟩
        · have hff:=h4 _ _ _ hf;refine av ⟨_,rfl,rfl,false,congrArg V.bl h0,av (av ?_)⟩;refine ⟨_,rfl,rfl,true,by rw [h0];rfl,aC ⟨_,rfl,_,rfl,dd,fo,u,rfl,hff,Dat.mono Sx _ _ h1,h2,h3,fun H5 s5=>⟨true,rfl,av ⟨_,_,rfl,Sx.trans s5⟩⟩⟩⟩
      · rintro σ H3 ⟨c4,c5,rfl,S3⟩;exact ⟨_,_,_,_,rfl,S.trans (s2.trans S3)⟩
    · rintro σ H' ⟨c2,c3,c4,c5,rfl,S⟩;exact q H' (s1.trans S)
  · have hd':∀ H',Same H H'→Dat H' d v:=fun H' g=>Dat.mono g _ _ hd;have thd:∀ H',Same H H'→ThT H' v:=fun H' g=>.inr ⟨d,Dat.mono g _ _ hd,hn⟩;have s1:=Same.refl H;have ty:=hd.ty (K:=K);have kt:aaE K (.type (r_ d)) (.type "str")=some false:=by
      cases d with
      | str z=>exact absurd rfl (hn z)
      | _=>rfl
    refine ⟨_,rfl,_,_,false,rfl,ty,kt,false,rfl,av (av ?_)⟩;generalize hH1:H=H1 at s1 ⊢;rw [hH1] at hd' thd q;refine ⟨_,rfl,_,_,rfl,hd' _ s1,z1,z2,z3,?_⟩;refine ⟨3,rfl,by decide,by decide,?_⟩;refine cR (n:=(3:Int).toNat) (fun i σ H'=>∃ c2 c3 c4 c5,σ=[some v,some (.str d.shown),c2,c3,c4,c5]∧Same H1 H') ⟨_,_,_,_,rfl,Same.refl _⟩ ?_ ?_
    · rintro i σ H' hi ⟨c2,c3,c4,c5,rfl,S⟩;have hi3:i < 3:=hi;have S':=s1.trans S;refine ⟨_,rfl,_,rfl,(0+(i:Int)),v,rfl,by lia,by lia,thd _ S',fun u H2 s2 hu=>?_⟩;have hdt:=dtv hu;refine ⟨2,rfl,by decide,by decide,?_⟩;refine cR (n:=(2:Int).toNat) (fun j σ H3=>∃ c4 c5,σ=[some v,some (.str d.shown),some (.int (0+(i:Int))),some u,c4,c5]∧Same H2 H3) ⟨_,_,rfl,Same.refl _⟩ ?_ ?_
      · rintro j σ H3 hj ⟨c4,c5,rfl,S3⟩;have S'':=S'.trans (s2.trans S3);refine ⟨_,rfl,_,rfl,(0+(i:Int)),v,rfl,by lia,by lia,thd _ S'',fun fo H4 s4 hf=>?_⟩;have S4:=S''.trans s4;have Sx:=S3.trans s4;refine ⟨_,rfl,_,_,rfl,hd' _ S4,z1,z2,z3,_,rfl,rfl,false,?_,?_⟩
        · show V.bl (!decide (V.str d.shown=V.str d.shown))=_;rw [decide_eq_true rfl];rfl
        rcases hdt with ⟨rfl,h1⟩|⟨h0,dd,h1,h2,h3,h4⟩
        · have ef:=h1 _ _ _ hf;subst ef;refine av ⟨_,rfl,rfl,true,rfl,aC ⟨_,rfl,rfl,false,?_,av ?_⟩⟩
          · show V.bl (!decide (V.str ("NoText":Str)=V.str ("NoText":Str)))=_;rw [decide_eq_true rfl];rfl
          exact ⟨_,rfl,rfl,false,rfl,av (av ⟨_,_,rfl,Sx⟩)⟩
        · have hff:=h4 _ _ _ hf;refine av ⟨_,rfl,rfl,false,congrArg V.bl h0,av (av ?_)⟩;refine ⟨_,rfl,rfl,true,by rw [h0];rfl,aC ⟨_,rfl,_,rfl,dd,fo,u,rfl,hff,Dat.mono Sx _ _ h1,h2,h3,fun H5 s5=>⟨true,rfl,av ⟨_,_,rfl,Sx.trans s5⟩⟩⟩⟩
      · rintro σ H3 ⟨c4,c5,rfl,S3⟩;exact ⟨_,_,_,_,rfl,S.trans (s2.trans S3)⟩
    · rintro σ H' ⟨c2,c3,c4,c5,rfl,S⟩;exact q H' (s1.trans S)
end
open PySem L2
theorem ue (ns:List Int) (lo hi:Option Int):∃ ms:List Int,eR (ns.map V.int) lo hi=ms.map V.int∧ms.length≤ns.length:=by
  refine ⟨(ns.drop (HT.sIx ns.length 0 lo)).take (HT.sIx ns.length ns.length hi - HT.sIx ns.length 0 lo),?_,?_⟩
  · unfold eR;rw [aaf,abW,abV]
  · rw [aav,aay];lia
theorem But.same {H H1 H2:Hp} {wl:Addr} (s:Same H H1) (n:H wl=none) (b:But wl H1 H2):Same H H2:=fun c o h=>b c o (ba h n) (s c o h)
theorem yB:∀ n:Nat,n < 300→MulOk ("(":Str) (n:Int)∧acN ("(":Str) (n:Int)=mkS (abB n 40):=by
  intro n hn;refine ⟨⟨?_,fun h1 h2=>?_,fun h1 h2=>?_⟩,?_⟩
  · rw [decide_eq_false (by lia),decide_eq_false (by lia)];rfl
  · have e:(("(":Str).length:Int)=1:=rfl;rw [e];have : (1:Int)≤(2 ^ 63 - 1) / (n:Int):=by
      rw [Int.le_ediv_iff_mul_le (by lia)];lia
    lia
  · unfold ach;refine decide_eq_false ?_;have e:("(":Str).length=1:=rfl;rw [e,sizeLine_eq];lia
  · have go:∀ (n:Nat) (acc:Array Nat),(abB n (#[40]:Array Nat)).foldl (·++·) acc=acc++(abB n 40).toArray:=fun n=>by
      induction n with
      | zero=>intro acc;simp
      | succ n ih =>
        intro acc;rw [aci,abD,ih,aci];apply Array.ext';simp [aci]
    have ec:("(":Str).cps=#[40]:=by decide +kernel
    have el:("(":Str).length=1:=rfl;unfold acN;by_cases h0:n=0
    · subst h0;rw [if_pos (by decide)];rfl
    · rw [if_neg (by lia)];by_cases h1:n=1
      · subst h1;rw [if_pos (by decide)];exact dW
      · rw [if_neg (by
          rw [el];intro z;simp at z;lia),ec,acu,go]
        simp [mkS]
theorem vA (n:Nat):Asc (abB n 40):=by
  unfold Asc mkS;rw [aa4];intro x hx;have : x=40:=by simpa using (List.eq_of_mem_replicate (by simpa using hx):x=40)
  rw [this];rfl
theorem qP {p:Int × Int} (h:Gp p):Asc (stx p):=by
  obtain ⟨h1,h2,h3⟩:=h;exact bL (a:=[dig p.1]) (cL (by unfold dig;lia)) (bL (a:=[45]) (cL (by decide)) (cL (by unfold dig;lia)))
theorem xm {ps qs:List (Int × Int)} (h1:Gs ps) (h2:Gs qs):Asc (vn ps qs):=by
  refine iO fun x hx=>?_;rcases aau.mp hx with hx|hx
  · rcases aau.mp hx with hx|hx
    · obtain ⟨p,hp,rfl⟩:=ab5.mp hx;exact qP (h1.2 p hp)
    · rw [aaN.mp hx];exact cL (by decide)
  · obtain ⟨p,hp,rfl⟩:=ab5.mp hx;exact qP (h2.2 p hp)
def vE (xs:List V):Prop:=∀ x∈xs,∃ l,x=.str (mkS l)∧Asc l∧l.length≤900
def rS (n:Nat) (te:TE):Prop:=∀ (σ:St) (H:Hp) (Q:V→Hp→Prop),(∀ l,Asc l→l.length≤n→Q (.str (mkS l)) H)→te σ H Q
def uw (n:Nat) (t:TA):Prop:=∀ (σ:St) (H:Hp) (Q:List V→Hp→Prop),(∀ xs,vE xs→xs.length=n→Q xs H)→t σ H Q
theorem txc {z:Str} {n:Nat} (h:z.cps.all (· < 128)=true∧z.length≤n):rS n (tC (.str z)):=fun σ H Q q=>by
  obtain ⟨l,rfl,h1,h2⟩:=lit h;exact q l h1 h2
theorem txa {ta tb:TE} {m n k:Nat} (ha:rS m ta) (hb:rS n tb) (h:m+n≤k) (hk:k≤900):rS k (tOp (fun x y H Q=>∃ i j,x=.str i∧y=.str j∧i.length+j.length≤sizeLine∧Q (.str (i++j)) H) ta tb) :=
  fun σ H Q q=>ha σ H _ fun a a1 a2=>hb σ H _ fun b b1 b2=>⟨_,_,rfl,rfl,by rw [ah,ah];exact al (by lia),by rw [aU];exact q _ (bL a1 b1) (by simp;lia)⟩
theorem n0 (z:Array Nat):∀ (n:Nat) (acc:Array Nat),(∀ c∈(abB n z).foldl (·++·) acc,c∈acc∨c∈z)∧((abB n z).foldl (·++·) acc).size=acc.size+z.size * n
  | 0,acc=>⟨fun c hc=>.inl hc,by simp⟩
  | n+1,acc=>by
    obtain ⟨h1,h2⟩:=n0 z n (acc++z);rw [aci,abD];refine ⟨fun c hc=>?_,?_⟩
    · rcases h1 c hc with h|h
      · exact Array.mem_append.mp h
      · exact .inr h
    · rw [h2,Array.size_append,Nat.mul_add];lia
theorem txm {z:Str} {k n:Nat} (h:z.cps.all (· < 128)=true) (h0:0 < z.length) (h1:2≤k) (hk:z.length * k≤n) (hn:n≤900):rS n (tOp (fun x y H Q=>∃ z i,x=.str z∧y=.int i∧MulOk z i∧Q (.str (acN z i)) H) (tC (.str z)) (tC (.int (k:Int)))):=by
  intro σ H Q q;have hz:z.length≤900:=aa9 (Nat.le_mul_of_pos_right _ (by lia)) (aa9 hk hn);have hk9:k≤900:=aa9 (Nat.le_mul_of_pos_left _ h0) (aa9 hk hn);have em:acN z (k:Int)=⟨(abB k z.cps).foldl (·++·) #[]⟩:=by
    unfold acN;rw [if_neg (by lia),if_neg (by
      intro y;simp at y;lia),acu]
  obtain ⟨g1,g2⟩:=n0 z.cps k #[];obtain ⟨l,e,a1,a2⟩:=lit (z:=acN z (k:Int)) (n:=n) ⟨by
    rw [em,aa4];intro c hc;rcases g1 c hc with y|y
    · simp at y
    · rw [aa4] at h;exact h c y,by
    rw [em];show ((abB k z.cps).foldl (·++·) #[]).size≤n;rw [g2];have : z.cps.size=z.length:=rfl;rw [this];simpa using hk⟩
  refine ⟨z,_,rfl,rfl,⟨?_,fun h1 h2=>?_,fun h1 h2=>?_⟩,by rw [e];exact q l a1 a2⟩
  · rw [decide_eq_false (by lia),decide_eq_false (by lia)];rfl
  · have : (z.length:Int)≤(2 ^ 63 - 1) / (k:Int):=by
      rw [Int.le_ediv_iff_mul_le (by lia)];have : ((z.length * k:Nat):Int)≤900:=by lia
      rw [Int.natCast_mul] at this;lia
    lia
  · unfold ach;refine decide_eq_false ?_;rw [sizeLine_eq,acu];lia
theorem ie:uw 0 uI:=fun σ H Q q=>q [] (fun x hx=>nomatch hx) rfl
theorem az {ta:TE} {tr:TA} {n:Nat} (ha:rS 900 ta) (hr:uw n tr):uw (n+1) (ju ta tr):=fun σ H Q q=>ha σ H _ fun a a1 a2=>hr σ H _ fun xs h1 h2=>q _ (fun x hx=>by
  rcases aaj.mp hx with rfl|hx
  · exact ⟨a,rfl,a1,a2⟩
  · exact h1 x hx) (by rw [aao,h2])
theorem fx1 {t:TA} {n:Nat} (ht:uw n t) (hn:n≤900) {u:TS} {D:Ends} {σ:St} {H:Hp} (h:∀ p xs H',vE xs→xs.length=n→H' p=some (.lst xs)→Same H H'→u D (σ.set 9 (some (.ref p))) H'):uG (si (uJ t) (nY 9)) u D σ H :=
  ht σ H _ fun xs h1 h2=>⟨al (by lia),fun p np=>h p xs _ h1 h2 upd_same (Same.new np _)⟩
theorem fx2 {t:TA} {n m:Nat} (ht:uw n t) {u:TS} {D:Ends} {σ:St} {H:Hp} {p:Addr} {xs:List V} (hv:σ[9]?=some (some (.ref p))) (hp:H p=some (.lst xs)) (hx:vE xs) (hm:xs.length=m) (hn:m+n≤900)
    (h:∀ p xs H',vE xs→xs.length=m+n→H' p=some (.lst xs)→Same H H'→u D (σ.set 9 (some (.ref p))) H'):uG (si (tOp xO (vW 9) (uJ t)) (nY 9)) u D σ H:=by
  refine ⟨_,hv,ht σ H _ fun ys h1 h2=>⟨al (by lia),fun b nb=>⟨p,b,xs,ys,rfl,rfl,Same.new nb _ _ _ hp,upd_same,al (by lia),fun c nc=>h c (xs++ys) _ (fun x hx'=>?_) (by rw [aah];lia) upd_same ((Same.new nb _).trans (Same.new nc _))⟩⟩⟩;rcases aau.mp hx' with hx'|hx'
  · exact hx x hx'
  · exact h1 x hx'
def pT (d:PyData) (te:TE):Prop:=∀ (σ:St) (H:Hp) (Q:V→Hp→Prop),(∀ v H',Same H H'→Dat H' d v→Q v H')→te σ H Q
def uA (ds:List PyData) (t:TA):Prop:=∀ (σ:St) (H:Hp) (Q:List V→Hp→Prop),(∀ xs H',Same H H'→DatAll H' ds xs→Q xs H')→t σ H Q
theorem mI {v:V} {d:PyData} (h:∀ H,Dat H d v):pT d (tC v):=fun σ H Q q=>q v H (Same.refl _) (h H)
theorem iK:uA [] uI:=fun σ H Q q=>q [] H (Same.refl _) (by simp only [DatAll])
theorem fj {d:PyData} {ds:List PyData} {ta:TE} {tr:TA} (ha:pT d ta) (hr:uA ds tr):uA (d :: ds) (ju ta tr):=fun σ H Q q=>ha σ H _ fun v H1 s1 h1=>hr σ H1 _ fun xs H2 s2 h2=>q _ H2 (s1.trans s2) (by
  simp only [DatAll];exact ⟨_,_,rfl,Dat.mono s2 _ _ h1,h2⟩)
theorem mH {ds:List PyData} {t:TA} (h:uA ds t) (hn:ds.length≤900):pT (.list ds) (uJ t):=fun σ H Q q=>h σ H _ fun xs H1 s1 h1=>⟨al (by rw [← h1.len];lia),fun p np=>q _ _ (s1.trans (Same.new np _)) (by
  simp only [Dat];exact ⟨p,xs,rfl,upd_same,DatAll.mono (Same.new np _) _ _ h1⟩)⟩
theorem uc {ds:List PyData} {t:TA} (h:uA ds t) (hn:ds.length≤900):pT (.tuple ds) (xy t):=fun σ H Q q=>h σ H _ fun xs H1 s1 h1=>⟨al (by rw [← h1.len];lia),fun p np=>q _ _ (s1.trans (Same.new np _)) (by
  simp only [Dat];exact ⟨p,xs,rfl,upd_same,DatAll.mono (Same.new np _) _ _ h1⟩)⟩
theorem xg:pT (.dict []) sg:=fun σ H Q q=>fun p np=>q _ _ (Same.new np _) (by
  simp only [Dat];exact ⟨p,[],rfl,upd_same,by simp only [DatKv]⟩)
theorem thr {d:PyData} {H:Hp} {v:V} (h:Dat H d v) (h1:∀ z,d≠.str z) (h2:d.showable=true) (h3:d.depth≤60) (h4:d.shown.length≤900):ThR H v:=.inr ⟨d,h,h1,h2,h3,al (by lia)⟩
theorem ThR.mono {H H':Hp} {v:V} (h:ThR H v) (s:Same H H'):ThR H' v:=by
  rcases h with h|⟨d,h,r⟩
  · exact .inl h
  · exact .inr ⟨d,Dat.mono s _ _ h,r⟩
def xp (n:Nat) (t:TA):Prop:=∀ (σ:St) (H:Hp) (Q:List V→Hp→Prop),(∀ xs H',Same H H'→(∀ x∈xs,ThR H' x)→xs.length=n→Q xs H')→t σ H Q
theorem wL:xp 0 uI:=fun σ H Q q=>q [] H (Same.refl _) (fun x hx=>nomatch hx) rfl
theorem dk {d:PyData} {ta:TE} {tr:TA} {n:Nat} (ha:pT d ta) (h1:∀ z,d≠.str z) (h2:d.showable=true) (h3:d.depth≤60) (h4:d.shown.length≤900) (hr:xp n tr):xp (n+1) (ju ta tr):=fun σ H Q q=>ha σ H _ fun v H1 s1 hv=>hr σ H1 _ fun xs H2 s2 g2 l2=>q _ H2 (s1.trans s2) (fun x hx=>by
  rcases aaj.mp hx with rfl|hx
  · exact (thr hv h1 h2 h3 h4).mono s2
  · exact g2 x hx) (by rw [aao,l2])
theorem xf:pT (.int (10 ^ 39)) (tOp (rI yo fun i j=>V.int (i ^ j.toNat)) (tC (.int 10)) (tC (.int 39))):=fun σ H Q q=>⟨10,39,rfl,rfl,⟨by decide,by decide,by decide⟩,q _ H (Same.refl _) (by simp only [Dat];rfl)⟩
section
variable {P:Program} {w:World} {K:aaa} {mg:Str→Option Value} {base:Heap} {f:Addr} {fd:FuncData}
def qe (K:aaa):Sp:=fun vs H Q _=>∃ (a:Addr) (ns:List Int),vs=[.ref a]∧SqL K H a (ns.map V.int)∧ns.length≤63∧∀ H',Q (.bl true) H'
abbrev gZ:Stmt:=top 65
theorem cD:FnScope ["script","cell","well","row","way","holds","text","turn","once","fixed"] ["script"] (aq gZ):=⟨rfl,rfl,rfl,by decide +kernel,rfl,by decide +kernel,by decide +kernel⟩
theorem wK (F:Fun K "law" "law" gZ f fd) (B:Bu K mg) (C__law_well:Cal P w K mg base "_law_well" 1 ["cell"] oO) (C__law_draw:Cal P w K mg base "_law_draw" 2 ["well","many"] eW) (C__law_row:Cal P w K mg base "_law_row" 3 ["well","many"] sy)
    (C__law_any_way:Cal P w K mg base "_law_any_way" 11 ["well","row"] (qg 9)) (C__law_written:Cal P w K mg base "_law_written" 11 ["way"] (lJ 9)) (C__law_holds:Cal P w K mg base "_law_holds" 4 ["well","many"] lN) (C__law_holds_written:Cal P w K mg base "_law_holds_written" 1 ["holds"] wk) (C__law_figures:Cal P w K mg base "_law_figures" 1 ["number"] oP)
    (C__law_spoilt:Cal P w K mg base "_law_spoilt" 4 ["well","text"] lK) (C__law_right:Cal P w K mg base "_law_right" 206 ["text"] jw):FnOk P w K mg base CX0 207 f fd ["script"] (qe K):=by
  refine F.ok cD (fun vs H Q E h=>?_) (fun cdv A outer s H vs Q E hr h=>?_)
  · obtain ⟨a,ns,rfl,_⟩:=h;rfl
  obtain ⟨a,ns,rfl,hS,h63,q⟩:=h;refine ⟨_,(@ad _ _ _ _ _ (@cX _ _ _ _ _ _ _ _ aaT rfl (@cY _ _ _ _ (@aj _ _ _ _ _ _ _ _ cG (@a9 _ _ _ _ (@aa _ _ _ _ _ ae (@aa _ _ _ _ _ ae ac (by rfl)) (by rfl))) (@aX _ _ _ _ _ _ _ _ _ _ dj (pv 0) bi (@aY _ _ _ ae)))) (@aG _ _ (1) _ (cD).nd rfl (Or.inl rfl) (.inl rfl)) (@ad _ _ _ _ _ (@ao _ _ (2) _ _ _ _ (cD).nd rfl (Or.inl rfl) (@am _ _ _ _ _ _ _ _ _ _ _ C__law_well hr (by lia) rfl (@aa _ _ _ _ _ (pv 1) ac (by rfl)) (by decide) (by rfl) (by rfl)) (by rfl) (by first|exact .inl rfl|exact .inr rfl|assumption)) (@ad _ _ _ _ _ (@ao _ _ (3) _ _ _ _ (cD).nd rfl (Or.inl rfl) (@am _ _ _ _ _ _ _ _ _ _ _ C__law_row hr (by lia) rfl (@aa _ _ _ _ _ (pv 2) (@aa _ _ _ _ _ (@aj _ _ _ _ _ _ _ _ bt ae (@am _ _ _ _ _ _ _ _ _ _ _ C__law_draw hr (by lia) rfl (@aa _ _ _ _ _ (pv 2) (@aa _ _ _ _ _ ae ac (by rfl)) (by rfl)) (by decide) (by rfl) (by rfl))) ac (by rfl)) (by rfl)) (by decide) (by rfl) (by rfl)) (by rfl) (by first|exact .inl rfl|exact .inr rfl|assumption)) (@ad _ _ _ _ _ (@ao _ _ (4) _ _ _ _ (cD).nd rfl (Or.inl rfl) (@am _ _ _ _ _ _ _ _ _ _ _ C__law_written hr (by lia) rfl (@aa _ _ _ _ _ (@am _ _ _ _ _ _ _ _ _ _ _ C__law_any_way hr (by lia) rfl (@aa _ _ _ _ _ (pv 2) (@aa _ _ _ _ _ (pv 3) ac (by rfl)) (by rfl)) (by decide) (by rfl) (by rfl)) ac (by rfl)) (by decide) (by rfl) (by rfl)) (by rfl) (by first|exact .inl rfl|exact .inr rfl|assumption)) (@ad _ _ _ _ _ (@ao _ _ (5) _ _ _ _ (cD).nd rfl (Or.inl rfl) (@am _ _ _ _ _ _ _ _ _ _ _ C__law_holds_written hr (by lia) rfl (@aa _ _ _ _ _ (@am _ _ _ _ _ _ _ _ _ _ _ C__law_holds hr (by lia) rfl (@aa _ _ _ _ _ (pv 2) (@aa _ _ _ _ _ ae ac (by rfl)) (by rfl)) (by decide) (by rfl) (by rfl)) ac (by rfl)) (by decide) (by rfl) (by rfl)) (by rfl) (by first|exact .inl rfl|exact .inr rfl|assumption)) (@ag _ _ _ (@cX _ _ _ _ _ _ _ _ aaT rfl (@cY _ _ _ _ (@a9 _ _ _ _ (@aa _ _ _ _ _ (@bV _ _ _ _ _ _ _ _ _ _ _ _ aaO ab8 ab9 fQ af (@aa _ _ _ _ _ (@gm _ _ _ _ _ _ _ _ (["number"]) ([none]) _ _ _ _ rfl (@cY _ _ _ _ (pv 3)) rfl trivial trivial (fun _ _ _ _=>⟨(@aG _ _ (0) _ (show aa8 (["number"]:List Str) by decide +kernel) rfl (Or.inl rfl) (.inr rfl)),bB,(@am _ _ _ _ _ _ _ _ _ _ _ C__law_figures hr (by lia) rfl (@aa _ _ _ _ _ (pv 0) ac (by rfl)) (by decide) (by rfl) (by rfl))⟩) (by rfl) (by rfl) (by rfl) (by rfl) (by intro _;rfl)) ac (by rfl)) (by rfl) (by rfl) (by rfl) (by rfl) (by rfl)) (@aa _ _ _ _ _ (pv 4) (@aa _ _ _ _ _ (pv 4) (@aa _ _ _ _ _ (pv 5) ac (by rfl)) (by rfl)) (by rfl)) (by rfl)))) (@aG _ _ (6) _ (cD).nd rfl (Or.inl rfl) (.inl rfl)) (@ag _ _ _ (@cX _ _ _ _ _ _ _ _ aaT rfl (@cz _ _ _ _ _ _ rfl B.irange (@aa _ _ _ _ _ ae ac (by rfl)) (by rfl)) (@aG _ _ (7) _ (cD).nd rfl (Or.inl rfl) (.inl rfl)) (@ad _ _ _ _ _ (@ao _ _ (8) _ _ _ _ (cD).nd rfl (Or.inl rfl) (@am _ _ _ _ _ _ _ _ _ _ _ C__law_spoilt hr (by lia) rfl (@aa _ _ _ _ _ (pv 2) (@aa _ _ _ _ _ (pv 6) ac (by rfl)) (by rfl)) (by decide) (by rfl) (by rfl)) (by rfl) (by first|exact .inl rfl|exact .inr rfl|assumption)) (@ad _ _ _ _ _ (@aV _ _ _ _ _ _ _ _ (@PW.pt _ _ _ (@ck _ _ _ _ _ _ _ (@cO _ _ _ _ (@bE _ _ _ (@am _ _ _ _ _ _ _ _ _ _ _ C__law_right hr (by lia) rfl (@aa _ _ _ _ _ (pv 6) ac (by rfl)) (by decide) (by rfl) (by rfl)) (by intro _;rfl))) (@ck _ _ _ _ _ _ _ (@cO _ _ _ _ (@bE _ _ _ (@am _ _ _ _ _ _ _ _ _ _ _ C__law_right hr (by lia) rfl (@aa _ _ _ _ _ (pv 8) ac (by rfl)) (by decide) (by rfl) (by rfl)) (by intro _;rfl))) (@bS _ _ _ _ (@cO _ _ _ _ (@bE _ _ _ (@am _ _ _ _ _ _ _ _ _ _ _ C__law_right hr (by lia) rfl (@aa _ _ _ _ _ (@am _ _ _ _ _ _ _ _ _ _ _ C__law_spoilt hr (by lia) rfl (@aa _ _ _ _ _ (pv 2) (@aa _ _ _ _ _ (pv 8) ac (by rfl)) (by rfl)) (by decide) (by rfl) (by rfl)) ac (by rfl)) (by decide) (by rfl) (by rfl)) (by intro _;rfl))))))) (@ag _ _ _ (@ar _ _ _ _ dE)) aB) (@ag _ _ _ (@aV _ _ _ _ _ _ _ _ (@cO _ _ _ _ (@bE _ _ _ (@am _ _ _ _ _ _ _ _ _ _ _ C__law_right hr (by lia) rfl (@aa _ _ _ _ _ (@aX _ _ _ _ _ _ _ _ _ _ bQ (@aj _ _ _ _ _ _ _ _ au (@aj _ _ _ _ _ _ _ _ a_ af (@am _ _ _ _ _ _ _ _ _ _ _ C__law_draw hr (by lia) rfl (@aa _ _ _ _ _ (pv 2) (@aa _ _ _ _ _ ae ac (by rfl)) (by rfl)) (by decide) (by rfl) (by rfl))) (pv 8)) bi (@aY _ _ _ ae)) ac (by rfl)) (by decide) (by rfl) (by rfl)) (by intro _;rfl))) (@ag _ _ _ (@ar _ _ _ _ dE)) aB)))) (by intro _;rfl))) (by intro _;rfl))))))) (by intro _;rfl)) (@ad _ _ _ _ _ (@ao _ _ (9) _ _ _ _ (cD).nd rfl (Or.inl rfl) (@a9 _ _ _ _ (@aa _ _ _ _ _ af (@aa _ _ _ _ _ af (@aa _ _ _ _ _ af (@aa _ _ _ _ _ af (@aa _ _ _ _ _ af (@aa _ _ _ _ _ af (@aa _ _ _ _ _ af (@aa _ _ _ _ _ af (@aa _ _ _ _ _ af (@aa _ _ _ _ _ af (@aa _ _ _ _ _ af (@aa _ _ _ _ _ af (@aa _ _ _ _ _ af (@aa _ _ _ _ _ af (@aa _ _ _ _ _ af (@aa _ _ _ _ _ af (@aa _ _ _ _ _ af ac (by rfl)) (by rfl)) (by rfl)) (by rfl)) (by rfl)) (by rfl)) (by rfl)) (by rfl)) (by rfl)) (by rfl)) (by rfl)) (by rfl)) (by rfl)) (by rfl)) (by rfl)) (by rfl)) (by rfl))) (by rfl) (by first|exact .inl rfl|exact .inr rfl|assumption)) (@ad _ _ _ _ _ (@ao _ _ (9) _ _ _ _ (cD).nd rfl (Or.inl rfl) (@aj _ _ _ _ _ _ _ _ cG (pv 9) (@a9 _ _ _ _ (@aa _ _ _ _ _ af (@aa _ _ _ _ _ af (@aa _ _ _ _ _ af (@aa _ _ _ _ _ af (@aa _ _ _ _ _ af (@aa _ _ _ _ _ af (@aa _ _ _ _ _ af (@aa _ _ _ _ _ af (@aa _ _ _ _ _ af (@aa _ _ _ _ _ af ac (by rfl)) (by rfl)) (by rfl)) (by rfl)) (by rfl)) (by rfl)) (by rfl)) (by rfl)) (by rfl)) (by rfl)))) (by rfl) (by first|exact .inl rfl|exact .inr rfl|assumption)) (@ad _ _ _ _ _ (@ao _ _ (9) _ _ _ _ (cD).nd rfl (Or.inl rfl) (@aj _ _ _ _ _ _ _ _ cG (pv 9) (@a9 _ _ _ _ (@aa _ _ _ _ _ af (@aa _ _ _ _ _ af (@aa _ _ _ _ _ af (@aa _ _ _ _ _ af (@aa _ _ _ _ _ af (@aa _ _ _ _ _ af (@aa _ _ _ _ _ af (@aa _ _ _ _ _ af (@aa _ _ _ _ _ af (@aa _ _ _ _ _ af (@aa _ _ _ _ _ af (@aa _ _ _ _ _ af ac (by rfl)) (by rfl)) (by rfl)) (by rfl)) (by rfl)) (by rfl)) (by rfl)) (by rfl)) (by rfl)) (by rfl)) (by rfl)) (by rfl)))) (by rfl) (by first|exact .inl rfl|exact .inr rfl|assumption)) (@ad _ _ _ _ _ (@ao _ _ (9) _ _ _ _ (cD).nd rfl (Or.inl rfl) (@aj _ _ _ _ _ _ _ _ cG (pv 9) (@a9 _ _ _ _ (@aa _ _ _ _ _ af (@aa _ _ _ _ _ (@aj _ _ _ _ _ _ _ _ au (@aj _ _ _ _ _ _ _ _ a_ af ae) af) (@aa _ _ _ _ _ (@aj _ _ _ _ _ _ _ _ au (@aj _ _ _ _ _ _ _ _ a_ af ae) af) (@aa _ _ _ _ _ (@aj _ _ _ _ _ _ _ _ au (@aj _ _ _ _ _ _ _ _ a_ af ae) af) (@aa _ _ _ _ _ (@aj _ _ _ _ _ _ _ _ au (@aj _ _ _ _ _ _ _ _ a_ af ae) af) (@aa _ _ _ _ _ (@aj _ _ _ _ _ _ _ _ au (@aj _ _ _ _ _ _ _ _ a_ af ae) af) ac (by rfl)) (by rfl)) (by rfl)) (by rfl)) (by rfl)) (by rfl)))) (by rfl) (by first|exact .inl rfl|exact .inr rfl|assumption)) (@ad _ _ _ _ _ (@ao _ _ (9) _ _ _ _ (cD).nd rfl (Or.inl rfl) (@aj _ _ _ _ _ _ _ _ cG (pv 9) (@a9 _ _ _ _ (@aa _ _ _ _ _ (@aj _ _ _ _ _ _ _ _ au (@aj _ _ _ _ _ _ _ _ a_ af ae) af) (@aa _ _ _ _ _ (@aj _ _ _ _ _ _ _ _ a_ af ae) (@aa _ _ _ _ _ (@aj _ _ _ _ _ _ _ _ a_ af ae) (@aa _ _ _ _ _ (@aj _ _ _ _ _ _ _ _ au (@aj _ _ _ _ _ _ _ _ au (@aj _ _ _ _ _ _ _ _ a_ af ae) af) (@aj _ _ _ _ _ _ _ _ a_ af ae)) (@aa _ _ _ _ _ (@aj _ _ _ _ _ _ _ _ au (@aj _ _ _ _ _ _ _ _ au (@aj _ _ _ _ _ _ _ _ a_ af ae) af) (@aj _ _ _ _ _ _ _ _ a_ af ae)) ac (by rfl)) (by rfl)) (by rfl)) (by rfl)) (by rfl)))) (by rfl) (by first|exact .inl rfl|exact .inr rfl|assumption)) (@ad _ _ _ _ _ (@ao _ _ (9) _ _ _ _ (cD).nd rfl (Or.inl rfl) (@aj _ _ _ _ _ _ _ _ cG (pv 9) (@a9 _ _ _ _ (@aa _ _ _ _ _ (@aj _ _ _ _ _ _ _ _ au (@aj _ _ _ _ _ _ _ _ au (@aj _ _ _ _ _ _ _ _ a_ af ae) af) (@aj _ _ _ _ _ _ _ _ a_ af ae)) (@aa _ _ _ _ _ (@aj _ _ _ _ _ _ _ _ au (@aj _ _ _ _ _ _ _ _ au (@aj _ _ _ _ _ _ _ _ a_ af ae) af) (@aj _ _ _ _ _ _ _ _ a_ af ae)) (@aa _ _ _ _ _ (@aj _ _ _ _ _ _ _ _ au (@aj _ _ _ _ _ _ _ _ a_ af ae) af) ac (by rfl)) (by rfl)) (by rfl)))) (by rfl) (by first|exact .inl rfl|exact .inr rfl|assumption)) (@ad _ _ _ _ _ (@cX _ _ _ _ _ _ _ _ aaT rfl (@cY _ _ _ _ (@aj _ _ _ _ _ _ _ _ cG (pv 9) (@a9 _ _ _ _ (@aa _ _ _ _ _ aZ (@aa _ _ _ _ _ ae (@aa _ _ _ _ _ dE (@aa _ _ _ _ _ (@a9 _ _ _ _ ac) (@aa _ _ _ _ _ (@a9 _ _ _ _ (@aa _ _ _ _ _ af ac (by rfl))) (@aa _ _ _ _ _ (@bT _ _ _ _ _ (@aa _ _ _ _ _ ae ac (by rfl))) (@aa _ _ _ _ _ sN (@aa _ _ _ _ _ (@aj _ _ _ _ _ _ _ _ eF ae ae) (@aa _ _ _ _ _ (@a9 _ _ _ _ (@aa _ _ _ _ _ (@a9 _ _ _ _ (@aa _ _ _ _ _ ae ac (by rfl))) ac (by rfl))) (@aa _ _ _ _ _ (@bT _ _ _ _ _ (@aa _ _ _ _ _ af (@aa _ _ _ _ _ ae (@aa _ _ _ _ _ ae ac (by rfl)) (by rfl)) (by rfl))) ac (by rfl)) (by rfl)) (by rfl)) (by rfl)) (by rfl)) (by rfl)) (by rfl)) (by rfl)) (by rfl)) (by rfl))))) (@aG _ _ (6) _ (cD).nd rfl (Or.inl rfl) (.inl rfl)) (@ag _ _ _ (@aV _ _ _ _ _ _ _ _ (@cO _ _ _ _ (@bE _ _ _ (@am _ _ _ _ _ _ _ _ _ _ _ C__law_right hr (by lia) rfl (@aa _ _ _ _ _ (pv 6) ac (by rfl)) (by decide) (by rfl) (by rfl)) (by intro _;rfl))) (@ag _ _ _ (@ar _ _ _ _ dE)) aB)) (by intro _;rfl)) (@ag _ _ _ (@ar _ _ _ _ dE)))))))))),?_⟩;refine ⟨(by show 2≤sizeLine;decide),fun p1 n1=>?_⟩;have g1:=Same.new n1 (.lst [.int 0,.int 5]);refine ⟨_,rfl,8,rfl,a,_,rfl,g1.seq hS,fun p2 n2=>?_⟩;obtain ⟨ms,em,hm⟩:=ue ns none (some 8);rw [em];have g2:=Same.new n2 (.lst (ms.map V.int));refine ⟨p1,p2,_,_,rfl,rfl,g2 _ _ upd_same,upd_same,al (by rw [aaf];show 2+ms.length≤1000;lia),fun p3 n3=>?_⟩;have e3:upd (upd (upd H p1 (.lst [.int 0,.int 5])) p2 (.lst (ms.map V.int))) p3 (.lst ([.int 0,.int 5]++ms.map V.int)) p3=_:=upd_same;have el:[V.int 0,V.int 5]++ms.map V.int=(0 :: 5 :: ms).map V.int:=rfl;rw [el] at e3 ⊢;revert e3;generalize upd (upd (upd H p1 (.lst [.int 0,.int 5])) p2 (.lst (ms.map V.int))) p3 (.lst ((0 :: 5 :: ms).map V.int))=H3;intro e3;refine ⟨p3,rfl,⟨_,SqL.of e3⟩,jX (xs:=(0 :: 5 :: ms).map V.int) (fun i σ H'=>∃ c1 c2 c3 c4 c5 c6 c7 c8 c9,σ=[some (.ref a),c1,c2,c3,c4,c5,c6,c7,c8,c9]∧Same H3 H') ⟨_,_,_,_,_,_,_,_,_,rfl,Same.refl _⟩ ?_ ?_ ?_⟩
  · rintro i σ H' _ ⟨_,_,_,_,_,_,_,_,_,rfl,S⟩;exact SqL.of (S _ _ e3)
  · rintro i x σ H' hx ⟨c1,c2,c3,c4,c5,c6,c7,c8,c9,rfl,S⟩;rw [aar] at hx;obtain ⟨c,_,rfl⟩:=aaF.mp hx;refine ⟨_,rfl,c,rfl,fun wl H4 g4 nw w4=>?_⟩;have nwl:H3 wl=none:=S.free nw;refine ⟨_,rfl,_,rfl,wl,9,0,rfl,by decide,by decide,w4,by decide,fun r1 H5 a1 b1 k5 w5=>⟨_,_,rfl,rfl,wl,1+r1,0,rfl,by lia,by lia,w5,by decide,fun pr rs H6 k6 w6 nr er hlen hsm=>?_⟩⟩;have nrw:pr≠wl:=w5.ne nr;refine ⟨_,rfl,_,rfl,wl,pr,rs,0,rfl,er,nrw,by lia,by lia,by lia,w6,by lia,fun v wy H7 iw en k7 w7=>?_⟩;have sz:wy.size≤9:=by rw [← wy.nums_len,en];lia
    have dl:=wy.deep_le;have sm:b_ wy.nums:=by rw [en];exact hsm
    refine ⟨wy,v,rfl,iw,sz,by lia,sm,fun H8 s8=>?_⟩;have er8:=s8 _ _ (k7 _ _ nrw er);have w8:=w7.keep s8 (aaG _);refine ⟨_,rfl,wl,0,rfl,w8,by decide,fun ps qs vh H9 k9 w9 gp gq hh=>⟨ps,qs,vh,rfl,hh.mono off_le,gp,gq,fun H10 s10=>?_⟩⟩;have er10:=s10 _ _ (k9 _ _ nrw er8);have w10:=w9.keep s10 (aaG _);have S10:=But.same (S.trans g4) nwl (((((k5.trans k6).trans k7).trans (But.of s8)).trans k9).trans (But.of s10));refine ⟨rfl,_,rfl,pr,rfl,⟨_,SqL.of er10⟩,?_⟩;have hn9:rs.length≤9:=by lia
    refine d5 (Trn.list (xs:=rs.map V.int)) (fun i ys H'=>Same H10 H'∧ys=(rs.take i).map wnV) ⟨Same.refl _,rfl⟩ (fun i ys H' hi p=>by rw [p.2];exact ⟨SqL.of (p.1 _ _ er10),aQ (by simp;lia)⟩) (fun i x ys H1 H' hi hx p Nx nx=>?_) (fun ys H11 p p5 n5=>?_)
    · obtain ⟨S,rfl⟩:=p;obtain ⟨rfl,hx⟩:=hx;rw [aar] at hx;obtain ⟨z,hz,rfl⟩:=aaF.mp hx;refine ⟨_,rfl,z,rfl,hsm z (aaM hz),fun H2 s2=>nx _ _ ⟨S.trans s2,?_⟩⟩;rw [aaz,hz,aaP];rfl
    obtain ⟨S11,rfl⟩:=p;rw [aaf,aaL];have hsz:=v6 rs hsm;have hjl:=iF (rs.map wn);have s5:=Same.new n5 (.lst (rs.map wnV));have ew:upd H11 p5 (.lst (rs.map wnV)) p5=some (.lst (((rs.map wn).map mkS).map V.str)):=by rw [upd_same,uB]
    have S12:=S10.trans (S11.trans s5);have w12:=(w10.keep S11 (aaG _)).keep s5 (aaG _);generalize upd H11 p5 (.lst (rs.map wnV))=H12 at ew S12 w12 ⊢;refine ⟨_,p5,(rs.map wn).map mkS,rfl,rfl,SqL.of ew,by rw [bD];exact dZ _ (by lia),?_⟩;rw [bD,gb];refine ⟨_,rfl,_,rfl,_,rfl,(by show 4≤sizeLine;decide),fun pt nt=>?_⟩;obtain ⟨xs,hxs⟩:∃ xs,[V.str (mkS (jl (rs.map wn))),.str (mkS wy.tx),.str (mkS wy.tx),.str (mkS (vn ps qs))]=xs:=⟨_,rfl⟩
    have hall:∀ x∈xs,∃ l,x=.str (mkS l)∧Asc l∧l.length≤420:=by
      rw [← hxs];intro x hx;simp only [aaj,abz,or_false] at hx;have htx:=fu wy sm;have hhd:(vn ps qs).length≤400:=aa9 (iF _) (p_ ps qs gp.1 gq.1);rcases hx with rfl|rfl|rfl|rfl
      · exact ⟨_,rfl,iO fun x hx=>by obtain ⟨i,_,rfl⟩:=ab5.mp hx;exact vS i,by lia⟩
      · exact ⟨_,rfl,se wy,by lia⟩
      · exact ⟨_,rfl,se wy,by lia⟩
      · exact ⟨_,rfl,xm gp gq,by lia⟩
    rw [hxs];have st:=Same.new nt (.lst xs);have et:upd H12 pt (.lst xs) pt=some (.lst xs):=upd_same;have ntw:=w12.ne nt;have S13:=S12.trans st;have w13:=w12.keep st (aaG _);generalize upd H12 pt (.lst xs)=H13 at st et S13 w13 ⊢;clear hxs;refine ⟨pt,rfl,⟨_,SqL.of et⟩,jX (xs:=xs) (fun i σ H'=>∃ c5 c6 c7 c8 c9,σ=[some (.ref a),some (.int c),some (.ref wl),some (.ref pr),some (.str (mkS wy.tx)),c5,c6,c7,c8,c9]∧But wl H13 H'∧Wel H' wl 0) ⟨_,_,_,_,_,rfl,But.refl,w13⟩ ?_ ?_ ?_⟩
    · rintro i σ H' _ ⟨_,_,_,_,_,rfl,B,_⟩;exact SqL.of (B _ _ ntw et)
    · rintro i x σ H14 hx ⟨c5,c6,c7,c8,c9,rfl,B14,w14⟩;obtain ⟨lt,rfl,alt,llt⟩:=hall x (aaM hx);refine ⟨3,rfl,by decide,by decide,cR (n:=(3:Int).toNat) (fun j σ H'=>∃ c7 c8,σ=[some (.ref a),some (.int c),some (.ref wl),some (.ref pr),some (.str (mkS wy.tx)),c5,some (.str (mkS lt)),c7,c8,c9]∧But wl H13 H'∧Wel H' wl 0) ⟨_,_,rfl,B14,w14⟩ ?_ ?_⟩
      · rintro j σ H15 hj ⟨c7,c8,rfl,B15,w15⟩;refine ⟨_,rfl,_,rfl,wl,0,lt,rfl,w15,by decide,alt,by lia,fun l1 H16 z1 z2 k16 w16=>?_⟩;refine ⟨_,rfl,_,rfl,.inl ⟨lt,rfl,alt,by lia⟩,fun H17 s17=>⟨true,rfl,av ⟨_,rfl,_,rfl,.inl ⟨l1,rfl,z1,by lia⟩,fun H18 s18=>⟨true,rfl,av ?_⟩⟩⟩⟩;have w16':Wel H16 wl 0:=w16;have w18:Wel H18 wl 0:=(w16'.keep s17 (aaG _)).keep s18 (aaG _);refine ⟨_,rfl,_,rfl,wl,0,l1,rfl,w18,by decide,z1,by lia,fun l2 H19 y1 y2 k19 w19=>⟨_,rfl,.inl ⟨l2,rfl,y1,by lia⟩,fun H20 s20=>⟨true,rfl,av ?_⟩⟩⟩;have w19':Wel H19 wl 0:=w19;have w20:Wel H20 wl 0:=w19'.keep s20 (aaG _);refine ⟨_,rfl,wl,300,0,rfl,by decide,by decide,w20,by decide,fun r H21 r0 r1' k21 w21=>?_⟩;obtain ⟨n,rfl⟩:∃ n:Nat,r=(n:Int):=⟨r.toNat,by lia⟩
        obtain ⟨m1,m2⟩:=yB n (by lia);refine ⟨_,_,rfl,rfl,m1,_,rfl,_,_,rfl,rfl,?_,400,rfl,_,rfl,?_,?_⟩
        · rw [m2,ah,ah,List.length_replicate];exact al (by lia)
        · rw [m2,aU,show (400:Int)=((400:Nat):Int) from rfl,gP,ah,aav];exact al (by lia)
        rw [m2,aU,show (400:Int)=((400:Nat):Int) from rfl,gP];refine ⟨_,rfl,.inl ⟨_,rfl,c_ (bL (vA n) z1) fun x hx=>abo hx,by rw [aav];lia⟩,fun H22 s22=>⟨true,rfl,av ?_⟩⟩;exact ⟨_,_,rfl,((((B15.trans k16).trans (But.of (s17.trans s18))).trans (k19.trans (But.of s20))).trans k21).trans (But.of s22),(show Wel H21 wl 0 from w21).keep s22 (aaG _)⟩
      · rintro σ H15 ⟨c7,c8,rfl,B15,w15⟩;exact ⟨_,_,_,_,_,rfl,B15,w15⟩
    · rintro σ H14 ⟨c5,c6,c7,c8,c9,rfl,B14,w14⟩;exact ⟨_,_,_,_,_,_,_,_,_,rfl,But.same S13 nwl B14⟩
  · rintro σ H4 ⟨c1,c2,c3,c4,c5,c6,c7,c8,c9,rfl,S⟩;refine fx1 (az (txc (z:="") (n:=900) (by decide +kernel)) <| az (txc (z:=" ") (n:=900) (by decide +kernel)) <| az (txc (z:="~") (n:=900) (by decide +kernel)) <| az (txc (z:="~0") (n:=900) (by decide +kernel)) <| az (txc (z:="0") (n:=900) (by decide +kernel)) <| az (txc (z:="00") (n:=900) (by decide +kernel)) <| az (txc (z:="1 ") (n:=900) (by decide +kernel)) <| az (txc (z:="(1)") (n:=900) (by decide +kernel)) <| az (txc (z:="()") (n:=900) (by decide +kernel)) <| az (txc (z:="(") (n:=900) (by decide +kernel)) <| az (txc (z:=")") (n:=900) (by decide +kernel)) <| az (txc (z:="1+") (n:=900) (by decide +kernel)) <| az (txc (z:="+1") (n:=900) (by decide +kernel)) <| az (txc (z:="1++2") (n:=900) (by decide +kernel)) <| az (txc (z:="1+-2") (n:=900) (by decide +kernel)) <| az (txc (z:="1-~2") (n:=900) (by decide +kernel)) <| az (txc (z:="(1+2)+3") (n:=900) (by decide +kernel)) <| ie) (by decide) fun p0 x0 J0 t0 l0 e0 s0=>?_;refine fx2 (m:=17) (az (txc (z:="1+(2+3)") (n:=900) (by decide +kernel)) <| az (txc (z:="1*(2*3)") (n:=900) (by decide +kernel)) <| az (txc (z:="(1*2)*3") (n:=900) (by decide +kernel)) <| az (txc (z:="(1*2)+3") (n:=900) (by decide +kernel)) <| az (txc (z:="1+(2*3)") (n:=900) (by decide +kernel)) <| az (txc (z:="((1+2))*3") (n:=900) (by decide +kernel)) <| az (txc (z:="1)(2") (n:=900) (by decide +kernel)) <| az (txc (z:="(1+2") (n:=900) (by decide +kernel)) <| az (txc (z:="1+2)") (n:=900) (by decide +kernel)) <| az (txc (z:="2(3)") (n:=900) (by decide +kernel)) <| ie) rfl e0 t0 l0 (by decide) fun p1 x1 J1 t1 l1 e1 s1=>?_;refine fx2 (m:=27) (az (txc (z:="(2)3") (n:=900) (by decide +kernel)) <| az (txc (z:="/") (n:=900) (by decide +kernel)) <| az (txc (z:="//") (n:=900) (by decide +kernel)) <| az (txc (z:="/ /") (n:=900) (by decide +kernel)) <| az (txc (z:="0-1") (n:=900) (by decide +kernel)) <| az (txc (z:="0-1 /") (n:=900) (by decide +kernel)) <| az (txc (z:="/ 0-1") (n:=900) (by decide +kernel)) <| az (txc (z:="0-1/") (n:=900) (by decide +kernel)) <| az (txc (z:="0-0 /") (n:=900) (by decide +kernel)) <| az (txc (z:="1-0 /") (n:=900) (by decide +kernel)) <| az (txc (z:="0-8 /") (n:=900) (by decide +kernel)) <| az (txc (z:="0-9 /") (n:=900) (by decide +kernel)) <| ie) rfl e1 t1 l1 (by decide) fun p2 x2 J2 t2 l2 e2 s2=>?_;refine fx2 (m:=39) (az (txc (z:="00-1 /") (n:=900) (by decide +kernel)) <| az (txa (m:=16) (n:=1) (k:=900) (txm (z:="1+") (k:=8) (n:=16) (by decide +kernel) (by decide +kernel) (by decide) (by decide +kernel) (by decide)) (txc (z:="1") (n:=1) (by decide +kernel)) (by decide) (by decide)) <| az (txa (m:=18) (n:=1) (k:=900) (txm (z:="1+") (k:=9) (n:=18) (by decide +kernel) (by decide +kernel) (by decide) (by decide +kernel) (by decide)) (txc (z:="1") (n:=1) (by decide +kernel)) (by decide) (by decide)) <| az (txa (m:=16) (n:=1) (k:=900) (txm (z:="1 ") (k:=8) (n:=16) (by decide +kernel) (by decide +kernel) (by decide) (by decide +kernel) (by decide)) (txc (z:="1") (n:=1) (by decide +kernel)) (by decide) (by decide)) <| az (txa (m:=18) (n:=1) (k:=900) (txm (z:="1 ") (k:=9) (n:=18) (by decide +kernel) (by decide +kernel) (by decide) (by decide +kernel) (by decide)) (txc (z:="1") (n:=1) (by decide +kernel)) (by decide) (by decide)) <| az (txa (m:=160) (n:=1) (k:=900) (txm (z:="0-1 ") (k:=40) (n:=160) (by decide +kernel) (by decide +kernel) (by decide) (by decide +kernel) (by decide)) (txc (z:="/") (n:=1) (by decide +kernel)) (by decide) (by decide)) <| ie) rfl e2 t2 l2 (by decide) fun p3 x3 J3 t3 l3 e3 s3=>?_;refine fx2 (m:=45) (az (txa (m:=164) (n:=1) (k:=900) (txm (z:="0-1 ") (k:=41) (n:=164) (by decide +kernel) (by decide +kernel) (by decide) (by decide +kernel) (by decide)) (txc (z:="/") (n:=1) (by decide +kernel)) (by decide) (by decide)) <| az (txm (z:="(") (k:=400) (n:=900) (by decide +kernel) (by decide +kernel) (by decide) (by decide +kernel) (by decide)) <| az (txm (z:=")") (k:=400) (n:=900) (by decide +kernel) (by decide +kernel) (by decide) (by decide +kernel) (by decide)) <| az (txa (m:=201) (n:=199) (k:=900) (txa (m:=200) (n:=1) (k:=201) (txm (z:="(") (k:=200) (n:=200) (by decide +kernel) (by decide +kernel) (by decide) (by decide +kernel) (by decide)) (txc (z:="1") (n:=1) (by decide +kernel)) (by decide) (by decide)) (txm (z:=")") (k:=199) (n:=199) (by decide +kernel) (by decide +kernel) (by decide) (by decide +kernel) (by decide)) (by decide) (by decide)) <| az (txa (m:=200) (n:=199) (k:=900) (txa (m:=199) (n:=1) (k:=200) (txm (z:="(") (k:=199) (n:=199) (by decide +kernel) (by decide +kernel) (by decide) (by decide +kernel) (by decide)) (txc (z:="1") (n:=1) (by decide +kernel)) (by decide) (by decide)) (txm (z:=")") (k:=199) (n:=199) (by decide +kernel) (by decide +kernel) (by decide) (by decide +kernel) (by decide)) (by decide) (by decide)) <| ie) rfl e3 t3 l3 (by decide) fun p4 x4 J4 t4 l4 e4 s4=>?_;refine fx2 (m:=50) (az (txa (m:=298) (n:=99) (k:=900) (txa (m:=297) (n:=1) (k:=298) (txm (z:="1+(") (k:=99) (n:=297) (by decide +kernel) (by decide +kernel) (by decide) (by decide +kernel) (by decide)) (txc (z:="1") (n:=1) (by decide +kernel)) (by decide) (by decide)) (txm (z:=")") (k:=99) (n:=99) (by decide +kernel) (by decide +kernel) (by decide) (by decide +kernel) (by decide)) (by decide) (by decide)) <| az (txa (m:=100) (n:=297) (k:=900) (txa (m:=99) (n:=1) (k:=100) (txm (z:="(") (k:=99) (n:=99) (by decide +kernel) (by decide +kernel) (by decide) (by decide +kernel) (by decide)) (txc (z:="1") (n:=1) (by decide +kernel)) (by decide) (by decide)) (txm (z:="+1)") (k:=99) (n:=297) (by decide +kernel) (by decide +kernel) (by decide) (by decide +kernel) (by decide)) (by decide) (by decide)) <| az (txa (m:=120) (n:=1) (k:=900) (txm (z:="1+") (k:=60) (n:=120) (by decide +kernel) (by decide +kernel) (by decide) (by decide +kernel) (by decide)) (txc (z:="1") (n:=1) (by decide +kernel)) (by decide) (by decide)) <| ie) rfl e4 t4 l4 (by decide) fun p5 x5 J5 t5 l5 e5 s5=>?_;refine ⟨_,rfl,(dk (mI (d:=.none) fun H=>by simp only [Dat]) (fun z e=>by cases e) (by decide +kernel) (by decide +kernel) (by decide +kernel) (dk (mI (d:=.int 0) fun H=>by simp only [Dat]) (fun z e=>by cases e) (by decide +kernel) (by decide +kernel) (by decide +kernel) (dk (mI (d:=.bool true) fun H=>by simp only [Dat]) (fun z e=>by cases e) (by decide +kernel) (by decide +kernel) (by decide +kernel) (dk (mH iK (by decide)) (fun z e=>by cases e) (by decide +kernel) (by decide +kernel) (by decide +kernel) (dk (mH (fj (mI (d:=.str "1") fun H=>by simp only [Dat]) iK) (by decide)) (fun z e=>by cases e) (by decide +kernel) (by decide +kernel) (by decide +kernel) (dk (uc (fj (mI (d:=.int 1) fun H=>by simp only [Dat]) iK) (by decide)) (fun z e=>by cases e) (by decide +kernel) (by decide +kernel) (by decide +kernel) (dk xg (fun z e=>by cases e) (by decide +kernel) (by decide +kernel) (by decide +kernel) (dk xf (fun z e=>by cases e) (by decide +kernel) (by decide +kernel) (by decide +kernel) (dk (mH (fj (mH (fj (mI (d:=.int 0) fun H=>by simp only [Dat]) iK) (by decide)) iK) (by decide)) (fun z e=>by cases e) (by decide +kernel) (by decide +kernel) (by decide +kernel) (dk (uc (fj (mI (d:=.str "+") fun H=>by simp only [Dat]) (fj (mI (d:=.int 1) fun H=>by simp only [Dat]) (fj (mI (d:=.int 2) fun H=>by simp only [Dat]) iK))) (by decide)) (fun z e=>by cases e) (by decide +kernel) (by decide +kernel) (by decide +kernel) wL)))))))))) _ _ _ fun ys K0 k0 hy ly=>?_⟩;refine ⟨al (by lia),fun b nb=>⟨p5,b,x5,ys,rfl,rfl,Same.new nb _ _ _ (k0 _ _ e5),upd_same,al (by lia),fun c nc=>?_⟩⟩;have g0:=(Same.new nb (.lst ys)).trans (Same.new nc (.lst (x5++ys)));have ec:upd (upd K0 b (.lst ys)) c (.lst (x5++ys)) c=some (.lst (x5++ys)):=upd_same;have hall:∀ x∈x5++ys,ThR (upd (upd K0 b (.lst ys)) c (.lst (x5++ys))) x:=fun x hx=>by
      rcases aau.mp hx with hx|hx
      · exact .inl (t5 x hx)
      · exact (hy x hx).mono g0
    generalize upd (upd K0 b (.lst ys)) c (.lst (x5++ys))=K1 at g0 ec hall ⊢;refine ⟨c,rfl,⟨_,SqL.of ec⟩,jX (xs:=x5++ys) (fun i σ H'=>∃ c6,σ=[some (.ref a),c1,c2,c3,c4,c5,c6,c7,c8,some (.ref p5)]∧Same K1 H') ⟨_,rfl,Same.refl _⟩ ?_ ?_ ?_⟩
    · rintro i σ H' _ ⟨_,rfl,S'⟩;exact SqL.of (S' _ _ ec)
    · rintro i x σ H' hx ⟨c6,rfl,S'⟩;exact ⟨_,rfl,_,rfl,(hall x (aaM hx)).mono S',fun H2 s2=>⟨true,rfl,av ⟨_,rfl,S'.trans s2⟩⟩⟩
    · rintro σ H' ⟨c6,rfl,S'⟩;exact q _
end
open PySem L2
theorem us0 {us:List Value} (h:us.length=0):us=[]:=ack.mp h
theorem us1 {us:List Value} (h:us.length=1):∃ a,us=[a]:=by
  cases us with
  | nil=>cases h
  | cons x us=>obtain rfl:=us0 (Nat.succ.inj h);exact ⟨x,rfl⟩
theorem us2 {us:List Value} (h:us.length=2):∃ a b,us=[a,b]:=by
  cases us with
  | nil=>cases h
  | cons x us=>obtain ⟨b,rfl⟩:=us1 (Nat.succ.inj h);exact ⟨x,b,rfl⟩
theorem all_mk {l:PySem.W.OpenLaw} {w:World} {K:aaa} {h:Heap} {mg:Str→Option Value} {fa:Addr} (X:K.In h) (G:h.Ns mainGlobals mg) (hfa:mg "law" = some (.ref fa))
    {tM tS1 tS2 tS3:Tok} {cS:Addr} {odS:Option Addr} {nS:Nat} {slS:Array (Option Value)}
    {tFg tBl:Tok}
    {tMn tMs:Tok}
    {aP aR aS aW aN aL aF aO aA aH aT aM:Addr}
    {aPN:Addr} {aPnm aPq:Str} {aPbs aPsub:List Value} {aPhd aPab:Bool} {aPsn:List Str} {aPcol:Option Bool} {aPdd aPod:Option Addr} {aPk0 aPk1 aPk2 aPk3 aPk5:Option Value} {aPc:Value} {aPes:Array DictEntry} {aPn:Nat} {aPsl:Array (Option Value)}
    {aTN:Addr} {aTnm aTq:Str} {aTbs aTsub:List Value} {aThd aTab:Bool} {aTsn:List Str} {aTcol:Option Bool} {aTdd aTod:Option Addr} {aTk0 aTk1 aTk2 aTk3 aTk5:Option Value} {aTc:Value} {aTes:Array DictEntry} {aTn:Nat} {aTsl:Array (Option Value)}
    {aRcd:ClassData}
    {aScd:ClassData}
    {aWcd:ClassData}
    {aNcd:ClassData}
    {aLcd:ClassData}
    {aFcd:ClassData}
    {aOcd:ClassData}
    {aAcd:ClassData}
    {aHcd:ClassData}
    {aTcd:ClassData}
    {aMcd:ClassData}
{f0:Addr}
{f1:Addr}
{f2:Addr}
{f3:Addr}
{f4:Addr}
{f5:Addr}
{f6:Addr}
{f7:Addr}
{f8:Addr}
{f9:Addr}
{f10:Addr}
{f11:Addr}
{f12:Addr}
{f13:Addr}
{f14:Addr}
{f15:Addr}
{f16:Addr}
{f17:Addr}
{f18:Addr}
{f19:Addr}
{f20:Addr}
{f21:Addr}
{f22:Addr}
{f23:Addr}
{f24:Addr}
{f25:Addr}
{f26:Addr}
{f27:Addr}
{f28:Addr}
{f29:Addr}
{f30:Addr}
{f31:Addr}
{f32:Addr}
{f33:Addr}
{f34:Addr}
{f35:Addr}
{f36:Addr}
{f37:Addr}
{f38:Addr}
{f39:Addr}
{f40:Addr}
{f41:Addr}
{f42:Addr}
{od43 an43:Option Addr} {sl43:Array (Option Value)} {oc43 kV43 dc43 pm43 cd43 ct43:Value} {f43:Addr}
    (q0:Fq K "is_whole" gB f0)
    (q1:Fq K "shorter_first" dB f1)
    (q2:Fq K "own_sign" gA f2)
    (q3:Fq K "left_in_brackets" cN f3)
    (q4:Fq K "right_in_brackets" cE f4)
    (q5:Fq K "read_row" gz f5)
    (q6:Fq K "read_way" gy f6)
    (q7:Fq K "read_holds" eY f7)
    (q8:Fq K "need_text" fE f8)
    (q9:Fq K "write_number" dO f9)
    (q10:Fq K "are_figures" d_ f10)
    (q11:Fq K "read_number" d9 f11)
    (q12:Fq K "write_way" fD f12)
    (q13:Fq K "put_brackets" dP f13)
    (q14:Fq K "find_way" gC f14)
    (q15:Fq K "without_brackets" cM f15)
    (q16:Fq K "last_joint" eZ f16)
    (q17:Fq K "write_stretch" dA f17)
    (q18:Fq K "read_stretches" dc f18)
    (q19:Fq K "_law_well" fG f19)
    (q20:Fq K "_law_draw" fL f20)
    (q21:Fq K "_law_row" gE f21)
    (q22:Fq K "_law_stretch" dR f22)
    (q23:Fq K "_law_holds" fb f23)
    (q24:Fq K "_law_holds_written" cw f24)
    (q25:Fq K "_law_figures" dS f25)
    (q26:Fq K "_law_written" dQ f26)
    (q27:Fq K "_law_any_way" dU f27)
    (q28:Fq K "_law_word" fF f28)
    (q29:Fq K "_law_same" fJ f29)
    (q30:Fq K "_law_sign" fI f30)
    (q31:Fq K "_law_spoilt" eh f31)
    (q32:Fq K "_law_number" eB f32)
    (q33:Fq K "_law_end" gF f33)
    (q34:Fq K "_law_pieces" eA f34)
    (q35:Fq K "_law_folded" eD f35)
    (q36:Fq K "_law_way" gD f36)
    (q37:Fq K "_law_many" fK f37)
    (q38:Fq K "_law_stretch_in" cW f38)
    (q39:Fq K "_law_due" gG f39)
    (q40:Fq K "_law_told" fH f40)
    (q41:Fq K "_law_beyond" eE f41)
    (q42:Fq K "_law_right" e_ f42)
    (a43:aat K mainGlobals "law" = some (some (.ref f43))) (l43:K.lookup f43=some ⟨oc43,od43,.func (abw "law" "law" (dq gZ) (cK gZ) (aq gZ) .none kV43 dc43 pm43 an43 cd43 ct43),sl43⟩) (c43:abX K cd43 "law" = true) (k43:abm K (.ref f43)=true)
    (dz:aat K mainGlobals "len" = some none)
    (dy : aat K mainGlobals "isinstance" = some none)
    (dx:aat K mainGlobals "int" = some none)
    (dt:aat K mainGlobals "bool" = some none)
    (dK:aat K mainGlobals "str" = some none)
    (dM:aat K mainGlobals "tuple" = some none)
    (dC:aat K mainGlobals "list" = some none)
    (dJ:aat K mainGlobals "sorted" = some none)
    (dF:aat K mainGlobals "range" = some none)
    (dG:aat K mainGlobals "repr" = some none)
    (dw:aat K mainGlobals "enumerate" = some none)
    (dL:aat K mainGlobals "sum" = some none)
    (dp:aat K mainGlobals "all" = some none)
    (dE:aat K mainGlobals "min" = some none)
    (dD:aat K mainGlobals "max" = some none)
    (dm:aat K mainGlobals "abs" = some none)
    (dv:aat K mainGlobals "divmod" = some none)
    (du:aat K mainGlobals "dict" = some none)
    (dI:aat K mainGlobals "set" = some none)
    (dH:aat K mainGlobals "reversed" = some none)
    (ds:aat K mainGlobals "any" = some none)
    (dN:aat K mainGlobals "zip" = some none)
    (gM:aat K mainGlobals "MOST_NUMBERS" = some (some (.int 9 tM)))
    (gS:aat K mainGlobals "SIGNS" = some (some (.ref cS)))
    (lS:K.lookup cS=some ⟨.type "tuple",odS,.seq #[.str "+" tS1,.str "-" tS2,.str "*" tS3] nS,slS⟩)
    (gFg:aat K mainGlobals "FIGURES" = some (some (.str "0123456789" tFg)))
    (gBl:aat K mainGlobals "BELOW" = some (some (.str "~" tBl)))
    (gMn:aat K mainGlobals "MOST_NUMBERS" = some (some (.int 9 tMn)))
    (gMs:aat K mainGlobals "MOST_STRETCHES" = some (some (.int 40 tMs)))
    (n_PutError:aat K mainGlobals "PutError" = some (some (.ref aP)))
    (n_NoRow:aat K mainGlobals "NoRow" = some (some (.ref aR)))
    (n_NoSigns:aat K mainGlobals "NoSigns" = some (some (.ref aS)))
    (n_NoWay:aat K mainGlobals "NoWay" = some (some (.ref aW)))
    (n_NoNumber:aat K mainGlobals "NoNumber" = some (some (.ref aN)))
    (n_NoPlace:aat K mainGlobals "NoPlace" = some (some (.ref aL)))
    (n_NoFit:aat K mainGlobals "NoFit" = some (some (.ref aF)))
    (n_NoForm:aat K mainGlobals "NoForm" = some (some (.ref aO)))
    (n_NoAsk:aat K mainGlobals "NoAsk" = some (some (.ref aA)))
    (n_NoHolds:aat K mainGlobals "NoHolds" = some (some (.ref aH)))
    (n_NoText:aat K mainGlobals "NoText" = some (some (.ref aT)))
    (n_TooMany:aat K mainGlobals "TooMany" = some (some (.ref aM)))
    (dl:aat K mainGlobals "ValueError" = some none)
    (l_PutError:K.lookup aP=some (excClassObj aPnm aPq aP aPN aPbs oE aPhd aPsn aPsub aPab aPcol aPdd aPk0 aPk1 aPk2 aPk3 aPk5 "ValueError.__new__"))
    (s_PutError:K.lookup aPN=some ⟨aPc,aPod,.dict aPes aPn,aPsl⟩)
    (t_PutError:kY aPes=true)
    (i_PutError:nsFind aPes "__init__" = none)
    (l_NoText:K.lookup aT=some (excClassObj aTnm aTq aT aTN aTbs (.ref aP :: oE) aThd aTsn aTsub aTab aTcol aTdd aTk0 aTk1 aTk2 aTk3 aTk5 "ValueError.__new__"))
    (s_NoText:K.lookup aTN=some ⟨aTc,aTod,.dict aTes aTn,aTsl⟩)
    (t_NoText:kY aTes=true)
    (i_NoText:nsFind aTes "__init__" = none)
    (f1_NoText:abl K (.ref aT) "__getattribute__" = some (some (.builtin "BaseException.__getattribute__")))
    (f2_NoText:abl K (.ref aT) "__getattr__" = some none)
    (f3_NoText:abl K (.ref aT) "__class__" = some (some (.builtin "object.__class__")))
    (f4_NoText:aaZ K (.ref aT) (.type "BaseException")=some true)
    (f5_NoText:aaZ K (.ref aT) (.type "object")=some true)
    (f6_NoText:aaZ K (.ref aT) (.type "ValueError")=some true)
    (c_NoRow:aa1 K aR=some aRcd)
    (y_NoRow:abe K (.ref aR)=some (.type "type"))
    (c_NoSigns:aa1 K aS=some aScd)
    (y_NoSigns:abe K (.ref aS)=some (.type "type"))
    (c_NoWay:aa1 K aW=some aWcd)
    (y_NoWay:abe K (.ref aW)=some (.type "type"))
    (c_NoNumber:aa1 K aN=some aNcd)
    (y_NoNumber:abe K (.ref aN)=some (.type "type"))
    (c_NoPlace:aa1 K aL=some aLcd)
    (y_NoPlace:abe K (.ref aL)=some (.type "type"))
    (c_NoFit:aa1 K aF=some aFcd)
    (y_NoFit:abe K (.ref aF)=some (.type "type"))
    (c_NoForm:aa1 K aO=some aOcd)
    (y_NoForm:abe K (.ref aO)=some (.type "type"))
    (c_NoAsk:aa1 K aA=some aAcd)
    (y_NoAsk:abe K (.ref aA)=some (.type "type"))
    (c_NoHolds:aa1 K aH=some aHcd)
    (y_NoHolds:abe K (.ref aH)=some (.type "type"))
    (c_NoText:aa1 K aT=some aTcd)
    (y_NoText:abe K (.ref aT)=some (.type "type"))
    (c_TooMany:aa1 K aM=some aMcd)
    (y_TooMany:abe K (.ref aM)=some (.type "type"))
    (u_NoText_NoRow:aaZ K (.ref aT) (.ref aR)=some false)
    (d_NoText_NoRow:(Value.ref aT == Value.ref aR)=false)
    (u_NoText_NoSigns:aaZ K (.ref aT) (.ref aS)=some false)
    (d_NoText_NoSigns:(Value.ref aT == Value.ref aS)=false)
    (u_NoText_NoWay:aaZ K (.ref aT) (.ref aW)=some false)
    (d_NoText_NoWay:(Value.ref aT == Value.ref aW)=false)
    (u_NoText_NoNumber:aaZ K (.ref aT) (.ref aN)=some false)
    (d_NoText_NoNumber:(Value.ref aT == Value.ref aN)=false)
    (u_NoText_NoPlace:aaZ K (.ref aT) (.ref aL)=some false)
    (d_NoText_NoPlace:(Value.ref aT == Value.ref aL)=false)
    (u_NoText_NoFit:aaZ K (.ref aT) (.ref aF)=some false)
    (d_NoText_NoFit:(Value.ref aT == Value.ref aF)=false)
    (u_NoText_NoForm:aaZ K (.ref aT) (.ref aO)=some false)
    (d_NoText_NoForm:(Value.ref aT == Value.ref aO)=false)
    (u_NoText_NoAsk:aaZ K (.ref aT) (.ref aA)=some false)
    (d_NoText_NoAsk:(Value.ref aT == Value.ref aA)=false)
    (u_NoText_NoHolds:aaZ K (.ref aT) (.ref aH)=some false)
    (d_NoText_NoHolds:(Value.ref aT == Value.ref aH)=false)
    (u_NoText_TooMany:aaZ K (.ref aT) (.ref aM)=some false)
    (d_NoText_TooMany:(Value.ref aT == Value.ref aM)=false) :
    ∃ fd:FuncData,(∀ (s:Shared) (v:Value),BindsTo s fd ⟨[v],[]⟩ [("script",v)])∧∀ base:Heap,K.In base→base.Ns mainGlobals mg→FnOk l.prog w K mg base CX0 207 fa fd ["script"] (qe K):=by
  have e:=hfa.symm.trans (aaS X G a43);cases e;obtain ⟨_,bw,cf,c3⟩:=q0.use X G (ps:=["thing"]) fun _ _ _ _ _ _ us hl=>by obtain ⟨_,rfl⟩:=us1 hl;rfl
  obtain ⟨_,bK,cr,dg⟩:=q1.use X G (ps:=["many"]) fun _ _ _ _ _ _ us hl=>by obtain ⟨_,rfl⟩:=us1 hl;rfl
  obtain ⟨_,bC,cj,c7⟩:=q2.use X G (ps:=["way"]) fun _ _ _ _ _ _ us hl=>by obtain ⟨_,rfl⟩:=us1 hl;rfl
  obtain ⟨_,bA,ch,c5⟩:=q3.use X G (ps:=["sign","left_sign"]) fun _ _ _ _ _ _ us hl=>by obtain ⟨_,_,rfl⟩:=us2 hl;rfl
  obtain ⟨_,bJ,cq,df⟩:=q4.use X G (ps:=["sign","right_sign"]) fun _ _ _ _ _ _ us hl=>by obtain ⟨_,_,rfl⟩:=us2 hl;rfl
  obtain ⟨_,bG,cn,db⟩:=q5.use X G (ps:=["text"]) fun _ _ _ _ _ _ us hl=>by obtain ⟨_,rfl⟩:=us1 hl;rfl
  obtain ⟨_,bI,cp,de⟩:=q6.use X G (ps:=["text"]) fun _ _ _ _ _ _ us hl=>by obtain ⟨_,rfl⟩:=us1 hl;rfl
  obtain ⟨_,bE,cl,c9⟩:=q7.use X G (ps:=["text"]) fun _ _ _ _ _ _ us hl=>by obtain ⟨_,rfl⟩:=us1 hl;rfl
  obtain ⟨_,bB,ci,c6⟩:=q8.use X G (ps:=["thing"]) fun _ _ _ _ _ _ us hl=>by obtain ⟨_,rfl⟩:=us1 hl;rfl
  obtain ⟨_,bM,ct,di⟩:=q9.use X G (ps:=["number"]) fun _ _ _ _ _ _ us hl=>by obtain ⟨_,rfl⟩:=us1 hl;rfl
  obtain ⟨_,bu,cd,c1⟩:=q10.use X G (ps:=["text"]) fun _ _ _ _ _ _ us hl=>by obtain ⟨_,rfl⟩:=us1 hl;rfl
  obtain ⟨_,bF,cm,da⟩:=q11.use X G (ps:=["text"]) fun _ _ _ _ _ _ us hl=>by obtain ⟨_,rfl⟩:=us1 hl;rfl
  obtain ⟨_,bO,cv,dk⟩:=q12.use X G (ps:=["way"]) fun _ _ _ _ _ _ us hl=>by obtain ⟨_,rfl⟩:=us1 hl;rfl
  obtain ⟨_,bD,ck,c8⟩:=q13.use X G (ps:=["text","is_due"]) fun _ _ _ _ _ _ us hl=>by obtain ⟨_,_,rfl⟩:=us2 hl;rfl
  obtain ⟨_,bv,ce,c2⟩:=q14.use X G (ps:=["text"]) fun _ _ _ _ _ _ us hl=>by obtain ⟨_,rfl⟩:=us1 hl;rfl
  obtain ⟨_,bL,cs,dh⟩:=q15.use X G (ps:=["text"]) fun _ _ _ _ _ _ us hl=>by obtain ⟨_,rfl⟩:=us1 hl;rfl
  obtain ⟨_,bx,cg,c4⟩:=q16.use X G (ps:=["text"]) fun _ _ _ _ _ _ us hl=>by obtain ⟨_,rfl⟩:=us1 hl;rfl
  obtain ⟨_,bN,cu,dj⟩:=q17.use X G (ps:=["stretch"]) fun _ _ _ _ _ _ us hl=>by obtain ⟨_,rfl⟩:=us1 hl;rfl
  obtain ⟨_,bH,co,dd⟩:=q18.use X G (ps:=["words"]) fun _ _ _ _ _ _ us hl=>by obtain ⟨_,rfl⟩:=us1 hl;rfl
  obtain ⟨_,br,ca,cY⟩:=q19.use X G (ps:=["cell"]) fun _ _ _ _ _ _ us hl=>by obtain ⟨_,rfl⟩:=us1 hl;rfl
  obtain ⟨_,a8,bR,cz⟩:=q20.use X G (ps:=["well","many"]) fun _ _ _ _ _ _ us hl=>by obtain ⟨_,_,rfl⟩:=us2 hl;rfl
  obtain ⟨_,bj,b2,cO⟩:=q21.use X G (ps:=["well","many"]) fun _ _ _ _ _ _ us hl=>by obtain ⟨_,_,rfl⟩:=us2 hl;rfl
  obtain ⟨_,bn,b6,cT⟩:=q22.use X G (ps:=["well","many"]) fun _ _ _ _ _ _ us hl=>by obtain ⟨_,_,rfl⟩:=us2 hl;rfl
  obtain ⟨_,bd,bW,cF⟩:=q23.use X G (ps:=["well","many"]) fun _ _ _ _ _ _ us hl=>by obtain ⟨_,_,rfl⟩:=us2 hl;rfl
  obtain ⟨_,be,bX,cG⟩:=q24.use X G (ps:=["holds"]) fun _ _ _ _ _ _ us hl=>by obtain ⟨_,rfl⟩:=us1 hl;rfl
  obtain ⟨_,bb,bU,cC⟩:=q25.use X G (ps:=["number"]) fun _ _ _ _ _ _ us hl=>by obtain ⟨_,rfl⟩:=us1 hl;rfl
  obtain ⟨_,bt,cc,c0⟩:=q26.use X G (ps:=["way"]) fun _ _ _ _ _ _ us hl=>by obtain ⟨_,rfl⟩:=us1 hl;rfl
  obtain ⟨_,a6,bP,cx⟩:=q27.use X G (ps:=["well","row"]) fun _ _ _ _ _ _ us hl=>by obtain ⟨_,_,rfl⟩:=us2 hl;rfl
  obtain ⟨_,bs,cb,cZ⟩:=q28.use X G (ps:=["caught"]) fun _ _ _ _ _ _ us hl=>by obtain ⟨_,rfl⟩:=us1 hl;rfl
  obtain ⟨_,bk,b3,cP⟩:=q29.use X G (ps:=["found","due"]) fun _ _ _ _ _ _ us hl=>by obtain ⟨_,_,rfl⟩:=us2 hl;rfl
  obtain ⟨_,bl,b4,cQ⟩:=q30.use X G (ps:=["well"]) fun _ _ _ _ _ _ us hl=>by obtain ⟨_,rfl⟩:=us1 hl;rfl
  obtain ⟨_,bm,b5,cR⟩:=q31.use X G (ps:=["well","text"]) fun _ _ _ _ _ _ us hl=>by obtain ⟨_,_,rfl⟩:=us2 hl;rfl
  obtain ⟨_,bg,bZ,cI⟩:=q32.use X G (ps:=["word"]) fun _ _ _ _ _ _ us hl=>by obtain ⟨_,rfl⟩:=us1 hl;rfl
  obtain ⟨_,ba,bT,cB⟩:=q33.use X G (ps:=["text","at"]) fun _ _ _ _ _ _ us hl=>by obtain ⟨_,_,rfl⟩:=us2 hl;rfl
  obtain ⟨_,bh,b0,cJ⟩:=q34.use X G (ps:=["text"]) fun _ _ _ _ _ _ us hl=>by obtain ⟨_,rfl⟩:=us1 hl;rfl
  obtain ⟨_,bc,bV,cD⟩:=q35.use X G (ps:=["found"]) fun _ _ _ _ _ _ us hl=>by obtain ⟨_,rfl⟩:=us1 hl;rfl
  obtain ⟨_,bq,b9,cX⟩:=q36.use X G (ps:=["text"]) fun _ _ _ _ _ _ us hl=>by obtain ⟨_,rfl⟩:=us1 hl;rfl
  obtain ⟨_,bf,bY,cH⟩:=q37.use X G (ps:=["way"]) fun _ _ _ _ _ _ us hl=>by obtain ⟨_,rfl⟩:=us1 hl;rfl
  obtain ⟨_,bo,b7,cU⟩:=q38.use X G (ps:=["word"]) fun _ _ _ _ _ _ us hl=>by obtain ⟨_,rfl⟩:=us1 hl;rfl
  obtain ⟨_,a9,bS,cA⟩:=q39.use X G (ps:=["kind","text"]) fun _ _ _ _ _ _ us hl=>by obtain ⟨_,_,rfl⟩:=us2 hl;rfl
  obtain ⟨_,bp,b8,cV⟩:=q40.use X G (ps:=["kind","text"]) fun _ _ _ _ _ _ us hl=>by obtain ⟨_,_,rfl⟩:=us2 hl;rfl
  obtain ⟨_,a7,bQ,cy⟩:=q41.use X G (ps:=["text"]) fun _ _ _ _ _ _ us hl=>by obtain ⟨_,rfl⟩:=us1 hl;rfl
  obtain ⟨_,bi,b1,cL⟩:=q42.use X G (ps:=["text"]) fun _ _ _ _ _ _ us hl=>by obtain ⟨_,rfl⟩:=us1 hl;rfl
  have bz:=tT (st:=gZ) l43 c43 k43;have B:Bu K mg:=⟨aaw X G dz,aaw X G dy,aaw X G dx,aaw X G dt,aaw X G dK,aaw X G dM,aaw X G dC,aaw X G dJ,aaw X G dF,aaw X G dG,aaw X G dw,aaw X G dL,aaw X G dp,aaw X G dE,aaw X G dD,aaw X G dm,aaw X G dv,aaw X G du,aaw X G dI,aaw X G dH,aaw X G ds,aaw X G dN⟩
  have B':Co K mg tM cS:=⟨aaS X G gM,aaS X G gS,fun H=>.inr ⟨_,_,_,lS,rfl,rfl,by show 3≤sizeLine;decide,.cons ⟨_,rfl⟩ (.cons ⟨_,rfl⟩ (.cons ⟨_,rfl⟩ .nil))⟩⟩
  have B2:Cf K mg tFg tBl:=⟨aaS X G gFg,aaS X G gBl⟩
  have B3:Cq K mg tMn tMs:=⟨aaS X G gMn,aaS X G gMs⟩
  have XC:Xc K mg aP aT:=⟨aaS X G n_PutError,aaS X G n_NoText,xb l_NoText s_NoText t_NoText i_NoText l_PutError s_PutError t_PutError i_PutError,uD l_NoText l_PutError⟩
  have XK:Xk mg aR aS aW aN aL aF aO aA aH aT aM:=⟨aaS X G n_NoRow,aaS X G n_NoSigns,aaS X G n_NoWay,aaS X G n_NoNumber,aaS X G n_NoPlace,aaS X G n_NoFit,aaS X G n_NoForm,aaS X G n_NoAsk,aaS X G n_NoHolds,aaS X G n_NoText,aaS X G n_TooMany,aaw X G dl⟩
  have E6:Kg K aR aS aW aN aL aF aO aA aH aT aM (.ref aT) 6:=⟨(dn d_NoText_NoRow c_NoRow y_NoRow u_NoText_NoRow),(dn d_NoText_NoSigns c_NoSigns y_NoSigns u_NoText_NoSigns),(dn d_NoText_NoWay c_NoWay y_NoWay u_NoText_NoWay),(dn d_NoText_NoNumber c_NoNumber y_NoNumber u_NoText_NoNumber),(dn d_NoText_NoHolds c_NoHolds y_NoHolds u_NoText_NoHolds),(dn d_NoText_TooMany c_TooMany y_TooMany u_NoText_TooMany),tE,tF (dn d_NoText_NoAsk c_NoAsk y_NoAsk u_NoText_NoAsk) (dn d_NoText_NoFit c_NoFit y_NoFit u_NoText_NoFit) (dn d_NoText_NoForm c_NoForm y_NoForm u_NoText_NoForm) (dn d_NoText_NoPlace c_NoPlace y_NoPlace u_NoText_NoPlace)⟩
  have X6:Kx K aT:=⟨xa l_NoText f1_NoText f2_NoText f3_NoText f4_NoText f5_NoText,vg f6_NoText⟩
  refine ⟨abw "law" "law" (dq gZ) (cK gZ) (aq gZ) .none kV43 dc43 pm43 an43 cd43 ct43,fun s v=>.of_eq rfl,fun base _ _=>?_⟩;have aE:Cal l.prog w K mg base "is_whole" 1 ["thing"] (jc K):=⟨_,_,nF bw B,cf,bw.kp,c3⟩
  have ay:Cal l.prog w K mg base "_law_well" 1 ["cell"] oO:=⟨_,_,uZ br B,ca,br.kp,cY⟩
  have ac:Cal l.prog w K mg base "_law_draw" 2 ["well","many"] eW:=⟨_,_,va a8,bR,a8.kp,cz⟩
  have an:Cal l.prog w K mg base "_law_row" 3 ["well","many"] sy:=⟨_,_,wI bj B ac,b2,bj.kp,cO⟩
  have aI:Cal l.prog w K mg base "left_in_brackets" 1 ["sign","left_sign"] oU:=⟨_,_,u_ bA,ch,bA.kp,c5⟩
  have a0:Cal l.prog w K mg base "right_in_brackets" 1 ["sign","right_sign"] jx:=⟨_,_,rh bJ,cq,bJ.kp,df⟩
  have aK:Cal l.prog w K mg base "own_sign" 2 ["way"] sC:=⟨_,_,wJ bC aE,cj,bC.kp,c7⟩
  have a3:Cal l.prog w K mg base "write_number" 1 ["number"] oP:=⟨_,_,iY bM B B2,ct,bM.kp,di⟩
  have aC:Cal l.prog w K mg base "are_figures" 1 ["text"] oW:=⟨_,_,jM bu B B2,cd,bu.kp,c1⟩
  have aV:Cal l.prog w K mg base "read_number" 2 ["text"] jd:=⟨_,_,jI bF B B2 aC,cm,bF.kp,da⟩
  have aQ:Cal l.prog w K mg base "put_brackets" 1 ["text","is_due"] oS:=⟨_,_,iZ bD,ck,bD.kp,c8⟩
  have a5:Cal l.prog w K mg base "write_way" 12 ["way"] (lJ 9):=⟨_,_,l_ bO cv dk aE a3 aK aI a0 aQ 9,cv,bO.kp,dk⟩
  have aG:Cal l.prog w K mg base "last_joint" 1 ["text"] jf:=⟨_,_,kB bx B,cg,bx.kp,c4⟩
  have af:Cal l.prog w K mg base "_law_figures" 1 ["number"] oP:=⟨_,_,jL bb B,bU,bb.kp,cC⟩
  have aB:Cal l.prog w K mg base "_law_written" 11 ["way"] (lJ 9):=⟨_,_,jK bt cc c0 B af 9,cc,bt.kp,c0⟩
  have aa:Cal l.prog w K mg base "_law_any_way" 11 ["well","row"] (qg 9):=⟨_,_,o8 a6 bP cx B ac 9,bP,a6.kp,cx⟩
  have a1:Cal l.prog w K mg base "shorter_first" 1 ["many"] wj:=⟨_,_,iy bK B,cr,bK.kp,dg⟩
  have a4:Cal l.prog w K mg base "write_stretch" 1 ["stretch"] wc:=⟨_,_,iu bN,cu,bN.kp,dj⟩
  have ao:Cal l.prog w K mg base "_law_same" 13 ["found","due"] (lL 12):=⟨_,_,nD bk b3 cP B 12,b3,bk.kp,cP⟩
  have au:Cal l.prog w K mg base "_law_stretch" 3 ["well","many"] sv:=⟨_,_,o4 bn ac,b6,bn.kp,cT⟩
  have ah:Cal l.prog w K mg base "_law_holds" 4 ["well","many"] lN:=⟨_,_,mh bd B ac au,bW,bd.kp,cF⟩
  have ai:Cal l.prog w K mg base "_law_holds_written" 1 ["holds"] wk:=⟨_,_,iz be B,bX,be.kp,cG⟩
  have aJ:hZ l.prog w K mg base "need_text" 1 ["thing"] (dr aT):=⟨_,_,km bB B XC,ci,bB.kp,c6⟩
  have aX:hZ l.prog w K mg base "read_row" 3 ["text"] (gv aT):=⟨_,_,mf bG B B3 XC aJ aV,cn,bG.kp,db⟩
  have a2:Cal l.prog w K mg base "without_brackets" 2 ["text"] oN:=⟨_,_,uY bL aG,cs,bL.kp,dh⟩
  have aD:Cal l.prog w K mg base "find_way" 12 ["text"] (jg 9):=⟨_,_,sS bv ce c2 aV aG a2 9,ce,bv.kp,c2⟩
  have aZ:hZ l.prog w K mg base "read_way" 13 ["text"] (gu aT):=⟨_,_,me bI B B' B3 XC aJ aD a5,cp,bI.kp,de⟩
  have aY:hZ l.prog w K mg base "read_stretches" 2 ["words"] (sA aT):=⟨_,_,gK bH B B3 XC a1 a4,co,bH.kp,dd⟩
  have aU:hZ l.prog w K mg base "read_holds" 3 ["text"] (sB aT):=⟨_,_,jJ bE B XC aJ aY,cl,bE.kp,c9⟩
  have ak:Cal l.prog w K mg base "_law_number" 1 ["word"] lM:=⟨_,_,kw bg B,bZ,bg.kp,cI⟩
  have ae:Cal l.prog w K mg base "_law_end" 1 ["text","at"] qf:=⟨_,_,o6 ba B,bT,ba.kp,cB⟩
  have aj:Cal l.prog w K mg base "_law_many" 201 ["way"] (je 200):=⟨_,_,nE bf bY cH B 200,bY,bf.kp,cH⟩
  have al:Cal l.prog w K mg base "_law_pieces" 2 ["text"] jy:=⟨_,_,ku bh B ae,b0,bh.kp,cJ⟩
  have ag:Cal l.prog w K mg base "_law_folded" 1 ["found"] oV:=⟨_,_,ky bc B,bV,bc.kp,cD⟩
  have ax:Cal l.prog w K mg base "_law_way" 204 ["text"] (uO 201):=⟨_,_,o5 bq b9 cX B ae al ak ag 201,b9,bq.kp,cX⟩
  have av:Cal l.prog w K mg base "_law_stretch_in" 1 ["word"] oR:=⟨_,_,kl bo B,b7,bo.kp,cU⟩
  have ad:Cal l.prog w K mg base "_law_due" 205 ["kind","text"] sD:=⟨_,_,o7 a9 B ak ax aj aB av,bS,a9.kp,cA⟩
  have az:Cal l.prog w K mg base "_law_word" 1 ["caught"] (ss K aR aS aW aN aL aF aO aA aH aT aM):=⟨_,_,uX bs B XK,cb,bs.kp,cZ⟩
  have aw:Cal l.prog w K mg base "_law_told" 14 ["kind","text"] oQ:=⟨_,_,nB bp B XC E6 X6 aX aZ aU az,b8,bp.kp,cV⟩
  have ab:Cal l.prog w K mg base "_law_beyond" 1 ["text"] sE:=⟨_,_,kA a7 B,bQ,a7.kp,cy⟩
  have ap:Cal l.prog w K mg base "_law_sign" 3 ["well"] sx:=⟨_,_,nC bl B ac,b4,bl.kp,cQ⟩
  have ar:Cal l.prog w K mg base "_law_spoilt" 4 ["well","text"] lK:=⟨_,_,kn bm B ac ap,b5,bm.kp,cR⟩
  have am:Cal l.prog w K mg base "_law_right" 206 ["text"] jw:=⟨_,_,kq bi B ab ad aw ao,b1,bi.kp,cL⟩
  exact wK bz B ay ac an aa aB ah ai af ar am
theorem walk {l:PySem.W.OpenLaw} {q:Program} {loose:List Str} {XP:(Str→Option Value)→Heap→Prop} {YP:World→Heap→Prop} {d:DefRec} {K:Params→aaa} (hn:l.most=some 63) (hdf:d.params.defaults=[]) (hi:PyProof.Rows.importsNone q=true)
    (hY:∀ (w:World) (h:Heap),YP w h→(K w.params).In h)
    (F:∀ (w:World) (mg:Str→Option Value) (fa:Addr) (h:Heap),(K w.params).In h→h.Ns mainGlobals mg→mg d.name=some (.ref fa) →
      ∃ fd:FuncData,(∀ (s:Shared) (u:Value),BindsTo s fd ⟨[u],[]⟩ [("script",u)])∧∀ base:Heap,(K w.params).In base→base.Ns mainGlobals mg→FnOk l.prog w (K w.params) mg base CX0 207 fa fd ["script"] (qe (K w.params))) :
    PySem.W.WalkO q loose XP YP l.row.toRowW d [] (fun f vs=>PySem.call f vs) :=
  L2.walk_of (n:=63) (k:=207) (x:="script") (CX:=fun _=>CX0) (sp:=fun w=>qe (K w.params)) hn (by decide) hdf ⟨rfl,by decide,by decide,rfl⟩ hi hY F (fun _ _ a ns hl _ hS=>⟨a,ns,rfl,hS,hl,fun _=>rfl⟩) fun _ _ _ _ _ z=>z
end Put
namespace PySem.W.Fast
def tw17735135521843855233:=0
def tw11433148922224019352:=0
def tw15956897359089039613:=0
def tw7244702936177187389:=0
def tw10167288291855636785:=0
def tw5040398680681132502:=0
def tw16003910409914825380:=0
def tw10203606450216973465:=0
def tw14856166247966854977:=0
def tw14373883979958254719:=0
def tw11659349752101027898:=0
def tw2801987313379210669:=0
def tw1300296380608041139:=0
def tw15063636664826187528:=0
def tw2532362077667530883:=0
def tw13638782308896970354:=0
def tw1469897526731670706:=0
def tw3637674933060861756:=0
def tw11800458290171387365:=0
def tw277414711740707043:=0
def tw14840928445081976386:=0
def tw2947250827606767110:=0
def tw2147423645905823901:=0
def tw18076969126387710906:=0
def tw16726722126580114870:=0
def tw16608828562766366114:=0
def tw3840726780628479846:=0
def tw17027303616826578341:=0
def tw11253991370959520810:=0
def tw5556616887542585556:=0
def tw981775227099720855:=0
def tw16910885350016738656:=0
def tw5104274251545492207:=0
def tw9708274243547920203:=0
def tw12816432994462441087:=0
def tw7362521192502112800:=0
def tw14591369552478154979:=0
def tw5940708930268224301:=0
def tw636690762017017510:=0
def tw11028332198950792562:=0
def tw2313038287194859866:=0
def tw590538381797586154:=0
def tw11562781154621327075:=0
def tw17179602356133657661:=0
def tw1704467551648720390:=0
def tw16367917215752529333:=0
def tw10502457070023817555:=0
def tw16276836698206830255:=0
def tw12200606450377550604:=0
def tw5659845487793445663:=0
def tw429887158588470845:=0
def tw7137309902186101434:=0
def tw4584089502910063053:=0
def tw14580794443142486655:=0
def tw12249857713295664672:=0
def tw2112768501542478594:=0
def tw14477655157483750715:=0
def tw12004277491293410248:=0
def tw5626263472955617267:=0
def tw4052680879084166365:=0
def tw1832596197980719760:=0
def tw7031340581616120279:=0
def tw6072405392627045049:=0
def tw507859780955461569:=0
def tw1537684180466134216:=0
def tw16306969687878099636:=0
def tw16866379298929528833:=0
def tw3370198789441483413:=0
def tw11564185235859812234:=0
def tw5131623371429598179:=0
def tw5062111875056741207:=0
def tw5322198429634892612:=0
def tw1948632484049995602:=0
def tw13600687647654802143:=0
def tw15237287621177422079:=0
def tw7588508376629756155:=0
def tw6904446320240908378:=0
def tw10900883439333576636:=0
def tw13489230298420802620:=0
def tw4819710155910129973:=0
def tw4290490848967683540:=0
def tw15099570102028531517:=0
def tw14498355577138004154:=0
def tw2510915164839484030:=0
def tw9077373795387620981:=0
def tw18224746470176350384:=0
def tw3034960893380425781:=0
def tw10328656382668106374:=0
def tw17948524834134987615:=0
def tw5373080425640394130:=0
def tw6103429294435590335:=0
def tw8608596762945391786:=0
def tw8832947332077829825:=0
def tw17789289075293433377:=0
def tw3425837855489355923:=0
def tw2970142415678756357:=0
def tw4606660585864684034:=0
def tw12417587686462152768:=0
def tw12440470082290958891:=0
def tw2776308628791325851:=0
def tw13366041033988105272:=0
def tw11754290604046247892:=0
def tw1540336547389126593:=0
def tw3773179515065992219:=0
def tw15098707291869376822:=0
def tw10575176297230576768:=0
def tw15242982013336568076:=0
def tw8872533368934415859:=0
def tw9210326324335942605:=0
def tw12241598684385054236:=0
def tw12478422396677111820:=0
def tw3127011945745283774:=0
def tw15537328731691000244:=0
def tw4517591869521523180:=0
def tw3627659707187557517:=0
def tw13573554788771320470:=0
def tw9045003615225061142:=0
def tw1226250592489819222:=0
def tw4487706380489953388:=0
def tw8700184952682671791:=0
def tw9775283108244564694:=0
def tw7715317999281173795:=0
def tw16156560453713933335:=0
def tw13723186169886661646:=0
def tw3433607921297057837:=0
def tw15140684317888845324:=0
def tw15731036018380926036:=0
def tw4825253849480776475:=0
def tw1227013281607927740:=0
def tw6353570949457768773:=0
def tw8944296484448751243:=0
def tw9209547110149353391:=0
def tw12051381612877677932:=0
def tw3082327224000888363:=0
def tw1660987844558211286:=0
def tw6607634457585832936:=0
def tw3246392541912256350:=0
def tw16931573017665740208:=0
def tw8115689538393973756:=0
def tw15394035414175137621:=0
def tw11149352777313403335:=0
def tw9786307888573038335:=0
def tw4115223924834137444:=0
def tw2684325737920380453:=0
def tw7785746182144072834:=0
def tw487648604339797084:=0
def tw1956228245164832565:=0
def tw14517819023071004891:=0
def tw9620035923794325154:=0
def tw9642344031818491291:=0
def tw16584291571200691687:=0
def tw1699455526286488357:=0
def tw16368808446754109096:=0
def tw12002278031178024196:=0
def tw1363768928613413866:=0
def tw14691862422690058450:=0
def tw67245956263720388:=0
def tw11810019350678592973:=0
def tw17569244846879036802:=0
def tw11757421364534669611:=0
def tw2230982086891020437:=0
def tw7269851878481473543:=0
def tw5896376822678200987:=0
def tw14015673537655351030:=0
def tw9839660261695009113:=0
def tw3766551888775435405:=0
def tw15244391857438136265:=0
def tw5771503137690107085:=0
def tw10652793934415204100:=0
def tw16388024136173312523:=0
def tw10039676280685354158:=0
def tw10133297199054002424:=0
def tw11262545133313591261:=0
def tw2802213326407044349:=0
def tw2470465259639035848:=0
def tw3162748167303469505:=0
def tw9638199978545018429:=0
def tw6366754788260537579:=0
def tw8062391167366505265:=0
def tw3268248005457978157:=0
def tw957892224099849688:=0
def tw16962147567758714774:=0
def tw7578893148746093745:=0
def tw4354174495309745232:=0
def tw17838812068223991425:=0
def tw17863872651448291803:=0
def tw4319049415911098103:=0
def tw16792220871139348749:=0
def tw1212203754014905622:=0
def tw3756196014956129872:=0
def tw15286186897028018904:=0
def tw5644160863344166856:=0
def tw13470883121769840184:=0
def tw16804253042138847516:=0
def tw10659912385354299715:=0
def tw15524403624995535564:=0
def tw16595867200338883867:=0
def tw1144485159355299277:=0
def tw8125988493651656900:=0
def tw18257282234345765920:=0
def tw7069844441418969684:=0
def tw14505908624249434165:=0
def tw18380707787263575338:=0
def tw12772987643828898087:=0
def tw10657373322811656682:=0
def tw1309677111344125829:=0
def tw17278330676468926896:=0
def tw2130863114653993122:=0
def tw15240544601984559700:=0
def tw11045745911244727064:=0
def tw901958748025845377:=0
def tw14669191436695910840:=0
def tw3891342241653734507:=0
def tw3567604599167140375:=0
def tw15894955020046716275:=0
def tw7194407690136035964:=0
def tw18080220929465087317:=0
def tw1120652013878289816:=0
def tw5534368016948488621:=0
def tw2739043005752382006:=0
def tw1841860078358731562:=0
def tw8416672004933997025:=0
def tw3389443804783855681:=0
def tw14214663091160083763:=0
def tw18053416058114073075:=0
def tw5315846572376351218:=0
def tw13417833331905875718:=0
def tw15830388757580668097:=0
def tw10375276215259295403:=0
def tw7890522596799579483:=0
def tw10939932999959117412:=0
def tw58390572981183817:=0
def tw1329530052343939464:=0
def tw3477635859442807033:=0
def tw677800997138850360:=0
def tw1006765737383930901:=0
def tw1498468029658530958:=0
def tw7176303526064370239:=0
def tw12525750353705750368:=0
def tw7440107283859420735:=0
def tw4079082513126491176:=0
def tw4296533566030758902:=0
def tw7191979492266300457:=0
def tw10227221809352860325:=0
def tw7677858406711527240:=0
def tw8325895638907941590:=0
def tw3282669944997770507:=0
def tw8901987595687341775:=0
def tw9350880315113020061:=0
def tw686669733479178112:=0
def tw16601697236977137956:=0
def tw4232518213307834315:=0
def tw11116310293830441965:=0
def tw12468060368460556173:=0
def tw2726472182571689397:=0
def tw12521140176214022153:=0
def tw4472173628485612461:=0
def tw10213075331426392681:=0
def tw13108642903305321923:=0
def tw7849328766282078432:=0
def tw9765557675824869826:=0
def tw4603327764888082236:=0
def tw9598852271818054747:=0
def tw17127891453995030645:=0
def tw6400775533895381007:=0
def tw2621879543931142875:=0
def tw6693761672462059771:=0
def tw16426703811420321353:=0
def tw3227341580841431656:=0
def tw15067180060959688072:=0
def tw2531466555346298458:=0
def tw17217073278405674861:=0
def tw15050768017440742435:=0
def tw17993975014991876853:=0
def tw8424055416781271344:=0
def tw2768240693911894898:=0
def tw11633675966410329044:=0
def tw6129885564356070723:=0
def tw13591944307319261875:=0
def tw16850603193735995758:=0
def tw14862765847666146804:=0
def tw3309725616760160390:=0
def tw8720615763163156115:=0
def tw5781096570638708525:=0
def tw13145821355996231512:=0
def tw2928598888107239000:=0
def tw8932248678356302232:=0
def tw417472829497703394:=0
def tw3065266299130763329:=0
def tw17333739457923786780:=0
def tw16637007717806231772:=0
def tw10059748939918009272:=0
def tw2492465054254711233:=0
def tw7709027485258330462:=0
def tw8373144307852899433:=0
def tw13892608213151305164:=0
def tw3467930462244900114:=0
end PySem.W.Fast
open PySem PySem.W PyProof.Rows
set_option maxRecDepth 100000 in
set_option maxHeartbeats 0 in
theorem PySem.Challenge.cw_putsigns_k51_texts_of_none_holds : PySem.Challenge.rw_putsigns_k51_texts_of_none.Holds := by
  w_on;o_law;k_head;(case hw=>w_witness2)
  k_fill
  refine Put.walk (l:=PySem.Challenge.rw_putsigns_k51_texts_of_none) rfl rfl ?hi (fun w h Y=>PySem.W.kIn_of Y) ?F
  case hi=>first|rfl|decide +kernel
  case F =>
    intro w mg fa h KX G hmg;refine' Put.all_mk KX G hmg ?q0 ?q1 ?q2 ?q3 ?q4 ?q5 ?q6 ?q7 ?q8 ?q9 ?q10 ?q11 ?q12 ?q13 ?q14 ?q15 ?q16 ?q17 ?q18 ?q19 ?q20 ?q21 ?q22 ?q23 ?q24 ?q25 ?q26 ?q27 ?q28 ?q29 ?q30 ?q31 ?q32 ?q33 ?q34 ?q35 ?q36 ?q37 ?q38 ?q39 ?q40 ?q41 ?q42 ?a43 ?l43 ?c43 ?k43 ?z_len ?z_isinstance ?z_int ?z_bool ?z_str ?z_tuple ?z_list ?z_sorted ?z_range ?z_repr ?z_enumerate ?z_sum ?z_all ?z_min ?z_max ?z_abs ?z_divmod ?z_dict ?z_set ?z_reversed ?z_any ?z_zip ?gM ?gS ?lS ?gFg ?gBl ?gMn ?gMs ?n_PutError ?n_NoRow ?n_NoSigns ?n_NoWay ?n_NoNumber ?n_NoPlace ?n_NoFit ?n_NoForm ?n_NoAsk ?n_NoHolds ?n_NoText ?n_TooMany ?z_ValueError ?l_PutError ?s_PutError ?t_PutError ?i_PutError ?l_NoText ?s_NoText ?t_NoText ?i_NoText ?f1_NoText ?f2_NoText ?f3_NoText ?f4_NoText ?f5_NoText ?f6_NoText ?c_NoRow ?y_NoRow ?c_NoSigns ?y_NoSigns ?c_NoWay ?y_NoWay ?c_NoNumber ?y_NoNumber ?c_NoPlace ?y_NoPlace ?c_NoFit ?y_NoFit ?c_NoForm ?y_NoForm ?c_NoAsk ?y_NoAsk ?c_NoHolds ?y_NoHolds ?c_NoText ?y_NoText ?c_TooMany ?y_TooMany ?u_NoText_NoRow ?d_NoText_NoRow ?u_NoText_NoSigns ?d_NoText_NoSigns ?u_NoText_NoWay ?d_NoText_NoWay ?u_NoText_NoNumber ?d_NoText_NoNumber ?u_NoText_NoPlace ?d_NoText_NoPlace ?u_NoText_NoFit ?d_NoText_NoFit ?u_NoText_NoForm ?d_NoText_NoForm ?u_NoText_NoAsk ?d_NoText_NoAsk ?u_NoText_NoHolds ?d_NoText_NoHolds ?u_NoText_TooMany ?d_NoText_TooMany
    (case q0=>exact L2.Fq.mk4 (by k_is) (by k_is) (by k_is) (by k_is))
    (case q1=>exact L2.Fq.mk4 (by k_is) (by k_is) (by k_is) (by k_is))
    (case q2=>exact L2.Fq.mk4 (by k_is) (by k_is) (by k_is) (by k_is))
    (case q3=>exact L2.Fq.mk4 (by k_is) (by k_is) (by k_is) (by k_is))
    (case q4=>exact L2.Fq.mk4 (by k_is) (by k_is) (by k_is) (by k_is))
    (case q5=>exact L2.Fq.mk4 (by k_is) (by k_is) (by k_is) (by k_is))
    (case q6=>exact L2.Fq.mk4 (by k_is) (by k_is) (by k_is) (by k_is))
    (case q7=>exact L2.Fq.mk4 (by k_is) (by k_is) (by k_is) (by k_is))
    (case q8=>exact L2.Fq.mk4 (by k_is) (by k_is) (by k_is) (by k_is))
    (case q9=>exact L2.Fq.mk4 (by k_is) (by k_is) (by k_is) (by k_is))
    (case q10=>exact L2.Fq.mk4 (by k_is) (by k_is) (by k_is) (by k_is))
    (case q11=>exact L2.Fq.mk4 (by k_is) (by k_is) (by k_is) (by k_is))
    (case q12=>exact L2.Fq.mk4 (by k_is) (by k_is) (by k_is) (by k_is))
    (case q13=>exact L2.Fq.mk4 (by k_is) (by k_is) (by k_is) (by k_is))
    (case q14=>exact L2.Fq.mk4 (by k_is) (by k_is) (by k_is) (by k_is))
    (case q15=>exact L2.Fq.mk4 (by k_is) (by k_is) (by k_is) (by k_is))
    (case q16=>exact L2.Fq.mk4 (by k_is) (by k_is) (by k_is) (by k_is))
    (case q17=>exact L2.Fq.mk4 (by k_is) (by k_is) (by k_is) (by k_is))
    (case q18=>exact L2.Fq.mk4 (by k_is) (by k_is) (by k_is) (by k_is))
    (case q19=>exact L2.Fq.mk4 (by k_is) (by k_is) (by k_is) (by k_is))
    (case q20=>exact L2.Fq.mk4 (by k_is) (by k_is) (by k_is) (by k_is))
    (case q21=>exact L2.Fq.mk4 (by k_is) (by k_is) (by k_is) (by k_is))
    (case q22=>exact L2.Fq.mk4 (by k_is) (by k_is) (by k_is) (by k_is))
    (case q23=>exact L2.Fq.mk4 (by k_is) (by k_is) (by k_is) (by k_is))
    (case q24=>exact L2.Fq.mk4 (by k_is) (by k_is) (by k_is) (by k_is))
    (case q25=>exact L2.Fq.mk4 (by k_is) (by k_is) (by k_is) (by k_is))
    (case q26=>exact L2.Fq.mk4 (by k_is) (by k_is) (by k_is) (by k_is))
    (case q27=>exact L2.Fq.mk4 (by k_is) (by k_is) (by k_is) (by k_is))
    (case q28=>exact L2.Fq.mk4 (by k_is) (by k_is) (by k_is) (by k_is))
    (case q29=>exact L2.Fq.mk4 (by k_is) (by k_is) (by k_is) (by k_is))
    (case q30=>exact L2.Fq.mk4 (by k_is) (by k_is) (by k_is) (by k_is))
    (case q31=>exact L2.Fq.mk4 (by k_is) (by k_is) (by k_is) (by k_is))
    (case q32=>exact L2.Fq.mk4 (by k_is) (by k_is) (by k_is) (by k_is))
    (case q33=>exact L2.Fq.mk4 (by k_is) (by k_is) (by k_is) (by k_is))
    (case q34=>exact L2.Fq.mk4 (by k_is) (by k_is) (by k_is) (by k_is))
    (case q35=>exact L2.Fq.mk4 (by k_is) (by k_is) (by k_is) (by k_is))
    (case q36=>exact L2.Fq.mk4 (by k_is) (by k_is) (by k_is) (by k_is))
    (case q37=>exact L2.Fq.mk4 (by k_is) (by k_is) (by k_is) (by k_is))
    (case q38=>exact L2.Fq.mk4 (by k_is) (by k_is) (by k_is) (by k_is))
    (case q39=>exact L2.Fq.mk4 (by k_is) (by k_is) (by k_is) (by k_is))
    (case q40=>exact L2.Fq.mk4 (by k_is) (by k_is) (by k_is) (by k_is))
    (case q41=>exact L2.Fq.mk4 (by k_is) (by k_is) (by k_is) (by k_is))
    (case q42=>exact L2.Fq.mk4 (by k_is) (by k_is) (by k_is) (by k_is))
    (case a43=>k_is)
    (case l43=>k_is)
    (case c43=>k_is)
    (case k43=>k_is)
    (case z_len=>k_is)
    (case z_isinstance=>k_is)
    (case z_int=>k_is)
    (case z_bool=>k_is)
    (case z_str=>k_is)
    (case z_tuple=>k_is)
    (case z_list=>k_is)
    (case z_sorted=>k_is)
    (case z_range=>k_is)
    (case z_repr=>k_is)
    (case z_enumerate=>k_is)
    (case z_sum=>k_is)
    (case z_all=>k_is)
    (case z_min=>k_is)
    (case z_max=>k_is)
    (case z_abs=>k_is)
    (case z_divmod=>k_is)
    (case z_dict=>k_is)
    (case z_set=>k_is)
    (case z_reversed=>k_is)
    (case z_any=>k_is)
    (case z_zip=>k_is)
    (case gM=>k_is)
    (case gS=>k_is)
    (case lS=>k_is)
    (case gFg=>k_is)
    (case gBl=>k_is)
    (case gMn=>k_is)
    (case gMs=>k_is)
    (case n_PutError=>k_is)
    (case n_NoRow=>k_is)
    (case n_NoSigns=>k_is)
    (case n_NoWay=>k_is)
    (case n_NoNumber=>k_is)
    (case n_NoPlace=>k_is)
    (case n_NoFit=>k_is)
    (case n_NoForm=>k_is)
    (case n_NoAsk=>k_is)
    (case n_NoHolds=>k_is)
    (case n_NoText=>k_is)
    (case n_TooMany=>k_is)
    (case z_ValueError=>k_is)
    (case l_PutError=>k_is)
    (case s_PutError=>k_is)
    (case t_PutError=>rfl)
    (case i_PutError=>rfl)
    (case l_NoText=>k_is)
    (case s_NoText=>k_is)
    (case t_NoText=>rfl)
    (case i_NoText=>rfl)
    (case f1_NoText=>k_is)
    (case f2_NoText=>k_is)
    (case f3_NoText=>k_is)
    (case f4_NoText=>k_is)
    (case f5_NoText=>k_is)
    (case f6_NoText=>k_is)
    (case c_NoRow=>k_is)
    (case y_NoRow=>k_is)
    (case c_NoSigns=>k_is)
    (case y_NoSigns=>k_is)
    (case c_NoWay=>k_is)
    (case y_NoWay=>k_is)
    (case c_NoNumber=>k_is)
    (case y_NoNumber=>k_is)
    (case c_NoPlace=>k_is)
    (case y_NoPlace=>k_is)
    (case c_NoFit=>k_is)
    (case y_NoFit=>k_is)
    (case c_NoForm=>k_is)
    (case y_NoForm=>k_is)
    (case c_NoAsk=>k_is)
    (case y_NoAsk=>k_is)
    (case c_NoHolds=>k_is)
    (case y_NoHolds=>k_is)
    (case c_NoText=>k_is)
    (case y_NoText=>k_is)
    (case c_TooMany=>k_is)
    (case y_TooMany=>k_is)
    (case u_NoText_NoRow=>k_is)
    (case d_NoText_NoRow=>rfl)
    (case u_NoText_NoSigns=>k_is)
    (case d_NoText_NoSigns=>rfl)
    (case u_NoText_NoWay=>k_is)
    (case d_NoText_NoWay=>rfl)
    (case u_NoText_NoNumber=>k_is)
    (case d_NoText_NoNumber=>rfl)
    (case u_NoText_NoPlace=>k_is)
    (case d_NoText_NoPlace=>rfl)
    (case u_NoText_NoFit=>k_is)
    (case d_NoText_NoFit=>rfl)
    (case u_NoText_NoForm=>k_is)
    (case d_NoText_NoForm=>rfl)
    (case u_NoText_NoAsk=>k_is)
    (case d_NoText_NoAsk=>rfl)
    (case u_NoText_NoHolds=>k_is)
    (case d_NoText_NoHolds=>rfl)
    (case u_NoText_TooMany=>k_is)
    (case d_NoText_TooMany=>rfl)

