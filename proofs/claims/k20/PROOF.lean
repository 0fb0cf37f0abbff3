import PyProof.Rows.All
import Wide.All
import OpenK.AllK
import Wide.FinOn
import Lean
import PyProof.EqAt
import PyProof.EqKinds
import PyProof.TupleCall
import PySem.Challenge.RW_putsigns_k20_refused_of_all_worths
open List renaming mem_append_right → aaa, replicate → aae, getElem?_eq_getElem → aaf, getElem?_eq_some_iff → aai, length_map → aak, size_toArray → aal, mem_of_getElem? → aan, mem_append → aao, mem_singleton → aar, mem_cons_of_mem → aaw, length_append → aax, mem_cons → aay, append_assoc → aaB, mem_append_left → aaC, getElem?_map → aaF, map_cons → aaG, mem_cons_self → aaH, take_add_one → aaJ, length_replicate → aaK, length_cons → aaO, length_take → aaV, all_eq_true → aa0, take_append_drop → aa2, drop_eq_getElem_cons → aa5, drop_of_length_le → aa8, length_nil → aba, map_append → abb, replicate_succ → abc, not_mem_nil → abe, take_of_length_le → abh, pairwise_iff_getElem → abk, length_drop → abl, perm_append_comm → abp, pairwise_append → abr, getElem?_append_right → abv, filterMap_cons → aby, getElem_of_mem → abz, extract_eq_drop_take → abA, take_length → abE, mem_of_mem_take → abF, getElem?_eq_none → abN, mem_of_mem_drop → abS, flatten_cons → abU, nil_append → abV, cons_append → abZ, range → ab0, append_nil → ab8, find?_cons → ab9, getD_eq_getElem?_getD → acb, drop_drop → ace, getElem?_append_left → acf, eq_of_mem_replicate → acj, getElem?_take_of_lt → ack, map_nil → acl, getElem?_drop → acq, Nodup → acw, mem_range → acy, length_singleton → acA, map_map → acB, mem_map → acC, any_cons → acG, map_take → acH, nodup_cons → acJ
open PySem.W renaming Frag → aab, subIn → aaj, nsIn → aav, mg_none_of → aaz, kitOne → aaI, mg_of → aaM, findIn → aaP, clsIn → aaZ, kia_one → aa4, keepIn → aa6, fnOf → abd, typeIn → abf, codeIn → abI, cellsFrom_some → acv, Looks → acI
open PySem.Heap renaming get?_push_of_some → aac, lt_size → aag, get?_push_size → aap, SameBut → abt, get?_update_other → abw, get?_update_self → abC, size_push → acd
open Nat renaming le_refl → aad, lt_of_lt_of_le → aaq, ne_of_lt → aas, le_trans → aaL, ne_of_gt → aaT, zero_le → aa1, lt_irrefl → abm, zero_add → abD, lt_succ_of_lt → abL, le_add_right → abM, mul_le_mul → abP, mul_le_mul_right → abT, succ_mul → abX, le_succ → acx, lt_succ_self → acE, not_le → acK
open Bool renaming false_ne_true → aah, false_eq_true → aaU, and_eq_true → acg, not_true → acF
open Array renaming length_toList → aam, toList_push → aat, toList_append → aau, getElem?_toList → aaS, getElem?_eq_getElem → abO, toList_extract → abR, getElem?_eq_none → ab2
open PyProof.Rows renaming boot_isinstance → aaA, callWith_type1 → aca, boot_list → act
open PySem.PyData renaming depth → aaD, depthAll → aaE, showable → abq, shownAll → abW, showableAll → acr
open Option.some renaming inj → aaN
open PySem.F renaming slot_dict_itemiterator_next → aaQ, plain_min_loop → abj, args_dict_itemiterator_next_1 → abx, entry_dict_itemiterator_next → abB, slot_dict_keyiterator_next → abG, plainAttrs_list → abH, slot_dict_items → abY, slot_list_append → acn, type_list_append → aco, plainAttrs_dict → acs, entry_min_loop → acu, typeOf_object_class → acz, slot_dict_get → acD
open PySem.Obj renaming mapSeq → aaR
open PySem.PassesOwn renaming never → aaW
open PySem.Heap.SameBut renaming update → aaX
open PySem.Builtin.Dict_items renaming ownsTuple → aaY, ownedTupleIsFree → abn, pairFromOwner → abu, ownedTupleFields → ach
open Ne renaming symm → aa3
open Int renaming le_refl → aa7, toNat_natCast → abK
open PySem.Paired renaming length → aa9
open False renaming elim → abg
open Option renaming map_eq_some_iff → abi, isSome_iff_exists → acm
open PySem renaming mem_of_lookup → abo, boot_len → ab1
open PySem.Str renaming ofString → abJ
open PySem.Around renaming under_plainId → abQ
open PySem.Calls renaming callWith_builtin → ab3, spliced_cons → acp
open List.Perm renaming append_right → ab4, append_left → ab7
open PySem.Builtin.Dict renaming showsAll → ab5
open PySem.Builtin.List renaming listExtendWith → ab6, listTooLong → aci
set_option Elab.async false
set_option linter.all false
set_option maxRecDepth 100000
namespace L2
open PySem PySem.Spec PyProof.Rows
abbrev Key:=Sum Int Str
def iC:Key→Value→Bool
  | .inl k,v=>Value.isInt k v
  | .inr x,v=>Value.isStrOf x v
def uR (w:World):Key→Int
  | .inl k=>hashInt k
  | .inr x=>hashStr w x
theorem aK:∀ {k:Key} {v:Value},iC k v=true→(∃ i t,k=Sum.inl i∧v=Value.int i t)∨(∃ x t,k=Sum.inr x∧v=Value.str x t)
  | .inl i,v,h=>by
    obtain ⟨t,e⟩:=Value.isInt_shape (k:=i) (v:=v) h;exact .inl ⟨i,t,rfl,e⟩
  | .inr x,v,h=>by
    obtain ⟨t,e⟩:=Value.isStrOf_shape (x:=x) (v:=v) h;exact .inr ⟨x,t,rfl,e⟩
theorem oC (i:Int) (t:Tok):iC (.inl i) (.int i t)=true:=by simp [iC,Value.isInt]
theorem oA (x:Str) (t:Tok):iC (.inr x) (.str x t)=true:=by simp [iC,Value.isStrOf]
theorem sV (a b:Int):decide ((Sum.inl a:Key)=Sum.inl b)=(a == b):=by
  by_cases e:a=b
  · subst e;simp
  · have h:¬ (Sum.inl a:Key)=Sum.inl b:=fun q=>e (Sum.inl.inj q);rw [decide_eq_false h];exact (beq_eq_false_iff_ne.mpr e).symm
theorem sS (a b:Str):decide ((Sum.inr a:Key)=Sum.inr b)=decide (a=b):=by
  by_cases e:a=b
  · subst e;simp
  · have h:¬ (Sum.inr a:Key)=Sum.inr b:=fun q=>e (Sum.inr.inj q);rw [decide_eq_false h,decide_eq_false e]
theorem sU (a:Int) (b:Str):decide ((Sum.inl a:Key)=Sum.inr b)=false:=decide_eq_false (fun q=>nomatch q)
theorem sT (a:Str) (b:Int):decide ((Sum.inr a:Key)=Sum.inl b)=false:=decide_eq_false (fun q=>nomatch q)
def aG (prog:Program) (w:World):PySem.KeyKind prog w Key where
  is:=iC
  hash:=uR w
  inj:=fun v a b ha hb=>by
    rcases aK ha with ⟨i,t,rfl,rfl⟩|⟨x,t,rfl,rfl⟩
    · rcases aK hb with ⟨j,u,rfl,e⟩|⟨y,u,rfl,e⟩
      · injection e with e1 _;rw [e1]
      · exact nomatch e
    · rcases aK hb with ⟨j,u,rfl,e⟩|⟨y,u,rfl,e⟩
      · exact nomatch e
      · injection e with e1 _;rw [e1]
  byValue:=fun k v h=>by
    rcases aK h with ⟨i,t,rfl,rfl⟩|⟨x,t,rfl,rfl⟩ <;> rfl
  pyHash:=fun hv h=>by
    rcases aK hv with ⟨i,t,rfl,rfl⟩|⟨x,t,rfl,rfl⟩
    · exact wpAny_pyHash_int h
    · exact wpAny_pyHash_str h
  eqBool:=fun hu hv h=>by
    rcases aK hu with ⟨i,t,rfl,rfl⟩|⟨x,t,rfl,rfl⟩
    · rcases aK hv with ⟨j,u,rfl,rfl⟩|⟨y,u,rfl,rfl⟩
      · rw [sV] at h;exact wpAny_eqBool_int h
      · rw [sU] at h;exact SeqAt.EqAt.int_str i t y u _ _ _ _ h
    · rcases aK hv with ⟨j,u,rfl,rfl⟩|⟨y,u,rfl,rfl⟩
      · rw [sT] at h;exact SeqAt.EqAt.str_int x t j u _ _ _ _ h
      · rw [sS] at h;exact wpAny_eqBool_str h
  «strs»:=fun k x t v h=>by
    rcases aK h with ⟨i,u,rfl,e⟩|⟨y,u,rfl,e⟩
    · exact nomatch e
    · injection e with e1 _
      subst e1;cases v <;> rfl
theorem ml (prog:Program) (w:World) (k:Key) (v:Value):(aG prog w).is k v=iC k v:=rfl
theorem k9 (prog:Program) (w:World) (i:Int) (t:Tok):(aG prog w).is (.inl i) (.int i t)=true:=oC i t
theorem kZ (prog:Program) (w:World) (x:Str) (t:Tok):(aG prog w).is (.inr x) (.str x t)=true:=oA x t
open PySem PySem.Spec PyProof.Rows
inductive V where
  | non|bl (b:Bool)|int (i:Int)|str (x:Str)|byt (b:Array UInt8)|flt (b:UInt64)|ref (a:Addr)|ty (n:String)
  deriving DecidableEq
def RelV:V→Value→Prop
  | .non,u=>u=Value.none
  | .bl b,u=>u=Value.bool b
  | .int i,u=>∃ t,u=Value.int i t
  | .str x,u=>∃ t,u=Value.str x t
  | .byt b,u=>∃ t,u=Value.bytes b t
  | .flt b,u=>∃ t,u=Value.float b t
  | .ref a,u=>u=Value.ref a
  | .ty n,u=>u=Value.type n
abbrev Vals:List V→List Value→Prop:=Paired RelV
theorem Vals.length {xs:List V} {us:List Value} (r:Vals xs us):xs.length=us.length:=aa9 r
theorem Vals.get:∀ {xs:List V} {us:List Value} {i:Nat} {x:V},Vals xs us→xs[i]?=some x→∃ u,us[i]?=some u∧RelV x u
  | _,_,_,_,.nil,e=>by simp at e
  | _,_,0,_,.cons r _,e=>by simp at e;subst e;exact ⟨_,rfl,r⟩
  | _,_,i+1,x,.cons _ t,e=>by
    obtain ⟨u,h1,h2⟩:=Vals.get (i:=i) (x:=x) t (by simpa using e);exact ⟨u,by simpa using h1,h2⟩
theorem Vals.set {x:V} {u:Value} (r:RelV x u):∀ {xs:List V} {us:List Value} (i:Nat),Vals xs us→Vals (xs.set i x) (us.set i u)
  | _,_,_,.nil=>.nil
  | _,_,0,.cons _ t=>.cons r t
  | _,_,i+1,.cons q t=>.cons q (Vals.set r i t)
theorem Vals.append:∀ {xs ys:List V} {us ws:List Value},Vals xs us→Vals ys ws→Vals (xs++ys) (us++ws)
  | _,_,_,_,.nil,s=>s
  | _,_,_,_,.cons r t,s=>.cons r (Vals.append t s)
theorem Vals.take:∀ {xs:List V} {us:List Value} (n:Nat),Vals xs us→Vals (xs.take n) (us.take n)
  | _,_,0,_=>.nil
  | _,_,_+1,.nil=>.nil
  | _,_,n+1,.cons r t=>.cons r (Vals.take n t)
theorem Vals.drop:∀ {xs:List V} {us:List Value} (n:Nat),Vals xs us→Vals (xs.drop n) (us.drop n)
  | _,_,0,r=>r
  | _,_,_+1,.nil=>.nil
  | _,_,n+1,.cons _ t=>Vals.drop n t
def RelO:Option V→Option Value→Prop
  | some v,some u=>RelV v u
  | none,none=>True
  | _,_=>False
def KV {κ:Type}:List (κ × V)→List (κ × Value)→Prop:=Paired fun (p:κ × V) (q:κ × Value)=>p.1=q.1∧RelV p.2 q.2
def kV:Key→V
  | .inl i=>.int i
  | .inr x=>.str x
inductive HO where
  | lst (xs:List V)
  | tup (xs:List V)
  | dK (kvs:List (Key × V))|dT (kvs:List (List Key × V))
  | set (S:Int→Bool) (n:Nat)
  | ins (C dx:Addr) (fs:List (Str × V))
  | own (x:Addr)
  | xd (fs:List (Str × V))
  | met (f x:Addr)
  | rng (lo hi:Int)
  | frz (o:Obj) (u:HO)
  | tbl (ps:Array Value)
  | ext (φ:Heap→Prop)
abbrev Hp:=Addr→Option HO
def upd (H:Hp) (a:Addr) (o:HO):Hp:=fun b=>if b=a then some o else H b
theorem ad {H:Hp} {a:Addr} {o:HO}:upd H a o a=some o:=by unfold upd;rw [if_pos rfl]
theorem aj {H:Hp} {a b:Addr} {o:HO} (h:b≠a):upd H a o b=H b:=by unfold upd;rw [if_neg h]
theorem uf {H:Hp} {a b:Addr} {o u:HO} (h:H a=some o) (h':H b=some u) (d:o≠u):a≠b:=by
  intro e;subst e;rw [h] at h';exact d (aaN h')
theorem ah {H:Hp} {a b:Addr} {o:HO} (h:H a=some o) (h':H b=none):a≠b:=by
  intro e;subst e;rw [h] at h';cases h'
section
variable (P:Program) (w:World)
def ObjOk (H:Hp) (h:Heap) (a:Addr):HO→Prop
  | .lst xs=>xs.length≤sizeLine∧∃ (its:List Value) (n:Nat),Vals xs its∧h.get? a=some { cls:=.type "list",data:=.seq its.toArray n }
  | .tup xs=>xs.length≤sizeLine∧∃ its:List Value,Vals xs its∧IsTup h a its.toArray
  | .dK kvs=>kvs.length≤sizeLine∧(a == sysModules)=false∧∃ vs,KV kvs vs∧h.DictOf (aG P w) a vs
  | .dT kvs=>kvs.length≤sizeLine∧(a == sysModules)=false∧∃ xs:List (List Key × Addr × Value),
      Paired (fun (p:List Key × V) (q:List Key × Addr × Value)=>p.1=q.1∧H q.2.1=some (.tup (p.1.map kV))∧RelV p.2 q.2.2) kvs xs ∧
      ∃ o es ep,h.get? a=some o∧o.ExactDict∧o.data=.dict es ep∧es.toList=xs.map (entryOfKey (tupleKind (aG P w)))∧(xs.map (·.1)).Nodup
  | .set S n=>h.SetOf (intKind P w) a S n
  | .ins C dx fs=>H dx=some (.own a)∧fs.length≤1000∧dx≠a∧h.get? a=some (PySem.W.instObj C dx) ∧
      ∃ mA,h.Ns1 dx mA∧(∀ f,RelO (fs.lookup f) (mA f))∧PySem.Within mA (fs.map (·.1))
  | .own _=>∃ o,h.get? a=some o
  | .xd fs=>∃ mA,h.Ns1 a mA∧∀ f,RelO (fs.lookup f) (mA f)
  | .rng lo hi=>∃ t u v,h.get? a=some { cls:=.type "range",data:=.fields #[.int lo t,.int hi u,.int 1 v] }
  | .frz o u=>h.get? a=some o∧ObjOk H h a u
  | .tbl ps=>h.get? a=some { cls:=.none,data:=.fields ps }
  | .met f x=>h.get? a=some (PySem.W.methodObj (.ref f) (.ref x))
  | .ext φ=>φ h∧(∃ o,h.get? a=some o)∧∀ h1 h2:Heap,φ h1→(∀ o,h1.get? a=some o→h2.get? a=some o)→φ h2
def HOk (H:Hp) (h:Heap):Prop:=∀ a o,H a=some o→ObjOk P w H h a o
end
section
variable {P:Program} {w:World} {H H':Hp} {h h':Heap} {a:Addr} {o:HO}
theorem ObjOk.lt (x:ObjOk P w H h a o):a < h.objs.size:=by
  cases o with
  | lst xs=>obtain ⟨_,_,_,_,e⟩:=x;exact aag e
  | tup xs=>obtain ⟨_,_,_,p⟩:=x;exact p.lt
  | dK kvs=>obtain ⟨_,_,_,_,o,_,_,e,_⟩:=x;exact aag e
  | dT kvs=>obtain ⟨_,_,_,_,o,_,_,e,_⟩:=x;exact aag e
  | set S n=>obtain ⟨o,_,_,_,e,_⟩:=x;exact aag e
  | ins C dx fs=>obtain ⟨_,_,_,e,_⟩:=x;exact aag e
  | own y=>obtain ⟨_,e⟩:=x;exact aag e
  | xd fs=>obtain ⟨_,⟨_,_,_,e,_⟩,_⟩:=x;exact aag e
  | rng lo hi=>obtain ⟨_,_,_,e⟩:=x;exact aag e
  | frz ob u=>obtain ⟨e,_⟩:=x;exact aag e
  | tbl ps=>exact aag (show h.get? a=some _ from x)
  | met f y=>exact aag (show h.get? a=some _ from x)
  | ext φ=>obtain ⟨_,⟨_,e⟩,_⟩:=x;exact aag e
theorem Paired.mapP {α β:Type} {F G:α→β→Prop}:∀ {l₁:List α} {l₂:List β},Paired F l₁ l₂→(∀ a b,F a b→G a b)→Paired G l₁ l₂
  | _,_,.nil,_=>.nil
  | _,_,.cons r t,f=>.cons (f _ _ r) (Paired.mapP t f)
theorem ObjOk.stay (x:ObjOk P w H h a o) (k:∀ b u,(b=a∨H b=some (.own a))→h.get? b=some u→h'.get? b=some u)
    (ho:∀ b,H b=some (.own a)→H' b=some (.own a)) (ht:∀ b xs,H b=some (.tup xs)→H' b=some (.tup xs)):ObjOk P w H' h' a o:=by
  induction o with
  | lst xs=>obtain ⟨z,its,n,r,e⟩:=x;exact ⟨z,its,n,r,k _ _ (.inl rfl) e⟩
  | tup xs=>obtain ⟨z,its,r,ob,e,c⟩:=x;exact ⟨z,its,r,ob,k _ _ (.inl rfl) e,c⟩
  | dK kvs=>obtain ⟨z,y,vs,r,ob,es,ep,e,c⟩:=x;exact ⟨z,y,vs,r,ob,es,ep,k _ _ (.inl rfl) e,c⟩
  | dT kvs =>
    obtain ⟨z,y,xs,r,ob,es,ep,e,c⟩:=x;exact ⟨z,y,xs,Paired.mapP r fun p q z=>⟨z.1,ht _ _ z.2.1,z.2.2⟩,ob,es,ep,k _ _ (.inl rfl) e,c⟩
  | set S n=>obtain ⟨ob,es,ep,t,e,c⟩:=x;exact ⟨ob,es,ep,t,k _ _ (.inl rfl) e,c⟩
  | ins C dx fs =>
    obtain ⟨d,z,ne,e,mA,⟨od,es,ep,e2,c⟩,r⟩:=x;exact ⟨ho _ d,z,ne,k _ _ (.inl rfl) e,mA,⟨od,es,ep,k _ _ (.inr d) e2,c⟩,r⟩
  | own y=>obtain ⟨ob,e⟩:=x;exact ⟨ob,k _ _ (.inl rfl) e⟩
  | xd fs=>obtain ⟨mA,⟨od,es,ep,e,c⟩,r⟩:=x;exact ⟨mA,⟨od,es,ep,k _ _ (.inl rfl) e,c⟩,r⟩
  | rng lo hi=>obtain ⟨t,u,v,e⟩:=x;exact ⟨t,u,v,k _ _ (.inl rfl) e⟩
  | frz ob u ih=>obtain ⟨e,q⟩:=x;exact ⟨k _ _ (.inl rfl) e,ih q⟩
  | tbl ps =>
    have e:h.get? a=some { cls:=.none,data:=.fields ps }:=x;show h'.get? a=some { cls:=.none,data:=.fields ps };exact k a _ (.inl rfl) e
  | met f y =>
    have e:h.get? a=some (PySem.W.methodObj (.ref f) (.ref y)):=x;show h'.get? a=some (PySem.W.methodObj (.ref f) (.ref y));exact k a _ (.inl rfl) e
  | ext φ=>obtain ⟨p,⟨o,e⟩,st⟩:=x;exact ⟨st _ _ p fun o q=>k _ _ (.inl rfl) q,⟨o,k _ _ (.inl rfl) e⟩,st⟩
theorem HOk.lt (x:HOk P w H h) (e:H a=some o):a < h.objs.size:=(x a o e).lt
theorem HOk.fresh (x:HOk P w H h) (e:h.objs.size≤a):H a=none:=by
  cases q:H a with
  | none=>rfl
  | some u=>exact absurd (aaq (x.lt q) e) (abm _)
theorem HOk.kept (x:HOk P w H h) (k:∀ b u,h.get? b=some u→h'.get? b=some u):HOk P w H h':=fun a o e =>
  (x a o e).stay (fun b u _ q=>k b u q) (fun _ q=>q) fun _ _ q=>q
theorem HOk.laid (x:HOk P w H h) (k:∀ b u,h.get? b=some u→h'.get? b=some u) (hp:h.objs.size≤a) (new:ObjOk P w (upd H a o) h' a o):HOk P w (upd H a o) h':=fun b u e=>by
  have hn:=x.fresh hp;by_cases hb:b=a
  · subst hb;rw [ad] at e;cases e;exact new
  · rw [aj hb] at e;exact (x b u e).stay (fun c v _ q=>k c v q) (fun c q=>by rw [aj (ah q hn)];exact q) fun c xs q=>by rw [aj (ah q hn)];exact q
end
def Rd (H:Hp) (a:Addr) (u:HO):Prop:=H a=some u∨∃ o,H a=some (.frz o u)
theorem Rd.ok {P:Program} {w:World} {H:Hp} {h:Heap} {a:Addr} {u:HO} (r:Rd H a u) (x:HOk P w H h):ObjOk P w H h a u:=by
  rcases r with r|⟨o,r⟩
  · exact x a u r
  · obtain ⟨_,q⟩:=x a _ r;exact q
def Mut:Option HO→Prop
  | some (.lst _)=>True
  | some (.dK _)=>True
  | some (.dT _)=>True
  | some (.set _ _)=>True
  | some (.ins _ _ _)=>True
  | some (.ext _)=>True
  | _=>False
section
variable {P:Program} {w:World} {H:Hp} {h h':Heap} {x e:Addr} {o':HO}
theorem HOk.write (ok:HOk P w H h) (mu:Mut (H x)) (he:e=x∨H e=some (.own x)) (k:∀ b u,b≠e→h.get? b=some u→h'.get? b=some u) (heo:∃ u,h'.get? e=some u)
    (new:ObjOk P w (upd H x o') h' x o'):HOk P w (upd H x o') h':=fun b u q=>by
  have nown:∀ c y,H c=some (.own y)→c≠x:=fun c y r z=>by subst z;rw [r] at mu;exact mu
  have ntup:∀ c xs,H c=some (.tup xs)→c≠x:=fun c xs r z=>by subst z;rw [r] at mu;exact mu
  by_cases hb:b=x
  · subst hb;rw [ad] at q;cases q;exact new
  · rw [aj hb] at q;by_cases hbe:b=e
    · have q':H b=some (.own x):=by
        rcases he with z|z
        · exact absurd (hbe.trans z) hb
        · rw [hbe];exact z
      rw [q] at q';cases q';obtain ⟨v,hv⟩:=heo;exact ⟨v,by rw [hbe];exact hv⟩
    · refine (ok b u q).stay (fun c v hc r=>k c v ?_ r) (fun c r=>by rw [aj (nown c b r)];exact r) fun c xs r=>by rw [aj (ntup c xs r)];exact r
      rcases hc with rfl|hc
      · exact hbe
      · rintro rfl;rcases he with z|z
        · exact nown c b hc z
        · rw [hc] at z;cases z;exact hb rfl
end
structure Un (fs ex:List Addr) (H H':Hp) (h h':Heap):Prop where
  keep:∀ b o,h.get? b=some o→H b=none→b∉fs→b∉ex→h'.get? b=some o
  slot:∀ b o,h.get? b=some o→H b=none→b∈fs→b∉ex→∃ sl,h'.get? b=some { o with slots:=sl }
  free:∀ b o,h.get? b=some o→H b=none→b∉ex→H' b=none
  there:∀ b o,h.get? b=some o→b∉ex→∃ o',h'.get? b=some o'
  tups:∀ b xs,H b=some (.tup xs)→H' b=some (.tup xs)
  frzs:∀ b o u,H b=some (.frz o u)→H' b=some (.frz o u)
  tbls:∀ b ps,H b=some (.tbl ps)→∃ more,H' b=some (.tbl (ps++more))
section
variable {fs fs' ex ex':List Addr} {H H1 H2:Hp} {h h1 h2 h':Heap} {a x e:Addr} {o:HO}
theorem Un.any (u:Un fs ex H H1 h h1) {b:Addr} {ob:Obj} (q:h.get? b=some ob) (n:H b=none) (hx:b∉ex):∃ sl,h1.get? b=some { ob with slots:=sl }:=by
  by_cases hb:b∈fs
  · exact u.slot b ob q n hb hx
  · exact ⟨ob.slots,u.keep b ob q n hb hx⟩
theorem Un.trans (a:Un fs ex H H1 h h1) (b:Un fs ex H1 H2 h1 h2):Un fs ex H H2 h h2 where
  keep:=fun c ob q n hc hx=>b.keep c ob (a.keep c ob q n hc hx) (a.free c ob q n hx) hc hx
  slot:=fun c ob q n hc hx=>by
    obtain ⟨sl,e1⟩:=a.slot c ob q n hc hx;obtain ⟨sl',e2⟩:=b.slot c _ e1 (a.free c ob q n hx) hc hx;exact ⟨sl',e2⟩
  free:=fun c ob q n hx=>by
    obtain ⟨o',e1⟩:=a.there c ob q hx;exact b.free c o' e1 (a.free c ob q n hx) hx
  there:=fun c ob q hx=>by
    obtain ⟨o',e1⟩:=a.there c ob q hx;exact b.there c o' e1 hx
  tups:=fun c xs q=>b.tups c xs (a.tups c xs q)
  frzs:=fun c ob xs q=>b.frzs c ob xs (a.frzs c ob xs q)
  tbls:=fun c ps q=>by
    obtain ⟨m1,e1⟩:=a.tbls c ps q;obtain ⟨m2,e2⟩:=b.tbls c _ e1;exact ⟨m1++m2,by rw [e2,Array.append_assoc]⟩
theorem Un.kept (k:∀ b u,h.get? b=some u→h'.get? b=some u):Un fs ex H H h h' :=
  ⟨fun b ob q _ _ _=>k b ob q,fun b ob q _ _ _=>⟨ob.slots,k b ob q⟩,fun _ _ _ n _=>n,fun b ob q _=>⟨ob,k b ob q⟩,fun _ _ q=>q,fun _ _ _ q=>q,fun _ ps q=>⟨#[],by rw [q];simp⟩⟩
theorem Un.refl:Un fs ex H H h h:=Un.kept fun _ _ q=>q
theorem Un.laid (k:∀ b u,h.get? b=some u→h'.get? b=some u) (hp:h.objs.size≤a) (hn:H a=none):Un fs ex H (upd H a o) h h' where
  keep:=fun b u q _ _ _=>k b u q
  slot:=fun b u q _ _ _=>⟨u.slots,k b u q⟩
  free:=fun b u q n _=>by rw [aj (aas (aaq (aag q) hp))];exact n
  there:=fun b u q _=>⟨u,k b u q⟩
  tups:=fun b xs q=>by rw [aj (ah q hn)];exact q
  frzs:=fun b u xs q=>by rw [aj (ah q hn)];exact q
  tbls:=fun b ps q=>⟨#[],by rw [aj (ah q hn),q];simp⟩
theorem Un.write (mu:Mut (H x)) (he:e=x∨H e=some (.own x)) (k:∀ b u,b≠e→h.get? b=some u→h'.get? b=some u) (heo:∃ u,h'.get? e=some u):Un fs ex H (upd H x o) h h':=by
  have hx:∀ b,H b=none→b≠x:=fun b n z=>by subst z;rw [n] at mu;exact mu
  have hb:∀ b,H b=none→b≠e:=fun b n z=>by
    subst z;rcases he with r|r
    · exact hx b n r
    · rw [n] at r;cases r
  have hm:∀ b u,H b=some u→¬ Mut (some u)→b≠x:=fun b u q nm z=>by subst z;rw [q] at mu;exact nm mu
  refine ⟨fun b u q n _ _=>k b u (hb b n) q,fun b u q n _ _=>⟨u.slots,k b u (hb b n) q⟩,fun b u q n _=>by rw [aj (hx b n)];exact n,fun b u q _=>?_,
    fun b xs q=>by rw [aj (hm b _ q fun z=>z)];exact q,fun b u xs q=>by rw [aj (hm b _ q fun z=>z)];exact q,fun b ps q=>⟨#[],by rw [aj (hm b _ q fun z=>z),q];simp⟩⟩
  by_cases hbe:b=e
  · subst hbe;exact heo
  · exact ⟨u,k b u hbe q⟩
theorem Un.mono (u:Un fs ex H H1 h h1) (hs:∀ b∈fs,b∈fs') (hx:∀ b∈ex,b∈ex'):Un fs' ex' H H1 h h1 :=
  ⟨fun b ob q n hb he=>u.keep b ob q n (fun z=>hb (hs b z)) fun z=>he (hx b z),fun _ _ q n _ he=>u.any q n fun z=>he (hx _ z),fun b ob q n he=>u.free b ob q n fun z=>he (hx b z),fun b ob q he=>u.there b ob q fun z=>he (hx b z),u.tups,u.frzs,u.tbls⟩
end
def trk (h:Heap) (H:Hp):List Addr:=(ab0 h.objs.size).filter fun a=>(H a).isSome
def i7 (h:Heap) (H:Hp):Heap:=PySem.W.hideAll h (trk h H)
theorem oE (h:Heap) (H:Hp):(i7 h H).objs.size=h.objs.size:=PySem.W.hideAll_size _ _
theorem qk {h:Heap} {H:Hp} {b:Addr} {o:Obj} (e:h.get? b=some o) (n:H b=none):(i7 h H).get? b=some o :=
  PySem.W.hideAll_get _ e fun hm=>by
    have q:(H b).isSome=true:=(List.mem_filter.mp hm).2;rw [n] at q;simp at q
theorem q_ {h:Heap} {H:Hp} {b:Addr} {o:Obj} (e:(i7 h H).get? b=some o):h.get? b=some o∧H b=none:=by
  have e':h.get? b=some o:=PySem.W.of_hideAll (trk h H) e;refine ⟨e',?_⟩;cases q:H b with
  | none=>rfl
  | some x =>
    have hm:b∈trk h H:=List.mem_filter.mpr ⟨acy.mpr (aag e'),by simp [q]⟩;have z:(i7 h H).get? b=none:=PySem.W.hideAll_none (trk h H) hm;rw [z] at e;cases e
def eE (g h:Heap) (L:Addr):List (Addr × Obj):=(ab0 h.objs.size).filterMap fun a=>if a=L∨(g.get? a).isSome=true then none else (h.get? a).map fun o=>(a,o)
theorem gG {g h:Heap} {L a:Addr} {o:Obj} (h1:a≠L) (h2:g.get? a=none) (h3:h.get? a=some o):(a,o)∈eE g h L :=
  List.mem_filterMap.mpr ⟨a,acy.mpr (aag h3),by simp [h1,h2,h3]⟩
theorem ip {g h:Heap} {L:Addr} {p:Addr × Obj} (hp:p∈eE g h L):p.1≠L∧g.get? p.1=none∧h.get? p.1=some p.2:=by
  obtain ⟨b,_,e⟩:=List.mem_filterMap.mp hp;split at e
  · cases e
  · rename_i hn;cases q:h.get? b with
    | none=>rw [q] at e;simp at e
    | some u =>
      rw [q] at e;simp only [Option.map_some,Option.some.injEq] at e;subst e;refine ⟨fun z=>hn (.inl z),?_,q⟩;show g.get? b=none;cases r:g.get? b with
      | none=>rfl
      | some v=>exact (hn (.inr (by simp [r]))).elim
def bx (g h:Heap) (L d:Addr):List (Addr × Obj):=(eE g h L).filter fun p=>decide (p.1≠d)
theorem pW {g h:Heap} {L:Addr}:News g L h (eE g h L):=fun p hp=>let ⟨a,b,c⟩:=ip hp;⟨c,a,b⟩
open PySem PySem.Spec PyProof.Rows
structure Mod (K:aab) (mg:Str→Option Value) (base:Heap):Prop where
  kin:K.In base
  glob:base.Ns mainGlobals mg
  blt:∃ mb,base.Ns builtinsNs mb∧∀ x:Str,x ≠ "__name__"→mb x=bootBuiltins x
  nolimit:base.NoLimit
  sysm:∃ mm,base.Ns sysModules mm
structure Cx where
  prog:Program
  w:World
  K:aab
  mg:Str→Option Value
  base:Heap
  A:Around
  N:List Str
  s₀:Shared
  H₀:Hp
  env:Env
  outer:List Env
  stack:List Env
  ex:List Addr
  fn:Str→Bool
  calm:Bool
  pn:List (Addr × Obj)
  xe:Value→Shared→Prop
def frs (l:List Env):List Addr:=l.filterMap (·.frame)
abbrev Cx.fs (X:Cx):List Addr:=frs X.outer
def Vis (sc:Scope) (x:Str):Prop:=sc.names.lookup x=some .local∨sc.names.lookup x=some .cell∨sc.names.lookup x=some .free
def Loc (sc:Scope) (x:Str):Prop:=sc.names.lookup x=some .local∨sc.names.lookup x=some .cell
def uw (env:Env) (h:Heap) (m:Str→Option Value) (x:Str) (u:Value):Prop :=
  (env.kindOf x=some .local∧m x=some u)∨((env.kindOf x=some .cell∨env.kindOf x=some .free)∧∃ c,env.cells.lookup x=some c∧h.IsCell c (some u))
structure Cx.Ok (X:Cx):Prop where
  mod:Mod X.K X.mg X.base
  kind:X.env.scope.kind=.function
  glob:X.env.globals=mainGlobals
  blt:X.env.builtins=builtinsNs
  above:X.s₀.heap.objs.size≤X.env.locals
  inj:∀ x y c,X.env.cells.lookup x=some c→X.env.cells.lookup y=some c→x=y
  has:∀ x,(X.env.kindOf x=some .cell∨X.env.kindOf x=some .free)→∃ c,X.env.cells.lookup x=some c
  cab:∀ x c,X.fn x=true→X.env.cells.lookup x=some c→X.s₀.heap.objs.size≤c
  hd:X.calm=true→X.A.handled=none
  frames:X.A.frames=some X.stack
  stk:X.stack=X.outer∨(X.stack=X.env :: X.outer∧X.env.frame=some X.env.locals)
  exf:∀ b∈X.ex,b≠X.env.locals∧∀ x c,X.env.cells.lookup x=some c→c≠b
  bs:∀ b o,X.base.get? b=some o→X.s₀.heap.get? b=some o∧X.H₀ b=none
  bsz:X.base.objs.size≤X.s₀.heap.objs.size
  noex:∀ b o,X.base.get? b=some o→b∉X.ex
  exfs:∀ b∈X.ex,b∉X.fs
  funs:X.s₀.heap.FunFrames X.base X.outer
  frf:∀ b∈X.fs,X.H₀ b=none
structure Inv (X:Cx) (pins:List (Addr × Obj)) (σ:List (Option V)) (H:Hp) (s:Shared):Prop where
  ok:X.Ok
  os:s.os=X.s₀.os
  bare:AllBare s.gens
  base:Un X.fs X.ex X.H₀ H X.s₀.heap s.heap
  loc:∃ m,s.heap.Ns X.env.locals m∧∀ (i:Nat) (x:Str) (v:V),X.N[i]?=some x→σ[i]?=some (some v)→Vis X.env.scope x→∃ u,RelV v u∧uw X.env s.heap m x u
  cell:∀ x c,X.env.cells.lookup x=some c→∃ v,s.heap.IsCell c v
  free:H X.env.locals=none
  freeC:∀ x c,X.env.cells.lookup x=some c→H c=none
  pin:∀ p∈X.pn++pins,s.heap.get? p.1=some p.2∧H p.1=none∧p.1≠X.env.locals∧p.1∉X.fs∧∀ v,p.2.data≠.cell v
  hok:HOk X.prog X.w H s.heap
  len:σ.length=X.N.length
section
variable {X:Cx} {pins:List (Addr × Obj)} {σ:List (Option V)} {H H':Hp} {s:Shared} {h':Heap}
theorem Cx.Ok.nofr (ok:X.Ok) {b:Addr} {o:Obj} (e:X.base.get? b=some o):b∉X.fs:=fun hb=>by
  have:=(ok.funs.mem hb).1;rw [e] at this;cases this
theorem Inv.bs (I:Inv X pins σ H s):∀ b o,X.base.get? b=some o→s.heap.get? b=some o∧H b=none:=fun b o e =>
  ⟨I.base.keep b o (I.ok.bs b o e).1 (I.ok.bs b o e).2 (I.ok.nofr e) (I.ok.noex b o e),I.base.free b o (I.ok.bs b o e).1 (I.ok.bs b o e).2 (I.ok.noex b o e)⟩
theorem Inv.bk (I:Inv X pins σ H s):∀ b o,X.base.get? b=some o→s.heap.get? b=some o:=fun b o e=>(I.bs b o e).1
theorem Inv.mod (I:Inv X pins σ H s):Mod X.K X.mg X.base:=I.ok.mod
theorem Inv.kIn (I:Inv X pins σ H s):X.K.In s.heap:=I.ok.mod.kin.keeps I.bk
theorem Inv.fr (I:Inv X pins σ H s):∃ m,Fr X.base X.env.locals s.heap m :=
  let ⟨m,hn,_⟩:=I.loc
  ⟨m,hn,I.bk,aaL I.ok.bsz I.ok.above⟩
theorem Inv.lt (I:Inv X pins σ H s):X.env.locals < s.heap.objs.size:=let ⟨_,hn,_⟩:=I.loc;hn.lt
theorem Inv.sz (I:Inv X pins σ H s):X.s₀.heap.objs.size≤s.heap.objs.size:=aaL I.ok.above (Nat.le_of_lt I.lt)
theorem Inv.nofs (I:Inv X pins σ H s) {a:Addr} (h:s.heap.objs.size≤a):a∉X.fs:=fun hb=>by
  obtain ⟨_,o,ho,_⟩:=I.ok.funs.mem hb;exact absurd (aaq (aag ho) (aaL I.sz h)) (abm _)
theorem Inv.cne (I:Inv X pins σ H s):∀ x c,X.env.cells.lookup x=some c→c≠X.env.locals:=fun x c e z=>by
  obtain ⟨v,o,ho,hd⟩:=I.cell x c e;obtain ⟨m,⟨o',es,ep,ho',hd',_⟩,_⟩:=I.loc;rw [z,ho'] at ho;cases ho;rw [hd'] at hd;cases hd
theorem Inv.funs (I:Inv X pins σ H s):s.heap.FunFrames X.base X.outer:=by
  have all:∀ (l:List Env),(∀ b∈frs l,b∈X.fs)→X.s₀.heap.FunFrames X.base l→s.heap.FunFrames X.base l:=by
    intro l
    induction l with
    | nil=>intro _ _;trivial
    | cons env r ih =>
      intro hs hl;obtain ⟨hk,⟨L,o,hf,hn,ho,hd⟩,hr⟩:=hl;have hL:L∈X.fs:=hs L (by unfold frs;rw [aby,hf];exact aaH);obtain ⟨sl,e⟩:=I.base.slot L o ho (I.ok.frf L hL) hL fun z=>I.ok.exfs L z hL;exact ⟨hk,⟨L,_,hf,hn,e,hd⟩,ih (fun b hb=>hs b (by unfold frs;rw [aby,hf];exact aaw _ hb)) hr⟩
  exact all X.outer (fun _ hb=>hb) I.ok.funs
theorem Inv.stack (I:Inv X pins σ H s):s.heap.FunFrames X.base X.stack:=by
  rcases I.ok.stk with e|⟨e,hf⟩
  · rw [e];exact I.funs
  · rw [e];obtain ⟨m,hn,_⟩:=I.loc;refine .cons (by rw [I.ok.kind];decide) hf hn ?_ I.funs;exact Heap.get?_none_of_le (aaL I.ok.bsz I.ok.above)
theorem Inv.stkSub (I:Inv X pins σ H s):∀ b∈frs X.stack,b∈X.env.locals :: X.fs:=fun b hb=>by
  rcases I.ok.stk with e|⟨e,hf⟩
  · rw [e] at hb;exact aaw _ hb
  · rw [e] at hb;unfold frs at hb;rw [aby,hf] at hb;exact hb
theorem Inv.stkFree (I:Inv X pins σ H s):∀ b∈frs X.stack,H b=none:=fun b hb=>by
  rcases aay.mp (I.stkSub b hb) with e|hb
  · rw [e];exact I.free
  · obtain ⟨_,o,ho,_⟩:=I.ok.funs.mem hb;exact I.base.free b o ho (I.ok.frf b hb) fun z=>I.ok.exfs b z hb
theorem Inv.step {g':Array GenState} {t':Nat} {d':Drawn} {ch:List Addr} (I:Inv X pins σ H s)
    (hch:∀ b∈ch,(b∈X.ex∨X.s₀.heap.objs.size≤b)∧b≠X.env.locals∧(∀ x c,X.env.cells.lookup x=some c→c≠b)∧∀ p∈X.pn++pins,p.1≠b)
    (keep:∀ b o,b≠X.env.locals→b∉X.fs→b∉ch→s.heap.get? b=some o→H b=none→h'.get? b=some o)
    (slot:∀ b o,b≠X.env.locals→b∈X.fs→b∉ch→s.heap.get? b=some o→H b=none→∃ sl,h'.get? b=some { o with slots:=sl }) (free:∀ b o,b∉ch→s.heap.get? b=some o→H b=none→H' b=none)
    (there:∀ b o,b∉ch→s.heap.get? b=some o→∃ o',h'.get? b=some o')
    (tups:∀ b xs,H b=some (.tup xs)→H' b=some (.tup xs)) (frzs:∀ b o u,H b=some (.frz o u)→H' b=some (.frz o u)) (tbls:∀ b ps,H b=some (.tbl ps)→∃ more,H' b=some (.tbl (ps++more)))
    (ns:∀ m,s.heap.Ns X.env.locals m→h'.Ns X.env.locals m) (hok:HOk X.prog X.w H' h') (hg:AllBare g') :
    Inv X pins σ H' { s with heap:=h',gens:=g',drawn:=d',toks:=t' }:=by
  have neL:∀ b o,X.s₀.heap.get? b=some o→b≠X.env.locals:=fun b o e=>aas (aaq (aag e) I.ok.above);have neC:∀ b o,X.s₀.heap.get? b=some o→b∉X.ex→b∉ch:=fun b o e hx hb=>by
    rcases (hch b hb).1 with z|z
    · exact hx z
    · exact absurd (aaq (aag e) z) (abm _)
  have cellK:∀ x c,X.env.cells.lookup x=some c→∀ v,s.heap.IsCell c v→h'.IsCell c v:=fun x c e v ⟨o,ho,hd⟩=>by
    have nch:c∉ch:=fun z=>(hch c z).2.2.1 x c e rfl;by_cases hc:c∈X.fs
    · obtain ⟨sl,q⟩:=slot c o (I.cne x c e) hc nch ho (I.freeC x c e);exact ⟨_,q,hd⟩
    · exact ⟨o,keep c o (I.cne x c e) hc nch ho (I.freeC x c e),hd⟩
  refine ⟨I.ok,I.os,hg,⟨fun b o e n hb hx=>?_,fun b o e n hb hx=>?_,fun b o e n hx=>?_,fun b o e hx=>?_,fun b xs e=>tups b xs (I.base.tups b xs e),fun b o xs e=>frzs b o xs (I.base.frzs b o xs e),fun b ps e=>?_⟩,?_,fun x c e=>?_,?_,fun x c e=>?_,fun p hp=>?_,hok,I.len⟩
  · exact keep b o (neL b o e) hb (neC b o e hx) (I.base.keep b o e n hb hx) (I.base.free b o e n hx)
  · obtain ⟨sl,e1⟩:=I.base.slot b o e n hb hx;obtain ⟨sl',e2⟩:=slot b _ (neL b o e) hb (neC b o e hx) e1 (I.base.free b o e n hx);exact ⟨sl',e2⟩
  · obtain ⟨o',e1⟩:=I.base.there b o e hx;exact free b o' (neC b o e hx) e1 (I.base.free b o e n hx)
  · obtain ⟨o',e1⟩:=I.base.there b o e hx;exact there b o' (neC b o e hx) e1
  · obtain ⟨m1,e1⟩:=I.base.tbls b ps e;obtain ⟨m2,e2⟩:=tbls b _ e1;exact ⟨m1++m2,by rw [e2,Array.append_assoc]⟩
  · obtain ⟨m,hn,hl⟩:=I.loc;refine ⟨m,ns m hn,fun i x v e1 e2 e3=>?_⟩;obtain ⟨u,r,l⟩:=hl i x v e1 e2 e3;refine ⟨u,r,?_⟩;rcases l with l|⟨k,c,e,z⟩
    · exact .inl l
    · exact .inr ⟨k,c,e,cellK x c e _ z⟩
  · obtain ⟨v,z⟩:=I.cell x c e;exact ⟨v,cellK x c e v z⟩
  · obtain ⟨m,⟨o,_,_,ho,_⟩,_⟩:=I.loc;exact free _ o (fun z=>(hch _ z).2.1 rfl) ho I.free
  · obtain ⟨v,o,ho,hd⟩:=I.cell x c e;exact free c o (fun z=>(hch c z).2.2.1 x c e rfl) ho (I.freeC x c e)
  · obtain ⟨e,n,ne,nf,d⟩:=I.pin p hp;have nch:p.1∉ch:=fun z=>(hch p.1 z).2.2.2 p hp rfl;exact ⟨keep p.1 p.2 ne nf nch e n,free p.1 p.2 nch e n,ne,nf,d⟩
theorem Inv.un {t':Nat} (I:Inv X pins σ H s) (u:Un X.fs [] H H' s.heap h') (hok:HOk X.prog X.w H' h'):Inv X pins σ H' { s with heap:=h',toks:=t' }:=by
  obtain ⟨m,⟨o,es,ep,ho,r⟩,_⟩:=id I.loc;obtain ⟨sl,hL⟩:=u.any ho I.free (by simp);exact I.step (g':=s.gens) (d':=s.drawn) (ch:=[]) (fun _ z=>nomatch z) (fun b o _ hb _ e n=>u.keep b o e n hb (by simp)) (fun b o _ hb _ e n=>u.slot b o e n hb (by simp)) (fun b o _ e n=>u.free b o e n (by simp)) (fun b o _ e=>u.there b o e (by simp)) u.tups u.frzs u.tbls (fun m' hm=>by
    obtain ⟨o',es',ep',ho',r'⟩:=hm;rw [ho] at ho';cases ho';exact ⟨_,es',ep',hL,r'⟩) hok I.bare
theorem Inv.call {g':Array GenState} {t':Nat} {d':Drawn} {ch:List Addr} (I:Inv X pins σ H s) (u:Un (frs X.stack) ch H H' s.heap h') (hok:HOk X.prog X.w H' h') (hg:AllBare g')
    (hch:∀ b∈ch,(b∈X.ex∨X.s₀.heap.objs.size≤b)∧b≠X.env.locals∧(∀ x c,X.env.cells.lookup x=some c→c≠b)∧∀ p∈X.pn++pins,p.1≠b) :
    Inv X pins σ H' { s with heap:=h',gens:=g',drawn:=d',toks:=t' }:=by
  obtain ⟨m,⟨o,es,ep,ho,r⟩,_⟩:=id I.loc;obtain ⟨sl,hL⟩:=u.any ho I.free fun z=>(hch _ z).2.1 rfl;exact I.step (ch:=ch) hch (fun b o hL hb hc e n=>u.keep b o e n (fun z=>(aay.mp (I.stkSub b z)).elim hL hb) hc) (fun b o _ _ hc e n=>u.any e n hc) (fun b o hc e n=>u.free b o e n hc) (fun b o hc e=>u.there b o e hc) u.tups u.frzs u.tbls (fun m' hm=>by
    obtain ⟨o',es',ep',ho',r'⟩:=hm;rw [ho] at ho';cases ho';exact ⟨_,es',ep',hL,r'⟩) hok hg
theorem Inv.turned {t':Nat} {it:Addr} (I:Inv X pins σ H s) (k:∀ b o,b≠it→s.heap.get? b=some o→h'.get? b=some o) (hn:H it=none) (hL:it≠X.env.locals)
    (h1:it∈X.ex∨X.s₀.heap.objs.size≤it) (h2:∀ x c,X.env.cells.lookup x=some c→c≠it) (h3:∀ p∈X.pn++pins,p.1≠it):Inv X pins σ H { s with heap:=h',toks:=t' }:=by
  have nit:∀ b u,H b=some u→b≠it:=fun b u e z=>by rw [z,hn] at e;cases e
  refine I.step (g':=s.gens) (d':=s.drawn) (ch:=[it]) (fun b hb=>?_) (fun b o _ _ hc e _=>k b o (fun z=>hc (by simp [z])) e) (fun b o _ _ hc e _=>⟨o.slots,k b o (fun z=>hc (by simp [z])) e⟩) (fun _ _ _ _ n=>n)
    (fun b o hc e=>⟨o,k b o (fun z=>hc (by simp [z])) e⟩) (fun _ _ e=>e) (fun _ _ _ e=>e) (fun b ps e=>⟨#[],by rw [e];simp⟩) (fun m hm=>?_) (fun b u e=>?_) I.bare
  · have e:b=it:=by simpa using hb
    subst e;exact ⟨h1,hL,h2,h3⟩
  · obtain ⟨o,es,ep,ho,r⟩:=hm;exact ⟨o,es,ep,k _ o (aa3 hL) ho,r⟩
  · refine (I.hok b u e).stay (fun c v hc q=>k c v ?_ q) (fun _ q=>q) fun _ _ q=>q;rcases hc with z|z
    · rw [z];exact nit b u e
    · exact nit c _ z
theorem Inv.tok (I:Inv X pins σ H s) (t:Nat):Inv X pins σ H { s with toks:=t }:=I.un (h':=s.heap) (t':=t) Un.refl I.hok
theorem Inv.kept {t':Nat} (I:Inv X pins σ H s) (k:∀ b u,s.heap.get? b=some u→h'.get? b=some u):Inv X pins σ H { s with heap:=h',toks:=t' }:=I.un (Un.kept k) (I.hok.kept k)
theorem Inv.laid {a:Addr} {o:HO} {t':Nat} (I:Inv X pins σ H s) (k:∀ b u,s.heap.get? b=some u→h'.get? b=some u) (hp:s.heap.objs.size≤a) (new:ObjOk X.prog X.w (upd H a o) h' a o) :
    Inv X pins σ (upd H a o) { s with heap:=h',toks:=t' }:=I.un (Un.laid k hp (I.hok.fresh hp)) (I.hok.laid k hp new)
theorem Inv.write {x e:Addr} {o:HO} {t':Nat} (I:Inv X pins σ H s) (mu:Mut (H x)) (he:e=x∨H e=some (.own x)) (k:∀ b u,b≠e→s.heap.get? b=some u→h'.get? b=some u) (heo:∃ u,h'.get? e=some u)
    (new:ObjOk X.prog X.w (upd H x o) h' x o):Inv X pins σ (upd H x o) { s with heap:=h',toks:=t' }:=I.un (Un.write mu he k heo) (I.hok.write mu he k heo new)
theorem Inv.pins_of {pins':List (Addr × Obj)} (I:Inv X pins σ H s) (h:∀ p∈pins',s.heap.get? p.1=some p.2∧H p.1=none∧p.1≠X.env.locals∧p.1∉X.fs∧∀ v,p.2.data≠.cell v):Inv X pins' σ H s :=
  ⟨I.ok,I.os,I.bare,I.base,I.loc,I.cell,I.free,I.freeC,fun p hp=>(aao.mp hp).elim (fun z=>I.pin p (aaC _ z)) (h p),I.hok,I.len⟩
theorem iq {N:List Str} (hN:N.Nodup) {i j:Nat} {x:Str} (a:N[i]?=some x) (b:N[j]?=some x):i=j:=by
  obtain ⟨h1,e1⟩:=aai.mp a;obtain ⟨h2,e2⟩:=aai.mp b;exact (List.getElem_inj hN).mp (e1.trans e2.symm)
theorem nU {M:Model} {A:Around} {E:Value→Shared→Prop} {i:Nat} {x:Str} {v:V} {u:Value} {Q:Unit→Shared→Prop} (I:Inv X pins σ H s) (hN:X.N.Nodup) (hi:X.N[i]?=some x) (hx:Loc X.env.scope x) (r:RelV v u)
    (h:∀ s',Inv X pins (σ.set i (some v)) H s'→(∃ a,abt a s.heap s'.heap∧(a=X.env.locals∨X.env.cells.lookup x=some a))→Q () s') (hf:X.fn x=true∨X.env.scope.names.lookup x=some .local:=by first|exact .inl rfl|exact .inr rfl|assumption):wpAny M A (storeName X.env x u) Q E s:=by
  obtain ⟨m,hn,hl⟩:=id I.loc;have hcls:(X.env.scope.kind == .class || (X.env.scope.kind == .module && X.env.locals != X.env.globals))=false:=by rw [I.ok.kind];rfl
  have hiσ:i < σ.length:=by rw [I.len];exact (aai.mp hi).1
  have cne:=I.cne;have tracked:∀ {a:Addr} {h':Heap},(∃ o,s.heap.get? a=some o∧H a=none)→abt a s.heap h'→HOk X.prog X.w H h':=fun {a h'} ha hs b ob e=>by
    obtain ⟨_,_,hfree⟩:=ha;refine (I.hok b ob e).stay (fun c w' hc q=>(hs.2 c ?_).trans q) (fun _ q=>q) fun _ _ q=>q;rintro rfl;rcases hc with rfl|hc
    · rw [hfree] at e;cases e
    · rw [hfree] at hc;cases hc
  rcases hx with hk|hk
  · refine wpAny_storeName_local hk hn (fun h' hn' hs=>?_) hcls;obtain ⟨oL,_,_,hoL,_⟩:=id hn;refine h _ ⟨I.ok,I.os,I.bare,⟨fun b o e n hb hx=>?_,fun b o e n hb hx=>?_,I.base.free,fun b o e hx=>?_,I.base.tups,I.base.frzs,I.base.tbls⟩,⟨_,hn',fun j y v' e1 e2 e3=>?_⟩,fun y c e=>?_,I.free,I.freeC,fun p hp=>?_,tracked ⟨oL,hoL,I.free⟩ hs,by simpa using I.len⟩ ⟨_,hs,.inl rfl⟩
    · exact (hs.2 b (aas (aaq (aag e) I.ok.above))).trans (I.base.keep b o e n hb hx)
    · obtain ⟨sl,e1⟩:=I.base.slot b o e n hb hx;exact ⟨sl,(hs.2 b (aas (aaq (aag e) I.ok.above))).trans e1⟩
    · obtain ⟨o',e1⟩:=I.base.there b o e hx;exact ⟨o',(hs.2 b (aas (aaq (aag e) I.ok.above))).trans e1⟩
    · by_cases hj:j=i
      · subst hj;rw [hi] at e1;cases e1;rw [List.getElem?_set_self hiσ] at e2;cases e2;exact ⟨u,r,.inl ⟨hk,by simp⟩⟩
      · rw [List.getElem?_set_ne (aa3 hj)] at e2;obtain ⟨u',r',q⟩:=hl j y v' e1 e2 e3;refine ⟨u',r',?_⟩;rcases q with ⟨k,e⟩|⟨k,c,e,z⟩
        · refine .inl ⟨k,?_⟩;have : y≠x:=fun e=>hj (iq hN e1 (e ▸ hi));simp [this,e]
        · exact .inr ⟨k,c,e,z.sameBut hs (cne y c e)⟩
    · obtain ⟨w',z⟩:=I.cell y c e;exact ⟨w',z.sameBut hs (cne y c e)⟩
    · obtain ⟨e,n,ne,nf,d⟩:=I.pin p hp;exact ⟨(hs.2 p.1 ne).trans e,n,ne,nf,d⟩
  · have hfn:X.fn x=true:=by
      rcases hf with z|z
      · exact z
      · rw [z] at hk;cases hk
    obtain ⟨c,hc⟩:=I.ok.has x (.inl hk);obtain ⟨w',z⟩:=I.cell x c hc;refine wpAny_storeName_cell I.ok.kind hk hc z (fun h' hc' hs=>?_);obtain ⟨oc,hoc,hocd⟩:=id z;refine h { s with heap:=h' } ⟨I.ok,I.os,I.bare,⟨fun b o e n hb hx=>?_,fun b o e n hb hx=>?_,I.base.free,fun b o e hx=>?_,I.base.tups,I.base.frzs,I.base.tbls⟩,⟨m,hn.sameBut hs (aa3 (cne x c hc)),fun j y v' e1 e2 e3=>?_⟩,fun y c' e=>?_,I.free,I.freeC,fun p hp=>?_,tracked ⟨oc,hoc,I.freeC x c hc⟩ hs,by simpa using I.len⟩ ⟨c,hs,.inr hc⟩
    · exact (hs.2 b (aas (aaq (aag e) (I.ok.cab x c hfn hc)))).trans (I.base.keep b o e n hb hx)
    · obtain ⟨sl,e1⟩:=I.base.slot b o e n hb hx;exact ⟨sl,(hs.2 b (aas (aaq (aag e) (I.ok.cab x c hfn hc)))).trans e1⟩
    · obtain ⟨o',e1⟩:=I.base.there b o e hx;exact ⟨o',(hs.2 b (aas (aaq (aag e) (I.ok.cab x c hfn hc)))).trans e1⟩
    · by_cases hj:j=i
      · subst hj;rw [hi] at e1;cases e1;rw [List.getElem?_set_self hiσ] at e2;cases e2;exact ⟨u,r,.inr ⟨.inl hk,c,hc,hc'⟩⟩
      · rw [List.getElem?_set_ne (aa3 hj)] at e2;obtain ⟨u',r',q⟩:=hl j y v' e1 e2 e3;refine ⟨u',r',?_⟩;rcases q with q|⟨k,c',e,z'⟩
        · exact .inl q
        · refine .inr ⟨k,c',e,z'.sameBut hs ?_⟩;rintro rfl;exact hj (iq hN e1 (I.ok.inj _ _ _ e hc ▸ hi))
    · by_cases hcc:c'=c
      · subst hcc;exact ⟨_,hc'⟩
      · obtain ⟨w2,z2⟩:=I.cell y c' e;exact ⟨w2,z2.sameBut hs hcc⟩
    · obtain ⟨e,n,ne,nf,d⟩:=I.pin p hp;refine ⟨(hs.2 p.1 ?_).trans e,n,ne,nf,d⟩;intro q;rw [q,hoc] at e;have q':oc=p.2:=aaN e;exact d w' (by rw [← q'];exact hocd)
theorem hW {M:Model} {A:Around} {E:Value→Shared→Prop} {i:Nat} {x:Str} {v:V} {u:Value} {Q:Unit→Shared→Prop} (I:Inv X pins σ H s) (hN:X.N.Nodup) (hi:X.N[i]?=some x) (hx:Loc X.env.scope x) (r:RelV v u)
    (h:∀ s',Inv X pins (σ.set i (some v)) H s'→Q () s') (hf:X.fn x=true∨X.env.scope.names.lookup x=some .local:=by first|exact .inl rfl|exact .inr rfl|assumption):wpAny M A (storeName X.env x u) Q E s :=
  nU I hN hi hx r (fun s' I' _=>h s' I') hf
theorem Inv.call' {s':Shared} {ch:List Addr} (I:Inv X pins σ H s) (ho:s'.os=s.os) (u:Un (frs X.stack) ch H H' s.heap s'.heap) (hok:HOk X.prog X.w H' s'.heap) (hg:AllBare s'.gens)
    (hch:∀ b∈ch,(b∈X.ex∨X.s₀.heap.objs.size≤b)∧b≠X.env.locals∧(∀ x c,X.env.cells.lookup x=some c→c≠b)∧∀ p∈X.pn++pins,p.1≠b):Inv X pins σ H' s':=by
  obtain ⟨h',g',d',t',o'⟩:=s';have e:o'=s.os:=ho;subst e;exact I.call (g':=g') (t':=t') (d':=d') u hok hg hch
end
abbrev XK:=Value→Option Addr→Hp→Prop
abbrev St:=List (Option V)
abbrev VK:=V→Hp→Prop
abbrev TE:=St→Hp→VK→Prop
abbrev TT:=St→Hp→(Bool→Hp→Prop)→Prop
abbrev TA:=St→Hp→(List V→Hp→Prop)→Prop
structure Ends where
  nx:St→Hp→Prop
  rt:VK
  bk:St→Hp→Prop:=fun _ _=>False
  ct:St→Hp→Prop:=fun _ _=>False
abbrev TS:=Ends→St→Hp→Prop
def EP (X:Cx) (pins:List (Addr × Obj)) (σ:St) (Q:VK) (u:Value) (s':Shared):Prop:=∃ v H',Inv X pins σ H' s'∧RelV v u∧Q v H'
def TP (X:Cx) (pins:List (Addr × Obj)) (σ:St) (Q:Bool→Hp→Prop) (b:Bool) (s':Shared):Prop:=∃ H',Inv X pins σ H' s'∧Q b H'
def AP (X:Cx) (pins:List (Addr × Obj)) (σ:St) (Q:List V→Hp→Prop) (us:List Value) (s':Shared):Prop:=∃ vs H',Inv X pins σ H' s'∧Vals vs us∧Q vs H'
def SP (X:Cx) (pins:List (Addr × Obj)) (D:Ends) (f:Flow) (s':Shared):Prop :=
  match f with
  | .next=>∃ σ' H',Inv X pins σ' H' s'∧D.nx σ' H'
  | .brk=>∃ σ' H',Inv X pins σ' H' s'∧D.bk σ' H'
  | .cont=>∃ σ' H',Inv X pins σ' H' s'∧D.ct σ' H'
  | .ret u=>∃ v σ' H',Inv X pins σ' H' s'∧RelV v u∧D.rt v H'
def PE (X:Cx) (e:Expr) (t:TE):Prop :=
  ∀ (pins:List (Addr × Obj)) (s:Shared) (σ:St) (H:Hp) (Q:VK),Inv X pins σ H s→t σ H Q→wpAny (model X.prog X.w) X.A (eval e X.env) (EP X pins σ Q) X.xe s
def PT (X:Cx) (e:Expr) (t:TT):Prop :=
  ∀ (pins:List (Addr × Obj)) (s:Shared) (σ:St) (H:Hp) (Q:Bool→Hp→Prop),Inv X pins σ H s→t σ H Q→wpAny (model X.prog X.w) X.A (isTrue e X.env (eval e X.env)) (TP X pins σ Q) X.xe s
def PW (X:Cx) (e:Expr) (t:TT):Prop :=
  ∀ (whole:Sem Value) (pins:List (Addr × Obj)) (s:Shared) (σ:St) (H:Hp) (Q:Bool→Hp→Prop),Inv X pins σ H s→t σ H Q→wpAny (model X.prog X.w) X.A (isTrue e X.env whole) (TP X pins σ Q) X.xe s
theorem PW.pt {X:Cx} {e:Expr} {t:TT} (h:PW X e t):PT X e t:=h _
def PA (X:Cx) (es:List Expr) (t:TA):Prop :=
  ∀ (pos:Pos) (pins:List (Addr × Obj)) (s:Shared) (σ:St) (H:Hp) (Q:List V→Hp→Prop),Inv X pins σ H s→t σ H Q→wpAny (model X.prog X.w) X.A (spliced (backTo pos (starEach es X.env))) (AP X pins σ Q) X.xe s
def PS (X:Cx) (st:Stmt) (t:TS):Prop :=
  ∀ (pins:List (Addr × Obj)) (s:Shared) (σ:St) (H:Hp) (D:Ends),Inv X pins σ H s→t D σ H→wpAny (model X.prog X.w) X.A (exec st X.env) (SP X pins D) X.xe s
def PSs (X:Cx) (st:List Stmt) (t:TS):Prop :=
  ∀ (pins:List (Addr × Obj)) (s:Shared) (σ:St) (H:Hp) (D:Ends),Inv X pins σ H s→t D σ H→wpAny (model X.prog X.w) X.A (execs st X.env) (SP X pins D) X.xe s
theorem thn {α:Type} {t:Sem α} {Q Q':α→Shared→Prop} {M:Model} {A:Around} {E:Value→Shared→Prop} {s:Shared} (h:wpAny M A t Q E s) (hQ:∀ a s,Q a s→Q' a s):wpAny M A t Q' E s:=wpAny_mono h hQ fun _ _ x=>x
open PySem PySem.Spec PyProof.Rows
section
variable {X:Cx}
def tN (i:Nat):TE:=fun σ H Q=>∃ v,σ[i]?=some (some v)∧Q v H
def tC (v:V):TE:=fun _ H Q=>Q v H
theorem sy {i:Nat} {x:Str} {pos:Pos} (hN:X.N[i]?=some x) (hv:Vis X.env.scope x) (hd:(x == ("__debug__":Str))=false:=by decide) (hcd:(x == ("__classdict__":Str))=false:=by decide):PE X (.Name x pos) (tN i):=by
  intro pins s σ H Q I h;obtain ⟨v,e,h⟩:=h;obtain ⟨m,hn,hl⟩:=I.loc;obtain ⟨u,r,l⟩:=hl i x v hN e hv;have fin:EP X pins σ Q u s:=⟨v,H,I,r,h⟩
  rcases l with ⟨hk,hm⟩|⟨hk,c,hc,hcell⟩
  · exact wpAny_Name (wpAny_loadName_local I.ok.kind hk hn hm fin) hd
  · rcases hk with hk|hk
    · exact wpAny_Name (wpAny_loadName_cell I.ok.kind hk hc hcell fin) hd
    · exact wpAny_Name (wpAny_loadName_free I.ok.kind hk hc hcell fin hcd) hd
theorem af {i j pos}:PE X (.Constant (.int i) j pos) (tC (.int i)):=fun _ _ _ H _ I h=>wpAny_Constant_int ⟨.int i,H,I.tok _,⟨_,rfl⟩,h⟩
theorem cI {b j pos}:PE X (.Constant (.bool b) j pos) (tC (.bl b)):=fun _ _ _ H _ I h=>Constant_bool ⟨.bl b,H,I,rfl,h⟩
theorem eo {j pos}:PE X (.Constant .none j pos) (tC .non):=fun _ _ _ H _ I h=>Constant_none ⟨.non,H,I,rfl,h⟩
theorem aq {x j pos}:PE X (.Constant (.str x) j pos) (tC (.str x)):=fun _ _ _ H _ I h=>Calls.Constant_str ⟨.str x,H,I.tok _,⟨_,rfl⟩,h⟩
def Gl (X:Cx) (x:Str):Prop:=X.env.kindOf x=some .globalImplicit
theorem fj {E:Value→Shared→Prop} {pins:List (Addr × Obj)} {s:Shared} {σ:St} {H:Hp} {x:Str} {u:Value} {pos:Pos} {Q:Value→Shared→Prop} (I:Inv X pins σ H s) (hg:Gl X x) (hm:X.mg x=some u) (h:Q u s)
    (hd:(x == ("__debug__":Str))=false:=by decide):wpAny (model X.prog X.w) X.A (eval (.Name x pos) X.env) Q E s :=
  Calls.Name_function_global I.ok.kind hg (Calls.loadGlobal_global (by rw [I.ok.glob];exact I.mod.glob.keeps I.bk) hm h) hd
theorem gw {E:Value→Shared→Prop} {pins:List (Addr × Obj)} {s:Shared} {σ:St} {H:Hp} {x:Str} {u:Value} {pos:Pos} {Q:Value→Shared→Prop} (I:Inv X pins σ H s) (hg:Gl X x) (hm:X.mg x=none) (hv:bootBuiltins x=some u) (h:Q u s)
    (hn:x ≠ "__name__":=by decide) (hd:(x == ("__debug__":Str))=false:=by decide):wpAny (model X.prog X.w) X.A (eval (.Name x pos) X.env) Q E s:=by
  obtain ⟨mb,h1,h2⟩:=I.mod.blt;exact Calls.Name_function_global I.ok.kind hg (Calls.loadGlobal_builtin (by rw [I.ok.glob];exact I.mod.glob.keeps I.bk) hm (by rw [I.ok.blt];exact h1.keeps I.bk) ((h2 x hn).trans hv) h) hd
theorem bp {x:Str} {v:V} {u:Value} {pos:Pos} (hg:Gl X x) (hm:X.mg x=some u) (r:RelV v u) (hd:(x == ("__debug__":Str))=false:=by decide):PE X (.Name x pos) (tC v) :=
  fun _ _ _ H _ I h=>fj I hg hm ⟨v,H,I,r,h⟩ hd
theorem fR {x:Str} {v:V} {u:Value} {pos:Pos} (hg:Gl X x) (hm:X.mg x=none) (hv:bootBuiltins x=some u) (r:RelV v u) (hn:x ≠ "__name__":=by decide) (hd:(x == ("__debug__":Str))=false:=by decide):PE X (.Name x pos) (tC v) :=
  fun _ _ _ H _ I h=>gw I hg hm hv ⟨v,H,I,r,h⟩ hn hd
variable {a b:Expr} {ta tb:TE} {pos:Pos}
def PC (X:Cx) (op:CmpOp) (a b:Expr) (t:TE):Prop :=
  ∀ (pins:List (Addr × Obj)) (s:Shared) (σ:St) (H:Hp) (Q:VK),Inv X pins σ H s→t σ H Q →
    wpAny (model X.prog X.w) X.A (eval a X.env) (fun v s₁=>wpAny (model X.prog X.w) X.A (eval b X.env) (fun u s₂=>wpAny (model X.prog X.w) X.A (compareOp op v u) (EP X pins σ Q) X.xe s₂) X.xe s₁) X.xe s
def tB (t:TE):TT:=fun σ H Q=>t σ H fun x H1=>∃ c,x=.bl c∧Q c H1
theorem sF {op:CmpOp} {t:TE} (h:PC X op a b t) (h1:behindInMarks op b=false:=by first|exact nobehind _ (by decide) (by decide)|rfl):PE X (.Compare a [op] [b] pos) t:=fun pins s σ H Q I hw=>wpAny_Compare1 (h pins s σ H Q I hw) h1
theorem dv {e:Expr} {t:TE} (h:PE X e t) (he:∀ whole,isTrue e X.env whole=(do let v ← whole;standAt e.pos;holding [v] (truthy v)):=by intro _;rfl):PT X e (tB t):=by
  intro pins s σ H Q I hw;refine isTrue_plain (thn (h pins s σ H _ I hw) fun v s1 ⟨x,H1,I1,r1,q1⟩=>?_) (he _);obtain ⟨d,rfl,q⟩:=q1;cases r1;exact wpAny_truthy_bool ⟨H1,I1,q⟩
variable {tA tB':TT} {bx:List Expr}
def tOr (t u:TT):TT:=fun σ H Q=>t σ H fun c H1=>if c=true then Q true H1 else u σ H1 Q
def uC (t:TT):TT:=fun σ H Q=>t σ H fun c H1=>Q (!c) H1
theorem pC (ha:PT X a tA):PW X (.BoolOp .Or [a] pos) tA:=by
  intro wh pins s σ H Q I h;refine isTrue_or (thn (ha pins s σ H Q I h) fun c s1 e=>?_);cases c with
  | false=>exact isTrue_or_nil e
  | true=>exact e
theorem pE (ha:PT X a tA) (hb:PW X (.BoolOp .Or (b :: bx) pos) tB'):PW X (.BoolOp .Or (a :: b :: bx) pos) (tOr tA tB'):=by
  intro wh pins s σ H Q I h;refine isTrue_or (thn (ha pins s σ H _ I h) fun c s1 ⟨H1,I1,q1⟩=>?_);cases c with
  | true=>exact ⟨H1,I1,q1⟩
  | false=>exact hb wh pins s1 σ H1 Q I1 q1
theorem da (ha:PT X a tA):PT X (.UnaryOp .Not a pos) (uC tA):=by
  intro pins s σ H Q I h;exact isTrue_not (ha pins s σ H (fun c H1=>Q (!c) H1) I h)
def tY (ta tb:TE):TE:=fun σ H Q=>ta σ H fun x H1=>∃ c,x=.bl c∧if c=true then tb σ H1 Q else Q (.bl false) H1
def tP (ta:TE):TE:=fun σ H Q=>ta σ H fun x H1=>∃ c,x=.bl c∧Q (.bl (!c)) H1
theorem pI {op} {t:TE} (h:PE X a t):PE X (.BoolOp op [a] pos) t:=fun pins s σ H Q I hw=>BoolOp_one (h pins s σ H Q I hw)
theorem pM (ha:PE X a ta) (hb:PE X (.BoolOp .And (b :: bx) pos) tb):PE X (.BoolOp .And (a :: b :: bx) pos) (tY ta tb):=by
  intro pins s σ H Q I h;refine BoolOp_and (thn (ha pins s σ H _ I h) fun v s1 ⟨x,H1,I1,r1,q1⟩=>?_);obtain ⟨c,rfl,q1⟩:=q1;cases r1;refine wpAny_truthy_bool ?_;cases c with
  | true=>exact hb pins s1 σ H1 Q I1 q1
  | false=>exact ⟨.bl false,H1,I1,rfl,q1⟩
theorem sB (ha:PE X a ta):PE X (.UnaryOp .Not a pos) (tP ta):=by
  intro pins s σ H Q I h;refine UnaryOp_ (thn (ha pins s σ H _ I h) fun v s1 ⟨x,H1,I1,r1,q1⟩=>?_);obtain ⟨c,rfl,q1⟩:=q1;cases r1;exact not_of (wpAny_truthy_bool ⟨.bl (!c),H1,I1,rfl,q1⟩)
def tIf (t:TT) (ta tb:TE):TE:=fun σ H Q=>t σ H fun c H1=>if c=true then ta σ H1 Q else tb σ H1 Q
theorem kN {c:Expr} (hc:PT X c tA) (ha:PE X a ta) (hb:PE X b tb):PE X (.IfExp c a b pos) (tIf tA ta tb):=by
  intro pins s σ H Q I h;refine wpAny_IfExp (thn (hc pins s σ H _ I h) fun d s1 ⟨H1,I1,q1⟩=>?_);cases d with
  | true=>exact ha pins s1 σ H1 Q I1 q1
  | false=>exact hb pins s1 σ H1 Q I1 q1
end
open PySem PySem.Spec PyProof.Rows
def SqL (K:aab) (H:Hp) (a:Addr) (xs:List V):Prop :=
  Rd H a (.lst xs) ∨
    ∃ (o:Obj) (its:Array Value) (n:Nat),K.lookup a=some o∧o.cls=.type "list"∧o.dict=none∧o.data=.seq its n∧its.size≤sizeLine∧Vals xs its.toList
def SqT (K:aab) (H:Hp) (a:Addr) (xs:List V):Prop :=
  Rd H a (.tup xs) ∨
    ∃ (o:Obj) (its:Array Value) (n:Nat),K.lookup a=some o∧o.cls=.type "tuple"∧o.data=.seq its n∧its.size≤sizeLine∧Vals xs its.toList
def uZ:Value→Option V
  | .none=>some .non
  | .bool b=>some (.bl b)
  | .int i _=>some (.int i)
  | .str x _=>some (.str x)
  | .bytes b _=>some (.byt b)
  | .float b _=>some (.flt b)
  | .ref a=>some (.ref a)
  | .type n=>some (.ty n)
  | _=>none
theorem RelV.abs {x:V} {u:Value} (r:RelV x u):uZ u=some x:=by
  cases x with
  | non=>cases r;rfl
  | bl _=>cases r;rfl
  | int _=>obtain ⟨t,rfl⟩:=r;rfl
  | str _=>obtain ⟨t,rfl⟩:=r;rfl
  | byt _=>obtain ⟨t,rfl⟩:=r;rfl
  | flt _=>obtain ⟨t,rfl⟩:=r;rfl
  | ref _=>cases r;rfl
  | ty _=>cases r;rfl
theorem RelV.inj {x y:V} {u:Value} (r:RelV x u) (q:RelV y u):x=y:=aaN (r.abs.symm.trans q.abs)
theorem Vals.inj:∀ {xs ys:List V} {us:List Value},Vals xs us→Vals ys us→xs=ys
  | _,_,_,.nil,.nil=>rfl
  | _,_,_,.cons r t,.cons r' t'=>by rw [r.inj r',Vals.inj t t']
section
variable {X:Cx} {pins:List (Addr × Obj)} {σ:St} {H:Hp} {s:Shared} {a:Addr} {xs ys:List V}
theorem SqL.of {K:aab} (h:H a=some (.lst xs)):SqL K H a xs:=.inl (.inl h)
theorem SqT.of {K:aab} (h:H a=some (.tup xs)):SqT K H a xs:=.inl (.inl h)
theorem Inv.list (I:Inv X pins σ H s) (h:SqL X.K H a xs):∃ its:List Value,Vals xs its∧PlainL s.heap a its.toArray∧xs.length≤sizeLine:=by
  rcases h with h|⟨o,its,n,hk,hc,hd,hs,hz,r⟩
  · obtain ⟨z,its,n,r,e⟩:=h.ok I.hok;exact ⟨its,r,⟨_,n,e,rfl,rfl,rfl⟩,z⟩
  · refine ⟨its.toList,r,⟨o,n,I.kIn a o hk,hc,hd,by simpa using hs⟩,?_⟩;have e:=r.length;simp only [aam] at e;lia
theorem Inv.tuple (I:Inv X pins σ H s) (h:SqT X.K H a xs):∃ its:List Value,Vals xs its∧IsTup s.heap a its.toArray∧xs.length≤sizeLine:=by
  rcases h with h|⟨o,its,n,hk,hc,hs,hz,r⟩
  · obtain ⟨z,its,r,p⟩:=h.ok I.hok;exact ⟨its,r,p,z⟩
  · refine ⟨its.toList,r,⟨o,I.kIn a o hk,hc,n,by simpa using hs⟩,?_⟩;have e:=r.length;simp only [aam] at e;lia
theorem Inv.list_inj (I:Inv X pins σ H s) (h:SqL X.K H a xs) (h':SqL X.K H a ys):xs=ys:=by
  obtain ⟨its,r,⟨o,n,e,_,_,d⟩,_⟩:=I.list h;obtain ⟨its',r',⟨o',n',e',_,_,d'⟩,_⟩:=I.list h';rw [e] at e';cases e';rw [d] at d';injection d' with d1 _
  have : its=its':=by simpa using congrArg Array.toList d1
  subst this;exact r.inj r'
theorem Inv.tuple_inj (I:Inv X pins σ H s) (h:SqT X.K H a xs) (h':SqT X.K H a ys):xs=ys:=by
  obtain ⟨its,r,⟨o,e,_,n,d⟩,_⟩:=I.tuple h;obtain ⟨its',r',⟨o',e',_,n',d'⟩,_⟩:=I.tuple h';rw [e] at e';cases e';rw [d] at d';injection d' with d1 _
  have : its=its':=by simpa using congrArg Array.toList d1
  subst this;exact r.inj r'
end
abbrev Cx.wish (X:Cx) (E:Value→Shared→Prop):Cx:={ X with xe:=E }
abbrev Cx.nox (X:Cx):Cx:=X.wish fun _ _=>False
theorem Cx.Ok.wish {X:Cx} (ok:X.Ok) (E:Value→Shared→Prop):(X.wish E).Ok :=
  ⟨ok.mod,ok.kind,ok.glob,ok.blt,ok.above,ok.inj,ok.has,ok.cab,ok.hd,ok.frames,ok.stk,ok.exf,ok.bs,ok.bsz,ok.noex,ok.exfs,ok.funs,ok.frf⟩
theorem Cx.Ok.unwish {X:Cx} {E:Value→Shared→Prop} (ok:(X.wish E).Ok):X.Ok :=
  ⟨ok.mod,ok.kind,ok.glob,ok.blt,ok.above,ok.inj,ok.has,ok.cab,ok.hd,ok.frames,ok.stk,ok.exf,ok.bs,ok.bsz,ok.noex,ok.exfs,ok.funs,ok.frf⟩
section
variable {X:Cx} {pins:List (Addr × Obj)} {σ:St} {H:Hp} {s:Shared} {E:Value→Shared→Prop}
theorem Inv.wish (I:Inv X pins σ H s) (E:Value→Shared→Prop):Inv (X.wish E) pins σ H s:=⟨I.ok.wish E,I.os,I.bare,I.base,I.loc,I.cell,I.free,I.freeC,I.pin,I.hok,I.len⟩
theorem Inv.unwish (I:Inv (X.wish E) pins σ H s):Inv X pins σ H s:=⟨I.ok.unwish,I.os,I.bare,I.base,I.loc,I.cell,I.free,I.freeC,I.pin,I.hok,I.len⟩
theorem SP.unwish {D:Ends} {f:Flow} {s':Shared} (h:SP (X.wish E) pins D f s'):SP X pins D f s':=by
  cases f with
  | next=>obtain ⟨σ',H',I,q⟩:=h;exact ⟨σ',H',I.unwish,q⟩
  | brk=>obtain ⟨σ',H',I,q⟩:=h;exact ⟨σ',H',I.unwish,q⟩
  | cont=>obtain ⟨σ',H',I,q⟩:=h;exact ⟨σ',H',I.unwish,q⟩
  | ret u=>obtain ⟨v,σ',H',I,r,q⟩:=h;exact ⟨v,σ',H',I.unwish,r,q⟩
theorem PSs.nox {st:List Stmt} {t:TS} (h:PSs X.nox st t):PSs X st t:=fun pins s σ H D I hw =>
  wpAny_mono (h pins s σ H D (I.wish _) hw) (fun _ _ q=>q.unwish) fun _ _ z=>abg z
end
section
variable {X:Cx} {st:Stmt} {bx:List Stmt} {t u:TS} {e:Expr} {te:TE} {pos:Pos}
def tQ:TS:=fun D σ H=>D.nx σ H
def uA (t u:TS):TS:=fun D σ H=>t { D with nx:=u D } σ H
theorem aQ:PSs X [] tQ:=fun _ _ σ H _ I h=>wpAny_execs_nil ⟨σ,H,I,h⟩
theorem ag (h1:PS X st t) (h2:PSs X bx u):PSs X (st :: bx) (uA t u):=by
  intro pins s σ H D I h;refine wpAny_execs_cons (thn (h1 pins s σ H { D with nx:=u D } I h) fun f s1 q=>?_);cases f with
  | next =>
    obtain ⟨σ',H',I',q⟩:=q;exact h2 pins s1 σ' H' D I' q
  | ret v=>exact q
  | brk=>exact q
  | cont=>exact q
theorem ai (h1:PS X st t):PSs X [st] t:=by
  intro pins s σ H D I h;refine wpAny_execs_cons (thn (h1 pins s σ H D I h) fun f s1 q=>?_);cases f with
  | next=>exact wpAny_execs_nil q
  | ret v=>exact q
  | brk=>exact q
  | cont=>exact q
theorem Inv.quiet {pins:List (Addr × Obj)} {σ:St} {H:Hp} {s:Shared} (I:Inv X pins σ H s):interactive X.env=false:=by simp [interactive,I.ok.kind]
def tS (te:TE):TS:=fun D σ H=>te σ H fun _ H1=>D.nx σ H1
theorem bA (he:PE X e te) (hs:swapsWith e none pos.line X.env=pure false:=by rfl):PS X (.Expr e pos) (tS te):=by
  intro pins s σ H D I h;exact wpAny_Expr_any (thn (he pins s σ H _ I h) fun v s1 ⟨x,H1,I1,r1,q1⟩=>⟨σ,H1,I1,q1⟩) I.quiet hs
def uB (te:TE):TS:=fun D σ H=>te σ H D.rt
theorem az (he:PE X e te):PS X (.Return (some e) pos) (uB te):=by
  intro pins s σ H D I h;exact wpAny_Return_some (thn (he pins s σ H _ I h) fun v s1 ⟨x,H1,I1,r1,q1⟩=>⟨x,σ,H1,I1,r1,q1⟩)
def uG (c:TT) (t u:TS):TS:=fun D σ H=>c σ H fun b H1=>if b=true then t D σ H1 else u D σ H1
theorem bO {c:Expr} {a b:List Stmt} {tc:TT} (hc:PT X c tc) (ha:PSs X a t) (hb:PSs X b u):PS X (.If c a b pos) (uG tc t u):=by
  intro pins s σ H D I h;refine wpAny_If (thn (hc pins s σ H _ I h) fun d s1 ⟨H1,I1,q1⟩=>?_);cases d with
  | true=>exact ha pins s1 σ H1 D I1 q1
  | false=>exact hb pins s1 σ H1 D I1 q1
end
abbrev TG:=V→St→Hp→(St→Hp→Prop)→Prop
abbrev TGs:=List V→St→Hp→(St→Hp→Prop)→Prop
def PG (X:Cx) (target:Expr) (t:TG):Prop :=
  ∀ (pins:List (Addr × Obj)) (s:Shared) (σ:St) (H:Hp) (v:V) (u:Value) (Q:St→Hp→Prop),Inv X pins σ H s→RelV v u→t v σ H Q →
    wpAny (model X.prog X.w) X.A (assign target X.env u) (fun _ s'=>∃ σ' H',Inv X pins σ' H' s'∧Q σ' H') X.xe s
def PGs (X:Cx) (ts:List Expr) (t:TGs):Prop :=
  ∀ (pins:List (Addr × Obj)) (s:Shared) (σ:St) (H:Hp) (vs:List V) (us:List Value) (Q:St→Hp→Prop),Inv X pins σ H s→Vals vs us→t vs σ H Q →
    wpAny (model X.prog X.w) X.A (assignInOrder ((assignEach ts X.env).map (·.2)) us) (fun _ s'=>∃ σ' H',Inv X pins σ' H' s'∧Q σ' H') X.xe s
abbrev tJ:=V→V→V→Hp→(Hp→Prop)→Prop
def uu (X:Cx) (t:tJ):Prop :=
  ∀ (pins:List (Addr × Obj)) (s:Shared) (σ:St) (H:Hp) (o i v:V) (ov iv u:Value) (Q:Hp→Prop),Inv X pins σ H s→RelV o ov→RelV i iv→RelV v u→t o i v H Q →
    wpAny (model X.prog X.w) X.A (setItem ov iv u) (fun _ s'=>∃ H',Inv X pins σ H' s'∧Q H') X.xe s
section
variable {X:Cx} {pos:Pos}
def rM (i:Nat):TG:=fun v σ H Q=>Q (σ.set i (some v)) H
theorem aD {i:Nat} {x:Str} (hN:X.N.Nodup) (hi:X.N[i]?=some x) (hx:Loc X.env.scope x) (hf:X.fn x=true∨X.env.scope.names.lookup x=some .local:=by first|exact .inl rfl|exact .inr rfl|assumption):PG X (.Name x pos) (rM i):=by
  intro pins s σ H v u Q I r h;exact wpAny_assign_Name (hW I hN hi hx r (fun s' I'=>⟨_,H,I',h⟩) hf)
def uW:TGs:=fun vs σ H Q=>vs=[]∧Q σ H
def um (t:TG) (u:TGs):TGs:=fun vs σ H Q=>∃ v r,vs=v :: r∧t v σ H fun σ' H'=>u r σ' H' Q
theorem fh:PGs X [] uW:=by
  intro pins s σ H vs us Q I r h;obtain ⟨e,h⟩:=h;subst e;cases r;exact assignInOrder_nil ⟨σ,H,I,h⟩
theorem bM {e:Expr} {es:List Expr} {t:TG} {u:TGs} (h1:PG X e t) (h2:PGs X es u)
    (hs:(assignEach (e :: es) X.env).map (·.2)=assign e X.env :: (assignEach es X.env).map (·.2):=by rfl):PGs X (e :: es) (um t u):=by
  intro pins s σ H vs us Q I r h;obtain ⟨v,vr,e1,h⟩:=h;subst e1;cases r with
  | cons r rr =>
    rw [hs];refine assignInOrder_cons (thn (h1 pins s σ H _ _ _ I r h) fun _ s1 ⟨σ1,H1,I1,q1⟩=>?_);exact h2 pins s1 σ1 H1 _ _ Q I1 rr q1
def uU (K:aab) (n:Nat) (t:TGs):TG:=fun v σ H Q=>∃ a xs,v=.ref a∧SqT K H a xs∧xs.length=n∧t xs σ H Q
theorem gk {es:List Expr} {k:Nat} {t:TGs} {n:Nat} (hc:X.calm=true) (h:PGs X es t)
    (hn:(assignEach es X.env).length=n:=by rfl) (hst:(assignEach es X.env).findIdx? (·.1)=none:=by rfl):PG X (.Tuple es k pos) (uU X.K n t):=by
  intro pins s σ H v u Q I r hw;obtain ⟨a,xs,e1,hq,hl,hw⟩:=hw;subst e1;cases r;obtain ⟨its,rv,ht,hz⟩:=I.tuple hq;refine assign_Tuple_tuple (I.ok.hd hc) ht (by simp [hn,← hl,rv.length]) hst fun h' hx=>?_;have I1:Inv X pins σ H { s with heap:=h' }:=I.kept (t':=s.toks) fun b o e=>hx b o (aas (aag e)) e;exact h pins _ σ H xs _ Q I1 (by simpa using rv) hw
def uV (to ti:TE) (t:tJ):TG:=fun v σ H Q=>to σ H fun o H1=>ti σ H1 fun i H2=>t o i v H2 fun H3=>Q σ H3
theorem pH {o i:Expr} {to ti:TE} {t:tJ} (ho:PE X o to) (hi:PE X i ti) (hs:uu X t)
    (ha:∀ v,assign (.Subscript o i pos) X.env v=(do
      let ov ← holding [v] (eval o X.env)
      let iv ← holding [v,ov] (eval i X.env)
      standAt pos
      holding [v,ov,iv] (setItem ov iv v)
      release [v,ov,iv] []):=by intro _;rfl):PG X (.Subscript o i pos) (uV to ti t):=by
  intro pins s σ H v u Q I r h;rw [ha];refine wpAny_bind (wpAny_holding (thn (ho pins s σ H _ I h) fun ov s1 ⟨x,H1,I1,r1,q1⟩=>?_));refine wpAny_bind (wpAny_holding (thn (hi pins s1 σ H1 _ I1 q1) fun iv s2 ⟨y,H2,I2,r2,q2⟩=>?_));refine wpAny_bind (wpAny_standAt (wpAny_bind (wpAny_holding (thn (hs pins s2 σ H2 x y v ov iv u _ I2 r1 r2 r q2) fun _ s3 ⟨H3,I3,q3⟩=>?_))));exact wpAny_release ⟨σ,H3,I3,q3⟩
def tX (te:TE) (g:TG):TS:=fun D σ H=>te σ H fun x H1=>g x σ H1 D.nx
theorem jM {tg e:Expr} {te:TE} {g:TG} (he:PE X e te) (hg:PG X tg g) (hs:swapsWithSole [tg] e pos.line X.env=pure false:=by rfl) (hw:swappedStores [tg] e X.env=pure none:=by rfl)
    (h1:(assignEach [tg] X.env).map (·.2)=[assign tg X.env]:=by rfl):PS X (.Assign [tg] e pos) (tX te g):=by
  intro pins s σ H D I h;refine wpAny_Assign_stores (thn (he pins s σ H _ I h) fun v s1 ⟨x,H1,I1,r1,q1⟩=>?_) hs hw;rw [h1];exact thn (hg pins s1 σ H1 x v _ I1 r1 q1) fun _ s2 q=>q
theorem aI {i:Nat} {x:Str} {e:Expr} {te:TE} {pos':Pos} (hN:X.N.Nodup) (hi:X.N[i]?=some x) (hx:Loc X.env.scope x) (he:PE X e te) (hs:swapsWith e (some (.Name x pos')) pos.line X.env=pure false:=by rfl) (hf:X.fn x=true∨X.env.scope.names.lookup x=some .local:=by first|exact .inl rfl|exact .inr rfl|assumption) :
    PS X (.Assign [.Name x pos'] e pos) (tX te (rM i)):=by
  intro pins s σ H D I h;refine wpAny_Assign_Name (thn (he pins s σ H _ I h) fun v s1 ⟨y,H1,I1,r1,q1⟩=>?_) hs;exact hW I1 hN hi hx r1 (fun s2 I2=>⟨_,H1,I2,q1⟩) hf
end
section
variable {X:Cx} {pos:Pos}
end
structure It where
  go:Nat→Hp→Prop
  yld:Nat→Hp→V→Hp→Prop
  stop:Nat→Hp→Prop
def iT (X:Cx) (pins:List (Addr × Obj)) (H:Hp) (b:Addr):Prop :=
  H b=none∧b≠X.env.locals∧b∉X.fs∧(b∈X.ex∨X.s₀.heap.objs.size≤b)∧(∀ x c,X.env.cells.lookup x=some c→c≠b)∧∀ p∈X.pn++pins,p.1≠b
theorem Inv.fpOk {X:Cx} {pins:List (Addr × Obj)} {σ:St} {H H':Hp} {s:Shared} {b:Addr} (I:Inv X pins σ H s) (hb:s.heap.objs.size≤b) (hn:H' b=none):iT X pins H' b:=by
  refine ⟨hn,aaT (aaq I.lt hb),I.nofs hb,.inr (aaL I.sz hb),fun x c e z=>?_,fun p hp z=>?_⟩
  · obtain ⟨v,q⟩:=I.cell x c e;exact absurd (aaq q.lt (by rw [z];exact hb)) (abm _)
  · exact absurd (aaq (aag (I.pin p hp).1) (by rw [z];exact hb)) (abm _)
structure Turn (P:Program) (w:World) (K:aab) (tg:Expr) (J:It) (fp:List Addr) (it:Addr) (tn:Nat→Heap→Prop):Prop where
  mem:it∈fp
  obj:∀ i h,tn i h→∀ b∈fp,∃ o,h.get? b=some o∧∀ v,o.data≠.cell v
  keep:∀ i h h',tn i h→(∀ b∈fp,∀ o,h.get? b=some o→h'.get? b=some o)→tn i h'
  item:∀ (X:Cx),X.prog=P→X.w=w→X.K=K→X.calm=true→∀ (i:Nat) (pins:List (Addr × Obj)) (s:Shared) (σ:St) (H:Hp) (E:Value→Shared→Prop),Inv X pins σ H s→(∀ b∈fp,iT X pins H b)→tn i s.heap→J.go i H →
    wpAny (model P w) X.A (pyNext (.ref it)) (fun r s1=>∃ u,r=some u ∧
      wpAny (model P w) X.A (letOwnedTupleGo tg (.ref it) u) (fun _ s2=>∃ x H',Inv X pins σ H' s2∧RelV x u∧J.yld i H x H'∧tn (i+1) s2.heap∧∀ b∈fp,H' b=none) E s1) E s
  done:∀ (X:Cx),X.prog=P→X.w=w→X.K=K→X.calm=true→∀ (i:Nat) (pins:List (Addr × Obj)) (s:Shared) (σ:St) (H:Hp) (E:Value→Shared→Prop),Inv X pins σ H s→(∀ b∈fp,iT X pins H b)→tn i s.heap→J.stop i H →
    wpAny (model P w) X.A (pyNext (.ref it)) (fun r s1=>r=none∧Inv X pins σ H s1) E s
  self:∀ (A:Around) (i:Nat) (s:Shared) (Q:Value→Shared→Prop) (E:Value→Shared→Prop),tn i s.heap→Q (.ref it) s→wpAny (model P w) A (pyIter (.ref it)) Q E s
abbrev TI:=St→Hp→(It→Hp→Prop)→Prop
def PIE (X:Cx) (pins:List (Addr × Obj)) (σ:St) (tg:Expr) (R:It→Hp→Prop) (itv:Value) (s2:Shared):Prop :=
  ∃ (it:Addr) (fp:List Addr) (tn:Nat→Heap→Prop) (J:It) (H':Hp),itv=.ref it∧Inv X pins σ H' s2∧Turn X.prog X.w X.K tg J fp it tn∧tn 0 s2.heap∧(∀ b∈fp,iT X pins H' b)∧R J H'
def PI (X:Cx) (tg iter:Expr) (wi:TI):Prop :=
  ∀ (pins:List (Addr × Obj)) (s:Shared) (σ:St) (H:Hp) (R:It→Hp→Prop),Inv X pins σ H s→wi σ H R →
    wpAny (model X.prog X.w) X.A (eval iter X.env) (fun v s1=>wpAny (model X.prog X.w) X.A (pyIter v) (PIE X pins σ tg R) X.xe s1) X.xe s
theorem nz {M:Model} {A:Around} {E:Value→Shared→Prop} {s:Shared} {tg:Expr} {it:Addr} {u:Value} {o:Obj} {n:String} {vs:Array Value} {Q:Unit→Shared→Prop} (ho:s.heap.get? it=some o) (hc:o.cls=.type n) (hd:o.data=.fields vs)
    (hn:["enumerate","zip","dict_itemiterator","dict_reverseitemiterator","odict_iterator","itertools.zip_longest","itertools.pairwise"].contains n=false) (hQ:Q () s):wpAny M A (letOwnedTupleGo tg (.ref it) u) Q E s:=by
  unfold letOwnedTupleGo;cases tg <;> first
    | exact wpAny_pure hQ
    | (cases u <;> first
        | exact wpAny_pure hQ
        | (refine wpAny_bind (wpAny_load ho ?_)
           rw [hc,hd];show wpAny M A (if (["enumerate","zip","dict_itemiterator","dict_reverseitemiterator","odict_iterator","itertools.zip_longest","itertools.pairwise"].contains n && vs[0]? == some (rawInt _))=true then _ else _) Q E s;rw [if_neg (by intro h;rw [hn,Bool.false_and] at h;cases h)];exact wpAny_pure hQ))
def Itl (K:aab) (a:Addr):It :=
  ⟨fun i H=>∃ xs x,SqL K H a xs∧xs[i]?=some x,fun i H x H'=>H'=H∧∀ xs,SqL K H a xs→xs[i]?=some x,fun i H=>∃ xs,SqL K H a xs∧xs.length≤i⟩
def Itt (K:aab) (a:Addr):It :=
  ⟨fun i H=>∃ xs x,SqT K H a xs∧xs[i]?=some x,fun i H x H'=>H'=H∧∀ xs,SqT K H a xs→xs[i]?=some x,fun i H=>∃ xs,SqT K H a xs∧xs.length≤i⟩
def Itr (lo:Int) (n:Nat):It:=⟨fun i _=>i < n,fun i H x H'=>H'=H∧x=.int (lo+i),fun i _=>n≤i⟩
theorem nQ {P:Program} {w:World} {K:aab} {tg:Expr} (a it:Addr):Turn P w K tg (Itl K a) [it] it (fun i h=>h.IsListIter it a i) where
  mem:=by simp
  obj:=fun i h st b hb=>by
    have e:b=it:=by simpa using hb
    subst e;obtain ⟨o,e,c,d⟩:=st;exact ⟨o,e,fun v z=>by rw [d] at z;cases z⟩
  keep:=fun i h h' st k=>st.at fun o e=>k it (by simp) o e
  item:=by
    intro X hP hw hK hc i pins s σ H E I hf st hg;subst hP hw hK;obtain ⟨xs,x,hq,hx⟩:=hg;obtain ⟨its,rv,p,hz⟩:=I.list hq;obtain ⟨u,hu,ru⟩:=rv.get hx;obtain ⟨f0,f1,f2,f3,f4,f5⟩:=hf it (by simp);refine wpAny_pyNext_list_item st p.isList (x:=u) (by simpa using hu) fun h' st' sb=>?_;have I1:Inv X pins σ H { s with heap:=h' }:=I.turned (t':=s.toks) (fun b o hb e=>(sb.2 b hb).trans e) f0 f1 f3 f4 f5;obtain ⟨o,e,c,d⟩:=id st';exact ⟨u,rfl,nz (s:={ s with heap:=h' }) e c d (by decide) ⟨x,H,I1,ru,⟨rfl,fun ys hy=>by rw [I.list_inj hy hq];exact hx⟩,st',fun b hb=>(hf b hb).1⟩⟩
  done:=by
    intro X hP hw hK hc i pins s σ H E I hf st hg;subst hP hw hK;obtain ⟨xs,hq,hx⟩:=hg;obtain ⟨its,rv,p,hz⟩:=I.list hq;obtain ⟨f0,f1,f2,f3,f4,f5⟩:=hf it (by simp);have hl:=rv.length;exact wpAny_pyNext_list_end (I.ok.hd hc) st p.isList (by simp;lia) fun h' eb=>⟨rfl,I.turned (t':=s.toks) (fun b o hb e=>eb b o hb e) f0 f1 f3 f4 f5⟩
  self:=fun _ _ _ _ _ st h=>wpAny_pyIter_listiter st h
theorem lK {P:Program} {w:World} {K:aab} {tg:Expr} (a it:Addr):Turn P w K tg (Itt K a) [it] it (fun i h=>h.IsTupleIter it a i) where
  mem:=by simp
  obj:=fun i h st b hb=>by
    have e:b=it:=by simpa using hb
    subst e;obtain ⟨o,e,c,d⟩:=st;exact ⟨o,e,fun v z=>by rw [d] at z;cases z⟩
  keep:=fun i h h' st k=>st.at fun o e=>k it (by simp) o e
  item:=by
    intro X hP hw hK hc i pins s σ H E I hf st hg;subst hP hw hK;obtain ⟨xs,x,hq,hx⟩:=hg;obtain ⟨its,rv,p,hz⟩:=I.tuple hq;obtain ⟨u,hu,ru⟩:=rv.get hx;obtain ⟨f0,f1,f2,f3,f4,f5⟩:=hf it (by simp);refine wpAny_pyNext_tuple_item st (show s.heap.IsTuple a its.toArray from p) (x:=u) (by simpa using hu) fun h' st' sb=>?_;have I1:Inv X pins σ H { s with heap:=h' }:=I.turned (t':=s.toks) (fun b o hb e=>(sb.2 b hb).trans e) f0 f1 f3 f4 f5;obtain ⟨o,e,c,d⟩:=id st';exact ⟨u,rfl,nz (s:={ s with heap:=h' }) e c d (by decide) ⟨x,H,I1,ru,⟨rfl,fun ys hy=>by rw [I.tuple_inj hy hq];exact hx⟩,st',fun b hb=>(hf b hb).1⟩⟩
  done:=by
    intro X hP hw hK hc i pins s σ H E I hf st hg;subst hP hw hK;obtain ⟨xs,hq,hx⟩:=hg;obtain ⟨its,rv,p,hz⟩:=I.tuple hq;obtain ⟨f0,f1,f2,f3,f4,f5⟩:=hf it (by simp);have hl:=rv.length;exact wpAny_pyNext_tuple_end (I.ok.hd hc) st (show s.heap.IsTuple a its.toArray from p) (by simp;lia) fun h' eb=>⟨rfl,I.turned (t':=s.toks) (fun b o hb e=>eb b o hb e) f0 f1 f3 f4 f5⟩
  self:=fun _ _ _ _ _ st h=>wpAny_pyIter_tupleiter st h
theorem lL {P:Program} {w:World} {K:aab} {tg:Expr} (it:Addr) (lo:Int) (n:Nat):Turn P w K tg (Itr lo n) [it] it (fun i h=>IsRangeIter h it (lo+(i:Nat) * 1) ((n:Int) - (i:Nat)) 1) where
  mem:=by simp
  obj:=fun i h st b hb=>by
    have e:b=it:=by simpa using hb
    subst e;exact ⟨_,st,fun v z=>by
      have z':Data.fields _=Data.cell v:=z;cases z'⟩
  keep:=fun i h h' st k=>k it (by simp) _ st
  item:=by
    intro X hP hw hK hc i pins s σ H E I hf st hg;subst hP hw hK;obtain ⟨f0,f1,f2,f3,f4,f5⟩:=hf it (by simp);have W:=Walks.range (prog:=X.prog) (w:=X.w) (I.ok.hd hc) it lo 1 n;refine W.item i s _ _ hg st fun v h' tk hv st' kk=>?_;obtain ⟨t,rfl⟩:=hv;have I1:Inv X pins σ H { s with heap:=h',toks:=tk }:=I.turned (fun b o hb e=>kk b o (by simpa using hb) e) f0 f1 f3 f4 f5;refine ⟨_,rfl,nz (s:={ s with heap:=h',toks:=tk }) (n:="range_iterator") st' rfl rfl (by decide) ⟨.int (lo+i),H,I1,⟨t,?_⟩,⟨rfl,rfl⟩,st',fun b hb=>(hf b hb).1⟩⟩;rw [Int.mul_one]
  done:=by
    intro X hP hw hK hc i pins s σ H E I hf st hg;subst hP hw hK;obtain ⟨f0,f1,f2,f3,f4,f5⟩:=hf it (by simp);exact wpAny_pyNext_range_end (I.ok.hd hc) st (by have : n≤i:=hg;lia) fun h' eb=>⟨rfl,I.turned (t':=s.toks) (fun b o hb e=>eb b o hb e) f0 f1 f3 f4 f5⟩
  self:=fun _ _ _ _ _ st h=>wpAny_pyIter_rangeiter st h
open PySem PySem.Spec PyProof.Rows
section
variable {X:Cx} {tg:Expr}
def ul (K:aab) (tl:TE):TI:=fun σ H R=>tl σ H fun x H1=>∃ a,x=.ref a∧(∃ xs,SqL K H1 a xs)∧R (Itl K a) H1
def uS (K:aab) (tl:TE):TI:=fun σ H R=>tl σ H fun x H1=>∃ a,x=.ref a∧(∃ xs,SqT K H1 a xs)∧R (Itt K a) H1
theorem ce {l:Expr} {tl:TE} (hl:PE X l tl):PI X tg l (ul X.K tl):=by
  intro pins s σ H R I h;refine thn (hl pins s σ H _ I h) fun v s1 ⟨x,H1,I1,r1,q1⟩=>?_;obtain ⟨a,e,⟨xs,hq⟩,q⟩:=q1;subst e;cases r1;obtain ⟨its,rv,p,hz⟩:=I1.list hq;refine wpAny_pyIter_list p.isList ?_;refine ⟨s1.heap.objs.size,[s1.heap.objs.size],_,_,H1,rfl,I1.kept (t':=s1.toks) fun b o e=>aac _ e,nQ a _,⟨_,aap _ rfl,rfl,rfl⟩,fun b hb=>?_,q⟩;have e:b=s1.heap.objs.size:=by simpa using hb
  subst e;exact I1.fpOk (aad _) (I1.hok.fresh (aad _))
theorem sw {l:Expr} {tl:TE} (hl:PE X l tl):PI X tg l (uS X.K tl):=by
  intro pins s σ H R I h;refine thn (hl pins s σ H _ I h) fun v s1 ⟨x,H1,I1,r1,q1⟩=>?_;obtain ⟨a,e,⟨xs,hq⟩,q⟩:=q1;subst e;cases r1;obtain ⟨its,rv,p,hz⟩:=I1.tuple hq;refine wpAny_pyIter_tuple (show s1.heap.IsTuple a its.toArray from p) ?_;refine ⟨s1.heap.objs.size,[s1.heap.objs.size],_,_,H1,rfl,I1.kept (t':=s1.toks) fun b o e=>aac _ e,lK a _,⟨_,aap _ rfl,rfl,rfl⟩,fun b hb=>?_,q⟩;have e:b=s1.heap.objs.size:=by simpa using hb
  subst e;exact I1.fpOk (aad _) (I1.hok.fresh (aad _))
theorem kF {pins:List (Addr × Obj)} {σ:St} {H:Hp} {s:Shared} {R:It→Hp→Prop} {E:Value→Shared→Prop} {lo hi:Int} {t u v:Tok} {tk:Nat} (I:Inv X pins σ H s) (h1:-(2 ^ 62)≤lo) (h2:lo < 2 ^ 62) (h3:-(2 ^ 62)≤hi) (h4:hi < 2 ^ 62)
    (q:R (Itr lo (hi - lo).toNat) H):wpAny (model X.prog X.w) X.A (pyIter (.ref s.heap.objs.size)) (PIE X pins σ tg R) E { s with heap:=s.heap.push { cls:=.type "range",data:=.fields #[.int lo t,.int hi u,.int 1 v] },toks:=tk }:=by
  refine wpAny_pyIter_range (IsRange.new ..) (small_one h1 h2 h3 h4) ?_;have I1:Inv X pins σ H { s with heap:=s.heap.push { cls:=.type "range",data:=.fields #[.int lo t,.int hi u,.int 1 v] },toks:=tk }:=I.kept fun b o e=>aac _ e;refine ⟨(s.heap.push { cls:=.type "range",data:=.fields #[.int lo t,.int hi u,.int 1 v] }).objs.size,[(s.heap.push { cls:=.type "range",data:=.fields #[.int lo t,.int hi u,.int 1 v] }).objs.size],_,_,H,rfl,
    I1.kept (t':=tk) fun b o e=>aac _ e,lL _ lo (hi - lo).toNat,?_,fun b hb=>?_,q⟩
  · have e1:lo+((0:Nat):Int) * 1=lo:=by simp
    have e2:(((hi - lo).toNat:Nat):Int) - ((0:Nat):Int)=Builtin.Range.rangeSize lo hi 1:=by rw [rangeSize_one];split <;> lia
    show IsRangeIter _ _ (lo+((0:Nat):Int) * 1) ((((hi - lo).toNat:Nat):Int) - ((0:Nat):Int)) 1;rw [e1,e2];exact aap _ rfl
  · have e:b=(s.heap.push { cls:=.type "range",data:=.fields #[.int lo t,.int hi u,.int 1 v] }).objs.size:=by simpa using hb
    subst e;exact I1.fpOk (aad _) (I1.hok.fresh (aad _))
def uk (ta:TA):TI:=fun σ H R=>ta σ H fun vs H1=>∃ j:Int,vs=[.int j]∧-(2 ^ 62)≤j∧j < 2 ^ 62∧R (Itr 0 j.toNat) H1
def uj (ta:TA):TI:=fun σ H R=>ta σ H fun vs H1=>∃ i j:Int,vs=[.int i,.int j]∧(-(2 ^ 62)≤i∧i < 2 ^ 62∧-(2 ^ 62)≤j∧j < 2 ^ 62)∧R (Itr i (j - i).toNat) H1
theorem fg {a:Expr} {ta:TA} {p pos:Pos} (hg:Gl X "range") (hm:X.mg "range" = none) (ha:PA X [a] ta) (hs:starEach [a] X.env=[(false,eval a X.env)]:=by rfl):PI X tg (.Call (.Name "range" p) [a] [] pos) (uk ta):=by
  intro pins s σ H R I h;refine Call_ (gw I hg hm boot_range (aca (thn (ha pos pins s σ H _ I h) fun us s1 ⟨vs,H1,I1,r1,q1⟩=>?_) hs rfl));obtain ⟨j,e,q1,q2,q⟩:=q1;subst e;cases r1 with
  | cons r rr =>
    cases rr;obtain ⟨t,rfl⟩:=r;exact call_range_1 (kF I1 (by lia) (by lia) q1 q2 (by simpa using q))
theorem ji {a b:Expr} {ta:TA} {p pos:Pos} (hg:Gl X "range") (hm:X.mg "range" = none) (ha:PA X [a,b] ta) (hs:starEach [a,b] X.env=[(false,eval a X.env),(false,eval b X.env)]:=by rfl) (hs2:starEach [b] X.env=[(false,eval b X.env)]:=by rfl) :
    PI X tg (.Call (.Name "range" p) [a,b] [] pos) (uj ta):=by
  intro pins s σ H R I h;refine Call_ (gw I hg hm boot_range (aca (thn (ha pos pins s σ H _ I h) fun us s1 ⟨vs,H1,I1,r1,q1⟩=>?_) (by rw [hs,hs2]) (by rw [hs2];rfl)));obtain ⟨i,j,e,⟨q1,q2,q3,q4⟩,q⟩:=q1;subst e;cases r1 with
  | cons r rr =>
    cases rr with
    | cons r' rr =>
      cases rr;obtain ⟨t,rfl⟩:=r;obtain ⟨t',rfl⟩:=r';exact call_range_2 (kF I1 q1 q2 q3 q4 q)
def uH (wi:TI) (g:TG) (tb:TS):TS:=fun D σ H=>wi σ H fun J H1=>∃ W:Nat→Nat→St→Hp→Prop,(∃ m,W 0 m σ H1)∧∀ i m σ H,W i m σ H →
  (J.stop i H∧D.nx σ H)∨(J.go i H∧∃ N:St→Hp→Prop,(∀ σ' H',N σ' H'→∃ m',m' < m∧W (i+1) m' σ' H')∧∀ x H',J.yld i H x H'→g x σ H' fun σ2 H2=>tb { D with nx:=N,ct:=N,bk:=D.nx } σ2 H2)
def bu (fp:List Addr) (h:Heap):List (Addr × Obj):=fp.filterMap fun b=>(h.get? b).map fun o=>(b,o)
theorem bW {fp:List Addr} {h:Heap} {b:Addr} {o:Obj} (hb:b∈fp) (e:h.get? b=some o):(b,o)∈bu fp h:=List.mem_filterMap.mpr ⟨b,hb,by rw [e];rfl⟩
theorem dQ {fp:List Addr} {h:Heap} {p:Addr × Obj} (hp:p∈bu fp h):p.1∈fp∧h.get? p.1=some p.2:=by
  obtain ⟨b,hb,e⟩:=List.mem_filterMap.mp hp;cases q:h.get? b with
  | none=>rw [q] at e;cases e
  | some o =>
    rw [q] at e;have e':(b,o)=p:=aaN e;subst e';exact ⟨hb,q⟩
theorem Inv.pinned {pins:List (Addr × Obj)} {σ:St} {H:Hp} {s:Shared} {fp:List Addr} (I:Inv X pins σ H s) (hf:∀ b∈fp,iT X pins H b) (ho:∀ b∈fp,∃ o,s.heap.get? b=some o∧∀ v,o.data≠.cell v):Inv X (pins++bu fp s.heap) σ H s :=
  I.pins_of fun p hp=>(aao.mp hp).elim (fun z=>I.pin p (aaa _ z)) fun z=>by
    obtain ⟨hb,e⟩:=dQ z;obtain ⟨f0,f1,f2,_⟩:=hf p.1 hb;obtain ⟨o,e',d⟩:=ho p.1 hb;rw [e] at e';cases e';exact ⟨e,f0,f1,f2,d⟩
theorem Inv.unpinned {pins pl:List (Addr × Obj)} {σ:St} {H:Hp} {s:Shared} (I:Inv X (pins++pl) σ H s):Inv X pins σ H s:=I.pins_of fun p hp=>I.pin p (aaa _ (aaC _ hp))
theorem cA {iter:Expr} {body:List Stmt} {wi:TI} {g:TG} {tb:TS} {pos:Pos} (hp:PassesOwn (model X.prog X.w) X.A X.env X.xe) (hc:X.calm=true) (hi:PI X tg iter wi) (hg:PG X tg g) (hb:PSs X body tb)
    (hs:∀ x,foldedSetIterable iter X.env x=pure x:=by intro _;rfl):PS X (.For tg iter body [] pos) (uH wi g tb):=by
  intro pins s σ H D I h;refine wpAny_For (thn (hi pins s σ H _ I h) fun v s1 h1=>thn h1 fun itv s2 h2=>?_) hs;obtain ⟨it,fp,tn,J,H2,e,I2,T,st2,f2,W,⟨m0,w0⟩,turn⟩:=h2;subst e;have stat:∀ {H':Hp},(∀ b∈fp,H' b=none)→∀ b∈fp,iT X pins H' b:=fun hn b hb=>⟨hn b hb,(f2 b hb).2⟩
  refine codeAny_forLoop_any (fun n s'=>∃ i σ' H',Inv X pins σ' H' s'∧tn i s'.heap∧(∀ b∈fp,H' b=none)∧W i n σ' H') ?_ m0 ⟨0,σ,H2,I2,st2,fun b hb=>(f2 b hb).1,w0⟩;rintro n s3 ⟨i,σ3,H3,I3,st3,fr3,w3⟩;rcases turn i n σ3 H3 w3 with ⟨stop,qn⟩|⟨go,N,hN,step⟩
  · refine wpAny_passesOwn hp (thn (T.done X rfl rfl rfl hc i pins s3 σ3 H3 X.xe I3 (stat fr3) st3 stop) fun r s4 ⟨hr,I4⟩=>?_);subst hr;exact wpAny_execs_nil ⟨σ3,H3,I4,qn⟩
  · refine wpAny_passesOwn hp (thn (T.item X rfl rfl rfl hc i pins s3 σ3 H3 X.xe I3 (stat fr3) st3 go) fun r s4 ⟨u,hr,h4⟩=>?_);subst hr;refine wpAny_passesOwn hp (thn h4 fun _ s5 ⟨x,H5,I5,r5,y5,st5,fr5⟩=>?_);have I5':=I5.pinned (stat fr5) (T.obj _ _ st5);refine wpAny_passesOwn hp (thn (hg _ s5 σ3 H5 x u _ I5' r5 (step x H5 y5)) fun _ s6 ⟨σ6,H6,I6,q6⟩=>?_);refine wpAny_passesOwn hp (thn (hb _ s6 σ6 H6 _ I6 q6) fun f s7 q7=>?_);have again:∀ {σ7:St} {H7:Hp},Inv X (pins++bu fp s5.heap) σ7 H7 s7→N σ7 H7→∃ m,m < n∧∃ i σ' H',Inv X pins σ' H' s7∧tn i s7.heap∧(∀ b∈fp,H' b=none)∧W i m σ' H':=fun {σ7 H7} I7 n7=>by
      obtain ⟨m',hm,w7⟩:=hN σ7 H7 n7;refine ⟨m',hm,i+1,σ7,H7,I7.unpinned,T.keep _ _ _ st5 fun b hb o e=>(I7.pin (b,o) (aaa _ (aaa _ (bW hb e)))).1,fun b hb=>?_,w7⟩;obtain ⟨o,e,d⟩:=T.obj _ _ st5 b hb;exact (I7.pin (b,o) (aaa _ (aaa _ (bW hb e)))).2.1
    cases f with
    | next=>obtain ⟨σ7,H7,I7,n7⟩:=q7;exact again I7 n7
    | cont=>obtain ⟨σ7,H7,I7,n7⟩:=q7;exact again I7 n7
    | brk=>obtain ⟨σ7,H7,I7,q7⟩:=q7;exact ⟨σ7,H7,I7.unpinned,q7⟩
    | ret v=>obtain ⟨x7,σ7,H7,I7,r7,q7⟩:=q7;exact ⟨x7,σ7,H7,I7.unpinned,r7,q7⟩
end
theorem oF {lo:Int} {n:Nat} {g:TG} {tb:TS} {D:Ends} {σ:St} {H:Hp} (Pv:Nat→St→Hp→Prop) (h0:Pv 0 σ H)
    (hs:∀ i σ H,i < n→Pv i σ H→g (.int (lo+i)) σ H fun σ2 H2=>tb { D with nx:=Pv (i+1),ct:=Pv (i+1),bk:=D.nx } σ2 H2) (hd:∀ σ H,Pv n σ H→D.nx σ H) :
    ∃ W:Nat→Nat→St→Hp→Prop,(∃ m,W 0 m σ H)∧∀ i m σ H,W i m σ H →
      ((Itr lo n).stop i H∧D.nx σ H)∨((Itr lo n).go i H∧∃ N:St→Hp→Prop,(∀ σ' H',N σ' H'→∃ m',m' < m∧W (i+1) m' σ' H')∧∀ x H',(Itr lo n).yld i H x H'→g x σ H' fun σ2 H2=>tb { D with nx:=N,ct:=N,bk:=D.nx } σ2 H2):=by
  refine ⟨fun i m σ H=>m=n - i∧i≤n∧Pv i σ H,⟨n,by simp,aa1 _,h0⟩,?_⟩;rintro i m σ H ⟨rfl,hi,p⟩;by_cases hlt:i < n
  · refine .inr ⟨hlt,Pv (i+1),fun σ' H' p'=>⟨n - (i+1),by lia,rfl,hlt,p'⟩,fun x H' y=>?_⟩;obtain ⟨e,y⟩:=y;subst e y;exact hs i σ _ hlt p
  · have e:i=n:=by lia
    subst e;exact .inl ⟨aad _,hd σ H p⟩
open PySem PySem.Spec PyProof.Rows
abbrev R2:=V→V→Hp→VK→Prop
def OpR (X:Cx) (f:Value→Value→Sem Value) (r:R2):Prop :=
  ∀ (pins:List (Addr × Obj)) (s:Shared) (σ:St) (H:Hp) (x y:V) (v u:Value) (Q:VK),Inv X pins σ H s→RelV x v→RelV y u→r x y H Q →
    wpAny (model X.prog X.w) X.A (f v u) (EP X pins σ Q) X.xe s
def UnR (X:Cx) (f:Value→Sem Value) (r:V→Hp→VK→Prop):Prop :=
  ∀ (pins:List (Addr × Obj)) (s:Shared) (σ:St) (H:Hp) (x:V) (v:Value) (Q:VK),Inv X pins σ H s→RelV x v→r x H Q →
    wpAny (model X.prog X.w) X.A (f v) (EP X pins σ Q) X.xe s
def cW (X:Cx) (f:Value) (r:List V→Hp→VK→Prop):Prop :=
  ∀ (pins:List (Addr × Obj)) (s:Shared) (σ:St) (H:Hp) (xs:List V) (us:List Value) (Q:VK),Inv X pins σ H s→Vals xs us→r xs H Q →
    wpAny (model X.prog X.w) X.A (call f us) (EP X pins σ Q) X.xe s
def u_ (X:Cx) (r:V→Hp→(Bool→Hp→Prop)→Prop):Prop :=
  ∀ (pins:List (Addr × Obj)) (s:Shared) (σ:St) (H:Hp) (x:V) (v:Value) (Q:Bool→Hp→Prop),Inv X pins σ H s→RelV x v→r x H Q →
    wpAny (model X.prog X.w) X.A (truthy v) (TP X pins σ Q) X.xe s
def tOp (r:R2) (ta tb:TE):TE:=fun σ H Q=>ta σ H fun x H1=>tb σ H1 fun y H2=>r x y H2 Q
def tUn (r:V→Hp→VK→Prop) (ta:TE):TE:=fun σ H Q=>ta σ H fun x H1=>r x H1 Q
def rI (C:Int→Int→Prop) (g:Int→Int→V):R2:=fun x y H Q=>∃ i j,x=.int i∧y=.int j∧C i j∧Q (g i j) H
def rI0 (g:Int→Int→V):R2:=fun x y H Q=>∃ i j,x=.int i∧y=.int j∧Q (g i j) H
def rU (g:Int→V):V→Hp→VK→Prop:=fun x H Q=>∃ i,x=.int i∧Q (g i) H
section
variable {X:Cx} {a b c:Expr} {ta tb tc:TE} {pos:Pos}
theorem tF (ha:PE X a ta) (hb:PE X b tb) {pins:List (Addr × Obj)} {s:Shared} {σ:St} {H:Hp} {R:V→V→Hp→Prop} (I:Inv X pins σ H s)
    (h:ta σ H fun x H1=>tb σ H1 fun y H2=>R x y H2) {Q:Value→Shared→Prop} {f:Value→Value→Sem Value}
    (hf:∀ v u s2 x y H2,Inv X pins σ H2 s2→RelV x v→RelV y u→R x y H2→wpAny (model X.prog X.w) X.A (f v u) Q X.xe s2) :
    wpAny (model X.prog X.w) X.A (eval a X.env) (fun v s₁=>wpAny (model X.prog X.w) X.A (eval b X.env) (fun u s₂=>wpAny (model X.prog X.w) X.A (f v u) Q X.xe s₂) X.xe s₁) X.xe s:=by
  refine thn (ha pins s σ H _ I h) fun v s1 ⟨x,H1,I1,r1,q1⟩=>?_;refine thn (hb pins s1 σ H1 _ I1 q1) fun u s2 ⟨y,H2,I2,r2,q2⟩=>?_;exact hf v u s2 x y H2 I2 r1 r2 q2
theorem ap {op:Operator} {r:R2} (ho:OpR X (binaryOp op) r) (ha:PE X a ta) (hb:PE X b tb):PE X (.BinOp a op b pos) (tOp r ta tb):=by
  intro pins s σ H Q I h;exact wpAny_BinOp (tF ha hb I h fun v u s2 x y H2 I2 rx ry q=>ho pins s2 σ H2 x y v u Q I2 rx ry q)
theorem mX {op:UnaryOp} {r:V→Hp→VK→Prop} (ho:UnR X (unaryOp op) r) (ha:PE X a ta):PE X (.UnaryOp op a pos) (tUn r ta):=by
  intro pins s σ H Q I h;exact UnaryOp_ (thn (ha pins s σ H _ I h) fun v s1 ⟨x,H1,I1,r1,q1⟩=>ho pins s1 σ H1 x v Q I1 r1 q1)
theorem opI {f:Value→Value→Sem Value} {C:Int→Int→Prop} {g:Int→Int→Int}
    (rule:∀ (i j:Int) (t u:Tok) (s:Shared) (Q:Value→Shared→Prop) (E:Value→Shared→Prop),C i j→Q (.int (g i j) s.toks) { s with toks:=s.toks+1 }→wpAny (model X.prog X.w) X.A (f (.int i t) (.int j u)) Q E s) :
    OpR X f (rI C fun i j=>.int (g i j)):=by
  intro pins s σ H x y v u Q I rx ry h;obtain ⟨i,j,rfl,rfl,hc,q⟩:=h;obtain ⟨t,rfl⟩:=rx;obtain ⟨t',rfl⟩:=ry;exact rule i j t t' s _ _ hc ⟨.int (g i j),H,I.tok _,⟨_,rfl⟩,q⟩
theorem ud {f:Value→Value→Sem Value} {g:Int→Int→Int}
    (rule:∀ (i j:Int) (t u:Tok) (s:Shared) (Q:Value→Shared→Prop) (E:Value→Shared→Prop),Q (.int (g i j) s.toks) { s with toks:=s.toks+1 }→wpAny (model X.prog X.w) X.A (f (.int i t) (.int j u)) Q E s) :
    OpR X f (rI0 fun i j=>.int (g i j)):=by
  intro pins s σ H x y v u Q I rx ry h;obtain ⟨i,j,rfl,rfl,q⟩:=h;obtain ⟨t,rfl⟩:=rx;obtain ⟨t',rfl⟩:=ry;exact rule i j t t' s _ _ ⟨.int (g i j),H,I.tok _,⟨_,rfl⟩,q⟩
theorem sK {f:Value→Value→Sem Value} {g:Int→Int→Bool}
    (rule:∀ (i j:Int) (t u:Tok) (s:Shared) (Q:Value→Shared→Prop) (E:Value→Shared→Prop),Q (.bool (g i j)) s→wpAny (model X.prog X.w) X.A (f (.int i t) (.int j u)) Q E s) :
    OpR X f (rI0 fun i j=>.bl (g i j)):=by
  intro pins s σ H x y v u Q I rx ry h;obtain ⟨i,j,rfl,rfl,q⟩:=h;obtain ⟨t,rfl⟩:=rx;obtain ⟨t',rfl⟩:=ry;exact rule i j t t' s _ _ ⟨.bl (g i j),H,I,rfl,q⟩
def vd (i j:Int):Prop:=0≤j∧j≤1000000∧i.natAbs < 2 ^ 64
def CMul (i j:Int):Prop:=(-(2 ^ 64) < i∧i < 2 ^ 64)∨(-(2 ^ 64) < j∧j < 2 ^ 64)
theorem CMul.ok {i j:Int} (h:CMul i j):IntMulOk i j:=by
  rcases h with ⟨h1,h2⟩|⟨h1,h2⟩
  · exact .of_left (intBits_le_64 h1 h2)
  · exact .of_right (intBits_le_64 h1 h2)
theorem dH:OpR X (binaryOp .Add) (rI0 fun i j=>.int (i+j)):=ud fun _ _ _ _ _ _ _ q=>add_int q
theorem dw:OpR X (binaryOp .Sub) (rI0 fun i j=>.int (i - j)):=ud fun _ _ _ _ _ _ _ q=>sub_int q
theorem gn:OpR X (binaryOp .Mult) (rI CMul fun i j=>.int (i * j)):=opI fun _ _ _ _ _ _ _ hc q=>mul_int q hc.ok
theorem eV:OpR X (binaryOp .Mod) (rI (fun _ j=>0 < j) fun i j=>.int (i % j)):=opI fun i j _ _ _ _ _ hc q=>by
  have h1:(0:Int) < j:=hc;exact mod_int' (by lia) (by rw [Int.fmod_eq_emod_of_nonneg i (by lia)];exact q)
theorem dy:OpR X (binaryOp .Pow) (rI vd fun i j=>.int (i ^ j.toNat)):=opI fun _ _ _ _ _ _ _ hc q=>pow_int_small hc.1 hc.2.1 hc.2.2 q
theorem unI {f:Value→Sem Value} {g:Int→Int}
    (rule:∀ (i:Int) (t:Tok) (s:Shared) (Q:Value→Shared→Prop) (E:Value→Shared→Prop),Q (.int (g i) s.toks) { s with toks:=s.toks+1 }→wpAny (model X.prog X.w) X.A (f (.int i t)) Q E s) :
    UnR X f (rU fun i=>.int (g i)):=by
  intro pins s σ H x v Q I rx h;obtain ⟨i,rfl,q⟩:=h;obtain ⟨t,rfl⟩:=rx;exact rule i t s _ _ ⟨.int (g i),H,I.tok _,⟨_,rfl⟩,q⟩
theorem jy:UnR X (unaryOp .USub) (rU fun i=>.int (-i)):=unI fun _ _ _ _ _ q=>neg_int q
end
def t0:V→V→Bool
  | .non,.non=>true|.non,.int _=>true|.int _,.non=>true|.non,.bl _=>true|.bl _,.non=>true|.non,.str _=>true|.str _,.non=>true
  | .int _,.int _=>true|.bl _,.bl _=>true|.str _,.str _=>true|.byt _,.byt _=>true
  | .int _,.str _=>true|.str _,.int _=>true|.bl _,.str _=>true|.str _,.bl _=>true
  | _,_=>false
def rEq:R2:=fun x y H Q=>t0 x y=true∧Q (.bl (decide (x=y))) H
def rNe:R2:=fun x y H Q=>t0 x y=true∧Q (.bl (!decide (x=y))) H
theorem nG {i j:Int}:decide (V.int i=V.int j)=(i == j):=by
  rw [Bool.eq_iff_iff];simp
theorem qy {i j:Bool}:decide (V.bl i=V.bl j)=(i == j):=by
  rw [Bool.eq_iff_iff];simp
theorem nF {i j:Str}:decide (V.str i=V.str j)=(i == j):=by
  rw [Bool.eq_iff_iff];simp
theorem nH {i j:Array UInt8}:decide (V.byt i=V.byt j)=(i.toList == j.toList):=by
  rw [Bool.eq_iff_iff];cases i;cases j;simp
section
variable {X:Cx} {a b c:Expr} {ta tb tc:TE} {pos:Pos}
theorem aJ {pins:List (Addr × Obj)} {σ:St} {H:Hp} {s:Shared} {Q:VK} {k k':Bool} (I:Inv X pins σ H s) (q:Q (.bl k) H) (e:k=k'):EP X pins σ Q (.bool k') s:=by
  subst e;exact ⟨.bl k,H,I,rfl,q⟩
theorem fu:OpR X (compareOp .Eq) rEq:=by
  intro pins s σ H x y v u Q I rx ry h;obtain ⟨hs,q⟩:=h;cases x with
  | non =>
    cases rx;cases y with
    | non=>cases ry;exact PySem.EqNone.eq_none_none (aJ I q (by simp))
    | bl j=>cases ry;exact PySem.EqNone.eq_none_bool (aJ I q (by simp))
    | int j=>obtain ⟨t',rfl⟩:=ry;exact PySem.EqNone.eq_none_int (aJ I q (by simp))
    | str j=>obtain ⟨t',rfl⟩:=ry;exact PySem.EqNone.eq_none_str (aJ I q (by simp))
    | _=>exact absurd (show false=true from hs) aah
  | bl i =>
    cases rx;cases y with
    | non=>cases ry;exact PySem.EqNone.eq_bool_none (aJ I q (by simp))
    | bl j=>cases ry;exact eq_bool (aJ I q qy)
    | str j=>obtain ⟨t',rfl⟩:=ry;exact PySem.EqMixed.eq_bool_str (aJ I q (by simp))
    | _=>exact absurd (show false=true from hs) aah
  | int i =>
    obtain ⟨t,rfl⟩:=rx;cases y with
    | non=>cases ry;exact PySem.EqNone.eq_int_none (aJ I q (by simp))
    | int j=>obtain ⟨t',rfl⟩:=ry;exact eq_int (aJ I q nG)
    | str j=>obtain ⟨t',rfl⟩:=ry;exact PySem.EqMixed.eq_int_str (aJ I q (by simp))
    | _=>exact absurd (show false=true from hs) aah
  | str i =>
    obtain ⟨t,rfl⟩:=rx;cases y with
    | non=>cases ry;exact PySem.EqNone.eq_str_none (aJ I q (by simp))
    | bl j=>cases ry;exact PySem.EqMixed.eq_str_bool (aJ I q (by simp))
    | int j=>obtain ⟨t',rfl⟩:=ry;exact PySem.EqMixed.eq_str_int (aJ I q (by simp))
    | str j=>obtain ⟨t',rfl⟩:=ry;exact eq_str (aJ I q nF)
    | _=>exact absurd (show false=true from hs) aah
  | byt i =>
    obtain ⟨t,rfl⟩:=rx;cases y with
    | byt j=>obtain ⟨t',rfl⟩:=ry;exact PySem.W.eq_bytes (aJ I q nH)
    | _=>exact absurd (show false=true from hs) aah
  | _=>cases y <;> exact absurd (show false=true from hs) aah
theorem kQ:OpR X (compareOp .NotEq) rNe:=by
  intro pins s σ H x y v u Q I rx ry h;obtain ⟨hs,q⟩:=h;cases x with
  | non =>
    cases rx;cases y with
    | non=>cases ry;exact PySem.EqNone.ne_none_none (aJ I q (by simp))
    | bl j=>cases ry;exact PySem.EqNone.ne_none_bool (aJ I q (by simp))
    | int j=>obtain ⟨t',rfl⟩:=ry;exact PySem.EqNone.ne_none_int (aJ I q (by simp))
    | str j=>obtain ⟨t',rfl⟩:=ry;exact PySem.EqNone.ne_none_str (aJ I q (by simp))
    | _=>exact absurd (show false=true from hs) aah
  | bl i =>
    cases rx;cases y with
    | non=>cases ry;exact PySem.EqNone.ne_bool_none (aJ I q (by simp))
    | bl j=>cases ry;exact ne_bool (aJ I q (congrArg not qy))
    | str j=>obtain ⟨t',rfl⟩:=ry;exact PySem.EqMixed.ne_bool_str (aJ I q (by simp))
    | _=>exact absurd (show false=true from hs) aah
  | int i =>
    obtain ⟨t,rfl⟩:=rx;cases y with
    | non=>cases ry;exact PySem.EqNone.ne_int_none (aJ I q (by simp))
    | int j=>obtain ⟨t',rfl⟩:=ry;exact ne_int (aJ I q (congrArg not nG))
    | str j=>obtain ⟨t',rfl⟩:=ry;exact PySem.EqMixed.ne_int_str (aJ I q (by simp))
    | _=>exact absurd (show false=true from hs) aah
  | str i =>
    obtain ⟨t,rfl⟩:=rx;cases y with
    | non=>cases ry;exact PySem.EqNone.ne_str_none (aJ I q (by simp))
    | bl j=>cases ry;exact PySem.EqMixed.ne_str_bool (aJ I q (by simp))
    | int j=>obtain ⟨t',rfl⟩:=ry;exact PySem.EqMixed.ne_str_int (aJ I q (by simp))
    | str j=>obtain ⟨t',rfl⟩:=ry;exact ne_str (aJ I q (congrArg not nF))
    | _=>exact absurd (show false=true from hs) aah
  | byt i =>
    obtain ⟨t,rfl⟩:=rx;cases y with
    | byt j=>obtain ⟨t',rfl⟩:=ry;exact PySem.W.ne_bytes (aJ I q (congrArg not nH))
    | _=>exact absurd (show false=true from hs) aah
  | _=>cases y <;> exact absurd (show false=true from hs) aah
theorem rH:OpR X (compareOp .LtE) (rI0 fun i j=>.bl (decide (i≤j))):=sK fun _ _ _ _ _ _ _ q=>le_int q
theorem rJ:OpR X (compareOp .Gt) (rI0 fun i j=>.bl (decide (j < i))):=sK fun _ _ _ _ _ _ _ q=>gt_int q
theorem uc:OpR X (compareOp .GtE) (rI0 fun i j=>.bl (decide (j≤i))):=sK fun _ _ _ _ _ _ _ q=>ge_int q
theorem sI:OpR X (compareOp .Is) (fun x y H Q=>y=.non∧Q (.bl (decide (x=.non))) H):=by
  intro pins s σ H x y v u Q I rx ry h;obtain ⟨rfl,q⟩:=h;cases ry;refine is_none_gen (aJ I q ?_);cases x <;> first
    | (cases rx;rfl)
    | (obtain ⟨t,rfl⟩:=rx;rfl)
theorem bv (b:Expr) {op:CmpOp} (h:op≠.In:=by decide) (h2:op≠.NotIn:=by decide):behindInMarks op b=false:=by
  have e1:(op == CmpOp.In)=false:=by cases op <;> first|rfl|exact absurd rfl h
  have e2:(op == CmpOp.NotIn)=false:=by cases op <;> first|rfl|exact absurd rfl h2
  cases b <;> simp [behindInMarks,e1,e2]
theorem jO {op:CmpOp} {r:R2} (ho:OpR X (compareOp op) r) (ha:PE X a ta) (hb:PE X b tb) (hm:behindInMarks op b=false):PE X (.Compare a [op] [b] pos) (tOp r ta tb):=by
  intro pins s σ H Q I h;exact wpAny_Compare1 (tF ha hb I h fun v u s2 x y H2 I2 rx ry q=>ho pins s2 σ H2 x y v u Q I2 rx ry q) hm
def rE (t:TE):TT:=fun σ H Q=>t σ H fun x H'=>∃ k,x=.bl k∧Q k H'
theorem a9 {op:CmpOp} {r:R2} (ho:OpR X (compareOp op) r) (ha:PE X a ta) (hb:PE X b tb) (hm:behindInMarks op b=false):PT X (.Compare a [op] [b] pos) (rE (tOp r ta tb)):=by
  intro pins s σ H Q I h;refine wpAny_isTrue_Compare1 (thn (ha pins s σ H _ I h) fun v s1 ⟨x,H1,I1,r1,q1⟩=>thn (hb pins s1 σ H1 _ I1 q1) fun u s2 ⟨y,H2,I2,r2,q2⟩ =>
    thn (ho pins s2 σ H2 x y v u _ I2 r1 r2 q2) fun c s3 ⟨z,H3,I3,r3,k,e,q3⟩=>?_) hm
  subst e;cases r3;exact wpAny_truthy_bool ⟨H3,I3,q3⟩
def se (r r':R2) (ta tb tc:TE):TE:=fun σ H Q=>ta σ H fun x H1=>tb σ H1 fun y H2=>r x y H2 fun z H3=>∃ k,z=.bl k ∧
  (if k=true then tc σ H3 fun w' H4=>r' y w' H4 Q else Q (.bl false) H3)
theorem pG {op op':CmpOp} {r r':R2} (ho:OpR X (compareOp op) r) (ho':OpR X (compareOp op') r') (ha:PE X a ta) (hb:PE X b tb) (hc:PE X c tc)
    (hm:lastMarks [op,op'] [b,c]=false:=by with_unfolding_all rfl):PT X (.Compare a [op,op'] [b,c] pos) (rE (se r r' ta tb tc)):=by
  intro pins s σ H Q I h;refine isTrue_chain (thn (ha pins s σ H _ I h) fun v s1 ⟨x,H1,I1,r1,q1⟩=>test_link (thn (hb pins s1 σ H1 _ I1 q1) fun u s2 ⟨y,H2,I2,r2,q2⟩ =>
    thn (ho pins s2 σ H2 x y v u _ I2 r1 r2 q2) fun d s3 ⟨z,H3,I3,r3,k,e,q3⟩=>?_)) hm
  subst e;cases r3;refine wpAny_truthy_bool ?_;cases k with
  | false =>
    obtain ⟨k',e',q'⟩:=q3;cases e';exact ite_ff ⟨H3,I3,q'⟩
  | true =>
    refine ite_tt (test_last (thn (hc pins s3 σ H3 _ I3 q3) fun w' s4 ⟨z',H4,I4,r4,q4⟩=>thn (ho' pins s4 σ H4 y z' u w' _ I4 r2 r4 q4) fun d' s5 ⟨z2,H5,I5,r5,k2,e2,q5⟩=>?_));subst e2;cases r5;exact wpAny_truthy_bool ⟨H5,I5,q5⟩
def ur (K:aab) (x:V) (H:Hp) (k:Bool):Prop :=
  match x with
  | .non=>k=false
  | .bl b=>k=b
  | .int i=>k=(i != 0)
  | .str y=>y.length≤sizeLine∧k=((y.length:Int) != 0)
  | .byt y=>y.size≤sizeLine∧k=((y.size:Int) != 0)
  | .ref p=>(∃ xs,SqL K H p xs∧k=!xs.isEmpty)∨(∃ xs,SqT K H p xs∧k=!xs.isEmpty)∨∃ kvs,H p=some (.dK kvs)∧k=!kvs.isEmpty
  | _=>False
theorem mD {κ:Type} {kvs:List (κ × V)} {vs:List (κ × Value)} (r:KV kvs vs):(!vs.isEmpty)=!kvs.isEmpty:=by
  cases r <;> rfl
theorem iH {xs:List V} {its:List Value} (r:Vals xs its):(!its.toArray.isEmpty)=!xs.isEmpty:=by
  cases r <;> simp
theorem iu:(sizeLine:Nat) < 2 ^ 63:=by rw [sizeLine_eq];decide
theorem rW:u_ X (fun x H Q=>∃ k,ur X.K x H k∧Q k H):=by
  intro pins s σ H x v Q I rx h;obtain ⟨k,e,q⟩:=h;have hl:=iu;have hs:sizeLine=16777216:=sizeLine_eq;cases x with
  | non =>
    cases rx;have e':k=false:=e;subst e';exact truthy_none ⟨H,I,q⟩
  | bl b =>
    cases rx;have e':k=b:=e;subst e';exact wpAny_truthy_bool ⟨H,I,q⟩
  | int i =>
    obtain ⟨t,rfl⟩:=rx;have e':k=(i != 0):=e;subst e';exact PySem.P.truthy_int ⟨H,I,q⟩
  | str y =>
    obtain ⟨t,rfl⟩:=rx;obtain ⟨hy,e'⟩:y.length≤sizeLine∧k=((y.length:Int) != 0):=e;subst e';exact PySem.P.truthy_str (by lia) ⟨H,I.tok _,q⟩
  | byt y =>
    obtain ⟨t,rfl⟩:=rx;obtain ⟨hy,e'⟩:y.size≤sizeLine∧k=((y.size:Int) != 0):=e;subst e';exact PySem.W.truthy_bytes (by lia) ⟨H,I.tok _,q⟩
  | ref p =>
    cases rx;have e':(∃ xs,SqL X.K H p xs∧k=!xs.isEmpty)∨(∃ xs,SqT X.K H p xs∧k=!xs.isEmpty)∨∃ kvs,H p=some (.dK kvs)∧k=!kvs.isEmpty:=e;rcases e' with ⟨xs,hx,e'⟩|⟨xs,hx,e'⟩|⟨kvs,hx,e'⟩
    · subst e';obtain ⟨its,r,pl,hz⟩:=I.list hx;have hlen:=r.length;exact wpAny_truthy_list pl.isList (by simp only [aal];lia) ⟨H,I.tok _,by rw [iH r];exact q⟩
    · subst e';obtain ⟨its,r,pl,hz⟩:=I.tuple hx;have hlen:=r.length;exact truthy_tuple pl (by simp only [aal];lia) ⟨H,I.tok _,by rw [iH r];exact q⟩
    · subst e';obtain ⟨hz,hS,vs,r,m⟩:kvs.length≤sizeLine∧(p == sysModules)=false∧∃ vs,KV kvs vs∧s.heap.DictOf (aG X.prog X.w) p vs:=I.hok p _ hx;have hlen:kvs.length=vs.length:=aa9 r;exact wpAny_truthy_dict hS m (by lia) ⟨H,I.tok _,by rw [mD r];exact q⟩
  | _=>exact (show False from e).elim
theorem pF (ha:PE X a ta) (he:∀ whole,isTrue a X.env whole=(do let v ← whole;standAt a.pos;holding [v] (truthy v))) :
    PT X a (fun σ H Q=>ta σ H fun x H'=>∃ k,ur X.K x H' k∧Q k H'):=by
  intro pins s σ H Q I h;exact isTrue_plain (thn (ha pins s σ H _ I h) fun v s1 ⟨x,H1,I1,r1,q1⟩=>rW pins s1 σ H1 x v Q I1 r1 q1) (he _)
theorem dl {x:V} {us:List Value} (r:Vals [x] us):∃ u,us=[u]∧RelV x u:=by
  cases r with
  | cons r1 r2=>cases r2;exact ⟨_,rfl,r1⟩
theorem oV {x y:V} {us:List Value} (r:Vals [x,y] us):∃ u w',us=[u,w']∧RelV x u∧RelV y w':=by
  cases r with
  | cons r1 r2 =>
    cases r2 with
    | cons r3 r4=>cases r4;exact ⟨_,_,rfl,r1,r3⟩
theorem lE:cW X (.builtin "abs") (fun xs H Q=>∃ i,xs=[.int i]∧Q (.int (if i < 0 then -i else i)) H):=by
  intro pins s σ H xs us Q I r h;obtain ⟨i,rfl,q⟩:=h;obtain ⟨u,rfl,t,rfl⟩:=dl r;exact call_abs_int fun u tk=>⟨.int (if i < 0 then -i else i),H,I.tok _,⟨_,rfl⟩,q⟩
theorem oQ:cW X (.type "int") (fun xs H Q=>(∃ i,xs=[.int i]∧Q (.int i) H)∨∃ k,xs=[.bl k]∧Q (.int (if k then 1 else 0)) H):=by
  intro pins s σ H xs us Q I r h;rcases h with ⟨i,rfl,q⟩|⟨k,rfl,q⟩
  · obtain ⟨u,rfl,t,rfl⟩:=dl r;exact call_int_int ⟨.int i,H,I,⟨_,rfl⟩,q⟩
  · obtain ⟨u,rfl,r1⟩:=dl r;cases r1;exact call_int_bool ⟨.int (if k then 1 else 0),H,I.tok _,⟨_,rfl⟩,q⟩
end
open PySem PySem.Spec PyProof.Rows
structure ObjM (h:Heap) (x dx C:Addr) (mA:Str→Option Value):Prop where
  obj:h.get? x=some (PySem.W.instObj C dx)
  ns:h.Ns1 dx mA
  ne:dx≠x
theorem ou {h:Heap} {dx:Addr} {mA:Str→Option Value} (n:h.Ns1 dx mA):∃ od,h.get? dx=some od∧∀ name,PySem.W.lookIn name od=some (mA name):=by
  obtain ⟨o,es,ep,ho,hd,hk,_,hm⟩:=n;refine ⟨o,ho,fun name=>?_⟩;have e:=hm name;unfold nsFind findBy at e;rw [← Array.find?_toList] at e;unfold PySem.W.lookIn;rw [hd];dsimp only;split
  · rename_i y q;rw [q] at e;exact congrArg some e
  · rename_i q;rw [q] at e;have a:es.toList.any (·.refKey)=false:=by
      rw [List.any_eq_false];intro y hy;obtain ⟨z,t,hkey⟩:=hk y (Array.mem_toList_iff.mp hy);simp [DictEntry.refKey,hkey]
    have a':¬ es.toList.any (·.refKey)=true:=by rw [a];exact aah
    rw [if_neg a'];exact congrArg some e
theorem ObjM.look {h:Heap} {x dx C:Addr} {mA:Str→Option Value} (I:ObjM h x dx C mA):∃ od,PySem.W.InstAt h x (PySem.W.instObj C dx) C (some od)∧∀ name,PySem.W.lookIn name od=some (mA name) :=
  let ⟨od,ho,hl⟩:=ou I.ns
  ⟨od,⟨I.obj,rfl,rfl,ho⟩,hl⟩
section
variable {prog:Program} {w:World} {A:Around} {E:Value→Shared→Prop} {s:Shared} {K:aab} {x dx C f:Addr} {mA:Str→Option Value} {name:Str} {v:Value}
end
theorem RelO.some_of {v:V} {o:Option Value} (r:RelO (some v) o):∃ u,o=some u∧RelV v u:=by
  cases o with
  | none=>exact (show False from r).elim
  | some u=>exact ⟨u,rfl,r⟩
section
variable {P:Program} {w:World} {H H':Hp} {h h':Heap} {a C dx:Addr} {fs fs':List (Str × V)}
theorem rj (hok:HOk P w H h) (e:H a=some (.ins C dx fs)):∃ mA,ObjM h a dx C mA∧(∀ f,RelO (fs.lookup f) (mA f))∧PySem.Within mA (fs.map (·.1))∧fs.length≤1000∧H dx=some (.own a):=by
  obtain ⟨d,z,ne,ob,mA,n,r,q⟩:=(show ObjOk P w H h a (.ins C dx fs) from hok a _ e)
  exact ⟨mA,⟨ob,n,ne⟩,r,q,z,d⟩
end
structure Cls (K:aab) (C:Addr):Prop where
  pg:PySem.W.plainGet K C Str.empty=true
  hd:PySem.W.hasDictIn K C=true
  po:PySem.W.plainOver K C=true
  sa:aaP K (.ref C) "__setattr__" = some (some (.builtin "object.__setattr__"))
theorem Cls.get {K:aab} {C:Addr} (c:Cls K C) (f:Str):PySem.W.plainGet K C f=true:=c.pg
structure Con (K:aab) (C:Addr) (f:Str) (v:V) (u:Value):Prop where
  at_:aaP K (.ref C) f=some (some u)
  rel:RelV v u
  get:PySem.W.specialIn K u "__get__" = some none
  cp:PySem.W.copiedNames.contains f=false
structure Meth (K:aab) (C:Addr) (m:Str) (f:Addr):Prop where
  at_:aaP K (.ref C) m=some (some (.ref f))
  fn:PySem.W.isFn K (.ref f)=true
  kp:aa6 K (.ref f)=true
section
variable {X:Cx} {pins:List (Addr × Obj)} {σ:St} {H:Hp} {s:Shared} {a C dx:Addr} {fs:List (Str × V)} {f:Str} {v:V} {A:Around} {E:Value→Shared→Prop}
end
section
variable {X:Cx} {o e value:Expr} {f:Str} {pos pos' tpos:Pos} {ta tv:TE}
end
section
variable {X:Cx} {pins:List (Addr × Obj)} {σ:St} {H:Hp} {s:Shared} {A:Around} {E:Value→Shared→Prop} {Q:Value→Shared→Prop} {c:Value} {b:Bool}
inductive TyOf (K:aab) (H:Hp):V→Value→Prop where
  | non:TyOf K H .non (.type "NoneType")
  | bl (x:Bool):TyOf K H (.bl x) (.type "bool")
  | int (i:Int):TyOf K H (.int i) (.type "int")
  | str (x:Str):TyOf K H (.str x) (.type "str")
  | flt (x:UInt64):TyOf K H (.flt x) (.type "float")
  | lst {a:Addr} {xs:List V} (e:H a=some (.lst xs)):TyOf K H (.ref a) (.type "list")
  | frz {a:Addr} {o:Obj} {xs:List V} (e:H a=some (.frz o (.lst xs))):TyOf K H (.ref a) (.type "list")
  | tup {a:Addr} {xs:List V} (e:H a=some (.tup xs)):TyOf K H (.ref a) (.type "tuple")
  | dK {a:Addr} {kvs:List (Key × V)} (e:H a=some (.dK kvs)):TyOf K H (.ref a) (.type "dict")
  | dT {a:Addr} {kvs:List (List Key × V)} (e:H a=some (.dT kvs)):TyOf K H (.ref a) (.type "dict")
  | ins {a C dx:Addr} {fs:List (Str × V)} (e:H a=some (.ins C dx fs)) (cl:Cls K C) (ha:aaP K (.ref C) "__class__" = some (some (.builtin "object.__class__")))
      (hn:PySem.W.specialIn K (.builtin "object.__class__") "__get__" = some (some (.builtin "getset_descriptor.__get__"))) (htk:PySem.W.takesIn K (.builtin "object.__class__")=some true)
      (hm:PySem.W.mroIn K C (.type "object")=some true):TyOf K H (.ref a) (.ref C)
theorem oD {x:V} {u t:Value} (I:Inv X pins σ H s) (rx:RelV x u) (ty:TyOf X.K H x t) (e:aaI X.K t c=some b) (h:∀ tk,Q (.bool b) { s with toks:=tk }) :
    wpAny (model X.prog X.w) A (call (.builtin "isinstance") [u,c]) Q E s:=by
  cases ty with
  | non=>cases (show u=Value.none from rx);exact aa4 PySem.W.kitx_none I.kIn True.intro e (fun z=>nomatch z) h
  | bl y=>cases (show u=Value.bool y from rx);exact aa4 PySem.W.kitx_bool I.kIn True.intro e (fun z=>nomatch z) h
  | int i=>obtain ⟨t,q⟩:=(show ∃ t,u=Value.int i t from rx);cases q;exact aa4 PySem.W.kitx_int I.kIn True.intro e (fun z=>nomatch z) h
  | str y=>obtain ⟨t,q⟩:=(show ∃ t,u=Value.str y t from rx);cases q;exact aa4 PySem.W.kitx_str I.kIn True.intro e (fun z=>nomatch z) h
  | flt y=>obtain ⟨t,q⟩:=(show ∃ t,u=Value.float y t from rx);cases q;exact aa4 PySem.W.kitx_float I.kIn True.intro e (fun z=>nomatch z) h
  | @lst a xs ea =>
    cases (show u=Value.ref a from rx);obtain ⟨_,_,n,_,h1⟩:=(show ObjOk X.prog X.w H s.heap a (.lst xs) from I.hok a _ ea)
    exact aa4 PySem.W.kitx_list I.kIn ⟨_,h1,rfl⟩ e (fun z=>nomatch z) h
  | @frz a ob xs ea =>
    cases (show u=Value.ref a from rx);obtain ⟨_,_,_,n,_,h1⟩:=(show ObjOk X.prog X.w H s.heap a (.frz ob (.lst xs)) from I.hok a _ ea)
    exact aa4 PySem.W.kitx_list I.kIn ⟨_,h1,rfl⟩ e (fun z=>nomatch z) h
  | @tup a xs ea =>
    cases (show u=Value.ref a from rx);obtain ⟨_,_,_,p⟩:=(show ObjOk X.prog X.w H s.heap a (.tup xs) from I.hok a _ ea)
    obtain ⟨o,h1,h2,_⟩:=p;exact aa4 PySem.W.kitx_tuple I.kIn ⟨o,h1,h2⟩ e (fun z=>nomatch z) h
  | @dK a kvs ea =>
    cases (show u=Value.ref a from rx);obtain ⟨_,_,vs,_,p⟩:=(show ObjOk X.prog X.w H s.heap a (.dK kvs) from I.hok a _ ea)
    obtain ⟨o,es,ep,h1,h2,_⟩:=p;exact aa4 PySem.W.kitx_dict I.kIn ⟨o,h1,h2.1⟩ e (fun z=>nomatch z) h
  | @dT a kvs ea =>
    cases (show u=Value.ref a from rx);obtain ⟨_,_,xs,_,o,es,ep,h1,h2,_⟩:=(show ObjOk X.prog X.w H s.heap a (.dT kvs) from I.hok a _ ea)
    exact aa4 PySem.W.kitx_dict I.kIn ⟨o,h1,h2.1⟩ e (fun z=>nomatch z) h
  | @ins a C dx fs ea cl ha hn htk hm =>
    cases (show u=Value.ref a from rx);obtain ⟨mA,O,_⟩:=rj I.hok ea;obtain ⟨od,J,_⟩:=O.look;exact aa4 (PySem.W.kitx_own (cl.get _) cl.hd ha hn htk hm) I.kIn J e (fun z=>nomatch z) h
end
open PySem PySem.Spec PyProof.Rows
structure Room (k:Nat) (A:Around):Prop where
  hd:A.handled=none
  dp:A.depth+3 * k+5 < recursionLimit
  un:A.units+16 * k+200 < cLine
  gd:A.guards=some []
theorem Room.mono {j k:Nat} {A:Around} (r:Room k A) (h:j≤k):Room j A:=⟨r.hd,by have:=r.dp;lia,by have:=r.un;lia,r.gd⟩
theorem Room.deeper {k:Nat} {A:Around} (r:Room (k+1) A) (env:Env):Room k (A.deeper env) :=
  ⟨r.hd,by have:=r.dp;show A.depth+1+3 * k+5 < _;lia,by have:=r.un;show A.units+3+16 * k+200 < _;lia,r.gd⟩
theorem Room.in1 {k:Nat} {A:Around} (r:Room (k+1) A):Room k A.in1 :=
  ⟨r.hd,by have:=r.dp;show A.depth+3 * k+5 < _;lia,by have:=r.un;show A.units+1+16 * k+200 < _;lia,r.gd⟩
theorem Room.depth {k:Nat} {A:Around} (r:Room k A):A.depth < recursionLimit:=by have:=r.dp;lia
theorem Room.units {k:Nat} {A:Around} (r:Room k A):A.units+64 < cLine:=by have:=r.un;lia
theorem Room.units0 {k:Nat} {A:Around} (r:Room k A):A.units < cLine:=by have:=r.un;lia
def rX:TA:=fun _ H Q=>Q [] H
def tW (ta:TE) (tr:TA):TA:=fun σ H Q=>ta σ H fun x H1=>tr σ H1 fun xs H2=>Q (x :: xs) H2
section
variable {X:Cx} {e:Expr} {es:List Expr} {te:TE} {t:TA} {pos:Pos}
theorem ae:PA X [] rX:=fun _ _ _ _ H Q I h=>Calls.spliced_nil ⟨[],H,I,.nil,h⟩
theorem aa (ha:PE X e te) (hr:PA X es t) (hs:starEach (e :: es) X.env=(false,eval e X.env) :: starEach es X.env:=by rfl):PA X (e :: es) (tW te t):=by
  intro pos pins s σ H Q I h;rw [hs];show wpAny _ _ (spliced ((false,eval e X.env) :: backTo pos (starEach es X.env))) _ _ s;refine acp (thn (ha pins s σ H _ I h) fun u s1 ⟨x,H1,I1,r1,q1⟩=>?_);exact thn (hr pos pins s1 σ H1 _ I1 q1) fun us s2 ⟨xs,H2,I2,r2,q2⟩=>⟨x :: xs,H2,I2,.cons r1 r2,q2⟩
def uz (t:TA):TE:=fun σ H Q=>t σ H fun xs H1=>xs.length≤sizeLine∧∀ p,H1 p=none→Q (.ref p) (upd H1 p (.tup xs))
def uD (t:TA):TE:=fun σ H Q=>t σ H fun xs H1=>xs.length≤sizeLine∧∀ p,H1 p=none→Q (.ref p) (upd H1 p (.lst xs))
theorem bV {x1} (h:PA X es t):PE X (.Tuple es x1 pos) (uz t):=by
  intro pins s σ H Q I hq;refine wpAny_Tuple_spliced (thn (h pos pins s σ H _ I hq) fun us s1 ⟨xs,H1,I1,r,z,q⟩=>⟨by rw [← r.length];exact z,?_⟩);have hf:H1 s1.heap.objs.size=none:=I1.hok.fresh (aad _);refine ⟨.ref s1.heap.objs.size,upd H1 s1.heap.objs.size (.tup xs),I1.laid (t':=s1.toks) (fun b u e=>aac _ e) (aad _) ?_,rfl,q _ hf⟩;exact ⟨z,us,r,⟨_,aap _ rfl,rfl,_,rfl⟩⟩
theorem aw (h:PA X es t):PE X (.List es pos) (uD t):=by
  intro pins s σ H Q I hq;refine wpAny_List_spliced (thn (h pos pins s σ H _ I hq) fun us s1 ⟨xs,H1,I1,r,z,q⟩=>⟨by rw [← r.length];exact z,?_⟩);have hf:H1 s1.heap.objs.size=none:=I1.hok.fresh (aad _);refine ⟨.ref s1.heap.objs.size,upd H1 s1.heap.objs.size (.lst xs),I1.laid (t':=s1.toks) (fun b u e=>aac _ e) (aad _) ?_,rfl,q _ hf⟩;exact ⟨z,us,0,r,aap _ rfl⟩
end
abbrev Sp:=List V→Hp→VK→XK→Prop
abbrev CXT:=List Env→Hp→Shared→XK→Value→Shared→Prop
structure Env0 (P:Program) (w:World) (K:aab) (mg:Str→Option Value) (base:Heap) (A:Around) (outer:List Env) (s:Shared) (H:Hp):Prop where
  frames:A.frames=some outer
  mod:Mod K mg base
  bs:∀ b o,base.get? b=some o→s.heap.get? b=some o∧H b=none
  bsz:base.objs.size≤s.heap.objs.size
  funs:s.heap.FunFrames base outer
  frf:∀ b∈frs outer,H b=none
  hok:HOk P w H s.heap
  bare:AllBare s.gens
def CE (outer:List Env) (P:Program) (w:World) (H:Hp) (s:Shared) (Q:VK) (u:Value) (s':Shared):Prop :=
  ∃ v H',s'.os=s.os∧AllBare s'.gens∧Un (frs outer) [] H H' s.heap s'.heap∧HOk P w H' s'.heap∧RelV v u∧Q v H'
def CR (CX:CXT) (outer:List Env) (P:Program) (w:World) (H:Hp) (s:Shared) (Q:VK) (E:XK) (r:Result) (s':Shared):Prop :=
  match r with
  | .ok (.ret u)=>CE outer P w H s Q u s'
  | .ok _=>False
  | .error e=>CX outer H s E e s'
structure FnOk (P:Program) (w:World) (K:aab) (mg:Str→Option Value) (base:Heap) (CX:CXT) (k:Nat) (f:Addr) (fd:FuncData) (ps:List Str) (sp:Sp):Prop where
  len:∀ vs H Q E,sp vs H Q E→vs.length=ps.length
  run:∀ (A:Around) (outer:List Env) (s:Shared) (H:Hp) (args:Args) (us:List Value) (vs:List V) (Q:VK) (E:XK),Room k A→Env0 P w K mg base A outer s H→BindsTo s fd args (ps.zip us)→Vals vs us→sp vs H Q E →
    codeAny (model P w) A (.call (.ref f) args) (CR CX outer P w H s Q E) s
theorem Env0.in1 {P:Program} {w:World} {K:aab} {mg:Str→Option Value} {base:Heap} {A:Around} {outer:List Env} {s:Shared} {H:Hp} (e:Env0 P w K mg base A outer s H) :
    Env0 P w K mg base A.in1 outer s H:=⟨e.frames,e.mod,e.bs,e.bsz,e.funs,e.frf,e.hok,e.bare⟩
section
variable {X:Cx} {pins:List (Addr × Obj)} {σ:St} {H:Hp} {s s':Shared}
theorem Inv.env0 (I:Inv X pins σ H s):Env0 X.prog X.w X.K X.mg X.base X.A X.stack s H :=
  ⟨I.ok.frames,I.ok.mod,I.bs,aaL I.ok.bsz I.sz,I.stack,I.stkFree,I.hok,I.bare⟩
theorem Inv.after {Q:VK} {u:Value} (I:Inv X pins σ H s) (h:CE X.stack X.prog X.w H s Q u s'):EP X pins σ Q u s':=by
  obtain ⟨v,H',os,bare,un,hok,r,q⟩:=h;obtain ⟨hh,g,d,t,os'⟩:=s';obtain rfl:os'=s.os:=os;exact ⟨v,H',I.call (h':=hh) (g':=g) (d':=d) (t':=t) (ch:=[]) un hok bare (fun b z=>absurd z (by simp)),r,q⟩
end
def kc (sp:Sp) (dvs:List V) (E:XK) (t:TA):TE:=fun σ H Q=>t σ H fun vs H1=>sp (vs++dvs) H1 Q E
def Binds (K:aab) (fd:FuncData) (ps:List Str) (ds:List Value):Prop :=
  ∀ (s:Shared) (us:List Value),K.In s.heap→(us++ds).length=ps.length→BindsTo s fd ⟨us,[]⟩ (ps.zip (us++ds))
theorem Binds.all {K:aab} {fd:FuncData} {ps:List Str} (h:∀ us:List Value,us.length=ps.length→bindArgs fd ⟨us,[]⟩=pure (ps.zip us)):Binds K fd ps []:=fun s us _ hl=>by
  rw [ab8] at hl ⊢;exact .of_eq (h us hl)
def gC (CX:CXT) (X:Cx) (E:XK):Prop:=∀ (pins:List (Addr × Obj)) (σ:St) (H:Hp) (s:Shared) (e:Value) (s':Shared),Inv X pins σ H s→CX X.stack H s E e s'→X.xe e s'
section
variable {X:Cx} {CX:CXT} {k:Nat} {f C:Addr} {fd:FuncData} {ps:List Str} {sp:Sp} {dvs:List V} {ds:List Value} {E:XK} {x m:Str} {p pos apos:Pos} {e o:Expr} {es:List Expr} {ta:TE} {t:TA}
theorem pj {pins:List (Addr × Obj)} {σ:St} {H:Hp} {s:Shared} {Q:VK} {us:List Value} {vs:List V} (F:FnOk X.prog X.w X.K X.mg X.base CX k f fd ps sp) (hr:Room k X.A) (hb:Binds X.K fd ps ds) (hd:Vals dvs ds) (hx:gC CX X E)
    (I:Inv X pins σ H s) (r:Vals vs us) (h:sp (vs++dvs) H Q E):wpAny (model X.prog X.w) X.A (call (.ref f) us) (EP X pins σ Q) X.xe s:=by
  have r2:Vals (vs++dvs) (us++ds):=r.append hd;have hl:(us++ds).length=ps.length:=by rw [← r2.length];exact F.len _ _ _ _ h
  refine wpAny_call (codeAny_mono (F.run X.A X.stack s H ⟨us,[]⟩ (us++ds) (vs++dvs) Q E hr I.env0 (hb s us I.kIn hl) r2 h) fun r s' hq=>?_);cases r with
  | error e=>exact hx pins σ H s e s' I hq
  | ok fl =>
    cases fl with
    | ret u=>exact I.after hq
    | next=>exact abg hq
    | brk=>exact abg hq
    | cont=>exact abg hq
theorem mZ (F:FnOk X.prog X.w X.K X.mg X.base CX k f fd ps sp) (hr:Room k X.A) (hg:Gl X x) (hm:X.mg x=some (.ref f)) (hk:aa6 X.K (.ref f)=true) (hb:Binds X.K fd ps ds) (hd:Vals dvs ds) (hx:gC CX X E)
    (ha:PA X (e :: es) t) (hdb:(x == ("__debug__":Str))=false:=by decide) (he:starEach (e :: es) X.env=(false,eval e X.env) :: starEach es X.env:=by rfl) (hpl:(backTo pos (starEach es X.env)).any (·.1)=false:=by rfl) :
    PE X (.Call (.Name x p) (e :: es) [] pos) (kc sp dvs E t):=by
  intro pins s σ H Q I h;refine wpAny_Call_Name_kw (fj I hg hm ?_ hdb);refine PySem.W.callWith_K (h₀:=X.base) I.ok.mod.kin hk (thn (ha pos pins s σ H _ I h) fun us s1 ⟨vs,H1,I1,r,q⟩=>⟨I1.kIn,?_⟩) he hpl;exact pj F hr hb hd hx I1 r q
theorem pK (F:FnOk X.prog X.w X.K X.mg X.base CX k f fd ps sp) (hr:Room k X.A) (hg:Gl X x) (hm:X.mg x=some (.ref f)) (hk:aa6 X.K (.ref f)=true) (hb:Binds X.K fd ps ds) (hd:Vals dvs ds) (hx:gC CX X E)
    (hdb:(x == ("__debug__":Str))=false:=by decide):PE X (.Call (.Name x p) [] [] pos) (kc sp dvs E rX):=by
  intro pins s σ H Q I h;refine wpAny_Call_Name_kw (fj I hg hm ?_ hdb);exact PySem.W.callWith_K0 I.kIn hk (pj (us:=[]) F hr hb hd hx I .nil h)
structure Mk (K:aab) (C f:Addr):Prop where
  makes:PySem.W.makesIn K C=true
  init:aaP K (.ref C) "__init__" = some (some (.ref f))
  fn:PySem.W.isFn K (.ref f)=true
  kp:aa6 K (.ref C)=true
end
section
variable {X:Cx} {CX:CXT} {k:Nat} {f C:Addr} {fd:FuncData} {ps ks:List Str} {sp:Sp} {E:XK} {x m:Str} {p pos apos kpos:Pos} {e o:Expr} {es:List Expr} {kws:List Keyword} {te ta:TE} {t tk:TA} {nm:Option Str}
structure KBinds (K:aab) (fd:FuncData) (ps ks:List Str) (g:List Value→List Value→List Value) (gV:List V→List V→List V):Prop where
  to:∀ (s:Shared) (us ws:List Value),K.In s.heap→(g us ws).length=ps.length→BindsTo s fd ⟨us,ks.zip ws⟩ (ps.zip (g us ws))
  rel:∀ {vs:List V} {us:List Value} {zs:List V} {ws:List Value},Vals vs us→Vals zs ws→Vals (gV vs zs) (g us ws)
variable {g:List Value→List Value→List Value} {gV:List V→List V→List V}
end
structure FnScope (N P:List Str) (sc:Scope):Prop where
  kind:sc.kind=.function
  co:sc.isCoroutine=false
  gen:sc.isGenerator=false
  nd:N.Nodup
  pre:N.take P.length=P
  par:∀ x∈P,sc.names.lookup x=some .local∨sc.names.lookup x=some .cell
  nofree:∀ y∈sc.names,y.2≠.free
theorem jt {kindOf:Str→Option NameKind} {x:Str}:∀ {binds:List (Str × Value)} {m:Str→Option Value},(∀ v,(x,v)∉binds)→bindL kindOf binds m x=m x
  | [],_,_=>rfl
  | (n,v) :: r,m,h=>by
    unfold bindL;rw [jt fun w hw=>h w (aaw _ hw)];split
    · have : x≠n:=by rintro rfl;exact h v aaH
      simp [this]
    · rfl
theorem jv {kindOf:Str→Option NameKind} {x:Str}:∀ {binds:List (Str × Value)} {m:Str→Option Value},(∀ v,(x,v)∉binds)→bindC kindOf binds m x=m x
  | [],_,_=>rfl
  | (n,v) :: r,m,h=>by
    unfold bindC;rw [jv fun w hw=>h w (aaw _ hw)];split
    · rfl
    · have : x≠n:=by rintro rfl;exact h v aaH
      simp [this]
theorem ju {kindOf:Str→Option NameKind} {x:Str} {v:Value}:∀ {P:List Str} {vs:List Value} {i:Nat} {m:Str→Option Value},P.Nodup→P[i]?=some x→vs[i]?=some v→kindOf x=some .local →
    bindL kindOf (P.zip vs) m x=some v
  | [],_,_,_,_,h,_,_=>by simp at h
  | _ :: _,[],_,_,_,_,h,_=>by simp at h
  | p :: P,w :: vs,0,m,nd,h1,h2,hk=>by
    simp at h1 h2;subst h1;subst h2;show bindL kindOf ((p,w) :: P.zip vs) m p=_;unfold bindL;rw [jt fun v hv=>(acJ.mp nd).1 (List.of_mem_zip hv).1,if_pos hk];simp
  | p :: P,w :: vs,i+1,m,nd,h1,h2,hk=>by
    show bindL kindOf ((p,w) :: P.zip vs) m x=_;unfold bindL;exact ju (i:=i) (acJ.mp nd).2 (by simpa using h1) (by simpa using h2) hk
theorem jw {kindOf:Str→Option NameKind} {x:Str} {v:Value}:∀ {P:List Str} {vs:List Value} {i:Nat} {m:Str→Option Value},P.Nodup→P[i]?=some x→vs[i]?=some v→kindOf x≠some .local →
    bindC kindOf (P.zip vs) m x=some v
  | [],_,_,_,_,h,_,_=>by simp at h
  | _ :: _,[],_,_,_,_,h,_=>by simp at h
  | p :: P,w :: vs,0,m,nd,h1,h2,hk=>by
    simp at h1 h2;subst h1;subst h2;show bindC kindOf ((p,w) :: P.zip vs) m p=_;unfold bindC;rw [jv fun v hv=>(acJ.mp nd).1 (List.of_mem_zip hv).1,if_neg hk];simp
  | p :: P,w :: vs,i+1,m,nd,h1,h2,hk=>by
    show bindC kindOf ((p,w) :: P.zip vs) m x=_;unfold bindC;exact jw (i:=i) (acJ.mp nd).2 (by simpa using h1) (by simpa using h2) hk
def dI (N:List Str) (vs:List V):St:=vs.map some++aae (N.length - vs.length) none
def fM (CX:CXT) (P:Program) (w:World) (K:aab) (mg:Str→Option Value) (base:Heap) (N:List Str) (qual:Str) (scope:Scope) (f:Addr) (cd:Value) (A:Around) (outer:List Env) (s:Shared) (H:Hp) (E:XK):Cx where
  prog:=P
  w:=w
  K:=K
  mg:=mg
  base:=base
  A:=A.deeper (envOfC qual scope s.heap.objs.size f cd)
  N:=N
  s₀:=s
  H₀:=H
  env:=envOfC qual scope s.heap.objs.size f cd
  outer:=outer
  stack:=envOfC qual scope s.heap.objs.size f cd :: outer
  ex:=[]
  calm:=true
  fn:=fun _=>true
  pn:=[]
  xe:=fun e s'=>wpAny (model P w) (A.deeper (envOfC qual scope s.heap.objs.size f cd)) (leaving (envOfC qual scope s.heap.objs.size f cd) e) (fun _ s''=>CX outer H s E e s'') (fun e' s''=>CX outer H s E e' s'') s'
theorem lB {sc:Scope} {n:Nat} {x:Str} (h:sc.names.lookup x=some .cell):∃ c,(cellsFrom n sc.names []).lookup x=some c:=by
  have q:=acv sc.names n [] (.inl h);exact acm.mp q
theorem jn {CX:CXT} {P:Program} {w:World} {K:aab} {mg:Str→Option Value} {base:Heap} {N ps:List Str} {qual:Str} {scope:Scope} {f:Addr} {cd:Value} {A:Around} {outer:List Env} {s s1:Shared} {H:Hp} {E:XK} {us:List Value} {vs:List V}
    (S:FnScope N ps scope) (hd:A.handled=none) (e0:Env0 P w K mg base A outer s H) (hl:vs.length=ps.length) (r:Vals vs us)
    (x:InCallC s s.heap.objs.size (bindL (envOfC qual scope s.heap.objs.size f cd).kindOf (ps.zip us) fun _=>none) (cellsFrom (s.heap.objs.size+1) scope.names []) (bindC (envOfC qual scope s.heap.objs.size f cd).kindOf (ps.zip us) fun _=>none) s1) :
    Inv (fM CX P w K mg base N qual scope f cd A outer s H E) [] (dI N vs) H s1:=by
  have hpl:ps.length≤N.length:=by have:=congrArg List.length S.pre;rw [aaV] at this;lia
  obtain ⟨h1,tk,rfl,hk⟩:=x.done;have noA:∀ b:Addr,b∉(fM CX P w K mg base N qual scope f cd A outer s H E).ex:=fun b z=>absurd (show b∈([]:List Addr) from z) (by simp);refine ⟨⟨e0.mod,S.kind,rfl,rfl,aad _,fun y z c h1 h2=>?_,fun y hy=>?_,fun y c _ h=>?_,fun _=>hd,Around.frames_deeper e0.frames,.inr ⟨rfl,rfl⟩,fun b z=>absurd z (noA b),e0.bs,e0.bsz,fun b _ _=>noA b,fun b z=>absurd z (noA b),e0.funs,e0.frf⟩,
    rfl,e0.bare,Un.kept hk,⟨_,x.toInCall.ns,fun i y v h1 h2 h3=>?_⟩,fun y c h=>⟨_,x.cell y c h⟩,e0.hok.fresh (aad _),fun y c h=>?_,fun p hp=>absurd (show p∈([]:List (Addr × Obj)) from hp) (by simp),e0.hok.kept hk,?_⟩
  · exact name_of_addr x.apart (abo h1) (abo h2)
  · have hy:scope.names.lookup y=some .cell∨scope.names.lookup y=some .free:=hy;rcases hy with hy|hy
    · exact lB hy
    · exact absurd rfl (S.nofree _ (abo hy))
  · exact Nat.le_of_lt (x.above y c (abo h))
  · have hi:i < vs.length:=by
      unfold dI at h2;by_cases hi:i < vs.length
      · exact hi
      · rw [abv (by simpa using hi)] at h2;rw [List.getElem?_replicate] at h2;split at h2 <;> cases h2
    have ha:vs[i]?=some v:=by
      unfold dI at h2;rw [acf (by simpa using hi),aaF] at h2;cases e:vs[i]? with
      | none=>rw [e] at h2;cases h2
      | some a=>rw [e] at h2;cases h2;rfl
    obtain ⟨u,hu,rv⟩:=r.get ha;have hp:ps[i]?=some y:=by
      rw [← S.pre,ack (by lia)];exact h1
    have ndP:ps.Nodup:=by rw [← S.pre];exact S.nd.sublist (List.take_sublist _ _)
    refine ⟨u,rv,?_⟩;rcases S.par y (aan hp) with k|k
    · exact .inl ⟨k,ju ndP hp hu k⟩
    · obtain ⟨c,e⟩:=lB (n:=s.heap.objs.size+1) k;refine .inr ⟨.inl k,c,e,?_⟩;have q:=x.cell y c e;rw [jw ndP hp hu (by show scope.names.lookup y≠_;rw [k];decide)] at q;exact q
  · exact e0.hok.fresh (Nat.le_of_lt (x.above y c (abo h)))
  · unfold dI;show _=N.length;rw [aax,aak,aaK];lia
theorem qp {CX:CXT} {P:Program} {w:World} {K:aab} {mg:Str→Option Value} {base:Heap} {k:Nat} {f:Addr} {name qual:Str} {params:Arguments} {body:List Stmt} {scope:Scope} {dV kV doc pm cdv ct oc:Value} {an od:Option Addr}
    {osl:Array (Option Value)} {N ps:List Str} {sp:Sp} (lk:K.lookup f=some ⟨oc,od,.func (abd name qual params body scope dV kV doc pm an cdv ct),osl⟩) (hcd:abI K cdv qual=true) (S:FnScope N ps scope)
    (len:∀ vs H Q E,sp vs H Q E→vs.length=ps.length)
    (hbody:∀ (A:Around) (outer:List Env) (s:Shared) (H:Hp) (vs:List V) (Q:VK) (E:XK),Room k (A.deeper (envOfC qual scope s.heap.objs.size f cdv))→sp vs H Q E →
      ∃ t,PSs (fM CX P w K mg base N qual scope f cdv A outer s H E) body t∧t { nx:=fun _ H'=>Q .non H',rt:=Q } (dI N vs) H) :
    FnOk P w K mg base CX (k+1) f (abd name qual params body scope dV kV doc pm an cdv ct) ps sp:=by
  refine ⟨len,fun A outer s H args us vs Q E hr e0 hb r hsp=>?_⟩;have hl:=len _ _ _ _ hsp;have KX:K.In s.heap:=e0.mod.kin.keeps fun b o e=>(e0.bs b o e).1;have lim:s.heap.NoLimit:=e0.mod.nolimit.keeps fun b o e=>(e0.bs b o e).1;have hkind:∀ y∈ps.zip us,scope.names.lookup y.1=some .local∨(scope.names.lookup y.1=some .cell∧((cellsFrom (s.heap.objs.size+1) scope.names []).lookup y.1).isSome=true):=fun ⟨n,v⟩ hy=>by
    rcases S.par n (List.of_mem_zip hy).1 with q|q
    · exact .inl q
    · exact .inr ⟨q,acv _ _ _ (.inl q)⟩
  refine codeAny_call_function hr.depth (KX _ _ lk) rfl S.co S.gen rfl (PySem.W.codeRec_of KX hcd) (hb _ _ _ _ ?_);refine wpAny_newFunctionEnv_cells S.kind hkind fun env he s1 x=>?_;subst he;refine ⟨lim.keeps x.toInCall.keep,codeAny_func ?_⟩;obtain ⟨t,ht,hq⟩:=hbody A outer s H vs Q E (hr.deeper _) hsp;have I:Inv (fM CX P w K mg base N qual scope f cdv A outer s H E) [] (dI N vs) H s1:=jn S hr.hd e0 hl r x;refine wpAny_mono (ht [] s1 (dI N vs) H _ I hq) (fun fl s' hs=>?_) fun e s' hs=>hs;have fin:∀ {σ':St} {H':Hp} {v:V} {u:Value},Inv (fM CX P w K mg base N qual scope f cdv A outer s H E) [] σ' H' s'→RelV v u→Q v H'→CE outer P w H s Q u s' :=
    fun {σ' H' v u} J rv q=>⟨v,H',J.os,J.bare,J.base,J.hok,rv,q⟩
  cases fl with
  | ret u =>
    obtain ⟨v,σ',H',J,rv,q⟩:=hs;exact fin J rv q
  | next =>
    obtain ⟨σ',H',J,q⟩:=hs;exact fin (v:=V.non) (u:=Value.none) J rfl q
  | brk =>
    obtain ⟨_,_,_,q⟩:=hs;exact abg q
  | cont =>
    obtain ⟨_,_,_,q⟩:=hs;exact abg q
open PySem PySem.Spec PyProof.Rows
section
variable {X:Cx} {x:Str} {p pos:Pos} {e:Expr} {es:List Expr} {t:TA} {id T:String} {r:List V→Hp→VK→Prop}
def tCB (r:List V→Hp→VK→Prop) (t:TA):TE:=fun σ H Q=>t σ H fun vs H1=>r vs H1 Q
theorem aC (hc:cW X (.builtin id) r) (hg:Gl X x) (hm:X.mg x=none) (hv:bootBuiltins x=some (.builtin id)) (ha:PA X (e :: es) t) (hn:x ≠ "__name__":=by decide) (hdb:(x == ("__debug__":Str))=false:=by decide)
    (he:starEach (e :: es) X.env=(false,eval e X.env) :: starEach es X.env:=by rfl) (hpl:(backTo pos (starEach es X.env)).any (·.1)=false:=by rfl):PE X (.Call (.Name x p) (e :: es) [] pos) (tCB r t):=by
  intro pins s σ H Q I h;refine wpAny_Call_Name_kw (gw I hg hm hv ?_ hn hdb);exact PyProof.Rows.callWith_builtin1 (thn (ha pos pins s σ H _ I h) fun us s1 ⟨vs,H1,I1,r1,q1⟩=>hc pins s1 σ H1 vs us Q I1 r1 q1) he hpl
theorem fi (hc:cW X (.type T) r) (hg:Gl X x) (hm:X.mg x=none) (hv:bootBuiltins x=some (.type T)) (ha:PA X (e :: es) t) (hn:x ≠ "__name__":=by decide) (hdb:(x == ("__debug__":Str))=false:=by decide)
    (he:starEach (e :: es) X.env=(false,eval e X.env) :: starEach es X.env:=by rfl) (hpl:(backTo pos (starEach es X.env)).any (·.1)=false:=by rfl):PE X (.Call (.Name x p) (e :: es) [] pos) (tCB r t):=by
  intro pins s σ H Q I h;refine wpAny_Call_Name_kw (gw I hg hm hv ?_ hn hdb);exact aca (thn (ha pos pins s σ H _ I h) fun us s1 ⟨vs,H1,I1,r1,q1⟩=>hc pins s1 σ H1 vs us Q I1 r1 q1) he hpl
end
end L2
namespace HT
open PySem PyProof.Rows
def lexLt:List Int→List Int→Bool
  | [],[]=>false
  | [],_ :: _=>true
  | _ :: _,[]=>false
  | x :: xs,y :: ys=>if x=y then lexLt xs ys else decide (x < y)
theorem mw (x y:Int) (xs ys:List Int):lexLt (x :: xs) (y :: ys)=if x=y then lexLt xs ys else decide (x < y):=rfl
theorem lexLt_nil_nil:lexLt [] []=false:=rfl
theorem iw (y:Int) (ys:List Int):lexLt [] (y :: ys)=true:=rfl
theorem iy (x:Int) (xs:List Int):lexLt (x :: xs) []=false:=rfl
theorem qu (A:Around) (s:Shared) (a:Int) (t:Tok) (c:Int) (u:Tok):∃ e,SeqAt.EqAt A s (.int a t) (.int c u) e∧(e=true↔a=c) :=
  ⟨(a == c),SeqAt.EqAt.int_int a t c u,by simp⟩
theorem pB (A:Around) (s:Shared) (a:Int) (t:Tok) (c:Int) (u:Tok) (prog:Program) (w:World) (E:Value→Shared→Prop) (Q:Value→Shared→Prop) (h:Q (.bool (decide (a < c))) s) :
    wpAny (model prog w) A (richCompare .Lt (.int a t) (.int c u)) Q E s :=
  (PyProof.Rows.lt_int h:wpAny (model prog w) A (compareOp .Lt (.int a t) (.int c u)) Q E s)
section
open PySem.SeqAt
open PySem.AutoSeq1 (wpAny_loadPart')
open PySem.MeetsSeq PySem.MeetsSeq2 PySem.MeetsSeq3
theorem iX (l b:Addr) (items items2:Array Value) (n n2:Nat) (dd dd2:Option Addr) (sl sl2:Array (Option Value)) (ns ms:List Int) (hi:IntsAre items.toList ns) (hj:IntsAre items2.toList ms) :
    Meets (Builtin.«tuple.__lt__» ⟨[.ref l,.ref b],[]⟩)
      (fun _ R s=>s.heap.get? l=some { cls:=.type "tuple",dict:=dd,data:=.seq items n,slots:=sl }∧s.heap.get? b=some { cls:=.type "tuple",dict:=dd2,data:=.seq items2 n2,slots:=sl2 } ∧
        R (.ok (.ret (.bool (lexLt ns ms)))) s) :=
  .of_wp fun prog w A R s h=>by
    obtain ⟨hp,g,d,tk,os⟩:=s;obtain ⟨hl,hb,h⟩:=h;have f2:=AutoSeq1.sub_tuple_tuple;have z1:items.size=ns.length:=by rw [← hi.length];simp
    have z2:items2.size=ms.length:=by rw [← hj.length];simp
    wp_walk using wpAny_loadPart' hl,wpAny_loadPart' hb,wpAny_forIn_list _ (fun bx b s'=>b.1=none∧s'=⟨hp,g,d,tk,os⟩∧∃ (vs ws:List Value) (ns' ms':List Int),bx=vs.zip ws ∧
      IntsAre vs ns'∧IntsAre ws ms'∧ns'.length+items2.size=ms'.length+items.size∧R (.ok (.ret (.bool (lexLt ns' ms')))) ⟨hp,g,d,tk,os⟩) _
    case turn =>
      rintro ⟨y,x⟩ bx b s' ⟨hb',rfl,vs,ws,ns',ms',hz,hvi,hwi,hlen,hR⟩;cases hvi with
      | nil=>rw [List.zip_nil_left] at hz;cases hz
      | cons a t hvi' =>
        cases hwi with
        | nil=>rw [List.zip_nil_right] at hz;cases hz
        | cons c u hwi' =>
          rw [List.zip_cons_cons] at hz;injection hz with hyx hrest
          injection hyx with hy hx
          subst hy hx;rw [mw] at hR;simp only [aaO] at hlen;obtain ⟨e,he,hiff⟩:=qu A.in1 ⟨hp,g,d,tk,os⟩ a t c u;refine wpAny_bind (he prog w _ _ ?_);cases e with
          | true =>
            rw [if_pos (hiff.mp rfl)] at hR
            wp_walk
            exact ⟨rfl,rfl,_,_,_,_,hrest,hvi',hwi',by lia,hR⟩
          | false =>
            rw [if_neg (fun q=>absurd (hiff.mpr q) aah)] at hR;have hri:=pB A.in1 ⟨hp,g,d,tk,os⟩ a t c u prog w
            wp_walk using hri
            exact ⟨_,rfl,by simpa using hR⟩
    case fin =>
      rintro ⟨b1,b2⟩ s' ⟨hb',rfl,vs,ws,ns',ms',hz,hvi,hwi,hlen,hR⟩;simp only at hb';subst hb';have hv:lexLt ns' ms'=decide (items.size < items2.size):=by
        cases hvi with
        | nil =>
          cases hwi with
          | nil =>
            simp only [aba] at hlen;rw [lexLt_nil_nil];exact (decide_eq_false (by lia)).symm
          | cons c u hw =>
            simp only [aba,aaO] at hlen;rw [iw];exact (decide_eq_true (by lia)).symm
        | cons a t hv =>
          cases hwi with
          | nil =>
            simp only [aba,aaO] at hlen;rw [iy];exact (decide_eq_false (by lia)).symm
          | cons c u hw =>
            rw [List.zip_cons_cons] at hz;cases hz
      rw [hv] at hR
      wp_walk
      exact ⟨_,rfl,by simpa [Builtin.Tuple.tupleCompareSizes] using hR⟩
    case h =>
      exact ⟨rfl,rfl,items.toList,items2.toList,ns,ms,rfl,hi,hj,by lia,h⟩
end
section
variable {prog:Program} {w:World} {A:Around} {E:Value→Shared→Prop} {s:Shared}
theorem lt_tupInts {l b:Addr} {items items2:Array Value} {ns ms:List Int} {Q:Value→Shared→Prop} (hl:IsTup s.heap l items) (hb:IsTup s.heap b items2) (hi:IntsAre items.toList ns) (hj:IntsAre items2.toList ms)
    (hu:A.units < cLine) (h:Q (.bool (lexLt ns ms)) s):wpAny (model prog w) A (compareOp .Lt (.ref l) (.ref b)) Q E s:=by
  obtain ⟨⟨cls,dd,data,sl⟩,ho,hc,n,hd⟩:=id hl;obtain ⟨⟨cls2,dd2,data2,sl2⟩,ho2,hc2,n2,hd2⟩:=id hb;simp only at hc hd hc2 hd2;subst hc hd hc2 hd2;exact richCompare_meets_room (op:=.Lt) ⟨_,ho,rfl⟩ ⟨_,ho2,rfl⟩ PySem.F.slot_tuple_lt PySem.F.entry_tuple_lt (PySem.F.args_tuple_lt_2 _ _) (iX l b items items2 n n2 dd dd2 sl sl2 ns ms hi hj)
    ⟨ho,ho2,show Value.bool (lexLt ns ms)≠Value.notImplemented∧Q (.bool (lexLt ns ms)) s from ⟨(fun x=>nomatch x),h⟩⟩ hu
def sIx (n d:Nat):Option Int→Nat
  | none=>d
  | some v=>if v < 0 then (v+(n:Int)).toNat else min v.toNat n
end
end HT
namespace L2
open PySem PySem.Spec PyProof.Rows
abbrev TO:=St→Hp→(Option Int→Hp→Prop)→Prop
def PO (X:Cx) (e:Option Expr) (t:TO):Prop :=
  ∀ (pins:List (Addr × Obj)) (s:Shared) (σ:St) (H:Hp) (Q:Option Int→Hp→Prop),Inv X pins σ H s→t σ H Q →
    wpAny (model X.prog X.w) X.A (evalPart e X.env) (fun u s'=>∃ o H',Inv X pins σ H' s'∧IsPart u o∧Q o H') X.xe s
def qM:TO:=fun _ H Q=>Q none H
def tO (t:TE):TO:=fun σ H Q=>t σ H fun x H1=>∃ i,x=.int i∧Q (some i) H1
theorem iI {ns:List Int}:∀ {us:List Value},Vals (ns.map V.int) us→IntsAre us ns:=by
  induction ns with
  | nil=>intro us r;rw [acl] at r;cases r;exact .nil
  | cons n ns ih =>
    intro us r;rw [aaG] at r;cases r with
    | cons r1 r2 =>
      obtain ⟨t,e⟩:=r1;subst e;exact .cons n t (ih r2)
section
variable {X:Cx} {e:Expr} {te:TE} {lo hi:Option Expr} {tl th:TO} {pos p2:Pos}
theorem gU:PO X none qM:=by
  intro pins s σ H Q I h;rw [evalPart_none];exact wpAny_pure ⟨none,H,I,.none,h⟩
theorem gR (h:PE X e te):PO X (some e) (tO te):=by
  intro pins s σ H Q I hw;rw [evalPart_some];refine thn (h pins s σ H _ I hw) fun u s1 ⟨x,H1,I1,r1,q1⟩=>?_;obtain ⟨i,rfl,q⟩:=q1;obtain ⟨t,rfl⟩:=r1;exact ⟨some i,H1,I1,.int i t,q⟩
def SlR (X:Cx) (r:V→Option Int→Option Int→Hp→VK→Prop):Prop :=
  ∀ (pins:List (Addr × Obj)) (s:Shared) (σ:St) (H:Hp) (x:V) (v vl vu:Value) (lo hi:Option Int) (sl:Addr) (Q:VK),Inv X pins σ H s→RelV x v→s.heap.IsSliceOf sl vl vu .none→IsPart vl lo→IsPart vu hi→r x lo hi H Q →
    ∃ T id,typeLookup (.type T) "__getitem__" = pure (some (.builtin id))∧s.TypeIs v T∧wpAny (model X.prog X.w) X.A (getItem v (.ref sl)) (EP X pins σ Q) X.xe s
def tSl (r:V→Option Int→Option Int→Hp→VK→Prop) (te:TE) (tl th:TO):TE:=fun σ H Q=>te σ H fun x H1=>tl σ H1 fun l H2=>th σ H2 fun u H3=>r x l u H3 Q
theorem fQ {r:V→Option Int→Option Int→Hp→VK→Prop} (hr:SlR X r) (he:PE X e te) (hl:PO X lo tl) (hu:PO X hi th):PE X (.Subscript e (.Slice lo hi none p2) pos) (tSl r te tl th):=by
  intro pins s σ H Q I h;refine Subscript_ (thn (he pins s σ H _ I h) fun v s1 ⟨x,H1,I1,r1,q1⟩=>?_);refine wpAny_Slice (thn (hl pins s1 σ H1 _ I1 q1) fun vl s2 ⟨l,H2,I2,pl,q2⟩=>thn (hu pins s2 σ H2 _ I2 q2) fun vu s3 ⟨u,H3,I3,pu,q3⟩=>?_);rw [evalPart_none];refine wpAny_pure ?_;have I4:Inv X pins σ H3 { s3 with heap:=s3.heap.push { cls:=.type "slice",data:=.fields #[vl,vu,.none] } }:=I3.kept (t':=s3.toks) fun b ob q=>aac _ q;obtain ⟨T,id,hT,ht,hg⟩:=hr pins { s3 with heap:=s3.heap.push { cls:=.type "slice",data:=.fields #[vl,vu,.none] } } σ H3 x v vl vu l u s3.heap.objs.size Q I4 r1 (Heap.IsSliceOf.new ..) pl pu q3;show wpAny (model X.prog X.w) X.A (subscriptTail e (.Slice lo hi none p2) v (.ref s3.heap.objs.size)) (EP X pins σ Q) X.xe { s3 with heap:=s3.heap.push { cls:=.type "slice",data:=.fields #[vl,vu,.none] } };exact tail_any (ops:=[.ref s3.heap.objs.size,v]) ht hT hg (by with_unfolding_all rfl)
def dD (xs:List V) (lo hi:Option Int):List V:=(xs.drop (HT.sIx xs.length 0 lo)).take (HT.sIx xs.length xs.length hi - HT.sIx xs.length 0 lo)
theorem lw (xs:List V) (lo hi:Option Int):(dD xs lo hi).length≤xs.length:=by
  unfold dD;rw [aaV,abl];lia
end
open PySem PySem.Spec PyProof.Rows
def ixN (n:Nat) (i:Int):Option Nat:=if 0≤i then (if i < n then some i.toNat else none) else if -(n:Int)≤i then some (i+n).toNat else none
def atI {α:Type} (xs:List α) (i:Int):Option α:=(ixN xs.length i).bind fun j=>xs[j]?
theorem nu {n:Nat} {i:Int} {j:Nat} (h:ixN n i=some j):seqIndex? i n=some j∧j < n∧-(n:Int)≤i∧i < n:=by
  unfold ixN at h;by_cases h0:0≤i
  · rw [if_pos h0] at h;by_cases h1:i < n
    · rw [if_pos h1] at h;have e:i.toNat=j:=aaN h;exact ⟨by rw [seqIndex_of h0 h1,e],by lia,by lia,h1⟩
    · rw [if_neg h1] at h;cases h
  · rw [if_neg h0] at h;by_cases h1:-(n:Int)≤i
    · rw [if_pos h1] at h;have e:(i+n).toNat=j:=aaN h;exact ⟨by rw [seqIndex_neg (by lia) h1,e],by lia,h1,by lia⟩
    · rw [if_neg h1] at h;cases h
theorem nM {α:Type} {xs:List α} {i:Int} {v:α} (h:atI xs i=some v):∃ j,seqIndex? i xs.length=some j∧xs[j]?=some v∧j < xs.length∧-(xs.length:Int)≤i∧i < xs.length:=by
  unfold atI at h;cases e:ixN xs.length i with
  | none=>rw [e] at h;cases h
  | some j =>
    rw [e] at h;obtain ⟨h1,h2,h3,h4⟩:=nu e;exact ⟨j,h1,h,h2,h3,h4⟩
theorem gY {α:Type} {xs:List α} {j:Nat} {v:α} (h:xs[j]?=some v):atI xs (j:Int)=some v:=by
  have hj:j < xs.length:=(aai.mp h).1;have e:ixN xs.length (j:Int)=some j:=by
    unfold ixN;rw [if_pos (by lia),if_pos (by lia)];simp
  unfold atI;rw [e];exact h
def rC (b:Expr):Prop:=∀ o i,subscripted b false o i=operate [o,i] (getItem o i)
def IxR (X:Cx) (r:R2):Prop :=
  ∀ (value slice:Expr) (pins:List (Addr × Obj)) (s:Shared) (σ:St) (H:Hp) (x y:V) (v u:Value) (Q:VK),Inv X pins σ H s→RelV x v→RelV y u→r x y H Q →
    subscripted slice false v u=operate [v,u] (getItem v u)→wpAny (model X.prog X.w) X.A (subscriptTail value slice v u) (EP X pins σ Q) X.xe s
def MtR (X:Cx) (id:String) (r:V→List V→Hp→VK→Prop):Prop :=
  ∀ (pins:List (Addr × Obj)) (s:Shared) (σ:St) (H:Hp) (x:V) (xs:List V) (v:Value) (us:List Value) (Q:VK),Inv X pins σ H s→RelV x v→Vals xs us→r x xs H Q →
    wpAny (model X.prog X.w) X.A (call (.builtin id) (v :: us)) (EP X pins σ Q) X.xe s
section
variable {X:Cx} {a b:Expr} {ta tb:TE} {pos:Pos}
theorem cU {r:R2} (hr:IxR X r) (ha:PE X a ta) (hb:PE X b tb) (hs:rC b):PE X (.Subscript a b pos) (tOp r ta tb):=by
  intro pins s σ H Q I h;exact Subscript_ (tF ha hb I h fun v u s2 x y H2 I2 rx ry q=>hr a b pins s2 σ H2 x y v u Q I2 rx ry q (hs _ _))
def t_ (K:aab):R2:=fun x y H Q=>∃ p xs i v,x=.ref p∧y=.int i∧SqL K H p xs∧atI xs i=some v∧Q v H
def t9 (K:aab):R2:=fun x y H Q=>∃ p xs i v,x=.ref p∧y=.int i∧SqT K H p xs∧atI xs i=some v∧Q v H
theorem bH:IxR X (t_ X.K):=by
  intro value slice pins s σ H x y v u Q I rx ry h hs;obtain ⟨p,xs,i,z,rfl,rfl,hq,he,q⟩:=h;cases rx;obtain ⟨t,rfl⟩:=ry;obtain ⟨its,r,pl,hz⟩:=I.list hq;obtain ⟨j,h1,h2,h3,h4,h5⟩:=nM he;obtain ⟨w,ew,rw'⟩:=r.get h2;have hl:=r.length;have hn:=iu;have fin:EP X pins σ Q w s:=⟨z,H,I,rw',q⟩
  by_cases h0:0≤i
  · have hj:i.toNat=j:=by
      rw [seqIndex_of h0 h5] at h1;exact aaN h1
    exact item_listR pl.isList h0 (by lia) (by rw [hj];simpa using ew) fin hs
  · have hj:(i+(its.toArray.size:Int)).toNat=j:=by
      rw [seqIndex_neg (by lia) h4] at h1;rw [aal,← hl];exact aaN h1
    exact subscriptTail_builtinR (x:=w) pl.isList.typeIs slot_list_getitem.lookup
      (wpAny_getItem_list_neg (Q:=fun r s'=>r=w∧EP X pins σ Q r s') pl.isList (by lia) (by rw [aal] <;> lia) (by lia) (by rw [hj];simpa using ew) ⟨rfl,fin⟩) hs
theorem s_:IxR X (t9 X.K):=by
  intro value slice pins s σ H x y v u Q I rx ry h hs;obtain ⟨p,xs,i,z,rfl,rfl,hq,he,q⟩:=h;cases rx;obtain ⟨t,rfl⟩:=ry;obtain ⟨its,r,pl,hz⟩:=I.tuple hq;obtain ⟨j,h1,h2,h3,h4,h5⟩:=nM he;obtain ⟨w,ew,rw'⟩:=r.get h2;have hl:=r.length;have hn:=iu;have fin:EP X pins σ Q w s:=⟨z,H,I,rw',q⟩
  exact subscriptTail_builtinR (x:=w) pl.typeIs slot_tuple_getitem.lookup
    (getItem_tuple (j:=j) (Q:=fun r s'=>r=w∧EP X pins σ Q r s') pl (by lia) (by lia) (by rw [aal,← hl];exact h1) (by simpa using ew) ⟨rfl,fin⟩) hs
theorem mn (its:List Value) (n j:Nat) (u:Value):aaR (·.setIfInBounds j u) { cls:=.type "list",data:=.seq its.toArray n }={ cls:=.type "list",data:=.seq (its.set j u).toArray n }:=by
  simp [aaR]
theorem Inv.lst {pins:List (Addr × Obj)} {σ:St} {H:Hp} {s:Shared} {p:Addr} {xs:List V} (I:Inv X pins σ H s) (h:H p=some (.lst xs)) :
    ∃ (its:List Value) (n:Nat),Vals xs its∧s.heap.get? p=some { cls:=.type "list",data:=.seq its.toArray n }∧xs.length≤sizeLine:=by
  obtain ⟨z,its,n,r,e⟩:=I.hok p _ h;exact ⟨its,n,r,e,z⟩
theorem Inv.lstUpd {pins:List (Addr × Obj)} {σ:St} {H:Hp} {s:Shared} {p:Addr} {xs ys:List V} {its its':List Value} {n n':Nat} {f:Obj→Obj} (I:Inv X pins σ H s) (h:H p=some (.lst xs))
    (ho:s.heap.get? p=some { cls:=.type "list",data:=.seq its.toArray n }) (hf:f { cls:=.type "list",data:=.seq its.toArray n }={ cls:=.type "list",data:=.seq its'.toArray n' }) (r:Vals ys its') (hz:ys.length≤sizeLine) (t:Nat) :
    Inv X pins σ (upd H p (.lst ys)) { s with heap:=s.heap.update p f,toks:=t }:=by
  have e:(s.heap.update p f).get? p=some { cls:=.type "list",data:=.seq its'.toArray n' }:=by
    rw [abC f ho (by rw [hf] <;> rfl),hf]
  refine I.write (x:=p) (e:=p) (by rw [h];trivial) (.inl rfl) (fun b u hb q=>(abw _ _ (aa3 hb)).trans q) ⟨_,e⟩ ?_;exact ⟨hz,its',n',r,e⟩
def t8:V→V→V→Hp→(Hp→Prop)→Prop:=fun o i v H Q=>∃ p xs k j,o=.ref p∧i=.int k∧H p=some (.lst xs)∧ixN xs.length k=some j∧Q (upd H p (.lst (xs.set j v)))
theorem ki:uu X t8:=by
  intro pins s σ H o i v ov iv u Q I ro ri rv h;obtain ⟨p,xs,k,j,rfl,rfl,hp,hj,q⟩:=h;cases ro;obtain ⟨t,rfl⟩:=ri;obtain ⟨its,n,r,ho,hz⟩:=I.lst hp;obtain ⟨h1,h2,h3,h4⟩:=nu hj;have hl:=r.length;have hn:=iu;have I':Inv X pins σ (upd H p (.lst (xs.set j v))) { s with heap:=s.heap.update p (aaR (·.setIfInBounds j u)) } :=
    I.lstUpd hp ho (mn its n j u) (r.set rv j) (by rw [List.length_set];exact hz) s.toks
  by_cases h0:0≤k
  · have hk:k.toNat=j:=by
      rw [seqIndex_of h0 h4] at h1;exact aaN h1
    exact PySem.W.ki_setAt ho h0 (by lia) (by rw [aal,← hl];exact h4) (by rw [hk];exact ⟨_,I',q⟩)
  · have hk:(k+(its.toArray.size:Int)).toNat=j:=by
      rw [seqIndex_neg (by lia) h3] at h1;rw [aal,← hl];exact aaN h1
    exact PySem.W.ki_setBack ho (by lia) (by rw [aal,← hl];exact h3) (by lia) (by rw [hk];exact ⟨_,I',q⟩)
theorem jF (lo hi:Option Int) (n:Nat):(sliceBounds lo hi none n).1=((HT.sIx n 0 lo:Nat):Int)∧(sliceBounds lo hi none n).2.1=((HT.sIx n n hi:Nat):Int)∧(sliceBounds lo hi none n).2.2=1:=by
  refine ⟨?_,?_,rfl⟩
  · cases lo with
    | none=>simp [sliceBounds,HT.sIx]
    | some i =>
      simp only [sliceBounds,HT.sIx,Option.getD_none,show (1:Int) > 0 by decide,if_true];by_cases h:i < 0
      · simp only [h,if_true] <;> lia
      · simp only [h,if_false] <;> lia
  · cases hi with
    | none=>simp [sliceBounds,HT.sIx]
    | some i =>
      simp only [sliceBounds,HT.sIx,Option.getD_none,show (1:Int) > 0 by decide,if_true];by_cases h:i < 0
      · simp only [h,if_true] <;> lia
      · simp only [h,if_false] <;> lia
theorem iY (its:List Value) (lo hi:Option Int):slicePick its.toArray lo hi none=((its.drop (HT.sIx its.length 0 lo)).take (HT.sIx its.length its.length hi - HT.sIx its.length 0 lo)).toArray:=by
  obtain ⟨h1,h2,h3⟩:=jF lo hi its.toArray.size;unfold slicePick;rw [h1,h2,h3];simp only [sliceRange_one,pick_run,aal] <;> rfl
def t7 (K:aab):V→Option Int→Option Int→Hp→VK→Prop:=fun x lo hi H Q=>∃ a xs,x=.ref a∧SqL K H a xs∧∀ p,H p=none→Q (.ref p) (upd H p (.lst (dD xs lo hi)))
theorem jG:SlR X (t7 X.K):=by
  intro pins s σ H x v vl vu lo hi sl Q I rx hs pl pu h;obtain ⟨a,xs,rfl,hx,q⟩:=h;cases rx;obtain ⟨its,r,ht,hz⟩:=I.list hx;have hlen:=r.length;refine ⟨"list",_,slot_list_getitem.lookup,ht.isList.typeIs,?_⟩;refine wpAny_getItem_list_slice ht.isList hs pl pu .none (by simp) ?_ (by rw [aal] <;> lia);rw [iY,← hlen];refine ⟨.ref s.heap.objs.size,_,I.laid (t':=s.toks) (o:=.lst (dD xs lo hi)) (fun b ob q=>aac _ q) (aad _) ?_,rfl,q _ (I.hok.fresh (aad _))⟩;exact ⟨aaL (lw xs lo hi) hz,_,0,(r.drop (HT.sIx xs.length 0 lo)).take (HT.sIx xs.length xs.length hi - HT.sIx xs.length 0 lo),aap _ rfl⟩
def eZ:V→Bool
  | .non=>true
  | .bl _=>true
  | .int _=>true
  | .str _=>true
  | _=>false
def eqV:V→V→Bool
  | .non,.non=>true
  | .bl a,.bl b=>a == b
  | .bl a,.int b=>(if a then 1 else 0) == b
  | .int a,.bl b=>a == (if b then 1 else 0)
  | .int a,.int b=>a == b
  | .str a,.str b=>a == b
  | _,_=>false
theorem qv {A:Around} {s:Shared} {y x:V} {u v:Value} (ry:RelV y u) (rx:RelV x v) (fy:eZ y=true) (fx:eZ x=true):SeqAt.EqAt A s u v (eqV y x):=by
  cases y with
  | non =>
    cases ry;cases x with
    | non=>cases rx;exact SeqAt.EqAt.same _
    | bl b=>cases rx;exact SeqAt.EqAt.none_bool b
    | int b=>obtain ⟨t,rfl⟩:=rx;exact SeqAt.EqAt.none_int b t
    | str b=>obtain ⟨t,rfl⟩:=rx;exact SeqAt.EqAt.none_str b t
    | _=>exact absurd (show false=true from fx) aah
  | bl a =>
    cases ry;cases x with
    | non=>cases rx;exact SeqAt.EqAt.bool_none a
    | bl b=>cases rx;exact SeqAt.EqAt.bool_bool a b
    | int b=>obtain ⟨t,rfl⟩:=rx;exact SeqAt.EqAt.bool_int a b t
    | str b=>obtain ⟨t,rfl⟩:=rx;exact SeqAt.EqAt.bool_str a b t
    | _=>exact absurd (show false=true from fx) aah
  | int a =>
    obtain ⟨t',rfl⟩:=ry;cases x with
    | non=>cases rx;exact SeqAt.EqAt.int_none a t'
    | bl b=>cases rx;exact SeqAt.EqAt.int_bool a t' b
    | int b=>obtain ⟨t,rfl⟩:=rx;exact SeqAt.EqAt.int_int a t' b t
    | str b=>obtain ⟨t,rfl⟩:=rx;exact SeqAt.EqAt.int_str a t' b t
    | _=>exact absurd (show false=true from fx) aah
  | str a =>
    obtain ⟨t',rfl⟩:=ry;cases x with
    | non=>cases rx;exact SeqAt.EqAt.str_none a t'
    | bl b=>cases rx;exact SeqAt.EqAt.str_bool a t' b
    | int b=>obtain ⟨t,rfl⟩:=rx;exact SeqAt.EqAt.str_int a t' b t
    | str b=>obtain ⟨t,rfl⟩:=rx;exact SeqAt.EqAt.str_str a t' b t
    | _=>exact absurd (show false=true from fx) aah
  | _=>exact absurd (show false=true from fy) aah
def eqU (x:V) (u:Value):Bool:=match u with
  | .none=>eqV .non x
  | .bool b=>eqV (.bl b) x
  | .int i _=>eqV (.int i) x
  | .str z _=>eqV (.str z) x
  | _=>false
theorem qt {x y:V} {u:Value} (r:RelV y u) (f:eZ y=true):eqU x u=eqV y x:=by
  cases y with
  | non=>cases r;rfl
  | bl b=>cases r;rfl
  | int i=>obtain ⟨t,rfl⟩:=r;rfl
  | str z=>obtain ⟨t,rfl⟩:=r;rfl
  | _=>exact absurd (show false=true from f) aah
theorem jY {x:V}:∀ {xs:List V} {us:List Value},Vals xs us→xs.all eZ=true→us.any (eqU x)=xs.any fun y=>eqV y x
  | _,_,.nil,_=>rfl
  | y :: xs,u :: us,.cons r t,f=>by
    rw [List.all_cons,acg] at f;rw [acG,acG,qt r f.1,jY t f.2]
theorem ir {A:Around} {s:Shared} {x:V} {v:Value} (rx:RelV x v) (fx:eZ x=true):∀ {xs:List V} {us:List Value},Vals xs us→xs.all eZ=true→∀ u∈us,SeqAt.EqAt A s u v (eqU x u)
  | _,_,.nil,_=>fun u hu=>by cases hu
  | y :: xs,u :: us,.cons r t,f=>fun u' hu=>by
    rw [List.all_cons,acg] at f;rcases aay.mp hu with rfl|hu
    · rw [qt r f.1];exact qv r rx f.1 fx
    · exact ir rx fx t f.2 u' hu
def inV (x:V) (xs:List V):Bool:=xs.any fun y=>eqV y x
def rIn (K:aab) (neg:Bool):R2:=fun x y H Q=>∃ p xs,y=.ref p∧(SqL K H p xs∨SqT K H p xs)∧eZ x=true∧xs.all eZ=true∧Q (.bl (if neg then !inV x xs else inV x xs)) H
theorem n_:OpR X (compareOp .In) (rIn X.K false):=by
  intro pins s σ H x y v u Q I rx ry h;obtain ⟨p,xs,rfl,hq,fx,fs,q⟩:=h;cases ry;rcases hq with hq|hq
  · obtain ⟨its,r,pl,hz⟩:=I.list hq;refine SeqAt.in_listAt (eqU x) pl.isList (fun w hw=>ir rx fx r fs w (by simpa using hw)) ⟨.bl _,H,I,rfl,?_⟩;rw [show its.toArray.any (eqU x)=its.any (eqU x) by simp,jY r fs];exact q
  · obtain ⟨its,r,pl,hz⟩:=I.tuple hq;refine SeqAt.in_tupleAt (eqU x) pl (fun w hw=>ir rx fx r fs w (by simpa using hw)) ⟨.bl _,H,I,rfl,?_⟩;rw [show its.toArray.any (eqU x)=its.any (eqU x) by simp,jY r fs];exact q
theorem cf:cW X (.builtin "len") (fun xs H Q=>∃ p ys,xs=[.ref p]∧(SqL X.K H p ys∨SqT X.K H p ys)∧Q (.int ys.length) H):=by
  intro pins s σ H xs us Q I r h;obtain ⟨p,ys,rfl,hq,q⟩:=h;obtain ⟨u,rfl,rx⟩:=dl r;cases rx;have hn:=iu;rcases hq with hq|hq
  · obtain ⟨its,r',pl,hz⟩:=I.list hq;have hlen:=r'.length;exact Calls.call_len_list pl.isList (by simp only [aal] <;> lia) ⟨.int ys.length,H,I.tok _,⟨s.toks+1,by rw [aal,hlen]⟩,q⟩
  · obtain ⟨its,r',pl,hz⟩:=I.tuple hq;have hlen:=r'.length;exact len_tuple pl (by simp only [aal] <;> lia) ⟨.int ys.length,H,I.tok _,⟨s.toks+1,by rw [aal,hlen]⟩,q⟩
theorem ja:cW X (.type "tuple") (fun xs H Q=>∃ p ys,xs=[.ref p]∧((SqL X.K H p ys∧∀ l,H l=none→Q (.ref l) (upd H l (.tup ys)))∨(SqT X.K H p ys∧Q (.ref p) H))):=by
  intro pins s σ H xs us Q I r h;obtain ⟨p,ys,rfl,h⟩:=h;obtain ⟨u,rfl,rx⟩:=dl r;cases rx;rcases h with ⟨hq,q⟩|⟨hq,q⟩
  · obtain ⟨its,r',pl,hz⟩:=I.list hq;have hlen:=r'.length;refine call_tuple_list pl.isList (fun h' kp=>?_) (by simp only [aal] <;> lia);have I1:Inv X pins σ H { s with heap:=h' }:=I.kept (t':=s.toks) kp;have I2:Inv X pins σ (upd H h'.objs.size (.tup ys)) { s with heap:=h'.push { cls:=.type "tuple",data:=.seq its.toArray } } :=
      I1.laid (t':=s.toks) (fun b o e=>aac _ e) (aad _) (show ObjOk X.prog X.w _ _ _ (.tup ys) from ⟨hz,its,r',IsTup.new _ _⟩)
    exact ⟨.ref h'.objs.size,_,I2,rfl,q _ (I1.hok.fresh (aad _))⟩
  · obtain ⟨its,r',pl,hz⟩:=I.tuple hq;exact call_tuple_same pl ⟨.ref p,H,I,rfl,q⟩
def tyV (K:aab) (T:String) (x:V) (H:Hp):Prop:=match x with
  | .str _=>T = "str"
  | .int _=>T = "int"
  | .ref p=>(T = "list"∧∃ xs,SqL K H p xs)∨(T = "tuple"∧∃ o,K.lookup p=some o∧o.cls=.type "tuple"∧o.dict=none) ∨
      (T = "dict"∧((∃ kvs,H p=some (.dK kvs))∨∃ kvs,H p=some (.dT kvs)))∨(T = "set"∧∃ S n,H p=some (.set S n))
  | _=>False
theorem oX {pins:List (Addr × Obj)} {σ:St} {H:Hp} {s:Shared} {T:String} {x:V} {v:Value} (I:Inv X pins σ H s) (r:RelV x v) (ty:tyV X.K T x H) :
    s.TypeIs v T∧∀ a,v=.ref a→∃ ob,s.heap.get? a=some ob∧ob.dict=none:=by
  cases x with
  | str z =>
    obtain ⟨t,rfl⟩:=r;cases (show T = "str" from ty);exact ⟨typeIs_str s z t,fun _ e=>nomatch e⟩
  | int i =>
    obtain ⟨t,rfl⟩:=r;cases (show T = "int" from ty);exact ⟨typeIs_int s i t,fun _ e=>nomatch e⟩
  | ref p =>
    cases r;rcases ty with ⟨rfl,xs,hq⟩|⟨rfl,o,hk,hc,hd⟩|⟨rfl,hk⟩|⟨rfl,S,n,hk⟩
    · obtain ⟨its,_,pl,_⟩:=I.list hq;refine ⟨pl.isList.typeIs,fun a e=>?_⟩;cases e;obtain ⟨o,n,e,c,hd,_⟩:=pl;exact ⟨o,e,hd⟩
    · refine ⟨⟨o,I.kIn p o hk,hc⟩,fun a e=>?_⟩;cases e;exact ⟨o,I.kIn _ o hk,hd⟩
    · have z:∃ o,s.heap.get? p=some o∧o.ExactDict:=by
        rcases hk with ⟨kvs,hk⟩|⟨kvs,hk⟩
        · obtain ⟨_,_,_,_,o,_,_,e,ex,_⟩:=I.hok p _ hk;exact ⟨o,e,ex⟩
        · obtain ⟨_,_,_,_,o,_,_,e,ex,_⟩:=I.hok p _ hk;exact ⟨o,e,ex⟩
      obtain ⟨o,e,ex⟩:=z;refine ⟨⟨o,e,ex.1⟩,fun a e2=>?_⟩;cases e2;exact ⟨o,e,ex.2.1⟩
    · obtain ⟨o,_,_,_,e,ex,_⟩:=I.hok p _ hk;refine ⟨⟨o,e,ex.1⟩,fun a e2=>?_⟩;cases e2;exact ⟨o,e,ex.2.1⟩
  | _=>exact abg ty
def uI (K:aab) (T:String) (r:V→List V→Hp→VK→Prop) (to:TE):TE:=fun σ H Q=>to σ H fun x H1=>tyV K T x H1∧r x [] H1 Q
def tBM (K:aab) (T:String) (r:V→List V→Hp→VK→Prop) (to:TE) (t:TA):TE:=fun σ H Q=>to σ H fun x H1=>tyV K T x H1∧t σ H1 fun xs H2=>r x xs H2 Q
variable {o e:Expr} {es:List Expr} {to:TE} {t:TA} {name:Str} {apos cpos:Pos} {T id:String} {r:V→List V→Hp→VK→Prop}
theorem sG (pa:PlainAttrs T) (slot:Slot T name id) (hty:typeOf (.builtin id)=pure (.type "method_descriptor")) (hm:MtR X id r) (ho:PE X o to)
    (hbase:attributeBase o name X.env (eval o X.env)=eval o X.env:=by rfl) (hline:(apos.endLine == cpos.line)=true:=by rfl):PE X (.Call (.Attribute o name apos) [] [] cpos) (uI X.K T r to):=by
  intro pins s σ H Q I h;refine wpAny_Call_method0_late hbase hline (thn (ho pins s σ H _ I h) fun v s1 ⟨x,H1,I1,r1,ty,q1⟩=>?_);obtain ⟨h1,h2⟩:=oX I1 r1 ty;exact ⟨T,id,pa,slot,hty,h1,h2,ab3 rfl (PySem.evalArgs_none (hm pins s1 σ H1 x [] v [] Q I1 r1 .nil q1))⟩
theorem kP (pa:PlainAttrs T) (slot:Slot T name id) (hty:typeOf (.builtin id)=pure (.type "method_descriptor")) (hm:MtR X id r) (ho:PE X o to) (ha:PA X (e :: es) t)
    (hbase:attributeBase o name X.env (eval o X.env)=eval o X.env:=by rfl)
    (hfew:((backTo cpos (starEach (e :: es) X.env)).all (fun x=>!x.1) && (backToKw cpos (keywordEach [] X.env)).all (fun x=>x.1.isSome)
      && decide ((e :: es).length+([]:List Keyword).length+(if ([]:List Keyword).isEmpty then 0 else 1) < 30))=true:=by rfl)
    (hline:(apos.endLine == cpos.line)=true:=by rfl) (hs:starEach (e :: es) X.env=(false,eval e X.env) :: starEach es X.env:=by rfl) (hplain:(backTo cpos (starEach es X.env)).any (·.1)=false:=by rfl) :
    PE X (.Call (.Attribute o name apos) (e :: es) [] cpos) (tBM X.K T r to t):=by
  intro pins s σ H Q I h;refine wpAny_Call_method_late hbase hfew hline rfl (thn (ho pins s σ H _ I h) fun v s1 ⟨x,H1,I1,r1,ty,q1⟩=>?_);obtain ⟨h1,h2⟩:=oX I1 r1 ty;refine ⟨T,id,pa,slot,hty,h1,h2,?_⟩;have hA:=ha cpos pins s1 σ H1 _ I1 q1;rw [hs] at hA ⊢;refine ab3 (by show (false || (backTo cpos (starEach es X.env)).any (·.1))=false;rw [hplain] <;> rfl) (Calls.evalArgs_plain ?_);exact thn hA fun us s2 ⟨vs,H2,I2,r2,q2⟩=>hm pins s2 σ H2 x vs v us Q I2 r1 r2 q2
end
open PySem PySem.Spec PyProof.Rows
def MtM (X:Cx) (id:String) (r:V→List V→Hp→VK→Prop):Prop :=
  ∀ (pins:List (Addr × Obj)) (s:Shared) (σ:St) (H:Hp) (x:V) (xs:List V) (v:Value) (us:List Value) (Q:VK),Inv X pins σ H s→RelV x v→Vals xs us→r x xs H Q →
    wpAny (model X.prog X.w) X.A (call (.builtin id) (v :: us)) (EP X pins σ Q) X.xe s
theorem Vals.one:∀ {x:V} {us:List Value},Vals [x] us→∃ u,us=[u]∧RelV x u
  | _,_,.cons r .nil=>⟨_,rfl,r⟩
theorem Vals.zero:∀ {us:List Value},Vals [] us→us=[]
  | _,.nil=>rfl
theorem Vals.rep {xs:List V} {us:List Value} (h:Vals xs us):∀ k:Nat,Vals (aae k xs).flatten (aae k us).flatten
  | 0=>.nil
  | k+1=>by
    rw [abc,abc,abU,abU];exact Vals.append h (Vals.rep h k)
theorem jp (its:List Value):∀ (k:Nat) (acc:List Value),
    List.foldl (fun x1 x2=>x1++x2) acc.toArray (aae k its.toArray)=(acc++(aae k its).flatten).toArray
  | 0,acc=>by simp
  | k+1,acc=>by
    have e:acc.toArray++its.toArray=(acc++its).toArray:=by simp
    have e2:(acc++its)++(aae k its).flatten=acc++(aae (k+1) its).flatten:=by
      rw [abc,abU,aaB]
    rw [← e2,← jp its k (acc++its),← e,abc,List.foldl_cons]
section
variable {X:Cx} {pins:List (Addr × Obj)} {σ:St} {H:Hp} {s:Shared} {l b:Addr} {xs ys zs:List V}
theorem Inv.lset {its its':List Value} {n:Nat} {f:Array Value→Array Value} {t':Nat} (I:Inv X pins σ H s) (hH:H l=some (.lst xs))
    (e:s.heap.get? l=some { cls:=.type "list",data:=.seq its.toArray n }) (hf:f its.toArray=its'.toArray) (hv:Vals ys its') (hz:ys.length≤sizeLine) :
    Inv X pins σ (upd H l (.lst ys)) { s with heap:=s.heap.update l (aaR f),toks:=t' }:=by
  have q:=PySem.IsL.update e f;rw [hf] at q;refine I.write (x:=l) (e:=l) (by rw [hH];exact trivial) (.inl rfl) (fun b' u hb hu=>(abw s.heap (aaR f) (aa3 hb)).trans hu) ⟨_,q⟩ ?_;exact ⟨hz,its',_,hv,q⟩
theorem Inv.lnew {its:List Value} {t':Nat} (I:Inv X pins σ H s) (hv:Vals ys its) (hz:ys.length≤sizeLine) :
    Inv X pins σ (upd H s.heap.objs.size (.lst ys)) { s with heap:=s.heap.push { cls:=.type "list",data:=.seq its.toArray },toks:=t' } :=
  I.laid (fun _ _ q=>aac _ q) (aad _) ⟨hz,its,0,hv,aap _ rfl⟩
theorem Inv.fresh (I:Inv X pins σ H s):H s.heap.objs.size=none:=I.hok.fresh (aad _)
theorem Inv.lstM (I:Inv X pins σ H s) (hH:H l=some (.lst xs)):xs.length≤sizeLine∧∃ (its:List Value) (n:Nat),Vals xs its∧xs.length=its.length∧s.heap.get? l=some { cls:=.type "list",data:=.seq its.toArray n }:=by
  obtain ⟨z,its,n,r,e⟩:=I.hok l _ hH;exact ⟨z,its,n,r,r.length,e⟩
theorem pT {n:Nat} (h:n≤sizeLine):aci n=false:=by
  unfold aci;exact decide_eq_false (by lia)
end
section
variable {X:Cx}
def qT:V→List V→Hp→VK→Prop:=fun x vs H Q=>∃ l xs y,x=.ref l∧vs=[y]∧H l=some (.lst xs)∧xs.length < sizeLine∧Q .non (upd H l (.lst (xs++[y])))
theorem gv:MtM X "list.append" qT:=by
  intro pins s σ H x vs v us Q I rx rv h;obtain ⟨l,xs,y,rfl,rfl,hH,hz,q⟩:=h;cases rx;obtain ⟨u,rfl,ru⟩:=rv.one;obtain ⟨z,its,n,r,hl,e⟩:=I.lstM hH;refine call_meets F.slot_list_append ⟨_,e,rfl⟩ F.entry_list_append (F.args_list_append_2 _ _) (PySem.list_append l its.toArray n u (by rw [aal];lia)) ⟨e,?_⟩;refine ⟨.non,_,I.lset (its':=its++[u]) hH e (by simp) (r.append (.cons ru .nil)) ?_,rfl,q⟩;rw [aax,acA];lia
def uM:R2:=fun x y H Q=>∃ l b xs zs,x=.ref l∧y=.ref b∧H l=some (.lst xs)∧H b=some (.lst zs)∧xs.length+zs.length≤sizeLine∧∀ p,H p=none→Q (.ref p) (upd H p (.lst (xs++zs)))
theorem dz:OpR X (binaryOp .Add) uM:=by
  intro pins s σ H x y v u Q I rx ry h;obtain ⟨l,b,xs,zs,rfl,rfl,hH,hB,hz,q⟩:=h;cases rx;cases ry;obtain ⟨z,its,n,r,hl,e⟩:=I.lstM hH;obtain ⟨z2,its2,n2,r2,hl2,e2⟩:=I.lstM hB;refine PySem.P.add_list e e2 ?_ (by rw [aal,aal];lia);have ea:its.toArray++its2.toArray=(its++its2).toArray:=by simp
  rw [ea];exact ⟨.ref _,_,I.lnew (t':=s.toks) (r.append r2) (by rw [aax];lia),rfl,q _ I.fresh⟩
def uK:R2:=fun x y H Q=>∃ l k xs,x=.ref l∧y=.int k∧H l=some (.lst xs)∧-(2 ^ 63)≤k∧k < 2 ^ 63∧xs.length * k.toNat≤sizeLine ∧
  ∀ p,H p=none→Q (.ref p) (upd H p (.lst (aae k.toNat xs).flatten))
theorem nh {α:Type} (xs:List α) (k:Nat):(aae k xs).flatten.length=k * xs.length:=by
  induction k with
  | zero=>simp
  | succ k ih=>rw [abc,abU,aax,ih,abX,Nat.add_comm]
theorem cQ:OpR X (binaryOp .Mult) uK:=by
  intro pins s σ H x y v u Q I rx ry h;obtain ⟨l,k,xs,rfl,rfl,hH,h1,h2,hz,q⟩:=h;cases rx;obtain ⟨t,rfl⟩:=ry;obtain ⟨z,its,n,r,hl,e⟩:=I.lstM hH;have hlen:its.toArray.size * k.toNat≤sizeLine:=by rw [aal,← hl];exact hz
  have hcap:¬ its.toArray.size * k.toNat > (2 ^ 63 - 1) / 8:=by
    have : (sizeLine:Nat)≤(2 ^ 63 - 1) / 8:=by decide
    lia
  have hfit:¬ (!Builtin.List.listFitsIndex k)=true:=by
    rw [fitsIndex_both h1 h2];exact aah
  have hlong:¬ aci (its.toArray.size * k.toNat)=true:=by
    rw [pT hlen];exact aah
  have hnew:List.foldl (fun x1 x2=>x1++x2) #[] (aae (if its.toArray.isEmpty=true then 0 else k.toNat) its.toArray)=(aae k.toNat its).flatten.toArray:=by
    have f0:∀ m:Nat,List.foldl (fun x1 x2=>x1++x2) #[] (aae m its.toArray)=(aae m its).flatten.toArray:=fun m=>by
      have:=jp its m [];rw [abV] at this;exact this
    rw [f0];cases its with
    | nil=>simp
    | cons a r'=>rw [if_neg (by simp)]
  refine wpAny_binaryOp_repeat_ref (T:="list") (U:="int") (by decide) ⟨_,e,rfl⟩ (fun s'=>typeIs_int s' k t) noFill_list_mul F.fills_int_mul F.slot_int_rmul repeat_list F.slot_int_index.lookup
    (call_meets F.slot_int_rmul (typeIs_int s k t) F.entry_int_rmul (F.args_int_rmul_2 _ _) (int___rmul___int_list k t l its.toArray n)
      ⟨e,rfl,⟨_,e,rfl⟩,call_meets F.slot_list_mul ⟨_,e,rfl⟩ F.entry_list_mul (F.args_list_mul_2 _ _) (AutoListH.list___mul___list_int_3 l its.toArray n k t hfit hcap hlong) ⟨e,?_⟩⟩)
  rw [hnew];exact ⟨.ref _,_,I.lnew (t':=s.toks) (r.rep k.toNat) (by rw [nh,Nat.mul_comm];exact hz),rfl,q _ I.fresh⟩
end
section
variable {prog:Program} {w:World} {A:Around} {E:Value→Shared→Prop} {s:Shared}
end
section
variable {X:Cx}
end
end L2
namespace Att
open PySem PySem.W PySem.Calls PyProof.Rows
theorem gM {P:Params} {h:Heap}:∀ (ns:List Int) (vs:List Value),WellAll P h vs (ns.map WData.int)→IntsAre vs ns:=by
  intro ns
  induction ns with
  | nil =>
    intro vs w;rw [acl] at w;cases w;exact .nil
  | cons n ns ih =>
    intro vs w;rw [aaG] at w;cases w with
    | cons a b =>
      cases a;exact .cons _ _ (ih _ b)
theorem nY {l:OpenLaw} {n:Nat} (hn:l.most=some n) {P:Params} {h:Heap} {args:List WData} {vals:List Value}
    (hpre:l.row.toRowW.claim.pre args=true) (hwl:WellAll P h vals args) :
    ∃ a vs ns,vals=[Value.ref a]∧args=[WData.list (ns.map WData.int)]∧h.get? a=some { cls:=.type "list",data:=.seq vs.toArray }∧IntsAre vs ns∧ns.length≤n:=by
  have hsh:WShape.hasAll [] args [.list .int]=true:=(pre_splitW hpre).1;have hc:l.pre.holds [] { args:=args }=true:=(pre_splitW hpre).2;obtain ⟨d,r,rfl,h1,h2⟩:=hasAllW_cons hsh;obtain rfl:=hasAllW_nil h2;obtain ⟨xs,rfl,h3⟩:=hasW_list h1;obtain ⟨ns,rfl⟩:=items_int h3;have hlen:ns.length≤n:=by
    unfold OpenLaw.pre at hc;have h4:(WTm.not (.lt (.lit (.int (n:Int))) (.len (.arg 0)))).holds [] { args:=[.list (ns.map .int)] }=true:=by
      have h4:=(holds_andW hc).1;rw [hn] at h4;exact h4
    have h5:=condW_of h4 (w_not (w_lt w_lit (w_len_list (w_arg rfl))));rw [aak] at h5;refine Nat.le_of_not_lt fun q=>?_;have q':(n:Int) < ((ns.length:Nat):Int):=by lia
    first
      | (rw [decide_eq_true q'] at h5;exact absurd h5 (by decide))
      | (simp at h5;lia)
  cases hwl with
  | cons w1 w2 =>
    cases w2;cases w1 with
    | list ho hall=>exact ⟨_,_,ns,rfl,rfl,ho,gM ns _ hall,hlen⟩
theorem n8 (l:OpenLaw) (args:List WData):l.row.toRowW.claim.post args (.bool true) args=true :=
  postW_of (r:=l.row.toRowW) (X:=(true == true))
    (show WShape.has [] (.bool true) .bool=true by first|rfl|decide|simp [WShape.has,WShape.arms,WShape.armsAll])
    (show (WTm.eq .res (.lit (.bool true))).value [] { args:=args,res:=some (.bool true),after:=args }=some (.bool (true == true)) from w_eq_bool (w_res rfl) w_lit) rfl
theorem attach_call {l:OpenLaw} {n:Nat} {q:Program} {loose:List Str} {XP:(Str→Option Value)→Heap→Prop} {YP:World→Heap→Prop} {d:DefRec}
    (hn:l.most=some n) (hdf:d.params.defaults=[])
    (call:∀ (w:World) (s₀ s₁:Shared) (mg mb:Str→Option Value) (fa:Addr) (o:Obj) (pm cd doc:Value) (a:Addr) (vs:List Value) (ns:List Int),
      Ground q loose [] XP w s₀ mg mb s₁.heap→YP w s₁.heap →
      s₁.heap.get? fa=some o→o.data=.func (docDef d.name d.params d.body d.scope pm cd doc)→s₁.heap.CodeRec cd d.name→mg d.name=some (.ref fa) →
      s₁.heap.get? a=some { cls:=.type "list",data:=.seq vs.toArray }→IntsAre vs ns→ns.length≤n→s₁.gens=#[] →
      codeAny (model l.prog w) callerA (.call (.ref fa) ⟨[.ref a],[]⟩) (fun r s'=>r=.ok (.ret (.bool true))∧OldK s₁.heap s'.heap∧s'.os=s₁.os∧AllBare s'.gens) s₁) :
    WalkO q loose XP YP l.row.toRowW d [] (fun f vs=>PySem.call f vs):=by
  intro w s₀ s₁ mg mb G Y fa o pm cd doc dV kV ho hd hcd hD hmg hg args vals as hpre hlay hrd hwl hlo;obtain rfl:dV=.none:=Dflts.none hD hdf;obtain rfl:kV=.none:=Dflts.noKw hD;obtain ⟨a,vs,ns,rfl,rfl,hobj,hints,hlen⟩:=nY hn hpre hwl;refine enter_call (codeAny_mono (call w s₀ s₁ mg mb fa o pm cd doc a vs ns G Y ho (fd_plain hd) hcd hmg hobj hints hlen hg) fun r s' hq=>?_);obtain ⟨rfl,h2,h3,h4⟩:=hq;exact ⟨.inl ⟨.bool true,.bool true,[],rfl,fun _=>rfl,.bool true,n8 l _,fun _=>⟨List.Pairwise.nil,fun _ hm=>(nomatch hm)⟩⟩,h2,h3,h4⟩
section
variable {prog:Program} {w:World} {A:Around} {E:Value→Shared→Prop} {s:Shared} {K:Frag}
end
end Att
namespace L2
open PySem PySem.Spec PyProof.Rows
theorem jf:∀ {vs:List Value} {ns:List Int},IntsAre vs ns→Vals (ns.map V.int) vs
  | _,_,.nil=>.nil
  | _,_,.cons n t h=>.cons ⟨t,rfl⟩ (jf h)
def vc (H:Hp):Prop:=∀ b,H b=none∨∃ o xs,H b=some (.frz o (.lst xs))
open PySem PySem.Spec PyProof.Rows
open PySem PySem.Spec PyProof.Rows
def bR (s:Stmt):Arguments:=match s with
  | .FunctionDef _ a _ _ _ _ _ _ _ _=>a
  | _=>{ posonlyargs:=[],args:=[],vararg:=none,kwonlyargs:=[],kw_defaults:=[],kwarg:=none,defaults:=[] }
def bi (s:Stmt):List Stmt:=match s with
  | .FunctionDef _ _ b _ _ _ _ _ _ _=>b
  | _=>[]
def am (s:Stmt):Scope:=match s with
  | .FunctionDef _ _ _ _ _ _ sc _ _ _=>sc
  | _=>{ kind:=.function,names:=[],isGenerator:=false,isCoroutine:=false }
abbrev CX0:CXT:=fun _ _ _ _ _ _=>False
abbrev E0:XK:=fun _ _ _=>False
theorem rG {X:Cx}:gC CX0 X E0:=fun _ _ _ _ _ _ _ h=>h.elim
structure Fun (K:aab) (x qual:Str) (st:Stmt) (f:Addr) (fd:FuncData):Prop where
  ex:∃ (oc:Value) (od:Option Addr) (kV doc pm:Value) (an:Option Addr) (cdv ct:Value) (osl:Array (Option Value)),
    fd=abd x qual (bR st) (bi st) (am st) .none kV doc pm an cdv ct∧K.lookup f=some ⟨oc,od,.func fd,osl⟩∧abI K cdv qual=true
  kp:aa6 K (.ref f)=true
section
variable {P:Program} {w:World} {K:aab} {mg:Str→Option Value} {base:Heap}
theorem Fun.ok {x qual:Str} {st:Stmt} {f:Addr} {fd:FuncData} {N ps:List Str} {k:Nat} {sp:Sp} (F:Fun K x qual st f fd) (S:FnScope N ps (am st)) (len:∀ vs H Q E,sp vs H Q E→vs.length=ps.length)
    (hbody:∀ (cdv:Value) (A:Around) (outer:List Env) (s:Shared) (H:Hp) (vs:List V) (Q:VK) (E:XK),Room k (A.deeper (envOfC qual (am st) s.heap.objs.size f cdv))→sp vs H Q E →
      ∃ t,PSs (fM CX0 P w K mg base N qual (am st) f cdv A outer s H E).nox (bi st) t∧t { nx:=fun _ H'=>Q .non H',rt:=Q } (dI N vs) H):FnOk P w K mg base CX0 (k+1) f fd ps sp:=by
  obtain ⟨oc,od,kV,doc,pm,an,cdv,ct,osl,rfl,lk,hcd⟩:=F.ex;refine qp lk hcd S len fun A outer s H vs Q E hr hsp=>?_;obtain ⟨t,h,q⟩:=hbody cdv A outer s H vs Q E hr hsp;exact ⟨t,h.nox,q⟩
theorem Fun.binds {x qual:Str} {st:Stmt} {f:Addr} {fd:FuncData} {ps:List Str} (F:Fun K x qual st f fd)
    (h:∀ (kV doc pm:Value) (an:Option Addr) (cdv ct:Value) (us:List Value),us.length=ps.length→bindArgs (abd x qual (bR st) (bi st) (am st) .none kV doc pm an cdv ct) ⟨us,[]⟩=pure (ps.zip us)):Binds K fd ps []:=by
  obtain ⟨oc,od,kV,doc,pm,an,cdv,ct,osl,rfl,lk,hcd⟩:=F.ex;exact .all (h kV doc pm an cdv ct)
theorem qm {x qual:Str} {st:Stmt} {f:Addr} {oc:Value} {od an:Option Addr} {osl:Array (Option Value)} {kV doc pm cdv ct:Value} (l:K.lookup f=some ⟨oc,od,.func (abd x qual (bR st) (bi st) (am st) .none kV doc pm an cdv ct),osl⟩)
    (c:abI K cdv qual=true) (k:aa6 K (.ref f)=true):Fun K x qual st f (abd x qual (bR st) (bi st) (am st) .none kV doc pm an cdv ct):=⟨⟨oc,od,kV,doc,pm,an,cdv,ct,osl,rfl,l,c⟩,k⟩
end
theorem cN {n:Nat} (h:n≤1000):n < sizeLine:=Nat.lt_of_le_of_lt h (by decide)
section
variable {X:Cx}
theorem pv (i:Nat) {x:Str} {pos:Pos} (hN:X.N[i]?=some x:=by rfl) (hv:Vis X.env.scope x:=by first|exact Or.inl rfl|exact Or.inr (Or.inl rfl)|exact Or.inr (Or.inr rfl)) (hd:(x == ("__debug__":Str))=false:=by decide)
    (hcd:(x == ("__classdict__":Str))=false:=by decide):PE X (.Name x pos) (tN i):=sy hN hv hd hcd
end
theorem bh {A B:Prop} (h:B):if false=true then A else B:=by
  rw [if_neg aah];exact h
theorem dR {A B:Prop} (h:A):if true=true then A else B:=by
  rw [if_pos rfl];exact h
theorem gz {c A B:Prop} [Decidable c] (h1:c→A) (h2:¬ c→B):if c then A else B:=by
  by_cases h:c
  · rw [if_pos h];exact h1 h
  · rw [if_neg h];exact h2 h
theorem ui {c A B:Prop} [Decidable c] (hc:c) (h:B):if (!decide c)=true then A else B:=by
  rw [decide_eq_true hc];exact bh h
def Same (H H':Hp):Prop:=∀ b o,H b=some o→H' b=some o
theorem Same.refl (H:Hp):Same H H:=fun _ _ h=>h
theorem Same.trans {H H1 H2:Hp} (a:Same H H1) (b:Same H1 H2):Same H H2:=fun c o h=>b c o (a c o h)
theorem Same.free {H H':Hp} (e:Same H H') {l:Addr} (h:H' l=Option.none):H l=Option.none:=by
  cases q:H l with
  | none=>rfl
  | some o =>
    rw [e l o q] at h;cases h
theorem Same.seq {K:aab} {H H':Hp} {a:Addr} {xs:List V} (e:Same H H') (h:SqL K H a xs):SqL K H' a xs:=by
  rcases h with (h|⟨o,h⟩)|h
  · exact .inl (.inl (e _ _ h))
  · exact .inl (.inr ⟨o,e _ _ h⟩)
  · exact .inr h
open PySem PySem.Spec PyProof.Rows
section
variable {κ:Type} [DecidableEq κ]
def dm (kvs:List (κ × V)) (k:κ):Option V:=(kvs.find? fun kv=>decide (kv.1=k)).map (·.2)
def dO (kvs:List (κ × V)) (k:κ) (v:V):List (κ × V) :=
  if (kvs.any fun kv=>decide (kv.1=k))=true then kvs.map (fun kv=>if kv.1=k then (kv.1,v) else kv) else kvs++[(k,v)]
theorem g8 {p:κ × V} {r:List (κ × V)} {k:κ} (e:p.1=k):dm (p :: r) k=some p.2:=by simp [dm,ab9,e]
theorem g9 {p:κ × V} {r:List (κ × V)} {k:κ} (e:¬ p.1=k):dm (p :: r) k=dm r k:=by simp [dm,ab9,e]
theorem j_ (k:κ):∀ kvs:List (κ × V),(kvs.any fun kv=>decide (kv.1=k))=(dm kvs k).isSome
  | []=>rfl
  | p :: r=>by
    rw [acG];by_cases e:p.1=k
    · simp only [g8 e,decide_eq_true e,Bool.true_or,Option.isSome_some]
    · rw [g9 e,decide_eq_false e,Bool.false_or];exact j_ k r
theorem eW (kvs:List (κ × V)) (k:κ) (v:V):(dO kvs k v).length≤kvs.length+1:=by
  unfold dO;split
  · rw [aak];lia
  · rw [aax,aaO,aba];lia
theorem RelO.isSome_eq {o:Option V} {u:Option Value} (r:RelO o u):o.isSome=u.isSome:=by
  cases o with
  | none=>cases u with
    | none=>rfl
    | some _=>exact (show False from r).elim
  | some _=>cases u with
    | none=>exact (show False from r).elim
    | some _=>rfl
theorem RelO.getD {o:Option V} {u:Option Value} {d:V} {d':Value} (r:RelO o u) (rd:RelV d d'):RelV (o.getD d) (u.getD d'):=by
  cases o with
  | none=>cases u with
    | none=>exact rd
    | some _=>exact (show False from r).elim
  | some _=>cases u with
    | none=>exact (show False from r).elim
    | some _=>exact r
theorem KV.val {kvs:List (κ × V)} {vs:List (κ × Value)} (r:KV kvs vs) (k:κ):RelO (dm kvs k) (valueAt vs k):=by
  unfold KV at r
  induction r with
  | nil=>exact True.intro
  | @cons p q ps qs h t ih =>
    obtain ⟨h1,h2⟩:=h;by_cases e:p.1=k
    · have e':q.1=k:=h1.symm.trans e;have b:valueAt (q :: qs) k=some q.2:=by simp [valueAt,ab9,e']
      rw [g8 e,b];exact h2
    · have e':¬ q.1=k:=fun z=>e (h1.trans z);have b:valueAt (q :: qs) k=valueAt qs k:=by simp [valueAt,ab9,e']
      rw [g9 e,b];exact ih
theorem KV.any {kvs:List (κ × V)} {vs:List (κ × Value)} (r:KV kvs vs) (k:κ):(kvs.any fun kv=>decide (kv.1=k))=vs.any fun kv=>decide (kv.1=k):=by
  unfold KV at r
  induction r with
  | nil=>rfl
  | cons h t ih=>rw [acG,acG,ih,h.1]
theorem KV.repl {kvs:List (κ × V)} {vs:List (κ × Value)} (r:KV kvs vs) (k:κ) {y:V} {u:Value} (ry:RelV y u) :
    KV (kvs.map fun kv=>if kv.1=k then (kv.1,y) else kv) (vs.map fun kv=>if kv.1=k then (kv.1,u) else kv):=by
  unfold KV at r ⊢
  induction r with
  | nil=>exact .nil
  | @cons p q ps qs h t ih =>
    rw [aaG,aaG];refine .cons ?_ ih;obtain ⟨h1,h2⟩:=h;by_cases e:p.1=k
    · rw [if_pos e,if_pos (h1.symm.trans e)];exact ⟨h1,ry⟩
    · rw [if_neg e,if_neg (fun z=>e (h1.trans z))];exact ⟨h1,h2⟩
theorem KV.put {kvs:List (κ × V)} {vs:List (κ × Value)} (r:KV kvs vs) (k:κ) {y:V} {u:Value} (ry:RelV y u):KV (dO kvs k y) (stored vs k u):=by
  unfold dO stored;rw [r.any k];by_cases e:(vs.any fun kv=>decide (kv.1=k))=true
  · rw [if_pos e,if_pos e];exact r.repl k ry
  · rw [if_neg e,if_neg e];exact Paired.snoc r ⟨rfl,ry⟩
theorem KV.length {kvs:List (κ × V)} {vs:List (κ × Value)} (r:KV kvs vs):kvs.length=vs.length:=aa9 r
end
theorem jl {P:Program} {w:World} {k:Key} {u:Value} (r:RelV (kV k) u):(aG P w).is k u=true:=by
  cases k with
  | inl i=>obtain ⟨t,e⟩:=(show ∃ t,u=Value.int i t from r);subst e;exact k9 P w i t
  | inr x=>obtain ⟨t,e⟩:=(show ∃ t,u=Value.str x t from r);subst e;exact kZ P w x t
theorem jm {P:Program} {w:World}:∀ {ks:List Key} {us:List Value},Vals (ks.map kV) us→ItemsAre (aG P w) ks us
  | [],_,r=>by rw [acl] at r;cases r;exact .nil
  | k :: ks,_,r=>by
    rw [aaG] at r;cases r with
    | cons h t=>exact .cons (jl h) (jm t)
abbrev KT (H:Hp):List (List Key × V)→List (List Key × Addr × Value)→Prop:=Paired fun p q=>p.1=q.1∧H q.2.1=some (.tup (p.1.map kV))∧RelV p.2 q.2.2
theorem KT.val {H:Hp} {kvs:List (List Key × V)} {xs:List (List Key × Addr × Value)} (r:KT H kvs xs) (k:List Key):RelO (dm kvs k) ((atKey xs k).map (·.2)):=by
  induction r with
  | nil=>exact True.intro
  | @cons p q ps qs h t ih =>
    obtain ⟨h1,_,h2⟩:=h;by_cases e:p.1=k
    · have e':q.1=k:=h1.symm.trans e;have b:atKey (q :: qs) k=some q.2:=by simp [atKey,ab9,e']
      rw [g8 e,b];exact h2
    · have e':¬ q.1=k:=fun z=>e (h1.trans z);have b:atKey (q :: qs) k=atKey qs k:=by simp [atKey,ab9,e']
      rw [g9 e,b];exact ih
theorem KT.repl {H:Hp} {kvs:List (List Key × V)} {xs:List (List Key × Addr × Value)} (r:KT H kvs xs) (k:List Key) {y:V} {u:Value} (ry:RelV y u) :
    KT H (kvs.map fun kv=>if kv.1=k then (kv.1,y) else kv) (xs.map (putAt k u)):=by
  induction r with
  | nil=>exact .nil
  | @cons p q ps qs h t ih =>
    rw [aaG,aaG];refine .cons ?_ ih;obtain ⟨h1,h2,h3⟩:=h;unfold putAt;by_cases e:p.1=k
    · rw [if_pos e,if_pos (h1.symm.trans e)];exact ⟨h1,h2,ry⟩
    · rw [if_neg e,if_neg (fun z=>e (h1.trans z))];exact ⟨h1,h2,h3⟩
theorem KT.put {H:Hp} {kvs:List (List Key × V)} {xs:List (List Key × Addr × Value)} (r:KT H kvs xs) (k:List Key) {b:Addr} {y:V} {u:Value} (hb:H b=some (.tup (k.map kV))) (ry:RelV y u) :
    KT H (dO kvs k y) (storedH xs k b u):=by
  have e:(kvs.any fun kv=>decide (kv.1=k))=(atKey xs k).isSome:=by
    rw [j_,(r.val k).isSome_eq,Option.isSome_map]
  unfold dO storedH;rw [e];by_cases q:(atKey xs k).isSome=true
  · rw [if_pos q,if_pos q];exact r.repl k ry
  · rw [if_neg q,if_neg q];exact Paired.snoc r ⟨rfl,hb,ry⟩
theorem KT.keeps {H H':Hp} {kvs:List (List Key × V)} {xs:List (List Key × Addr × Value)} (r:KT H kvs xs) (ht:∀ b ys,H b=some (.tup ys)→H' b=some (.tup ys)):KT H' kvs xs :=
  Paired.mapP r fun _ _ z=>⟨z.1,ht _ _ z.2.1,z.2.2⟩
section
variable {P:Program} {w:World} {H:Hp} {h:Heap} {a:Addr}
theorem rF {u:HO} (ok:HOk P w H h) (e:Rd H a u):ObjOk P w H h a u:=e.ok ok
theorem iM {kvs:List (Key × V)} (ok:HOk P w H h) (e:Rd H a (.dK kvs)):kvs.length≤sizeLine∧(a == sysModules)=false∧∃ vs,KV kvs vs∧h.DictOf (aG P w) a vs :=
  show ObjOk P w H h a (.dK kvs) from rF ok e
theorem nE {kvs:List (Key × V)} (ok:HOk P w H h) (e:H a=some (.dK kvs)):kvs.length≤sizeLine∧(a == sysModules)=false∧∃ vs,KV kvs vs∧h.DictOf (aG P w) a vs:=iM ok (.inl e)
theorem iA {ks:List Key} (ok:HOk P w H h) (e:H a=some (.tup (ks.map kV))):(tupleKind (aG P w)).is h ks a:=by
  obtain ⟨_,its,r,o,h1,h2,n,h3⟩:=(show ObjOk P w H h a (.tup (ks.map kV)) from ok a _ e)
  exact ⟨o,its.toArray,n,h1,h2,h3,by simpa using jm r⟩
theorem jr {kvs:List (List Key × V)} (ok:HOk P w H h) (e:Rd H a (.dT kvs)):kvs.length≤sizeLine∧(a == sysModules)=false ∧
    ∃ xs,KT H kvs xs∧h.DictOfH (tupleKind (aG P w)) a xs:=by
  obtain ⟨z,y,xs,r,o,es,ep,h1,h2,h3,h4,h5⟩:=(show ObjOk P w H h a (.dT kvs) from rF ok e)
  refine ⟨z,y,xs,r,o,es,ep,h1,h2,h3,h4,fun x hx=>?_,h5⟩;have all:∀ {l:List (List Key × V)} {m:List (List Key × Addr × Value)},KT H l m→∀ x∈m,(tupleKind (aG P w)).is h x.1 x.2.1:=by
    intro l m q
    induction q with
    | nil=>intro x hx;exact nomatch hx
    | @cons p q ps qs hq t ih =>
      intro x hx;rcases aay.mp hx with e|hx
      · subst e;exact iA ok (by rw [← hq.1];exact hq.2.1)
      · exact ih x hx
  exact all r x hx
theorem uo {kvs:List (List Key × V)} (ok:HOk P w H h) (e:H a=some (.dT kvs)):kvs.length≤sizeLine∧(a == sysModules)=false ∧
    ∃ xs,KT H kvs xs∧h.DictOfH (tupleKind (aG P w)) a xs:=jr ok (.inl e)
end
def DGet (H:Hp) (a:Addr) (y:V) (r:Option V):Prop :=
  (∃ kvs k,Rd H a (.dK kvs)∧y=kV k∧r=dm kvs k)∨∃ kvs k b,Rd H a (.dT kvs)∧y=.ref b∧H b=some (.tup (k.map kV))∧r=dm kvs k
def DPut (H:Hp) (a:Addr) (y v:V) (H':Hp):Prop :=
  (∃ kvs k,H a=some (.dK kvs)∧y=kV k∧kvs.length < sizeLine∧H'=upd H a (.dK (dO kvs k v))) ∨
  ∃ kvs k b,H a=some (.dT kvs)∧y=.ref b∧H b=some (.tup (k.map kV))∧kvs.length < sizeLine∧H'=upd H a (.dT (dO kvs k v))
theorem DGet.k {H:Hp} {a:Addr} {kvs:List (Key × V)} {k:Key} (e:H a=some (.dK kvs)):DGet H a (kV k) (dm kvs k):=.inl ⟨kvs,k,.inl e,rfl,rfl⟩
theorem DGet.t {H:Hp} {a b:Addr} {kvs:List (List Key × V)} {k:List Key} (e:H a=some (.dT kvs)) (eb:H b=some (.tup (k.map kV))):DGet H a (.ref b) (dm kvs k):=.inr ⟨kvs,k,b,.inl e,rfl,eb,rfl⟩
theorem DPut.k {H:Hp} {a:Addr} {kvs:List (Key × V)} {k:Key} {v:V} (e:H a=some (.dK kvs)) (hl:kvs.length < sizeLine):DPut H a (kV k) v (upd H a (.dK (dO kvs k v))):=.inl ⟨kvs,k,e,rfl,hl,rfl⟩
section
variable {X:Cx} {pins:List (Addr × Obj)} {σ:St} {H:Hp} {s:Shared} {a:Addr} {y v:V} {u r:Value} {o:Option V} {A:Around} {E:Value→Shared→Prop}
theorem Inv.big (I:Inv X pins σ H s):sysModules < s.heap.objs.size:=by
  have h:mainGlobals < s.heap.objs.size:=(I.mod.glob.keeps I.bk).lt;exact Nat.lt_trans (by decide) h
theorem oJ {Q:Value→Shared→Prop} (hu:A.units+1 < cLine) (I:Inv X pins σ H s) (g:DGet H a y (some v)) (ry:RelV y u) (h:∀ w' s',Inv X pins σ H s'→RelV v w'→Q w' s') :
    wpAny (model X.prog X.w) A (getItem (.ref a) u) Q E s:=by
  rcases g with ⟨kvs,k,e,ey,l⟩|⟨kvs,k,b,e,ey,eb,l⟩
  · subst ey;obtain ⟨z,hd,vs,rel,dd⟩:=iM I.hok e;obtain ⟨w',hw,rw'⟩:=RelO.some_of (v:=v) (o:=valueAt vs k) (by rw [l];exact rel.val k);exact wpAny_getItem_of (jl ry) dd.mapOf hw (h w' _ (I.tok _) rw')
  · subst ey;cases (show u=Value.ref b from ry);obtain ⟨z,hd,xs,rel,dd⟩:=jr I.hok e;obtain ⟨w',hw,rw'⟩:=RelO.some_of (v:=v) (o:=(atKey xs k).map (·.2)) (by rw [l];exact rel.val k);obtain ⟨p,hp,hp2⟩:=abi.mp hw;refine wpAny_getItem_heap (tupleKind_room_in1 hu) (iA I.hok eb) dd hp ?_;rw [hp2];exact h w' _ (I.tok _) rw'
theorem uX {Q:Value→Shared→Prop} (hu:A.units+1 < cLine) (I:Inv X pins σ H s) (g:DGet H a y o) (ry:RelV y u) (h:∀ s',Inv X pins σ H s'→Q (.bool o.isSome) s') :
    wpAny (model X.prog X.w) A (compareOp .In u (.ref a)) Q E s:=by
  rcases g with ⟨kvs,k,e,ey,l⟩|⟨kvs,k,b,e,ey,eb,l⟩
  · subst ey;obtain ⟨z,hd,vs,rel,dd⟩:=iM I.hok e;refine wpAny_in_of (jl ry) hd dd.mapOf ?_;rw [← (rel.val k).isSome_eq,← l];exact h _ (I.tok _)
  · subst ey;cases (show u=Value.ref b from ry);obtain ⟨z,hd,xs,rel,dd⟩:=jr I.hok e;refine wpAny_in_heap (tupleKind_room_in1 hu) (iA I.hok eb) hd dd ?_;have q:=(rel.val k).isSome_eq;rw [Option.isSome_map] at q;rw [← q,← l];exact h _ (I.tok _)
theorem jW {h':Heap} {t':Nat} {ob:HO} (I:Inv X pins σ H s) (mu:Mut (H a)) (hs:abt a s.heap h') (he:∃ q,h'.get? a=some q) (new:ObjOk X.prog X.w (upd H a ob) h' a ob) :
    Inv X pins σ (upd H a ob) { s with heap:=h',toks:=t' } :=
  I.write (x:=a) (e:=a) mu (.inl rfl) (fun b q hb z=>(hs.2 b hb).trans z) he new
theorem qx {P:Program} {w:World} {H':Hp} {h':Heap} {kvs:List (Key × V)} {vs:List (Key × Value)} (z:kvs.length≤sizeLine) (hd:(a == sysModules)=false) (rel:KV kvs vs) (dd:h'.DictOf (aG P w) a vs) :
    ObjOk P w H' h' a (.dK kvs):=⟨z,hd,vs,rel,dd⟩
theorem oH {H':Hp} {Q:Unit→Shared→Prop} (hu:A.units+1 < cLine) (I:Inv X pins σ H s) (g:DPut H a y v H') (ry:RelV y u) (rv:RelV v r) (h:∀ s',Inv X pins σ H' s'→Q () s') :
    wpAny (model X.prog X.w) A (setItem (.ref a) u r) Q E s:=by
  rcases g with ⟨kvs,k,e,ey,l,eH⟩|⟨kvs,k,b,e,ey,eb,l,eH⟩
  · subst ey eH;obtain ⟨z,hd,vs,rel,dd⟩:=nE I.hok e;have hz:vs.length≤sizeLine:=by rw [← rel.length];exact z
    have hl:(dO kvs k v).length≤sizeLine:=by have:=eW kvs k v;lia
    refine wpAny_setItem_pairs (hsz:=hz) (jl ry) dd fun h' dd' hs=>h _ ?_;have he:∃ q,h'.get? a=some q:=let ⟨q,_,_,hq,_⟩:=dd';⟨q,hq⟩;exact jW I (by rw [e];exact True.intro) hs he (qx hl hd (rel.put k rv) dd')
  · subst ey eH;cases (show u=Value.ref b from ry);obtain ⟨z,hd,xs,rel,dd⟩:=uo I.hok e;have hz:xs.length≤sizeLine:=by rw [← aa9 rel];exact z
    have hl:(dO kvs k v).length≤sizeLine:=by have:=eW kvs k v;lia
    refine wpAny_setItem_heap (hsz:=hz) (tupleKind_room_in1 hu) (iA I.hok eb) dd fun h' dd' hs=>h _ ?_;obtain ⟨q,es,ep,hq,h2,h3,h4,_,h5⟩:=dd';refine jW I (by rw [e];exact True.intro) hs ⟨q,hq⟩ ⟨hl,hd,_,(rel.put k eb rv).keeps fun c ys ec=>?_,q,es,ep,hq,h2,h3,h4,h5⟩;rw [aj (uf ec e (fun z=>nomatch z))];exact ec
end
section
variable {X:Cx} {pins:List (Addr × Obj)} {σ:St} {H:Hp} {s:Shared} {a:Addr} {kvs:List (Key × V)} {k:Key} {u:Value} {A:Around} {E:Value→Shared→Prop}
theorem uq {Q:Value→Shared→Prop} (I:Inv X pins σ H s) (e:Rd H a (.dK kvs)) (h:∀ t s',Inv X pins σ H s'→Q (.int kvs.length t) s'):wpAny (model X.prog X.w) A (call (.builtin "len") [.ref a]) Q E s:=by
  obtain ⟨z,hd,vs,rel,dd⟩:=iM I.hok e;refine call_len_dict hd dd (by rw [← rel.length];rw [sizeLine_eq] at z;lia) ?_;rw [← rel.length];exact h _ _ (I.tok _)
end
def uv (i:Expr):Prop:=∀ ov iv,subscripted i false ov iv=operate [ov,iv] (getItem ov iv)
theorem qN {prog:Program} {w:World} {A:Around} {E:Value→Shared→Prop} {s:Shared} {env:Env} {value slice:Expr} {pos:Pos} {T id:String} {Q:Value→Shared→Prop}
    (hl:typeLookup (.type T) "__getitem__" = pure (some (.builtin id))) (hs:uv slice)
    (h:wpAny (model prog w) A (eval value env) (fun o s₁=>wpAny (model prog w) A (eval slice env) (fun i s₂=>s₂.TypeIs o T∧wpAny (model prog w) A (getItem o i) Q E s₂) E s₁) E s) :
    wpAny (model prog w) A (eval (.Subscript value slice pos) env) Q E s:=by
  refine Subscript_ (wpAny_mono h (fun o s₁ h₁=>wpAny_mono h₁ (fun i s₂ h₂=>?_) fun _ _ x=>x) fun _ _ x=>x);obtain ⟨hT,h₂⟩:=h₂;unfold subscriptTail;refine wpAny_bind ?_;rw [getitemInPython_of_ne hT.not_modules];refine wpAny_bind (wpAny_specialOf hT hl ?_);have fin:wpAny (model prog w) A (subscripted slice false o i) (fun r s₃=>wpAny (model prog w) A (letTemporaryGo value o r >>= fun _=>pure r) Q E s₃) E s₂:=by
    rw [hs o i];exact wpAny_operating (wpAny_mono h₂ (fun r s₃ h₃=>wpAny_bind (wpAny_letTemporaryGo (wpAny_pure h₃))) fun _ _ x=>x)
  first
    | exact wpAny_pure (wpAny_bind fin)
    | exact wpAny_bind (wpAny_pure (wpAny_bind fin))
    | exact wpAny_bind fin
theorem lp {X:Cx} {pins:List (Addr × Obj)} {σ:St} {H:Hp} {s:Shared} {a:Addr} {y:V} {o:Option V} (I:Inv X pins σ H s) (g:DGet H a y o):s.TypeIs (.ref a) "dict":=by
  rcases g with ⟨kvs,k,e,_,_⟩|⟨kvs,k,b,e,_,_,_⟩
  · obtain ⟨_,_,vs,_,dd⟩:=iM I.hok e;exact dd.typeIs
  · obtain ⟨_,_,xs,_,dd⟩:=jr I.hok e;exact dd.typeIs
def tV (td ty:TE):TE:=fun σ H Q=>td σ H fun x H1=>ty σ H1 fun y H2=>∃ a v,x=.ref a∧DGet H2 a y (some v)∧Q v H2
def tU (ty td:TE):TE:=fun σ H Q=>ty σ H fun y H1=>td σ H1 fun x H2=>∃ a o,x=.ref a∧DGet H2 a y o∧Q (.bl o.isSome) H2
def t6 (td ty tv:TE):TS:=fun D σ H=>tv σ H fun v H1=>td σ H1 fun x H2=>ty σ H2 fun y H3=>∃ a H4,x=.ref a∧DPut H3 a y v H4∧D.nx σ H4
section
variable {X:Cx} {o i e value:Expr} {pos pos' tpos:Pos} {td ty tv:TE}
theorem jN (hu:X.A.units+1 < cLine) (ho:PE X o td) (hi:PE X i ty) (hs:uv i):PE X (.Subscript o i pos) (tV td ty):=by
  intro pins s σ H Q I h;refine qN PySem.F.slot_dict_getitem.lookup hs (thn (ho pins s σ H _ I h) fun u s1 ⟨x,H1,I1,rx,q1⟩=>thn (hi pins s1 σ H1 _ I1 q1) fun iv s2 ⟨y,H2,I2,ry,a,v,ex,g,q2⟩=>?_);subst ex;obtain rfl:u=Value.ref a:=rx;exact ⟨lp I2 g,oJ hu I2 g ry fun w' s3 I3 rw'=>⟨v,H2,I3,rw',q2⟩⟩
theorem sH (hu:X.A.units+1 < cLine) (hi:PE X i ty) (ho:PE X o td):PC X .In i o (tU ty td):=by
  intro pins s σ H Q I h;refine thn (hi pins s σ H _ I h) fun iv s1 ⟨y,H1,I1,ry,q1⟩=>thn (ho pins s1 σ H1 _ I1 q1) fun u s2 ⟨x,H2,I2,rx,a,ov,ex,g,q2⟩=>?_;subst ex;obtain rfl:u=Value.ref a:=rx;exact uX hu I2 g ry fun s3 I3=>⟨.bl ov.isSome,H2,I3,rfl,q2⟩
theorem mV (hu:X.A.units+1 < cLine) (ho:PE X o td) (hi:PE X i ty) (hv:PE X value tv) (hs:swapsWith value (some (.Subscript o i pos')) pos.line X.env=pure false) :
    PS X (.Assign [.Subscript o i pos'] value pos) (t6 td ty tv):=by
  intro pins s σ H D I h;refine wpAny_Assign_Subscript (thn (hv pins s σ H _ I h) fun r s1 ⟨v,H1,I1,rv,q1⟩=>thn (ho pins s1 σ H1 _ I1 q1) fun u s2 ⟨x,H2,I2,rx,q2⟩=>thn (hi pins s2 σ H2 _ I2 q2) fun iv s3 ⟨y,H3,I3,ry,a,H4,ex,g,q3⟩=>?_) hs;subst ex;obtain rfl:u=Value.ref a:=rx;exact oH hu I3 g ry rv fun s4 I4=>⟨σ,H4,I4,q3⟩
end
theorem ll {P:Program} {w:World} {H:Hp} (h:Heap) (hb:sysModules < h.objs.size):ObjOk P w H (h.push { cls:=.type "dict",data:=.dict #[] }) h.objs.size (.dK []) :=
  ⟨aa1 _,beq_eq_false_iff_ne.mpr (aa3 (aas hb)),[],.nil,Heap.DictOf.new h⟩
theorem qw {P:Program} {w:World} {H:Hp} (h:Heap) (hb:sysModules < h.objs.size):ObjOk P w H (h.push { cls:=.type "dict",data:=.dict #[] }) h.objs.size (.dT []) :=
  ⟨aa1 _,beq_eq_false_iff_ne.mpr (aa3 (aas hb)),[],.nil,_,#[],0,aap _ rfl,⟨rfl,rfl,rfl⟩,rfl,rfl,List.nodup_nil⟩
def rZ:TE:=fun _ H Q=>∀ p,H p=none→Q (.ref p) (upd H p (.dK []))
def rY:TE:=fun _ H Q=>∀ p,H p=none→Q (.ref p) (upd H p (.dT []))
section
variable {X:Cx} {pos:Pos}
theorem eU:PE X (.Dict [] [] pos) rZ:=fun pins s σ H Q I h =>
  wpAny_Dict_empty ⟨.ref s.heap.objs.size,_,I.laid (a:=s.heap.objs.size) (o:=.dK []) (t':=s.toks) (fun _ _ q=>aac _ q) (aad _) (ll s.heap I.big),rfl,h _ (I.hok.fresh (aad _))⟩
theorem pJ:PE X (.Dict [] [] pos) rY:=fun pins s σ H Q I h =>
  wpAny_Dict_empty ⟨.ref s.heap.objs.size,_,I.laid (a:=s.heap.objs.size) (o:=.dT []) (t':=s.toks) (fun _ _ q=>aac _ q) (aad _) (qw s.heap I.big),rfl,h _ (I.hok.fresh (aad _))⟩
end
def lN:List (TE × TE)→St→Hp→(List (V × V)→Hp→Prop)→Prop
  | [],_,H,Q=>Q [] H
  | (tk,tv) :: r,σ,H,Q=>tk σ H fun x H1=>tv σ H1 fun y H2=>lN r σ H2 fun ps H3=>Q ((x,y) :: ps) H3
abbrev VV:List (V × V)→List (Value × Value)→Prop:=Paired fun p q=>RelV p.1 q.1∧RelV p.2 q.2
def PPs (X:Cx) (pos:Pos) (keys:List (Option Expr)) (values:List Expr) (trs:List (TE × TE)):Prop :=
  ∀ (pins:List (Addr × Obj)) (s:Shared) (σ:St) (H:Hp) (Q:List (V × V)→Hp→Prop),Inv X pins σ H s→lN trs σ H Q →
    wpAny (model X.prog X.w) X.A (evalPairs (pairTrees keys values X.env pos)) (fun vs s'=>∃ ps H',Inv X pins σ H' s'∧VV ps vs∧Q ps H') X.xe s
theorem mW {X:Cx} {pos:Pos}:PPs X pos [] [] []:=fun pins s σ H Q I h=>pairTrees_nil_walk ⟨[],H,I,.nil,h⟩
theorem kG {X:Cx} {pos:Pos} {k v:Expr} {ks:List (Option Expr)} {vs:List Expr} {tk tv:TE} {trs:List (TE × TE)} (hk:PE X k tk) (hv:PE X v tv) (hr:PPs X pos ks vs trs) :
    PPs X pos (some k :: ks) (v :: vs) ((tk,tv) :: trs):=fun pins s σ H Q I h =>
  pairTrees_cons_walk (thn (hk pins s σ H _ I h) fun u s1 ⟨x,H1,I1,rx,q1⟩=>thn (hv pins s1 σ H1 _ I1 q1) fun w2 s2 ⟨y,H2,I2,ry,q2⟩ =>
    thn (hr pins s2 σ H2 _ I2 q2) fun ws s3 ⟨ps,H3,I3,rel,q3⟩=>⟨(x,y) :: ps,H3,I3,.cons ⟨rx,ry⟩ rel,q3⟩)
def fL (kvs more:List (Key × V)):List (Key × V):=more.foldl (fun acc kv=>dO acc kv.1 kv.2) kvs
theorem KV.merge:∀ {more:List (Key × V)} {rs:List (Key × Value)} {kvs:List (Key × V)} {vs:List (Key × Value)},KV more rs→KV kvs vs→KV (fL kvs more) (merged vs rs):=by
  intro more rs kvs vs r;unfold KV at r
  induction r generalizing kvs vs with
  | nil=>intro q;exact q
  | @cons p q ps qs h t ih =>
    intro r0;have e:KV (dO kvs p.1 p.2) (stored vs q.1 q.2):=by
      have:=r0.put p.1 h.2;rw [← h.1];exact this
    exact ih e
theorem fw:∀ (more kvs:List (Key × V)),(fL kvs more).length≤kvs.length+more.length
  | [],kvs=>by show kvs.length≤kvs.length+0;lia
  | p :: r,kvs=>by
    have h1:=fw r (dO kvs p.1 p.2);have h2:=eW kvs p.1 p.2;show (fL (dO kvs p.1 p.2) r).length≤_;rw [aaO];lia
theorem iP {P:Program} {w:World}:∀ {kvs:List (Key × V)} {ws:List (Value × Value)},VV (kvs.map fun kv=>(kV kv.1,kv.2)) ws→∃ rs,Carries (aG P w) ws rs∧KV kvs rs
  | [],_,r=>by rw [acl] at r;cases r;exact ⟨[],True.intro,.nil⟩
  | p :: kvs,_,r=>by
    rw [aaG] at r;cases r with
    | @cons a b as bs h t =>
      obtain ⟨rs,c,q⟩:=iP (P:=P) (w:=w) t;obtain ⟨b1,b2⟩:=b;exact ⟨(p.1,b2) :: rs,⟨jl h.1,rfl,c⟩,.cons ⟨rfl,h.2⟩ q⟩
def tT (trs:List (TE × TE)):TE:=fun σ H Q=>∀ p,H p=none→lN trs σ (upd H p (.dK [])) fun ps H2=>H2 p=some (.dK [])∧∃ kvs:List (Key × V),ps=kvs.map (fun kv=>(kV kv.1,kv.2))∧kvs.length≤15∧Q (.ref p) (upd H2 p (.dK (fL [] kvs)))
theorem mY {X:Cx} {pos:Pos} {keys:List (Option Expr)} {values:List Expr} {trs:List (TE × TE)} (h:PPs X pos keys values trs) (hall:keys.all (·.isSome)=true) (hl:keys.length=values.length) (h0:keys≠[])
    (h15:keys.length≤15):PE X (.Dict keys values pos) (tT trs):=by
  intro pins s σ H Q I q;have hn:=I.hok.fresh (aad s.heap.objs.size);have I1:=I.laid (a:=s.heap.objs.size) (o:=.dK []) (h':=s.heap.push { cls:=.type "dict",data:=.dict #[] }) (t':=s.toks) (fun _ _ q=>aac _ q) (aad _) (ll s.heap I.big);refine wpAny_Dict_walk (knd:=aG X.prog X.w) hall hl h0 h15 (thn (h pins _ σ _ _ I1 (q _ hn)) fun ws s2 ⟨ps,H2,I2,rel,e,kvs,ep,lk,q2⟩=>?_);subst ep;obtain ⟨rs,c,rk⟩:=iP (P:=X.prog) (w:=X.w) rel;obtain ⟨z,hd,vs0,r0,dd⟩:=nE I2.hok e;cases r0;refine ⟨rs,c,dd,fun h' dd' hs=>⟨.ref s.heap.objs.size,_,?_,rfl,q2⟩⟩;have hz:(fL [] kvs).length≤sizeLine:=by
    have h1:=fw kvs [];rw [aba] at h1;rw [sizeLine_eq];lia
  have he:∃ q,h'.get? s.heap.objs.size=some q:=let ⟨q,_,_,hq,_⟩:=dd';⟨q,hq⟩;exact jW I2 (by rw [e];exact True.intro) hs he (qx hz hd (rk.merge .nil) dd')
structure M1 (X:Cx) (o:Expr) (m:Str) (apos:Pos) (e:Expr) (cpos:Pos):Prop where
  base:attributeBase o m X.env (eval o X.env)=eval o X.env
  few:((backTo cpos (starEach [e] X.env)).all (fun x=>!x.1) && (backToKw cpos (keywordEach [] X.env)).all (fun x=>x.1.isSome)
    && decide (([e]:List Expr).length+([]:List Keyword).length+(if ([]:List Keyword).isEmpty then 0 else 1) < 30))=true
  line:(apos.endLine == cpos.line)=true
  trees:backTo cpos (starEach [e] X.env)=[(false,eval e X.env)]
structure M2 (X:Cx) (o:Expr) (m:Str) (apos:Pos) (e f:Expr) (cpos:Pos):Prop where
  base:attributeBase o m X.env (eval o X.env)=eval o X.env
  few:((backTo cpos (starEach [e,f] X.env)).all (fun x=>!x.1) && (backToKw cpos (keywordEach [] X.env)).all (fun x=>x.1.isSome)
    && decide (([e,f]:List Expr).length+([]:List Keyword).length+(if ([]:List Keyword).isEmpty then 0 else 1) < 30))=true
  line:(apos.endLine == cpos.line)=true
  trees:backTo cpos (starEach [e,f] X.env)=[(false,eval e X.env),(false,eval f X.env)]
def IsD (H:Hp) (a:Addr):Prop:=(∃ kvs,Rd H a (.dK kvs))∨∃ kvs,Rd H a (.dT kvs)
theorem tf {X:Cx} {pins:List (Addr × Obj)} {σ:St} {H:Hp} {s:Shared} {a:Addr} (I:Inv X pins σ H s) (d:IsD H a) :
    s.TypeIs (.ref a) "dict"∧(∀ b,Value.ref a=.ref b→∃ ob,s.heap.get? b=some ob∧ob.dict=none)∧(a == sysModules)=false:=by
  rcases d with ⟨kvs,e⟩|⟨kvs,e⟩
  · obtain ⟨_,hd,vs,_,dd⟩:=iM I.hok e;refine ⟨dd.typeIs,fun b q=>?_,hd⟩;cases q;obtain ⟨ob,_,_,h1,h2,_⟩:=dd;exact ⟨ob,h1,h2.2.1⟩
  · obtain ⟨_,hd,xs,_,dd⟩:=jr I.hok e;refine ⟨dd.typeIs,fun b q=>?_,hd⟩;cases q;obtain ⟨ob,_,_,h1,h2,_⟩:=dd;exact ⟨ob,h1,h2.2.1⟩
section
variable {X:Cx} {pins:List (Addr × Obj)} {σ:St} {H:Hp} {s:Shared} {a:Addr} {y d:V} {u r:Value} {o:Option V} {A:Around} {E:Value→Shared→Prop}
theorem tu {Q:Value→Shared→Prop} (hu:A.units+1 < cLine) (I:Inv X pins σ H s) (g:DGet H a y o) (ry:RelV y u) (rd:RelV d r) (h:∀ w' s',Inv X pins σ H s'→RelV (o.getD d) w'→Q w' s') :
    wpAny (model X.prog X.w) A (call (.builtin "dict.get") [.ref a,u,r]) Q E s:=by
  rcases g with ⟨kvs,k,e,ey,l⟩|⟨kvs,k,b,e,ey,eb,l⟩
  · subst ey;obtain ⟨z,hd,vs,rel,dd⟩:=iM I.hok e;refine call_meetsIn acD dd.typeIs PySem.F.entry_dict_get (PySem.F.args_dict_get_3 _ _ _) (meets_dict_get_default (aG X.prog X.w) a (jl ry) hd r) ⟨_,dd.mapOf,h _ _ (I.tok _) ?_⟩;rw [l];exact (rel.val k).getD rd
  · subst ey;cases (show u=Value.ref b from ry);obtain ⟨z,hd,xs,rel,dd⟩:=jr I.hok e;refine call_meetsIn acD dd.typeIs PySem.F.entry_dict_get (PySem.F.args_dict_get_3 _ _ _) (meetsH_dict_get_default (tupleKind (aG X.prog X.w)) a b hd r) ⟨tupleKind_room_in1 hu,k,xs,iA I.hok eb,dd,h _ _ (I.tok _) ?_⟩;rw [l];exact (rel.val k).getD rd
end
def r_ (td ty tx:TE):TE:=fun σ H Q=>td σ H fun x H1=>∃ a,x=.ref a∧IsD H1 a∧ty σ H1 fun y H2=>tx σ H2 fun z H3=>∃ o,DGet H3 a y o∧Q (o.getD z) H3
section
variable {X:Cx} {o e f:Expr} {apos cpos:Pos} {td ty tx:TE}
theorem kO (hu:X.A.units+1 < cLine) (ho:PE X o td) (he:PE X e ty) (hf:PE X f tx) (m:M2 X o "get" apos e f cpos):PE X (.Call (.Attribute o "get" apos) [e,f] [] cpos) (r_ td ty tx):=by
  intro pins s σ H Q I h;refine wpAny_Call_method m.base m.few m.line acs acD PySem.F.type_dict_get (thn (ho pins s σ H _ I h) fun u s1 ⟨x,H1,I1,rx,a,ex,d,q1⟩=>?_);subst ex;obtain rfl:u=Value.ref a:=rx;obtain ⟨t1,t2,_⟩:=tf I1 d;refine ⟨t1,t2,?_⟩;rw [m.trees];refine ab3 rfl (Calls.evalArgs_plain (acp (thn (he pins s1 σ H1 _ I1 q1) fun iv s2 ⟨y,H2,I2,ry,q2⟩ =>
    acp (thn (hf pins s2 σ H2 _ I2 q2) fun fv s3 ⟨z,H3,I3,rz,ov,g,q3⟩=>Calls.spliced_nil ?_))))
  exact tu hu I3 g ry rz fun w' s4 I4 rw'=>⟨_,H3,I4,rw',q3⟩
end
section
variable {X:Cx} {pins:List (Addr × Obj)} {σ:St} {H:Hp} {s:Shared} {a:Addr} {kvs:List (Key × V)} {A:Around} {E:Value→Shared→Prop}
end
section
variable {X:Cx} {pins:List (Addr × Obj)} {σ:St} {H:Hp} {s:Shared} {a:Addr} {y:V} {u:Value} {A:Around} {E:Value→Shared→Prop}
end
open PySem PySem.Spec PyProof.Rows
section
variable {X:Cx}
theorem oP:cW X (.builtin "len") (fun xs H Q=>∃ a kvs,xs=[V.ref a]∧H a=some (.dK kvs)∧Q (.int kvs.length) H):=by
  intro pins s σ H xs us Q I r h;obtain ⟨a,kvs,rfl,ha,q⟩:=h;obtain ⟨u,rfl,ru⟩:=dl r;cases ru;exact uq I (.inl ha) fun t s' I'=>⟨.int kvs.length,H,I',⟨t,rfl⟩,q⟩
end
section
variable {κ:Type} [DecidableEq κ]
end
end L2
set_option maxHeartbeats 4000000
namespace L2
open PySem PySem.Spec PyProof.Rows
theorem Inv.adopt {X:Cx} {pins:List (Addr × Obj)} {σ:St} {H:Hp} {s:Shared} {a:Addr} {o:HO} (I:Inv X pins σ H s) (hn:H a=none) (hs:X.s₀.heap.objs.size≤a) (hL:a≠X.env.locals) (hC:∀ x c,X.env.cells.lookup x=some c→c≠a) (hp:∀ p∈X.pn++pins,p.1≠a)
    (new:ObjOk X.prog X.w (upd H a o) s.heap a o):Inv X pins σ (upd H a o) s:=by
  have ne:∀ b u,X.s₀.heap.get? b=some u→b≠a:=fun b u e=>aas (aaq (aag e) hs);refine ⟨I.ok,I.os,I.bare,⟨I.base.keep,I.base.slot,fun b u e n hx=>?_,I.base.there,fun b xs e=>?_,fun b u xs e=>?_,fun b ps e=>?_⟩,I.loc,I.cell,?_,fun x c e=>?_,fun p hq=>?_,fun b u e=>?_,I.len⟩
  · rw [aj (ne b u e)];exact I.base.free b u e n hx
  · have q:=I.base.tups b xs e;rw [aj (ah q hn)];exact q
  · have q:=I.base.frzs b u xs e;rw [aj (ah q hn)];exact q
  · obtain ⟨m,q⟩:=I.base.tbls b ps e;exact ⟨m,by rw [aj (ah q hn)];exact q⟩
  · rw [aj (aa3 hL)];exact I.free
  · rw [aj (hC x c e)];exact I.freeC x c e
  · obtain ⟨h1,h2,h3⟩:=I.pin p hq;exact ⟨h1,by rw [aj (hp p hq)];exact h2,h3⟩
  · by_cases hb:b=a
    · subst hb;rw [ad] at e;cases e;exact new
    · rw [aj hb] at e;exact (I.hok b u e).stay (fun c v _ q=>q) (fun c q=>by rw [aj (ah q hn)];exact q) fun c xs q=>by rw [aj (ah q hn)];exact q
def CellsIn (E:Env):List (Str × Addr)→Prop
  | []=>True
  | p :: r=>E.cells.lookup p.1=some p.2∧CellsIn E r
theorem CellsIn.get {E:Env}:∀ {cl:List (Str × Addr)} {x:Str} {c:Addr},CellsIn E cl→cl.lookup x=some c→E.cells.lookup x=some c:=by
  intro cl x c h e;have hm:=abo e;clear e
  induction cl with
  | nil=>exact nomatch hm
  | cons p r ih =>
    rcases aay.mp hm with q|q
    · have:=h.1;rw [← q] at this;exact this
    · exact ih h.2 q
def CapOk (XE:Env) (sc:Scope) (XN:List Str):List Str→List (Option Nat)→Prop
  | [],[]=>True
  | _ :: n,none :: c=>CapOk XE sc XN n c
  | x :: n,some i :: c=>(XN[i]?=some x∧(XE.kindOf x=some .cell∨XE.kindOf x=some .free)∧(sc.names.lookup x=some .cell∨sc.names.lookup x=some .free))∧CapOk XE sc XN n c
  | _,_=>False
def tE (σ:St) (o:Option Nat):Option V:=match o with
  | none=>none
  | some i=>(σ[i]?).join
def bS (cap:List (Option Nat)) (σ:St):St:=cap.map (tE σ)
theorem CapOk.len {XE:Env} {sc:Scope} {XN:List Str}:∀ {n:List Str} {c:List (Option Nat)},CapOk XE sc XN n c→c.length=n.length
  | [],[],_=>rfl
  | _ :: _,none :: _,h=>congrArg (·+1) (CapOk.len (n:=_) (c:=_) h)
  | _ :: _,some _ :: _,h=>congrArg (·+1) (CapOk.len h.2)
  | [],_ :: _,h=>(show False from h).elim
  | _ :: _,[],h=>(show False from h).elim
theorem CapOk.get {XE:Env} {sc:Scope} {XN:List Str} {σ:St}:∀ {n:List Str} {c:List (Option Nat)} {j:Nat} {x:Str} {v:V},CapOk XE sc XN n c→n[j]?=some x→(bS c σ)[j]?=some (some v) →
    ∃ i:Nat,XN[i]?=some x∧σ[i]?=some (some v)∧(XE.kindOf x=some .cell∨XE.kindOf x=some .free)∧(sc.names.lookup x=some .cell∨sc.names.lookup x=some .free)
  | [],[],_,_,_,_,h,_=>by simp at h
  | y :: n,none :: c,0,x,v,_,_,e=>by simp [bS,tE] at e
  | y :: n,none :: c,j+1,x,v,h,h1,e=>CapOk.get (n:=n) (c:=c) (j:=j) h (by simpa using h1) (by simpa [bS] using e)
  | y :: n,some i :: c,0,x,v,h,h1,e=>by
    simp at h1;subst h1;refine ⟨i,h.1.1,?_,h.1.2⟩;simp only [bS,tE,aaG,List.getElem?_cons_zero] at e;cases q:σ[i]? with
    | none=>rw [q] at e;simp at e
    | some w=>rw [q] at e;simp at e;rw [e]
  | y :: n,some i :: c,j+1,x,v,h,h1,e=>CapOk.get (n:=n) (c:=c) (j:=j) h.2 (by simpa using h1) (by simpa [bS] using e)
  | [],_ :: _,_,_,_,h,_,_=>(show False from h).elim
  | _ :: _,[],_,_,_,h,_,_=>(show False from h).elim
def ar (X:Cx) (scope:Scope) (cl:List (Str × Addr)) (NY:List Str) (fp:List Addr) (s:Shared) (H:Hp) (C:Addr):Cx where
  prog:=X.prog
  w:=X.w
  K:=X.K
  mg:=X.mg
  base:=X.base
  A:=X.A
  N:=NY
  s₀:=s
  H₀:=H
  env:=compEnvC scope cl C X.env
  outer:=X.stack
  stack:=X.stack
  ex:=fp
  fn:=fun _=>false
  calm:=X.calm
  pn:=[]
  xe:=fun _ _=>False
def mI (X:Cx) (ifs:List Expr) (t:TT):Prop :=
  ∀ (pins:List (Addr × Obj)) (s:Shared) (σ:St) (H:Hp) (Q:Bool→Hp→Prop),Inv X pins σ H s→t σ H Q →
    wpAny (model X.prog X.w) X.A (forIn ifs true fun c r=>if r=true then do let ok ← isTrue c X.env (eval c X.env);pure (ForInStep.yield ok) else pure (ForInStep.yield r)) (TP X pins σ Q) X.xe s
theorem dP {X:Cx}:mI X [] (fun _ H Q=>Q true H):=fun _ _ _ H _ I h=>wpAny_tests_nil ⟨H,I,h⟩
theorem kI {X:Cx} {c:Expr} {t:TT} (h:PT X c t):mI X [c] t:=fun pins s σ H Q I q=>wpAny_tests_one (h pins s σ H Q I q)
theorem oK {prog:Program} {w:World} {A:Around} {R:Result→Shared→Prop} {s:Shared} {elt target iter:Expr} {ifs:List Expr} {scope:Scope} {pos:Pos} {it acc:Value} {env:Env} (J:Nat→Shared→Prop)
    (turn:∀ n s,J n s→wpAny (model prog w) A (pyNext it) (fun r s₁=>match r with
      | none=>R (.ok .next) s₁
      | some v=>wpAny (model prog w) A (letOwnedTupleGo target it v) (fun _ s₁'=>wpAny (model prog w) A (assign target env v) (fun _ s₂ =>
          wpAny (model prog w) A (forIn ifs true fun c r=>if r=true then do let ok ← isTrue c env (eval c env);pure (ForInStep.yield ok) else pure (ForInStep.yield r)) (fun ok s₃ =>
            if ok=true then wpAny (model prog w) A (eval elt env) (fun x s₄ =>
              wpAny (model prog w) A (call (.builtin "list.append") [acc,x]) (fun _ s₅=>∃ m,m < n∧J m s₅) (fun _ _=>False) s₄) (fun _ _=>False) s₃
            else ∃ m,m < n∧J m s₃) (fun _ _=>False) s₂) (fun _ _=>False) s₁') (fun _ _=>False) s₁) (fun _ _=>False) s)
    (n:Nat) (h:J n s) :
    codeAny (model prog w) A (.compLoop (.ListComp elt [⟨target,iter,ifs,0⟩] scope pos) 0 it acc env) R s:=by
  refine codeAny_loop rfl J (fun n s hI=>?_) n h;show wpAny _ A ((compTurn (.ListComp elt [⟨target,iter,ifs,0⟩] scope pos) 0 it acc env).onRaise (fun x=>do noteFrame x env;theTreesLotGoes x)) _ _ s;refine wpAny_noted ?_;rw [compTurn_list];refine wpAny_bind (wpAny_standAt (wpAny_bind (wpAny_mono (turn n s hI) (fun r s₁ h₁=>?_) fun _ _ h'=>h'.elim)));cases r with
  | none=>exact wpAny_pure h₁
  | some v =>
    refine wpAny_bind (wpAny_mono h₁ (fun _ s₁' h₁'=>?_) fun _ _ h'=>h'.elim);refine wpAny_bind (wpAny_mono h₁' (fun _ s₂ h₂=>wpAny_bind (wpAny_mono h₂ (fun ok s₃ h₃=>?_) fun _ _ h'=>h'.elim)) fun _ _ h'=>h'.elim);cases ok with
    | false=>exact wpAny_pure ⟨rfl,h₃⟩
    | true =>
      exact wpAny_bind (wpAny_bind (wpAny_mono h₃ (fun x s₄ h₄=>wpAny_bind (wpAny_mono h₄ (fun _ s₅ h₅=>wpAny_pure (wpAny_pure ⟨rfl,h₅⟩)) fun _ _ h'=>h'.elim)) fun _ _ h'=>h'.elim))
abbrev tK (cap:List (Option Nat)) (g:TG) (tt:TT) (te:TE) (σ:St) (Q:VK) (J:It) (H1:Hp):Prop:=∃ W:Nat→Nat→List V→Hp→Prop,(∃ m,W 0 m [] H1)∧∀ i m ys H,W i m ys H →
  (J.stop i H∧∀ p,H p=none→Q (.ref p) (upd H p (.lst ys))) ∨
  (J.go i H∧ys.length < sizeLine∧∀ x H',J.yld i H x H'→g x (bS cap σ) H' fun σ2 H2=>tt σ2 H2 fun b H3=>if b=true then te σ2 H3 fun v H4=>∃ m',m' < m∧W (i+1) m' (ys++[v]) H4 else ∃ m',m' < m∧W (i+1) m' ys H3)
def tLc (cap:List (Option Nat)) (wi:TI) (g:TG) (tt:TT) (te:TE):TE:=fun σ H Q=>wi σ H (tK cap g tt te σ Q)
section
variable {X:Cx}
theorem jj {elt tg iter:Expr} {ifs:List Expr} {scope:Scope} {pos:Pos} {cl:List (Str × Addr)} {NY:List Str} {cap:List (Option Nat)} {wi:TI} {g:TG} {tt:TT} {te:TE} (hc:X.calm=true) (hi:PI X tg iter wi)
    (hclos:closureFor scope X.env=pure cl) (hci:CellsIn X.env cl) (hcap:CapOk X.env (relabel scope X.env) X.N NY cap)
    (hb:∀ fp s H C,PG (ar X scope cl NY fp s H C) tg g∧mI (ar X scope cl NY fp s H C) ifs tt∧PE (ar X scope cl NY fp s H C) elt te)
    (hkind:scope.kind=.function:=by rfl) (hnc:(scope.names.all fun y=>y.2 != .cell)=true:=by rfl)
    (hnames:(scope.names.all fun y=>y.2 != .local || scope.names.lookup y.1 == some .local)=true:=by rfl)
    (hhas:((relabel scope X.env).names.all fun p=>(p.2 != .cell && p.2 != .free) || (cl.lookup p.1).isSome)=true:=by rfl)
    (hs:∀ x,foldedSetIterable iter X.env x=pure x:=by intro _;rfl) :
    PE X (.ListComp elt [⟨tg,iter,ifs,0⟩] scope pos) (tLc cap wi g tt te):=by
  have hnc':∀ y∈scope.names,y.2≠.cell:=fun y hy=>by
    have q:=aa0.mp hnc y hy;simpa using q
  have hnames':∀ y∈scope.names,y.2=.local→scope.names.lookup y.1=some .local:=fun y hy e=>by
    have q:=aa0.mp hnames y hy;rw [e] at q;simpa using q
  intro pins s σ H Q I h;rw [eval_ListComp];refine wpAny_comprehension_free (use:=none) rfl hs hclos hkind hnames' (wpAny_mono (hi pins s σ H _ I h) (fun v s1 h1=>wpAny_mono h1 (fun itv s2 h2=>?_) fun _ _ e=>e) fun _ _ e=>e);obtain ⟨it,fp,tn,J,H2,e,I2,T,st2,f2,W,⟨m0,w0⟩,turn⟩:=h2;subst e;refine wpAny_newObj_type (wpAny_newFunctionEnv hnc' (by intro y hy;simp at hy) (fun h₁ hns₁ hsb₁=>?_) hkind);dsimp only at hns₁ hsb₁ ⊢;generalize hH2:s2.heap.push { cls:=.type "list",dict:=none,data:=.seq ([]:List Value).toArray }=G2 at hns₁ hsb₁ ⊢;have hC:G2.objs.size=s2.heap.objs.size+1:=by rw [← hH2,acd]
  have hDC:s2.heap.objs.size≠G2.objs.size:=by rw [hC];exact aas (acE _)
  have hDlt:s2.heap.objs.size≤G2.objs.size:=by rw [hC];exact acx _
  have below:∀ b,b < s2.heap.objs.size→b≠G2.objs.size∧b≠s2.heap.objs.size:=fun b hb=>⟨by rw [hC];exact aas (abL hb),aas hb⟩
  have old:∀ b o,s2.heap.get? b=some o→h₁.get? b=some o:=fun b o e=>hsb₁.extBut b o (below b (aag e)).1 (aac _ (hH2 ▸ aac _ e));have hacc:h₁.get? s2.heap.objs.size=some { cls:=.type "list",data:=.seq ([]:List Value).toArray 0 }:=hsb₁.extBut _ _ hDC (aac _ (hH2 ▸ aap _ rfl));have fpl:∀ b∈fp,b < s2.heap.objs.size:=fun b hb=>by
    obtain ⟨o,e,_⟩:=T.obj _ _ st2 b hb;exact aag e
  have freshD:H2 s2.heap.objs.size=none:=I2.hok.fresh (aad _);have freshC:H2 G2.objs.size=none:=I2.hok.fresh hDlt;have cellLt:∀ x c,X.env.cells.lookup x=some c→c < s2.heap.objs.size:=fun x c e=>by
    obtain ⟨v,q⟩:=I2.cell x c e;exact q.lt
  have hclX:∀ x c,cl.lookup x=some c→X.env.cells.lookup x=some c:=fun x c e=>hci.get e;obtain ⟨hbg,hbt,hbe⟩:=hb fp s2 H2 G2.objs.size;have okY:(ar X scope cl NY fp s2 H2 G2.objs.size).Ok:=by
    refine ⟨I2.ok.mod,hkind,I2.ok.glob,I2.ok.blt,hDlt,fun x y c e1 e2=>I2.ok.inj x y c (hclX x c e1) (hclX y c e2),fun x hx=>?_,fun x c hf _=>?_,I2.ok.hd,I2.ok.frames,.inl rfl,fun b hb=>⟨(below b (fpl b hb)).1,fun x c e z=>?_⟩,I2.bs,
      aaL I2.ok.bsz I2.sz,fun b o e hb=>?_,fun b hb hz=>?_,I2.stack,I2.stkFree⟩
    · have hx':(relabel scope X.env).names.lookup x=some .cell∨(relabel scope X.env).names.lookup x=some .free:=hx;have key:∀ k,(relabel scope X.env).names.lookup x=some k→(k=.cell∨k=.free)→∃ c,cl.lookup x=some c:=fun k e hk=>by
        have q:=aa0.mp hhas (x,k) (abo e);have q':(cl.lookup x).isSome=true:=by
          rcases hk with rfl|rfl <;> simpa using q
        exact acm.mp q'
      rcases hx' with e|e
      · exact key _ e (.inl rfl)
      · exact key _ e (.inr rfl)
    · exact absurd (show false=true from hf) aah
    · exact (f2 b hb).2.2.2.2.1 x c (hclX x c e) z
    · rcases (f2 b hb).2.2.2.1 with z|z
      · exact I2.ok.noex b o e z
      · exact absurd (aaq (aag (I2.ok.bs b o e).1) z) (abm _)
    · rcases aay.mp (I2.stkSub b hz) with z|z
      · exact (f2 b hb).2.1 z
      · exact (f2 b hb).2.2.1 z
  have fpYs:∀ {H':Hp} {n:Nat} {its:List Value},(∀ b∈fp,H' b=none)→∀ b∈fp,iT (ar X scope cl NY fp s2 H2 G2.objs.size) [(s2.heap.objs.size,{ cls:=.type "list",data:=.seq its.toArray n })] H' b:=fun {H' n its} hn b hb=>by
    refine ⟨hn b hb,(below b (fpl b hb)).1,fun hz=>?_,.inl hb,fun x c e=>(f2 b hb).2.2.2.2.1 x c (hclX x c e),fun p hp=>?_⟩
    · rcases aay.mp (I2.stkSub b hz) with z|z
      · exact (f2 b hb).2.1 z
      · exact (f2 b hb).2.2.1 z
    · have e:p=(s2.heap.objs.size,{ cls:=.type "list",data:=.seq its.toArray n }):=by simpa [ar] using hp
      rw [e];exact aa3 (below b (fpl b hb)).2
  have nostk:∀ b,s2.heap.objs.size≤b→b∉frs X.stack:=fun b hb hz=>by
    rcases aay.mp (I2.stkSub b hz) with z|z
    · have:=I2.lt;rw [← z] at this;exact absurd (aaq this hb) (abm _)
    · exact I2.nofs hb z
  have IY0:Inv (ar X scope cl NY fp s2 H2 G2.objs.size) [(s2.heap.objs.size,{ cls:=.type "list",data:=.seq ([]:List Value).toArray 0 })] (bS cap σ) H2 { s2 with heap:=h₁,toks:=s2.toks+([]:List (Str × Value)).length }:=by
    refine ⟨okY,rfl,I2.bare,Un.kept old,⟨_,hns₁,fun j x v e1 e2 e3=>?_⟩,fun x c e=>?_,freshC,fun x c e=>I2.freeC x c (hclX x c e),fun p hp=>?_,I2.hok.kept old,?_⟩
    · obtain ⟨i,h1,h2,h3,h4⟩:=CapOk.get (σ:=σ) hcap e1 e2;obtain ⟨m,hn,hl⟩:=I2.loc;have vis:Vis X.env.scope x:=by rcases h3 with z|z;exact .inr (.inl z);exact .inr (.inr z)
      obtain ⟨u,r,l⟩:=hl i x v h1 h2 vis;refine ⟨u,r,.inr ⟨h4,?_⟩⟩;rcases l with ⟨k,_⟩|⟨_,c,e,z⟩
      · rcases h3 with z|z <;> (rw [k] at z;cases z)
      · obtain ⟨c',e'⟩:=okY.has x h4;have e':cl.lookup x=some c':=e';have e'':=hclX x c' e';rw [e] at e'';cases e'';obtain ⟨o,ho,hd⟩:=z;exact ⟨c,e',o,old _ _ ho,hd⟩
    · obtain ⟨v,o,ho,hd⟩:=I2.cell x c (hclX x c e);exact ⟨v,o,old _ _ ho,hd⟩
    · have e:p=(s2.heap.objs.size,{ cls:=.type "list",data:=.seq ([]:List Value).toArray 0 }):=by simpa [ar] using hp
      rw [e];exact ⟨hacc,freshD,hDC,nostk _ (aad _),fun v z=>by cases z⟩
    · show (bS cap σ).length=NY.length;unfold bS;rw [aak];exact hcap.len
  have hcY:(ar X scope cl NY fp s2 H2 G2.objs.size).calm=true:=hc;have stW:tn 0 h₁:=T.keep _ _ _ st2 fun b _ o e=>old b o e;have loop:∀ s₃:Shared,s₃={ s2 with heap:=h₁,toks:=s2.toks+([]:List (Str × Value)).length } →
      codeAny (model X.prog X.w) X.A (.compLoop (.ListComp elt [⟨tg,iter,ifs,0⟩] scope pos) 0 (.ref it) (.ref s2.heap.objs.size) (compEnvC scope cl G2.objs.size X.env))
        (compPost (model X.prog X.w) X.A X.xe none (EP X pins σ Q) (.ref s2.heap.objs.size) G2.objs.size) s₃:=by
    rintro s₃ rfl;refine oK (fun n s'=>∃ i ys its k H',Inv (ar X scope cl NY fp s2 H2 G2.objs.size) [(s2.heap.objs.size,{ cls:=.type "list",data:=.seq its.toArray k })] (bS cap σ) H' s'∧Vals ys its∧ys.length≤sizeLine∧tn i s'.heap∧(∀ b∈fp,H' b=none)∧W i n ys H') ?_ m0
      ⟨0,[],[],0,H2,IY0,.nil,aa1 _,stW,fun b hb=>(f2 b hb).1,w0⟩
    rintro n s3 ⟨i,ys,its,k,H3,I3,rv,hz,st3,fr3,w3⟩;rcases turn i n ys H3 w3 with ⟨stop,qn⟩|⟨go,hlt,step⟩
    · refine wpAny_mono (T.done (ar X scope cl NY fp s2 H2 G2.objs.size) rfl rfl rfl hcY i _ s3 _ H3 (fun _ _=>False) I3 (fpYs fr3) st3 stop) (fun r s4 ⟨hr,I4⟩=>?_) fun _ _ z=>z;subst hr;obtain ⟨m,hnC,_⟩:=id I4.loc;have hnC:s4.heap.Ns G2.objs.size m:=hnC;refine ⟨m,hnC,fun h' hsb=>?_⟩;have pD:=(I4.pin (s2.heap.objs.size,{ cls:=.type "list",data:=.seq its.toArray k }) (by simp [ar]))
      have un:Un (frs X.stack) fp H2 H3 s2.heap s4.heap:=I4.base;have I5:Inv X pins σ H3 s4:=I2.call' (ch:=fp) I4.os un I4.hok I4.bare fun b hb=>⟨(f2 b hb).2.2.2.1,(f2 b hb).2.1,(f2 b hb).2.2.2.2.1,(f2 b hb).2.2.2.2.2⟩
      have cC:H3 G2.objs.size=none:=I4.free;have szX:X.s₀.heap.objs.size≤s2.heap.objs.size:=I2.sz;have I6:Inv X pins σ H3 { s4 with heap:=h' }:=I5.turned (t':=s4.toks) (it:=G2.objs.size) (fun b o hb e=>hsb.extBut b o hb e) cC (aaT (aaq I2.lt hDlt)) (.inr (aaL szX hDlt))
        (fun x c e z=>absurd (cellLt x c e) (by rw [z];exact Nat.not_lt.mpr hDlt)) (fun p hp z=>absurd (aag (I2.pin p hp).1) (by rw [z];exact Nat.not_lt.mpr hDlt))
      have I7:Inv X pins σ (upd H3 s2.heap.objs.size (.lst ys)) { s4 with heap:=h' }:=I6.adopt pD.2.1 szX (aaT I2.lt) (fun x c e=>aas (cellLt x c e)) (fun p hp=>aas (aag (I2.pin p hp).1))
        ⟨hz,its,k,rv,hsb.extBut _ _ hDC pD.1⟩
      exact ⟨.ref s2.heap.objs.size,_,I7,rfl,qn _ pD.2.1⟩
    · refine wpAny_mono (T.item (ar X scope cl NY fp s2 H2 G2.objs.size) rfl rfl rfl hcY i _ s3 _ H3 (fun _ _=>False) I3 (fpYs fr3) st3 go) (fun r s4 ⟨u,hr,h4⟩=>?_) fun _ _ z=>z;subst hr;refine wpAny_mono h4 (fun _ s5 ⟨x,H5,I5,r5,y5,st5,fr5⟩=>?_) fun _ _ z=>z;have I5':=I5.pinned (fpYs fr5) (T.obj _ _ st5);refine wpAny_mono (hbg _ s5 _ H5 x u _ I5' r5 (step x H5 y5)) (fun _ s6 ⟨σ6,H6,I6,q6⟩=>?_) fun _ _ z=>z;refine wpAny_mono (hbt _ s6 σ6 H6 _ I6 q6) (fun ok s7 ⟨H7,I7,q7⟩=>?_) fun _ _ z=>z;have lenY:∀ {σ':St} {pn} {H'} {s'},Inv (ar X scope cl NY fp s2 H2 G2.objs.size) pn σ' H' s'→(bS cap σ).length=σ'.length:=fun {σ' pn H' s'} Z=>IY0.len.trans Z.len.symm;have captured:∀ {σ':St} {pn} {H'} {s'},Inv (ar X scope cl NY fp s2 H2 G2.objs.size) pn σ' H' s'→Inv (ar X scope cl NY fp s2 H2 G2.objs.size) pn (bS cap σ) H' s':=fun {σ' pn H' s'} Z=>by
        refine ⟨Z.ok,Z.os,Z.bare,Z.base,?_,Z.cell,Z.free,Z.freeC,Z.pin,Z.hok,IY0.len⟩;obtain ⟨m,hn,_⟩:=Z.loc;refine ⟨m,hn,fun j x v e1 e2 e3=>?_⟩;obtain ⟨i',h1,h2,h3,h4⟩:=CapOk.get (σ:=σ) hcap e1 e2;obtain ⟨m',hn',hl⟩:=I2.loc;have vis:Vis X.env.scope x:=by rcases h3 with z|z;exact .inr (.inl z);exact .inr (.inr z)
        obtain ⟨u,r,l⟩:=hl i' x v h1 h2 vis;refine ⟨u,r,.inr ⟨h4,?_⟩⟩;rcases l with ⟨kk,_⟩|⟨_,c,e,z⟩
        · rcases h3 with z|z <;> (rw [kk] at z;cases z)
        · obtain ⟨c',e'⟩:=okY.has x h4;have e':cl.lookup x=some c':=e';have e'':=hclX x c' e';rw [e] at e'';cases e'';obtain ⟨o,ho,hd⟩:=z;have nfp:c∉fp:=fun hz=>(f2 c hz).2.2.2.2.1 x c e rfl;obtain ⟨sl,q⟩:=Z.base.any (show s2.heap.get? c=some o from ho) (I2.freeC x c e) nfp;exact ⟨c,e',_,q,hd⟩
      have again:∀ {ys':List V} {its':List Value} {k':Nat} {σ':St} {H':Hp} {s':Shared},Inv (ar X scope cl NY fp s2 H2 G2.objs.size) ([(s2.heap.objs.size,{ cls:=.type "list",data:=.seq its'.toArray k' })]++bu fp s5.heap) σ' H' s'→Vals ys' its'→ys'.length≤sizeLine →
          (∃ m',m' < n∧W (i+1) m' ys' H')→∃ m,m < n∧∃ i ys its k H',Inv (ar X scope cl NY fp s2 H2 G2.objs.size) [(s2.heap.objs.size,{ cls:=.type "list",data:=.seq its.toArray k })] (bS cap σ) H' s'∧Vals ys its∧ys.length≤sizeLine∧tn i s'.heap∧(∀ b∈fp,H' b=none)∧W i m ys H':=fun {ys' its' k' σ' H' s'} Z rv' hz' hw=>by
        obtain ⟨m',hm,w'⟩:=hw;refine ⟨m',hm,i+1,ys',its',k',H',captured Z.unpinned,rv',hz',T.keep _ _ _ st5 fun b hb o e=>(Z.pin (b,o) (aaa _ (aaa _ (bW hb e)))).1,fun b hb=>?_,w'⟩;obtain ⟨o,e,d⟩:=T.obj _ _ st5 b hb;exact (Z.pin (b,o) (aaa _ (aaa _ (bW hb e)))).2.1
      cases ok with
      | false =>
        rw [if_neg aah] at q7 ⊢;exact again I7 rv hz q7
      | true =>
        rw [if_pos rfl] at q7 ⊢;refine wpAny_mono (hbe _ s7 σ6 H7 _ I7 q7) (fun xv s8 ⟨v,H8,I8,r8,q8⟩=>?_) fun _ _ z=>z;have pD:=I8.pin (s2.heap.objs.size,{ cls:=.type "list",data:=.seq its.toArray k }) (by simp [ar]);have hlen:=rv.length;refine append_at pD.1 (fun h9 hs9 hD9=>?_) (by rw [aal];lia);have I9:Inv (ar X scope cl NY fp s2 H2 G2.objs.size) (bu fp s5.heap) σ6 H8 s8:=I8.pins_of fun p hp=>I8.pin p (aaa _ (aaa _ hp));have I10:Inv (ar X scope cl NY fp s2 H2 G2.objs.size) (bu fp s5.heap) σ6 H8 { s8 with heap:=h9 }:=I9.turned (t':=s8.toks) (it:=s2.heap.objs.size) (fun b o hb e=>hs9.extBut b o hb e) pD.2.1 hDC (.inr (aad _))
          (fun x c e=>aas (cellLt x c (hclX x c e))) fun p hp=>by
            have hp':p∈bu fp s5.heap:=by simpa [ar] using hp
            exact aa3 (aa3 (below _ (fpl _ (dQ hp').1)).2)
        have I11:Inv (ar X scope cl NY fp s2 H2 G2.objs.size) ([(s2.heap.objs.size,{ cls:=.type "list",data:=.seq (its++[xv]).toArray (k+1) })]++bu fp s5.heap) σ6 H8 { s8 with heap:=h9 }:=I10.pins_of fun p hp=>by
          rcases aao.mp hp with z|z
          · have e:p=(s2.heap.objs.size,{ cls:=.type "list",data:=.seq (its++[xv]).toArray (k+1) }):=by simpa using z
            rw [e];refine ⟨?_,pD.2.1,hDC,nostk _ (aad _),fun v z=>by cases z⟩;rw [List.push_toArray] at hD9;exact hD9
          · exact I10.pin p (aaa _ z)
        exact again I11 (rv.append (.cons r8 .nil)) (by rw [aax,acA];exact hlt) q8
  exact codeAny_compStart_list (loop _ rfl) (T.self _ 0 _ _ _ stW (loop _ rfl))
end
open PySem PySem.Spec PyProof.Rows
section
variable {X:Cx}
theorem dF {n:String}:cW X (.builtin "isinstance") (fun xs H Q=>∃ x t b,xs=[x,.ty n]∧TyOf X.K H x t∧aaI X.K t (.type n)=some b∧Q (.bl b) H):=by
  intro pins s σ H xs us Q I r h;obtain ⟨x,t,b,rfl,ty,e,q⟩:=h;obtain ⟨u,w',rfl,rx,rt⟩:=oV r;cases rt;exact oD I rx ty e fun tk=>⟨.bl b,H,I.tok _,rfl,q⟩
theorem kS:OpR X (binaryOp .FloorDiv) (rI (fun _ j=>0 < j∧j < 2 ^ 64) fun i j=>.int (i / j)):=opI fun i j _ _ _ _ _ hc q=>by
  have h1:(0:Int) < j:=hc.1;have h2:j < 2 ^ 64:=hc.2;refine floordiv_int (by lia) (by rw [Int.fdiv_eq_ediv_of_nonneg i (by lia)];exact q) (.inl (PyProof.noPylong_of_log2 ?_));have h3:j.natAbs < 2 ^ 64:=by lia
  have h4:j.natAbs≠0:=by lia
  have h5:j.natAbs.log2 < 64:=(Nat.log2_lt h4).mpr h3;lia
def Cal (P:Program) (w:World) (K:aab) (mg:Str→Option Value) (base:Heap) (x:Str) (k:Nat) (ps:List Str) (sp:Sp):Prop :=
  ∃ f fd,FnOk P w K mg base CX0 k f fd ps sp∧Binds K fd ps []∧aa6 K (.ref f)=true∧mg x=some (.ref f)
theorem aB {x:Str} {k k':Nat} {ps:List Str} {sp:Sp} {e:Expr} {es:List Expr} {t:TA} {p pos:Pos} (C:Cal X.prog X.w X.K X.mg X.base x k ps sp) (hr:Room k' X.A) (hk:k≤k') (hg:Gl X x) (ha:PA X (e :: es) t)
    (hdb:(x == ("__debug__":Str))=false:=by decide) (he:starEach (e :: es) X.env=(false,eval e X.env) :: starEach es X.env:=by rfl) (hpl:(backTo pos (starEach es X.env)).any (·.1)=false:=by rfl) :
    PE X (.Call (.Name x p) (e :: es) [] pos) (kc sp [] E0 t):=by
  obtain ⟨f,fd,F,b,kp,m⟩:=C;exact mZ F (hr.mono hk) hg m kp b .nil rG ha hdb he hpl
end
theorem Same.new {H:Hp} {p:Addr} (h:H p=none) (o:HO):Same H (upd H p o):=fun b u q=>by rw [aj (ah q h)];exact q
def But (w:Addr) (H H':Hp):Prop:=∀ b o,b≠w→H b=some o→H' b=some o
theorem But.refl {w:Addr} {H:Hp}:But w H H:=fun _ _ _ h=>h
theorem But.trans {w:Addr} {H H1 H2:Hp} (a:But w H H1) (b:But w H1 H2):But w H H2:=fun c o n h=>b c o n (a c o n h)
theorem But.of {w:Addr} {H H':Hp} (a:Same H H'):But w H H':=fun c o _ h=>a c o h
theorem But.new {w:Addr} {H:Hp} {p:Addr} (h:H p=none) (o:HO):But w H (upd H p o):=But.of (Same.new h o)
theorem But.put {w:Addr} {H:Hp} {o:HO}:But w H (upd H w o):=fun b u n q=>by rw [aj n];exact q
end L2
namespace Srt
open PySem PySem.W PyProof.Rows
def run {α:Type} (lt:Nat→Nat→Bool):KasT α→α
  | .ret a=>a
  | .ask i j k=>run lt (k (lt i j))
section
variable (key:Nat→Int)
abbrev lt:Nat→Nat→Bool:=fun i j=>decide (key i < key j)
def kp (p:Array Nat) (x:Nat):Int:=key (p.getD x 0)
def Up (p:Array Nat) (m:Nat):Prop:=∀ i j,i < j→j < m→kp key p i < kp key p j
variable {key}
end
end Srt
namespace Srt
open PySem PySem.W PyProof.Rows
def Ent (n:Nat) (p:Array Nat):Prop:=∀ x,p.getD x 0 < n
section
variable {prog:Program} {w:World} {A:Around} {E:Value→Shared→Prop} {s:Shared}
end
end Srt
set_option maxHeartbeats 2000000
namespace L2
open PySem PySem.Spec PyProof.Rows
inductive EqR (K:aab) (H:Hp):Nat→V→V→Bool→Prop
  | flat {n:Nat} {x y:V} (fx:eZ x=true) (fy:eZ y=true):EqR K H n x y (eqV x y)
  | lens {n:Nat} {a b:Addr} {xs ys:List V} (ha:SqL K H a xs) (hb:SqL K H b ys) (hl:xs.length≠ys.length):EqR K H (n+1) (.ref a) (.ref b) false
  | lst {n:Nat} {a b:Addr} {xs ys:List V} {e:Nat→Bool} (ha:SqL K H a xs) (hb:SqL K H b ys) (hl:xs.length=ys.length) (h:∀ (j:Nat) x y,xs[j]?=some x→ys[j]?=some y→EqR K H n x y (e j)):EqR K H (n+1) (.ref a) (.ref b) ((ab0 xs.length).all e)
  | tup {n:Nat} {a b:Addr} {xs ys:List V} {e:Nat→Bool} (ha:SqT K H a xs) (hb:SqT K H b ys) (h:∀ (j:Nat) x y,xs[j]?=some x→ys[j]?=some y→EqR K H n x y (e j)) :
      EqR K H (n+1) (.ref a) (.ref b) ((ab0 (min xs.length ys.length)).all e && xs.length == ys.length)
theorem qr {x:V} (f:eZ x=true):eqV x x=true:=by
  cases x <;> first|rfl|(simp [eqV];done)|exact absurd (show false=true from f) aah
section
variable {X:Cx} {pins:List (Addr × Obj)} {σ:St} {H:Hp} {s:Shared}
theorem EqR.self (I:Inv X pins σ H s) {n:Nat} {x y:V} {b:Bool} (h:EqR X.K H n x y b):x=y→b=true:=by
  induction h with
  | flat fx fy=>intro e;subst e;exact qr fx
  | lens ha hb hl =>
    intro e;injection e with e;subst e
    exact absurd (by rw [I.list_inj ha hb]) hl
  | @lst n a b xs ys e ha hb hl h ih =>
    intro q;injection q with q;subst q
    obtain rfl:=I.list_inj ha hb;rw [aa0];intro j hj;have hj':j < xs.length:=List.mem_range.mp hj;exact ih j _ _ (aaf hj') (aaf hj') rfl
  | @tup n a b xs ys e ha hb h ih =>
    intro q;injection q with q;subst q
    obtain rfl:=I.tuple_inj ha hb;rw [acg,aa0];refine ⟨fun j hj=>?_,beq_self_eq_true _⟩;have hj':j < xs.length:=by have:=List.mem_range.mp hj;lia
    exact ih j _ _ (aaf hj') (aaf hj') rfl
theorem dj {xs:List V} {its:List Value} (r:Vals xs its) {j:Nat} (h:j < its.toArray.size):∃ x,xs[j]?=some x∧RelV x its.toArray[j]:=by
  have hl:=r.length;have h':j < xs.length:=by rw [hl];simpa using h
  obtain ⟨u,hu,ru⟩:=r.get (aaf h');refine ⟨_,aaf h',?_⟩;have e:its.toArray[j]=u:=by
    have : its[j]?=some u:=hu;rw [aaf (by simpa using h)] at this;simpa using aaN this
  rw [e];exact ru
theorem EqR.at (I:Inv X pins σ H s) {n:Nat} {x y:V} {b:Bool} (h:EqR X.K H n x y b):∀ {A:Around} {u v:Value},RelV x u→RelV y v→A.units+n < cLine→SeqAt.EqAt A s u v b:=by
  induction h with
  | flat fx fy=>intro A u v rx ry hu;exact qv rx ry fx fy
  | @lens n a b xs ys ha hb hl =>
    intro A u v rx ry hu;cases rx;cases ry;obtain ⟨its,r,pl,_⟩:=I.list ha;obtain ⟨its2,r2,pl2,_⟩:=I.list hb;have ne:a≠b:=fun e=>by subst e;exact hl (by rw [I.list_inj ha hb])
    refine .of_refs ne (.lists_lengths pl.isList pl2.isList ?_ (by lia));rw [aal,aal,← r.length,← r2.length];exact bne_iff_ne.mpr hl
  | @lst n a b xs ys e ha hb hl h ih =>
    intro A u v rx ry hu;by_cases q:a=b
    · have:=(EqR.lst ha hb hl h).self I (by rw [q]);cases rx;cases ry;rw [this];subst q;exact SeqAt.EqAt.same _
    · cases rx;cases ry;obtain ⟨its,r,pl,_⟩:=I.list ha;obtain ⟨its2,r2,pl2,_⟩:=I.list hb;have e1:its.toArray.size=xs.length:=by rw [aal,r.length]
      rw [← e1];refine .of_refs q (.lists pl.isList pl2.isList (by rw [aal,aal,← r.length,← r2.length];exact hl) (by lia) fun j h1 h2=>?_);obtain ⟨x,hx,rx⟩:=dj r h1;obtain ⟨y,hy,ry⟩:=dj r2 h2;exact ih j x y hx hy rx ry (by show A.units+1+n < cLine;lia)
  | @tup n a b xs ys e ha hb h ih =>
    intro A u v rx ry hu;by_cases q:a=b
    · have:=(EqR.tup ha hb h).self I (by rw [q]);cases rx;cases ry;rw [this];subst q;exact SeqAt.EqAt.same _
    · cases rx;cases ry;obtain ⟨its,r,pl,_⟩:=I.tuple ha;obtain ⟨its2,r2,pl2,_⟩:=I.tuple hb;have e1:its.toArray.size=xs.length:=by rw [aal,r.length]
      have e2:its2.toArray.size=ys.length:=by rw [aal,r2.length]
      rw [← e1,← e2];refine .of_refs q (.tuples pl pl2 (by lia) fun j h1 h2=>?_);obtain ⟨x,hx,rx⟩:=dj r h1;obtain ⟨y,hy,ry⟩:=dj r2 h2;exact ih j x y hx hy rx ry (by show A.units+1+n < cLine;lia)
def uL (K:aab) (neg:Bool):R2:=fun x y H Q=>∃ n a b xs ys,n≤60∧x=.ref a∧y=.ref b∧SqL K H a xs∧SqL K H b ys ∧
  ((xs.length≠ys.length∧Q (.bl neg) H)∨∃ e:Nat→Bool,xs.length=ys.length∧(∀ (j:Nat) x y,xs[j]?=some x→ys[j]?=some y→EqR K H n x y (e j))∧Q (.bl (if neg then !(ab0 xs.length).all e else (ab0 xs.length).all e)) H)
theorem sJ (hu:X.A.units+64 < cLine):OpR X (compareOp .Eq) (uL X.K false):=by
  intro pins s σ H x y v u Q I rx ry h;obtain ⟨n,a,b,xs,ys,hn,rfl,rfl,ha,hb,h⟩:=h;cases rx;cases ry;obtain ⟨its,r,pl,_⟩:=I.list ha;obtain ⟨its2,r2,pl2,_⟩:=I.list hb;have e1:its.toArray.size=xs.length:=by rw [aal,r.length]
  have e2:its2.toArray.size=ys.length:=by rw [aal,r2.length]
  rcases h with ⟨hl,q⟩|⟨e,hl,he,q⟩
  · exact SeqAt.eq_list_lengthsAt pl.isList pl2.isList (by rw [e1,e2];exact bne_iff_ne.mpr hl) (by lia) ⟨.bl false,H,I,rfl,q⟩
  · refine SeqAt.eq_listAt (e:=e) pl.isList pl2.isList (by rw [e1,e2];exact hl) (by lia) (fun j h1 h2=>?_) ?_
    · obtain ⟨x,hx,rx⟩:=dj r h1;obtain ⟨y,hy,ry⟩:=dj r2 h2;exact (he j x y hx hy).at I rx ry (by show X.A.units+1+n < cLine;lia)
    · rw [e1];exact ⟨.bl _,H,I,rfl,q⟩
end
abbrev PairIn (H:Hp) (p:Int × Int) (v:V):Prop:=∃ a,v=.ref a∧H a=some (.tup [.int p.1,.int p.2])
abbrev PairsIn (H:Hp):List (Int × Int)→List V→Prop:=Paired (PairIn H)
theorem Inv.adopt2 {X:Cx} {pins:List (Addr × Obj)} {σ:St} {H:Hp} {s:Shared} {a:Addr} {o:HO} (I:Inv X pins σ H s) (hn:H a=none) (hx:∀ u,X.s₀.heap.get? a≠some u) (hL:a≠X.env.locals) (hC:∀ x c,X.env.cells.lookup x=some c→c≠a) (hp:∀ p∈X.pn++pins,p.1≠a)
    (new:ObjOk X.prog X.w (upd H a o) s.heap a o):Inv X pins σ (upd H a o) s:=by
  have ne:∀ b u,X.s₀.heap.get? b=some u→b≠a:=fun b u e z=>hx u (by rw [← z];exact e);refine ⟨I.ok,I.os,I.bare,⟨I.base.keep,I.base.slot,fun b u e n hx=>?_,I.base.there,fun b xs e=>?_,fun b u xs e=>?_,fun b ps e=>?_⟩,I.loc,I.cell,?_,fun x c e=>?_,fun p hq=>?_,fun b u e=>?_,I.len⟩
  · rw [aj (ne b u e)];exact I.base.free b u e n hx
  · have q:=I.base.tups b xs e;rw [aj (ah q hn)];exact q
  · have q:=I.base.frzs b u xs e;rw [aj (ah q hn)];exact q
  · obtain ⟨m,q⟩:=I.base.tbls b ps e;exact ⟨m,by rw [aj (ah q hn)];exact q⟩
  · rw [aj (aa3 hL)];exact I.free
  · rw [aj (hC x c e)];exact I.freeC x c e
  · obtain ⟨h1,h2,h3⟩:=I.pin p hq;exact ⟨h1,by rw [aj (hp p hq)];exact h2,h3⟩
  · by_cases hb:b=a
    · subst hb;rw [ad] at e;cases e;exact new
    · rw [aj hb] at e;exact (I.hok b u e).stay (fun c v _ q=>q) (fun c q=>by rw [aj (ah q hn)];exact q) fun c xs q=>by rw [aj (ah q hn)];exact q
open PySem PySem.Spec PyProof.Rows
theorem ObjOk.get {P:Program} {w:World} {H:Hp} {h:Heap} {a:Addr} {o:HO} (x:ObjOk P w H h a o):∃ u,h.get? a=some u:=by
  cases o with
  | lst xs=>obtain ⟨_,_,_,_,e⟩:=x;exact ⟨_,e⟩
  | tup xs=>obtain ⟨_,_,_,o,e,_⟩:=x;exact ⟨_,e⟩
  | dK kvs=>obtain ⟨_,_,_,_,o,_,_,e,_⟩:=x;exact ⟨_,e⟩
  | dT kvs=>obtain ⟨_,_,_,_,o,_,_,e,_⟩:=x;exact ⟨_,e⟩
  | set S n=>obtain ⟨o,_,_,_,e,_⟩:=x;exact ⟨_,e⟩
  | ins C dx fs=>obtain ⟨_,_,_,e,_⟩:=x;exact ⟨_,e⟩
  | own y=>obtain ⟨_,e⟩:=x;exact ⟨_,e⟩
  | xd fs=>obtain ⟨_,⟨_,_,_,e,_⟩,_⟩:=x;exact ⟨_,e⟩
  | rng lo hi=>obtain ⟨_,_,_,e⟩:=x;exact ⟨_,e⟩
  | frz ob u=>obtain ⟨e,_⟩:=x;exact ⟨_,e⟩
  | tbl ps=>exact ⟨_,(show h.get? a=some _ from x)⟩
  | met f y=>exact ⟨_,(show h.get? a=some _ from x)⟩
  | ext φ=>obtain ⟨_,⟨_,e⟩,_⟩:=x;exact ⟨_,e⟩
section
variable {X:Cx}
end
open PySem PySem.Spec PyProof.Rows
theorem qh {c A B:Prop} [Decidable c] (hc:c) (h:A):if decide c=true then A else B:=by
  rw [if_pos (decide_eq_true hc)];exact h
theorem iG {c A B:Prop} [Decidable c] (hc:¬ c) (h:B):if decide c=true then A else B:=by
  rw [if_neg (fun e=>hc (of_decide_eq_true e))];exact h
section
variable {X:Cx} {K:aab}
theorem qf (hK:X.K=K):IxR X (t_ K):=by subst hK;exact bH
theorem nj (hK:X.K=K):IxR X (t9 K):=by subst hK;exact s_
theorem kg (hK:X.K=K):SlR X (t7 K):=by subst hK;exact jG
end
def Nxt (n i:Nat) (P:Prop):Prop:=∃ m',m' < n - i∧m'=n - (i+1)∧i+1≤n∧P
theorem rg {K:aab} {a:Addr} {xs:List V} {cap:List (Option Nat)} {g:TG} {tt:TT} {te:TE} {σ:St} {H:Hp} {Q:VK} (Pv:Nat→List V→Hp→Prop) (h0:Pv 0 [] H) (hl:∀ i ys H,i≤xs.length→Pv i ys H→SqL K H a xs∧ys.length < sizeLine)
    (hs:∀ i x ys H,xs[i]?=some x→Pv i ys H→(∀ {P:Prop},P→Nxt xs.length i P)→g x (bS cap σ) H fun σ2 H2=>tt σ2 H2 fun b H3=>if b=true then te σ2 H3 fun v H4=>Nxt xs.length i (Pv (i+1) (ys++[v]) H4) else Nxt xs.length i (Pv (i+1) ys H3)) (hd:∀ ys H,Pv xs.length ys H→∀ p,H p=none→Q (.ref p) (upd H p (.lst ys))) :
    tK cap g tt te σ Q (Itl K a) H:=by
  refine ⟨fun i m ys H=>m=xs.length - i∧i≤xs.length∧Pv i ys H,⟨xs.length,by simp,aa1 _,h0⟩,?_⟩;rintro i m ys H ⟨rfl,hi,p⟩;have q:=hl i ys H hi p;by_cases hlt:i < xs.length
  · refine .inr ⟨⟨xs,xs[i],q.1,by simp [hlt]⟩,q.2,fun x H' y=>?_⟩;obtain ⟨e,y⟩:=y;subst e;exact hs i x ys _ (y xs q.1) p fun h=>⟨_,by lia,rfl,hlt,h⟩
  · have e:i=xs.length:=by lia
    subst e;exact .inl ⟨⟨xs,q.1,aad _⟩,hd ys H p⟩
theorem ig {H:Hp}:∀ {ps:List (Int × Int)} {vs:List V},PairsIn H ps vs→∀ {j:Nat} {x:V},vs[j]?=some x→∃ p,ps[j]?=some p∧PairIn H p x
  | _,_,.nil,j,x,h=>by simp at h
  | _,_,.cons a _,0,x,h=>by simp at h;subst h;exact ⟨_,rfl,a⟩
  | _,_,.cons _ b,j+1,x,h=>by
    obtain ⟨p,h1,h2⟩:=ig b (j:=j) (x:=x) (by simpa using h);exact ⟨p,by simpa using h1,h2⟩
open PySem PySem.Spec PyProof.Rows
def uh:Key→PyData
  | .inl i=>.int i
  | .inr x=>.str x
mutual
def Dat (H:Hp):PyData→V→Prop
  | .none,v=>v=.non
  | .bool b,v=>v=.bl b
  | .int i,v=>v=.int i
  | .str x,v=>v=.str x
  | .list ds,v=>∃ a xs,v=.ref a∧H a=some (.lst xs)∧DatAll H ds xs
  | .tuple ds,v=>∃ a xs,v=.ref a∧H a=some (.tup xs)∧DatAll H ds xs
  | .dict kvs,v=>∃ a ks,v=.ref a∧H a=some (.dK ks)∧DatKv H kvs ks
def DatAll (H:Hp):List PyData→List V→Prop
  | [],vs=>vs=[]
  | d :: ds,vs=>∃ v r,vs=v :: r∧Dat H d v∧DatAll H ds r
def DatKv (H:Hp):List (PyData × PyData)→List (Key × V)→Prop
  | [],ks=>ks=[]
  | (k,d) :: r,ks=>∃ q v t,ks=(q,v) :: t∧k=uh q∧Dat H d v∧DatKv H r t
end
mutual
theorem Dat.mono {H H':Hp} (g:Same H H'):∀ (d:PyData) (v:V),Dat H d v→Dat H' d v
  | .none,v,h=>h
  | .bool b,v,h=>h
  | .int i,v,h=>h
  | .str x,v,h=>h
  | .list ds,v,h=>by
    simp only [Dat] at h ⊢;obtain ⟨a,xs,e,h1,h2⟩:=h;exact ⟨a,xs,e,g _ _ h1,DatAll.mono g ds xs h2⟩
  | .tuple ds,v,h=>by
    simp only [Dat] at h ⊢;obtain ⟨a,xs,e,h1,h2⟩:=h;exact ⟨a,xs,e,g _ _ h1,DatAll.mono g ds xs h2⟩
  | .dict kvs,v,h=>by
    simp only [Dat] at h ⊢;obtain ⟨a,xs,e,h1,h2⟩:=h;exact ⟨a,xs,e,g _ _ h1,DatKv.mono g kvs xs h2⟩
theorem DatAll.mono {H H':Hp} (g:Same H H'):∀ (ds:List PyData) (vs:List V),DatAll H ds vs→DatAll H' ds vs
  | [],vs,h=>h
  | d :: ds,vs,h=>by
    simp only [DatAll] at h ⊢;obtain ⟨v,r,e,h1,h2⟩:=h;exact ⟨v,r,e,Dat.mono g d v h1,DatAll.mono g ds r h2⟩
theorem DatKv.mono {H H':Hp} (g:Same H H'):∀ (kvs:List (PyData × PyData)) (ks:List (Key × V)),DatKv H kvs ks→DatKv H' kvs ks
  | [],ks,h=>h
  | (k,d) :: r,ks,h=>by
    simp only [DatKv] at h ⊢;obtain ⟨q,v,t,e1,e2,h1,h2⟩:=h;exact ⟨q,v,t,e1,e2,Dat.mono g d v h1,DatKv.mono g r t h2⟩
end
theorem DatAll.len {H:Hp}:∀ {ds:List PyData} {vs:List V},DatAll H ds vs→ds.length=vs.length
  | [],vs,h=>by simp only [DatAll] at h;rw [h];rfl
  | d :: ds,vs,h=>by
    simp only [DatAll] at h;obtain ⟨v,r,rfl,_,h2⟩:=h;rw [aaO,aaO,DatAll.len h2]
theorem DatAll.app {H:Hp}:∀ {as:List PyData} {vs:List V} {bs:List PyData} {us:List V},DatAll H as vs→DatAll H bs us→DatAll H (as++bs) (vs++us)
  | [],vs,bs,us,h,k=>by simp only [DatAll] at h;subst h;exact k
  | d :: as,vs,bs,us,h,k=>by
    simp only [DatAll] at h;obtain ⟨v,r,rfl,h1,h2⟩:=h;show DatAll H (d :: (as++bs)) (v :: (r++us));simp only [DatAll];exact ⟨v,_,rfl,h1,DatAll.app h2 k⟩
def off (w:Addr) (H:Hp):Hp:=fun b=>if b=w then none else H b
theorem a8 {w b:Addr} {H:Hp} (h:b≠w):off w H b=H b:=if_neg h
def lJ:PyData→String
  | .none=>"NoneType"
  | .bool _=>"bool"
  | .int _=>"int"
  | .str _=>"str"
  | .list _=>"list"
  | .tuple _=>"tuple"
  | .dict _=>"dict"
theorem Dat.ty {K:aab} {H:Hp} {d:PyData} {v:V} (h:Dat H d v):TyOf K H v (.type (lJ d)):=by
  cases d with
  | none=>simp only [Dat] at h;subst h;exact .non
  | bool b=>simp only [Dat] at h;subst h;exact .bl b
  | int i=>simp only [Dat] at h;subst h;exact .int i
  | str x=>simp only [Dat] at h;subst h;exact .str x
  | list ds=>simp only [Dat] at h;obtain ⟨a,xs,rfl,e,_⟩:=h;exact .lst e
  | tuple ds=>simp only [Dat] at h;obtain ⟨a,xs,rfl,e,_⟩:=h;exact .tup e
  | dict kvs=>simp only [Dat] at h;obtain ⟨a,xs,rfl,e,_⟩:=h;exact .dK e
section
variable {X:Cx} {pins:List (Addr × Obj)} {σ:St} {H:Hp} {s:Shared}
theorem Inv.nosys (I:Inv X pins σ H s) {a:Addr} {o:HO} (h:H a=some o):a≠sysModules:=fun e=>by
  obtain ⟨mm,ob,es,ep,g,_⟩:=I.mod.sysm;have:=(I.bs _ _ g).2;rw [← e,h] at this;cases this
theorem oy {P:Program} {w:World} {h:Heap} {q:Key} {v:Value} (e:(aG P w).is q v=true):Reads h v (uh q) []:=by
  rw [ml] at e;rcases aK e with ⟨i,t,rfl,rfl⟩|⟨x,t,rfl,rfl⟩
  · exact .int i t
  · exact .str x t
mutual
theorem Dat.reads (I:Inv X pins σ H s):∀ (d:PyData) (v:V) (u:Value),Dat H d v→RelV v u→∃ as,Reads s.heap u d as∧sysModules∉as
  | .none,v,u,h,r=>by
    simp only [Dat] at h;subst h;cases r;exact ⟨_,.none,by simp⟩
  | .bool b,v,u,h,r=>by
    simp only [Dat] at h;subst h;cases r;exact ⟨_,.bool b,by simp⟩
  | .int i,v,u,h,r=>by
    simp only [Dat] at h;subst h;obtain ⟨t,rfl⟩:=r;exact ⟨_,.int i t,by simp⟩
  | .str x,v,u,h,r=>by
    simp only [Dat] at h;subst h;obtain ⟨t,rfl⟩:=r;exact ⟨_,.str x t,by simp⟩
  | .list ds,v,u,h,r=>by
    simp only [Dat] at h;obtain ⟨a,xs,rfl,hr,hd⟩:=h;cases r;obtain ⟨its,rv,⟨o,n,e1,e2,_,e3⟩,_⟩:=I.list (SqL.of hr);obtain ⟨as,ra,na⟩:=DatAll.reads I ds xs its hd rv;have ho:=hr;refine ⟨_,.list e1 e2 e3 (by simpa using ra),fun z=>?_⟩;rcases aay.mp z with z|z
    · exact I.nosys ho z.symm
    · exact na z
  | .tuple ds,v,u,h,r=>by
    simp only [Dat] at h;obtain ⟨a,xs,rfl,hr,hd⟩:=h;cases r;obtain ⟨its,rv,⟨o,e1,e2,n,e3⟩,_⟩:=I.tuple (SqT.of hr);obtain ⟨as,ra,na⟩:=DatAll.reads I ds xs its hd rv;exact ⟨_,.tuple e1 e2 e3 (by simpa using ra),na⟩
  | .dict kvs,v,u,h,r=>by
    simp only [Dat] at h;obtain ⟨a,ks,rfl,hr,hd⟩:=h;cases r;obtain ⟨_,_,vs,rel,o,es,ep,e1,ex,e3,_,pr,_⟩:=nE I.hok hr;obtain ⟨as,bs,ra,rb,na,nb⟩:=DatKv.reads I kvs ks vs es.toList hd rel pr;have ho:=hr;refine ⟨_,.dict e1 ex.1 e3 ra rb,fun z=>?_⟩;rcases aao.mp z with z|z
    · rcases aay.mp z with z|z
      · exact I.nosys ho z.symm
      · exact na z
    · exact nb z
theorem DatAll.reads (I:Inv X pins σ H s):∀ (ds:List PyData) (vs:List V) (us:List Value),DatAll H ds vs→Vals vs us→∃ as,ReadsAll s.heap us ds as∧sysModules∉as
  | [],vs,us,h,r=>by
    simp only [DatAll] at h;subst h;cases r;exact ⟨_,.nil,by simp⟩
  | d :: ds,vs,us,h,r=>by
    simp only [DatAll] at h;obtain ⟨v,t,rfl,h1,h2⟩:=h;cases r with
    | cons r1 r2 =>
      obtain ⟨as,ra,na⟩:=Dat.reads I d v _ h1 r1;obtain ⟨bs,rb,nb⟩:=DatAll.reads I ds t _ h2 r2;exact ⟨_,.cons ra rb,fun z=>(aao.mp z).elim na nb⟩
theorem DatKv.reads (I:Inv X pins σ H s):∀ (kvs:List (PyData × PyData)) (ks:List (Key × V)) (vs:List (Key × Value)) (es:List DictEntry),DatKv H kvs ks→KV ks vs→Pairs (aG X.prog X.w) es vs →
    ∃ as bs,ReadsAll s.heap (es.map (·.key)) (kvs.map (·.1)) as∧ReadsAll s.heap (es.map (·.val)) (kvs.map (·.2)) bs∧sysModules∉as∧sysModules∉bs
  | [],ks,vs,es,h,r,p=>by
    simp only [DatKv] at h;subst h;cases r;cases p;exact ⟨_,_,.nil,.nil,by simp,by simp⟩
  | (k,d) :: kr,ks,vs,es,h,r,p=>by
    simp only [DatKv] at h;obtain ⟨q,v,t,rfl,rfl,h1,h2⟩:=h;cases r with
    | cons r1 r2 =>
      cases p with
      | cons p1 p2 p3 =>
        obtain ⟨rk,rv⟩:=r1;obtain ⟨as,bs,ra,rb,na,nb⟩:=DatKv.reads I kr t _ _ h2 r2 p3;obtain ⟨cs,rc,nc⟩:=Dat.reads I d v _ h1 rv;have rk':q=_:=rk;subst rk';have kd:=oy (h:=s.heap) p1;refine ⟨[]++as,cs++bs,.cons kd ra,.cons (by dsimp only;rw [p2];exact rc) rb,by simpa using na,fun z=>(aao.mp z).elim nc nb⟩
end
theorem js (hg:X.A.guards=some []) (hu:X.A.units+64 < cLine):cW X (.builtin "repr") (fun xs H Q=>∃ x d,xs=[x]∧Dat H d x∧d.showable=true∧d.depth≤60∧d.shown.length≤sizeLine∧Q (.str d.shown) H):=by
  intro pins s σ H xs us Q I r h;obtain ⟨x,d,rfl,hd,hs,hdp,hl,q⟩:=h;obtain ⟨u,rfl,ru⟩:=dl r;have key:∀ a,u=.ref a→wpAny (model X.prog X.w) X.A (call (.builtin "repr") [u]) (EP X pins σ Q) X.xe s:=fun a e=>by
    subst e;obtain ⟨as,ra,na⟩:=Dat.reads I d x _ hd ru;refine repr_of_reads' ra hs (fun _=>na) hg (by lia) (fun _ _ e=>e) (fun h' u tk hk=>?_) hl;exact ⟨.str d.shown,H,I.kept hk,⟨u,rfl⟩,q⟩
  cases d with
  | none =>
    simp only [Dat] at hd;subst hd;cases ru;rw [PyData.shown_none] at q;exact PySem.P.repr_of_none ⟨.str "None",H,I.tok _,⟨_,rfl⟩,q⟩
  | bool b =>
    simp only [Dat] at hd;subst hd;cases ru;rw [PyData.shown_bool] at q;exact PySem.P.repr_of_bool ⟨.str _,H,I.tok _,⟨_,rfl⟩,q⟩
  | int i =>
    simp only [Dat] at hd;subst hd;obtain ⟨t,rfl⟩:=ru;rw [PyData.shown_int] at q;exact PySem.P.repr_of_int (by simpa [abq] using hs) ⟨.str _,H,I.tok _,⟨_,rfl⟩,q⟩
  | str z =>
    simp only [Dat] at hd;subst hd;obtain ⟨t,rfl⟩:=ru;rw [PyData.shown_str] at q hl;exact PySem.P.repr_of_str ⟨.str _,H,I.tok _,⟨_,rfl⟩,q⟩ hl
  | list ds =>
    have hd':=hd;simp only [Dat] at hd';obtain ⟨a,_,rfl,_⟩:=hd';exact key a ru
  | tuple ds =>
    have hd':=hd;simp only [Dat] at hd';obtain ⟨a,_,rfl,_⟩:=hd';exact key a ru
  | dict kvs =>
    have hd':=hd;simp only [Dat] at hd';obtain ⟨a,_,rfl,_⟩:=hd';exact key a ru
end
open PySem PySem.Spec PyProof.Rows
section
variable {X:Cx}
theorem nK {i:Int} (h:i.natAbs < 2 ^ 4000):Builtin.Int.intBits i≤2 ^ 20:=by
  have : Builtin.Int.intBits i≤4000:=by
    unfold Builtin.Int.intBits;by_cases c:i=0
    · simp [c]
    · rw [if_neg (by simpa using c)];have h4:i.natAbs≠0:=fun z=>c (Int.natAbs_eq_zero.mp z);exact (Nat.log2_lt h4).mpr h
  have e:(4000:Nat)≤2 ^ 20:=by decide
  lia
theorem m_:OpR X (binaryOp .Mult) (rI (fun i j=>i.natAbs < 2 ^ 4000∧j.natAbs < 2 ^ 4000) fun i j=>.int (i * j)):=opI fun _ _ _ _ _ _ _ hc q=>mul_int q (IntMulOk.of_bits (nK hc.1) (nK hc.2))
end
open PySem PySem.Spec PyProof.Rows
theorem Inv.turnedL {X:Cx} {pins:List (Addr × Obj)} {σ:St} {H:Hp} {s:Shared} {h':Heap} {t':Nat} {fp:List Addr} (I:Inv X pins σ H s) (k:∀ b o,b∉fp→s.heap.get? b=some o→h'.get? b=some o) (hf:∀ b∈fp,iT X pins H b):Inv X pins σ H { s with heap:=h',toks:=t' }:=by
  have nit:∀ b u,H b=some u→b∉fp:=fun b u e z=>by rw [(hf b z).1] at e;cases e
  refine I.step (g':=s.gens) (d':=s.drawn) (ch:=fp) (fun b hb=>⟨(hf b hb).2.2.2.1,(hf b hb).2.1,(hf b hb).2.2.2.2.1,(hf b hb).2.2.2.2.2⟩) (fun b o _ _ hc e _=>k b o hc e) (fun b o _ _ hc e _=>⟨o.slots,k b o hc e⟩) (fun _ _ _ _ n=>n)
    (fun b o hc e=>⟨o,k b o hc e⟩) (fun _ _ e=>e) (fun _ _ _ e=>e) (fun b ps e=>⟨#[],by rw [e];simp⟩) (fun m hm=>?_) (fun b u e=>?_) I.bare
  · obtain ⟨o,es,ep,ho,r⟩:=hm;exact ⟨o,es,ep,k _ o (fun z=>(hf _ z).2.1 rfl) ho,r⟩
  · refine (I.hok b u e).stay (fun c v hc q=>k c v ?_ q) (fun _ q=>q) fun _ _ q=>q;rcases hc with z|z
    · rw [z];exact nit b u e
    · exact nit c _ z
open PySem PySem.Spec PyProof.Rows
section
variable {prog:Program} {w:World} {κ:Type} [DecidableEq κ] {knd:HeapKind prog w κ} {A:Around} {E:Value→Shared→Prop} {s:Shared}
end
open PySem PySem.Spec PyProof.Rows
section
variable {prog:Program} {w:World} {κ:Type} [DecidableEq κ] {knd:HeapKind prog w κ} {A:Around} {E:Value→Shared→Prop} {s:Shared}
inductive HitsH (A:Around) (s:Shared) (kb:List (κ × Addr × Value)):List (κ × Addr × Value)→Bool→Prop
  | nil:HitsH A s kb [] true
  | miss {k:κ} {a:Addr} {v:Value} {r:List (κ × Addr × Value)}:atKey kb k=none→HitsH A s kb ((k,a,v) :: r) false
  | hit {k:κ} {a c:Addr} {v y:Value} {r:List (κ × Addr × Value)} {e b:Bool}:atKey kb k=some (c,y)→SeqAt.EqAt A s v y e→HitsH A s kb r b→HitsH A s kb ((k,a,v) :: r) (e && b)
end
open PySem PySem.Spec PyProof.Rows
inductive HitsV (K:aab) (H:Hp) (n:Nat) (kb:List (List Key × V)):List (List Key × V)→Bool→Prop
  | nil:HitsV K H n kb [] true
  | miss {k:List Key} {v:V} {r:List (List Key × V)}:dm kb k=none→HitsV K H n kb ((k,v) :: r) false
  | hit {k:List Key} {v y:V} {r:List (List Key × V)} {e b:Bool}:dm kb k=some y→EqR K H n v y e→HitsV K H n kb r b→HitsV K H n kb ((k,v) :: r) (e && b)
open PySem PySem.Spec PyProof.Rows
section
variable {prog:Program} {w:World} {κ:Type} [DecidableEq κ] {knd:HeapKind prog w κ} {A:Around} {E:Value→Shared→Prop}
variable {s:Shared}
end
open PySem PySem.Spec PyProof.Rows
theorem Inv.retype {X:Cx} {pins:List (Addr × Obj)} {σ:St} {H:Hp} {s:Shared} {a:Addr} {u u':HO} (I:Inv X pins σ H s) (e:H a=some u) (n1:∀ xs,u≠.tup xs) (n2:∀ ps,u≠.tbl ps) (n3:∀ y,u≠.own y) (hf:∀ o v,X.H₀ a≠some (.frz o v))
    (new:ObjOk X.prog X.w H s.heap a u'):Inv X pins σ (upd H a u') s:=by
  have nt:∀ c xs,H c=some (.tup xs)→c≠a:=fun c xs q z=>by rw [z,e] at q;injection q with q;exact n1 _ q
  have no:∀ c y,H c=some (.own y)→c≠a:=fun c y q z=>by rw [z,e] at q;injection q with q;exact n3 _ q
  have nn:∀ c,H c=none→c≠a:=fun c q z=>by rw [z,e] at q;cases q
  refine ⟨I.ok,I.os,I.bare,⟨I.base.keep,I.base.slot,fun b ob q n hx=>?_,I.base.there,fun b xs q=>?_,fun b ob xs q=>?_,fun b ps q=>?_⟩,I.loc,I.cell,?_,fun x c q=>?_,fun p hp=>?_,fun b v q=>?_,I.len⟩
  · have z:=I.base.free b ob q n hx;rw [aj (nn b z)];exact z
  · have z:=I.base.tups b xs q;rw [aj (nt b xs z)];exact z
  · have z:=I.base.frzs b ob xs q;have nb:b≠a:=fun y=>hf ob xs (by rw [← y];exact q);rw [aj nb];exact z
  · obtain ⟨m,z⟩:=I.base.tbls b ps q;have nb:b≠a:=fun y=>by rw [y,e] at z;injection z with z;exact n2 _ z
    exact ⟨m,by rw [aj nb];exact z⟩
  · rw [aj (nn _ I.free)];exact I.free
  · rw [aj (nn _ (I.freeC x c q))];exact I.freeC x c q
  · obtain ⟨h1,h2,h3⟩:=I.pin p hp;exact ⟨h1,by rw [aj (nn _ h2)];exact h2,h3⟩
  · by_cases hb:b=a
    · subst hb;rw [ad] at q;cases q;exact new.stay (fun c v _ q=>q) (fun c q=>by rw [aj (no c _ q)];exact q) fun c xs q=>by rw [aj (nt c xs q)];exact q
    · rw [aj hb] at q;exact (I.hok b v q).stay (fun c v _ q=>q) (fun c q=>by rw [aj (no c _ q)];exact q) fun c xs q=>by rw [aj (nt c xs q)];exact q
section
variable {prog:Program} {w:World} {A:Around} {E:Value→Shared→Prop} {s:Shared}
theorem qg {d:Addr} {o:Obj} {es:Array DictEntry} {ep:Nat} {Q:Value→Shared→Prop} (hd:(d == sysModules)=false) (ho:s.heap.get? d=some o) (hc:o.ExactDict) (hdat:o.data=.dict es ep)
    (hQ:Q (.ref s.heap.objs.size) { s with heap:=s.heap.push { cls:=.type "dict_keyiterator",data:=.fields #[.ref d,.int 0 0,.int es.size 0,.int ep 0] } }) :
    wpAny (model prog w) A (pyIter (.ref d)) Q E s:=by
  have hT:s.TypeIs (.ref d) "dict":=⟨o,ho,hc.1⟩
  refine wpAny_pyIter_slot hT F.slot_dict_iter (wpAny_call_entry F.slot_dict_iter hT F.entry_dict_iter ?_ (F.args_dict_iter_1 _));unfold Builtin.«dict.__iter__»;refine wpAny_bind ?_;unfold Builtin.Dict.dictSlotNone;refine wpAny_bind (wpAny_notOrdered_dict hT ?_);show wpAny _ _ (pure (Value.ref d)) _ _ s;refine wpAny_pure ?_;show wpAny _ _ (ab5 d >>= _) _ _ s;unfold ab5;rw [if_neg (by rw [hd];exact aah)];refine wpAny_bind (wpAny_pure ?_);refine wpAny_bind (wpAny_dictEntries ho hdat ?_);refine wpAny_bind (wpAny_dictEpoch ho hdat ?_);refine wpAny_bind (wpAny_newObj_type (wpAny_pure ⟨_,rfl,"dict_keyiterator",_,⟨_,aap _ rfl,rfl⟩,F.slot_dict_keyiterator_next.lookup,?_⟩));simpa [rawInt] using hQ
theorem pU {it d:Addr} {i n ep:Nat} {o:Obj} {es:Array DictEntry} {e:DictEntry} {Q:Option Value→Shared→Prop} (hit:s.heap.IsKeyIter it d i n ep) (hod:s.heap.get? d=some o) (hdd:o.data=.dict es ep) (hsz:es.size=n) (hx:es[i]?=some e)
    (hQ:∀ h',h'.IsKeyIter it d (i+1) n ep→abt it s.heap h'→Q (some e.key) { s with heap:=h' }) :
    wpAny (model prog w) A (pyNext (.ref it)) Q E s:=by
  obtain ⟨oi,ho,hc,hd⟩:=id hit;unfold pyNext;refine wpAny_bind (wpAny_attempt (wpAny_callSpecial?_slot (name:=abJ "__next__") hit.typeIs abG
    (wpAny_call_entry abG hit.typeIs F.entry_dict_keyiterator_next ?_ (F.args_dict_keyiterator_next_1 _))))
  refine wpAny_bind (wpAny_pure ?_);refine wpAny_bind ?_;refine wpAny_bind ?_
  first|refine wpAny_bind (wpAny_typeNameOfWhole_keyiter hit.typeIs (wpAny_pure ?_))|refine wpAny_bind (wpAny_typeNameOf_keyiter hit.typeIs (wpAny_pure ?_))
  refine wpAny_bind (wpAny_fieldsOf ho hd ?_);have hown:aaY "dict_keyiterator" = false:=by decide
  simp only [hown,aaU,if_false];show wpAny _ _ (if (Value.ref d == Value.none)=true then _ else _) _ _ s;rw [if_neg (show ¬ ((Value.ref d == Value.none)=true) from aah)];refine wpAny_bind (wpAny_pure ?_);refine wpAny_bind (wpAny_dictEntries hod hdd ?_);rw [if_neg (by rw [hsz];simp)];refine wpAny_bind (wpAny_pure ?_);refine wpAny_bind (wpAny_dictEpoch hod hdd ?_);rw [if_neg (by simp)];refine wpAny_pure ?_;simp only [show ¬ ((i:Int) < 0) from by lia,if_false,abK,hx];refine wpAny_bind ?_
  first|refine wpAny_bind (wpAny_typeNameOfWhole_keyiter hit.typeIs (wpAny_pure ?_))|refine wpAny_bind (wpAny_typeNameOf_keyiter hit.typeIs (wpAny_pure ?_))
  refine wpAny_bind (wpAny_isOneOf_keyiter hit.typeIs ?_);show wpAny _ _ (setField (.ref it) 1 (rawInt ((i:Int)+1)) >>= _) _ _ s;refine wpAny_bind (wpAny_setField ho hd (by simp) ?_);have hit':(s.heap.update it (Obj.mapFields (·.setIfInBounds 1 (rawInt ((i:Int)+1))))).IsKeyIter it d (i+1) n ep :=
    ⟨_,abC _ ho (Obj.isFreed_of_fields (Obj.data_mapFields hd _)),(Obj.cls_mapFields ..).trans hc,by rw [Obj.data_mapFields hd];simp [rawInt]⟩
  refine wpAny_bind (wpAny_holding ?_);refine wpAny_bind (wpAny_isOneOf_keyiter (s:={ s with heap:=s.heap.update it (Obj.mapFields (·.setIfInBounds 1 (rawInt ((i:Int)+1)))) }) hit'.typeIs ?_);show wpAny _ _ (pure e.key) _ _ _;exact wpAny_pure (wpAny_pure ⟨_,rfl,wpAny_pure (hQ _ hit' (aaX ..))⟩)
theorem pV {it d:Addr} {i n ep:Nat} {o:Obj} {es:Array DictEntry} {Q:Option Value→Shared→Prop} (hh:A.handled=none) (hit:s.heap.IsKeyIter it d i n ep) (hod:s.heap.get? d=some o) (hdd:o.data=.dict es ep) (hsz:es.size=n) (hge:es.size≤i)
    (hQ:∀ h',Heap.ExtBut it s.heap h'→Q none { s with heap:=h' }):wpAny (model prog w) A (pyNext (.ref it)) Q E s:=by
  obtain ⟨oi,ho,hc,hd⟩:=id hit;unfold pyNext;refine wpAny_bind (wpAny_attempt (wpAny_callSpecial?_slot (name:=abJ "__next__") hit.typeIs abG
    (wpAny_call_entry abG hit.typeIs F.entry_dict_keyiterator_next ?_ (F.args_dict_keyiterator_next_1 _))))
  refine wpAny_bind (wpAny_pure ?_);refine wpAny_bind ?_;refine wpAny_bind ?_
  first|refine wpAny_bind (wpAny_typeNameOfWhole_keyiter hit.typeIs (wpAny_pure ?_))|refine wpAny_bind (wpAny_typeNameOf_keyiter hit.typeIs (wpAny_pure ?_))
  refine wpAny_bind (wpAny_fieldsOf ho hd ?_);have hown:aaY "dict_keyiterator" = false:=by decide
  simp only [hown,aaU,if_false];show wpAny _ _ (if (Value.ref d == Value.none)=true then _ else _) _ _ s;rw [if_neg (show ¬ ((Value.ref d == Value.none)=true) from aah)];refine wpAny_bind (wpAny_pure ?_);refine wpAny_bind (wpAny_dictEntries hod hdd ?_);rw [if_neg (by rw [hsz];simp)];refine wpAny_bind (wpAny_pure ?_);refine wpAny_bind (wpAny_dictEpoch hod hdd ?_);rw [if_neg (by simp)];refine wpAny_pure ?_;simp only [show ¬ ((i:Int) < 0) from by lia,if_false,abK,ab2 hge];refine wpAny_bind ?_
  first|refine wpAny_bind (wpAny_typeNameOfWhole_keyiter hit.typeIs (wpAny_pure ?_))|refine wpAny_bind (wpAny_typeNameOf_keyiter hit.typeIs (wpAny_pure ?_))
  show wpAny _ _ (setField (.ref it) 0 .none >>= _) _ _ s;refine wpAny_bind (wpAny_setField ho hd (by simp) ?_);show wpAny _ _ (newExc (.type "StopIteration") [] >>= _) _ _ _;refine wpAny_bind ?_;simp only [newExc,newTuple];refine wpAny_bind (wpAny_newObj_type ?_ (by size_fits));refine wpAny_bind (m:=firstArgMember _ _) (wpAny_of_eq (a:=Value.none) (by first|rfl|(simp only [firstArgMember];rfl)) ?_);refine wpAny_newObj_type ?_ (by size_fits);simp only [raiseNew];refine wpAny_bind (wpAny_handled ?_);rw [show A.in1.handled=none from hh];refine wpAny_bind (wpAny_pure (wpAny_throw ?_));refine wpAny_bind (wpAny_isInstance (T:="StopIteration") (b:=true) ⟨_,aap _ rfl,rfl⟩ isSubtype_stop ?_);exact wpAny_pure (hQ _ (((aaX ..).extBut.push _).push _))
end
theorem Paired.nth {α β:Type} {R:α→β→Prop}:∀ {l:List α} {m:List β},Paired R l m→∀ (i:Nat) (x:α) (y:β),l[i]?=some x→m[i]?=some y→R x y
  | _,_,.nil,i,x,y,h,_=>by simp at h
  | _,_,.cons r t,0,x,y,h,h'=>by simp at h h';subst h h';exact r
  | _,_,.cons r t,i+1,x,y,h,h'=>Paired.nth t i x y (by simpa using h) (by simpa using h')
theorem qo {P:Program} {w:World} {H:Hp} {h:Heap} {d:Addr} {o:Obj} {es:Array DictEntry} {ep:Nat} {kvs:List (List Key × V)} (ok:HOk P w H h) (e:H d=some (.frz o (.dT kvs))) (hd:o.data=.dict es ep) :
    h.get? d=some o∧o.ExactDict∧(d == sysModules)=false∧es.size=kvs.length∧∃ xs,KT H kvs xs∧es.toList=xs.map (entryOfKey (tupleKind (aG P w))):=by
  obtain ⟨ho,z,hs,xs,rel,o2,es2,ep2,ho2,c,dat,l,nd⟩:=(show ObjOk P w H h d (.frz o (.dT kvs)) from ok d _ e)
  rw [ho] at ho2;cases ho2;rw [hd] at dat;cases dat;exact ⟨ho,c,hs,by rw [size_of_entries l,← aa9 rel],xs,rel,l⟩
end L2
namespace L2
open PySem PySem.Spec PyProof.Rows PySem.W
section
variable {prog:Program} {w:World} {A:Around} {E:Value→Shared→Prop} {s:Shared}
end
end L2
namespace L2
theorem u1 {a:Nat} (h:a+64 < PySem.cLine):a+1 < PySem.cLine:=by lia
open PySem PySem.Spec PyProof.Rows
section
variable {prog:Program} {w:World} {A:Around} {E:Value→Shared→Prop} {s:Shared}
end
open PySem PySem.Spec PyProof.Rows
open PySem PySem.Spec PyProof.Rows
def Its (z:Str):It :=
  ⟨fun i _=>i < z.cps.size,fun i H x H'=>H'=H∧∃ c,z.cps[i]?=some c∧x=.str ⟨#[c]⟩,fun i _=>z.cps.size≤i⟩
theorem oY {P:Program} {w:World} {K:aab} {tg:Expr} (it:Addr) (z:Str) (t:Tok):Turn P w K tg (Its z) [it] it (fun i h=>h.IsStrIter it "str_ascii_iterator" z t i) where
  mem:=by simp
  obj:=fun i h st b hb=>by
    have e:b=it:=by simpa using hb
    subst e;obtain ⟨o,e,c,d⟩:=st;exact ⟨o,e,fun v z=>by rw [d] at z;cases z⟩
  keep:=fun i h h' st k=>by
    obtain ⟨o,e,r⟩:=st;exact ⟨o,k it (by simp) o e,r⟩
  item:=by
    intro X hP hw hK hc i pins s σ H E I hf st hg;subst hP hw hK;have hg:i < z.cps.size:=hg;obtain ⟨f0,f1,f2,f3,f4,f5⟩:=hf it (by simp);have hx:z.cps[i]?=some z.cps[i]:=by simp [hg]
    refine wpAny_pyNext_ascii_item st (c:=z.cps[i]) hx fun h' st' sb=>?_;have I1:Inv X pins σ H { s with heap:=h',toks:=s.toks+1 }:=I.turned (t':=s.toks+1) (fun b o hb e=>(sb.2 b hb).trans e) f0 f1 f3 f4 f5;obtain ⟨o,e,c,d⟩:=id st';exact ⟨_,rfl,nz (s:={ s with heap:=h',toks:=s.toks+1 }) e c d (by decide) ⟨.str ⟨#[z.cps[i]]⟩,H,I1,⟨_,rfl⟩,⟨rfl,_,hx,rfl⟩,st',fun b hb=>(hf b hb).1⟩⟩
  done:=by
    intro X hP hw hK hc i pins s σ H E I hf st hg;subst hP hw hK;have hg:z.cps.size≤i:=hg;obtain ⟨f0,f1,f2,f3,f4,f5⟩:=hf it (by simp);exact wpAny_pyNext_ascii_end (I.ok.hd hc) st (by simp [hg]) fun h' eb=>⟨rfl,I.turned (t':=s.toks) (fun b o hb e=>eb b o hb e) f0 f1 f3 f4 f5⟩
  self:=fun _ _ _ _ _ st h=>wpAny_pyIter_striter_ascii st h
def uT (tl:TE):TI:=fun σ H R=>tl σ H fun x H1=>∃ z,x=.str z∧z.cps.all (· < 128)=true∧R (Its z) H1
theorem sx {X:Cx} {tg l:Expr} {tl:TE} (hl:PE X l tl):PI X tg l (uT tl):=by
  intro pins s σ H R I h;refine thn (hl pins s σ H _ I h) fun v s1 ⟨x,H1,I1,r1,q1⟩=>?_;obtain ⟨z,e,ha,q⟩:=q1;subst e;obtain ⟨t,rfl⟩:=r1;refine wpAny_pyIter_ascii ha ?_;refine ⟨s1.heap.objs.size,[s1.heap.objs.size],_,_,H1,rfl,I1.kept (t':=s1.toks) fun b o e=>aac _ e,oY _ z t,⟨_,aap _ rfl,rfl,rfl⟩,fun b hb=>?_,q⟩;have e:b=s1.heap.objs.size:=by simpa using hb
  subst e;exact I1.fpOk (aad _) (I1.hok.fresh (aad _))
end L2
namespace PySem
open Sem (wp)
namespace F
end F
section
variable {prog:Program} {w:World} {A:Around} {E:Value→Shared→Prop} {h:Heap} {g:Array GenState} {d:Drawn} {t:Nat} {os:OsState} {a:Addr} {vs:Array Value}
end
end PySem
namespace L2
open PySem PySem.Spec PyProof.Rows
section
variable {prog:Program} {w:World} {A:Around} {E:Value→Shared→Prop} {s:Shared}
end
open PySem PySem.Spec PyProof.Rows
theorem qG {X:Cx} (hc:X.calm=true):cW X (.builtin "all") (fun xs H Q=>∃ (p:Addr) (bs:List Bool),xs=[.ref p]∧SqL X.K H p (bs.map V.bl)∧Q (.bl (bs.all id)) H):=by
  intro pins s σ H xs us Q I r h;obtain ⟨p,bs,rfl,hq,q⟩:=h;obtain ⟨u,rfl,rx⟩:=dl r;cases rx;obtain ⟨its,r',pl,hz⟩:=I.list hq;have hlen:=r'.length;rw [aak] at hlen;have hps:p < s.heap.objs.size:=by obtain ⟨o,n,ho,_⟩:=pl;exact aag ho
  refine call_all_walk (wpAny_pyIter_list pl.isList ?_);refine ⟨s.heap.objs.size,_,_,_,_,_,fun i=>bs.getD i true,rfl,Walks.list (A:=X.A.in1) (I.ok.hd hc) s.heap.objs.size p (aas hps) its.toArray,⟨⟨_,aap _ rfl,rfl,rfl⟩,pl.isList.at fun o x=>aac _ x⟩,?_,?_⟩
  · intro i v s' Q' E' hP hQ';have hv:its.toArray[i]?=some v:=hP;have hv2:its[i]?=some v:=by simpa using hv
    have hi:i < bs.length:=by
      have:=(aai.mp hv2).1;lia
    have hb:(bs.map V.bl)[i]?=some (.bl bs[i]):=by rw [aaF,aaf hi];rfl
    obtain ⟨u,hu,ru⟩:=r'.get hb;rw [hv2] at hu;cases hu;cases ru;have e:bs.getD i true=bs[i]:=by rw [acb,aaf hi];rfl
    have hQ2:Q' (bs.getD i true) s':=hQ';rw [e] at hQ2;exact wpAny_pure hQ2
  · intro h' tk k;have I2:Inv X pins σ H { s with heap:=h',toks:=tk }:=by
      refine I.turnedL (fp:=[s.heap.objs.size]) (t':=tk) (fun b o hb x=>k b o (by simpa using hb) (aac _ x)) fun b hb=>?_;have e:b=s.heap.objs.size:=by simpa using hb
      subst e;exact I.fpOk (aad _) (I.hok.fresh (aad _))
    have e:(ab0 its.toArray.size).all (fun i=>bs.getD i true)=bs.all id:=by
      have e1:its.toArray.size=bs.length:=by simp;lia
      rw [e1];apply Bool.eq_iff_iff.mpr;rw [aa0,aa0];constructor
      · intro hh b hb;obtain ⟨i,hi,e⟩:=abz hb;have:=hh i (acy.mpr hi);rw [acb,aaf hi] at this;rw [← e];exact this
      · intro hh i hi;have hi:=List.mem_range.mp hi;rw [acb,aaf hi];exact hh _ (List.getElem_mem hi)
    rw [e];exact ⟨.bl (bs.all id),H,I2,rfl,q⟩
open PySem PySem.Spec PyProof.Rows
theorem lH {prog:Program} {w:World} {A:Around} (hh:A.handled=none) (I d:Addr) (hne:d≠I) (o:Obj) (es:Array DictEntry) (ep:Nat) (hdd:o.data=.dict es ep) :
    Walks prog w A I [I,d] [I] es.size (fun i v=>∃ e,es[i]?=some e∧v=e.key) (fun i h=>h.IsKeyIter I d i es.size ep∧h.get? d=some o) where
  sub:=fun b hb=>by simp at hb;simp [hb]
  frame:=fun _ _ _ st hk=>⟨by obtain ⟨o,e,r⟩:=st.1;exact ⟨o,hk I (by simp) o e,r⟩,hk d (by simp) o st.2⟩
  item:=fun i s Q E hi st hQ=>by
    have hx:es[i]?=some es[i]:=abO hi;refine pU st.1 st.2 hdd rfl hx fun h' hit' hs'=>?_;exact hQ _ h' s.toks ⟨_,hx,rfl⟩ ⟨hit',(hs'.2 d hne).trans st.2⟩ fun b o hb e=>hs'.extBut b o (fun h=>hb (by simp [h])) e
  done:=fun s Q E st hQ=>pV hh st.1 st.2 hdd rfl (aad _) fun h' he'=>hQ h' s.toks fun b o hb e=>he' b o (fun h=>hb (by simp [h])) e
  self:=fun _ _ _ _ st hQ=>wpAny_pyIter_keyiter st.1 hQ
theorem jg {prog:Program} {w:World} {d:Addr} {o:Obj} {es:Array DictEntry} {ep:Nat} (hs:(d == sysModules)=false) (hx:o.ExactDict) (hdd:o.data=.dict es ep):PySem.W.KdlSrc prog w "dict" d d es.size (fun i v=>∃ e,es[i]?=some e∧v=e.key) (fun h=>h.get? d=some o) where
  type:=fun _ hm=>⟨_,hm,hx.1⟩
  there:=fun _ hm=>⟨aag hm,aag hm⟩
  keep:=fun _ _ hm hk=>hk d (.inl rfl) o hm
  notList:=by decide
  notTuple:=by decide
  hint:=fun _ _ _ _ hm hq=>PySem.W.kdl_hint_dict ⟨_,hm,hx.1⟩ hq
  iter:=fun _ _ hh hm=>⟨_,_,(fun _ _ hq=>qg hs hm hx hdd hq),lH hh _ d (aas (aag hm)) o es ep hdd,⟨⟨_,aap _ rfl,rfl,rfl⟩,aac _ hm⟩⟩
open PySem PySem.Spec PyProof.Rows
theorem jX {elt tg iter tg2 iter2:Expr} {ifs ifs2:List Expr} {G:List Comprehension} {k:Nat} (hk:G[k]?=some ⟨tg,iter,ifs,0⟩) (hk2:G[k+1]?=some ⟨tg2,iter2,ifs2,0⟩) {scope:Scope} {pos:Pos} {it acc:Value} {env:Env} :
    compTurn (.ListComp elt G scope pos) k it acc env=(do
      standAt iter.pos
      match ← pyNext it with
      | none=>pure (.done .next)
      | some v =>
        letOwnedTupleGo tg it v
        assign tg env v
        let mut ok:=true
        for c in ifs do
          if ok then ok ← isTrue c env (eval c env)
        if ok then do
          let x ← eval iter2 env
          standAt iter2.pos
          let x ← foldedSetIterable iter2 env x
          let i ← holding [x] (pyIter x)
          let _ ← runOwn (.compStart (.ListComp elt G scope pos) (k+1) i acc env) env
          again (.compLoop (.ListComp elt G scope pos) k it acc env)
        else again (.compLoop (.ListComp elt G scope pos) k it acc env)):=by
  unfold compTurn;simp only [hk,hk2];rfl
theorem i9 {elt tg2 iter2:Expr} {ifs2:List Expr} {G:List Comprehension} {k:Nat} (hk:G[k]?=some ⟨tg2,iter2,ifs2,0⟩) (hk2:G[k+1]?=none) {scope:Scope} {pos:Pos} {it acc:Value} {env:Env} :
    compTurn (.ListComp elt G scope pos) k it acc env=(do
      standAt iter2.pos
      match ← pyNext it with
      | none=>pure (.done .next)
      | some v =>
        letOwnedTupleGo tg2 it v
        assign tg2 env v
        let mut ok:=true
        for c in ifs2 do
          if ok then ok ← isTrue c env (eval c env)
        if ok then
          (do let _ ← call (.builtin "list.append") [acc,← eval elt env])
        again (.compLoop (.ListComp elt G scope pos) k it acc env)):=by
  unfold compTurn;simp only [hk,hk2];rfl
theorem iO {prog:Program} {w:World} {A:Around} {R:Result→Shared→Prop} {s:Shared} {elt tg iter tg2 iter2:Expr} {ifs ifs2:List Expr} {G:List Comprehension} {k:Nat} (hk:G[k]?=some ⟨tg,iter,ifs,0⟩) (hk2:G[k+1]?=some ⟨tg2,iter2,ifs2,0⟩) {scope:Scope} {pos:Pos} {it acc:Value} {env:Env} (J:Nat→Shared→Prop) (hs2:∀ x,foldedSetIterable iter2 env x=pure x)
    (turn:∀ n s,J n s→wpAny (model prog w) A (pyNext it) (fun r s₁=>match r with
      | none=>R (.ok .next) s₁
      | some v=>wpAny (model prog w) A (letOwnedTupleGo tg it v) (fun _ s₁'=>wpAny (model prog w) A (assign tg env v) (fun _ s₂ =>
          wpAny (model prog w) A (forIn ifs true fun c r=>if r=true then do let ok ← isTrue c env (eval c env);pure (ForInStep.yield ok) else pure (ForInStep.yield r)) (fun ok s₃ =>
            if ok=true then wpAny (model prog w) A (eval iter2 env) (fun x s₄=>wpAny (model prog w) A (pyIter x) (fun it2 s₅ =>
              codeAny (model prog w) A (.compStart (.ListComp elt G scope pos) (k+1) it2 acc env) (fun r s₆=>match r with|.ok _=>∃ m,m < n∧J m s₆|.error _=>False) s₅) (fun _ _=>False) s₄) (fun _ _=>False) s₃
            else ∃ m,m < n∧J m s₃) (fun _ _=>False) s₂) (fun _ _=>False) s₁') (fun _ _=>False) s₁) (fun _ _=>False) s)
    (n:Nat) (h:J n s) :
    codeAny (model prog w) A (.compLoop (.ListComp elt G scope pos) k it acc env) R s:=by
  refine codeAny_loop rfl J (fun n s hI=>?_) n h;show wpAny _ A ((compTurn (.ListComp elt G scope pos) k it acc env).onRaise (fun x=>do noteFrame x env;theTreesLotGoes x)) _ _ s;refine wpAny_noted ?_;rw [jX hk hk2];refine wpAny_bind (wpAny_standAt (wpAny_bind (wpAny_mono (turn n s hI) (fun r s₁ h₁=>?_) fun _ _ h'=>h'.elim)));cases r with
  | none=>exact wpAny_pure h₁
  | some v =>
    refine wpAny_bind (wpAny_mono h₁ (fun _ s₁' h₁'=>?_) fun _ _ h'=>h'.elim);refine wpAny_bind (wpAny_mono h₁' (fun _ s₂ h₂=>wpAny_bind (wpAny_mono h₂ (fun ok s₃ h₃=>?_) fun _ _ h'=>h'.elim)) fun _ _ h'=>h'.elim);cases ok with
    | false=>exact wpAny_pure ⟨rfl,h₃⟩
    | true =>
      refine wpAny_bind (wpAny_mono h₃ (fun x s₄ h₄=>?_) fun _ _ h'=>h'.elim);refine wpAny_bind (wpAny_standAt (wpAny_bind (wpAny_of_eq (hs2 x) (wpAny_bind (wpAny_holding (wpAny_mono h₄ (fun it2 s₅ h₅=>?_) fun _ _ h'=>h'.elim))))));refine wpAny_bind (wpAny_runOwn (codeAny_mono h₅ fun r s₆ h₆=>?_));cases r with
      | ok f=>exact wpAny_pure ⟨rfl,h₆⟩
      | error e=>exact h₆.elim
theorem mH {prog:Program} {w:World} {A:Around} {R:Result→Shared→Prop} {s:Shared} {elt tg2 iter2:Expr} {ifs2:List Expr} {G:List Comprehension} {k:Nat} (hk:G[k]?=some ⟨tg2,iter2,ifs2,0⟩) (hk2:G[k+1]?=none) {scope:Scope} {pos:Pos} {it acc:Value} {env:Env} (J:Nat→Shared→Prop)
    (turn:∀ n s,J n s→wpAny (model prog w) A (pyNext it) (fun r s₁=>match r with
      | none=>R (.ok .next) s₁
      | some v=>wpAny (model prog w) A (letOwnedTupleGo tg2 it v) (fun _ s₁'=>wpAny (model prog w) A (assign tg2 env v) (fun _ s₂ =>
          wpAny (model prog w) A (forIn ifs2 true fun c r=>if r=true then do let ok ← isTrue c env (eval c env);pure (ForInStep.yield ok) else pure (ForInStep.yield r)) (fun ok s₃ =>
            if ok=true then wpAny (model prog w) A (eval elt env) (fun x s₄ =>
              wpAny (model prog w) A (call (.builtin "list.append") [acc,x]) (fun _ s₅=>∃ m,m < n∧J m s₅) (fun _ _=>False) s₄) (fun _ _=>False) s₃
            else ∃ m,m < n∧J m s₃) (fun _ _=>False) s₂) (fun _ _=>False) s₁') (fun _ _=>False) s₁) (fun _ _=>False) s)
    (n:Nat) (h:J n s) :
    codeAny (model prog w) A (.compLoop (.ListComp elt G scope pos) k it acc env) R s:=by
  refine codeAny_loop rfl J (fun n s hI=>?_) n h;show wpAny _ A ((compTurn (.ListComp elt G scope pos) k it acc env).onRaise (fun x=>do noteFrame x env;theTreesLotGoes x)) _ _ s;refine wpAny_noted ?_;rw [i9 hk hk2];refine wpAny_bind (wpAny_standAt (wpAny_bind (wpAny_mono (turn n s hI) (fun r s₁ h₁=>?_) fun _ _ h'=>h'.elim)));cases r with
  | none=>exact wpAny_pure h₁
  | some v =>
    refine wpAny_bind (wpAny_mono h₁ (fun _ s₁' h₁'=>?_) fun _ _ h'=>h'.elim);refine wpAny_bind (wpAny_mono h₁' (fun _ s₂ h₂=>wpAny_bind (wpAny_mono h₂ (fun ok s₃ h₃=>?_) fun _ _ h'=>h'.elim)) fun _ _ h'=>h'.elim);cases ok with
    | false=>exact wpAny_pure ⟨rfl,h₃⟩
    | true =>
      exact wpAny_bind (wpAny_bind (wpAny_mono h₃ (fun x s₄ h₄=>wpAny_bind (wpAny_mono h₄ (fun _ s₅ h₅=>wpAny_pure (wpAny_pure ⟨rfl,h₅⟩)) fun _ _ h'=>h'.elim)) fun _ _ h'=>h'.elim))
theorem iN {prog:Program} {w:World} {A:Around} {R:Result→Shared→Prop} {s:Shared} {elt tg2 iter2:Expr} {ifs2:List Expr} {G:List Comprehension} {k:Nat} (hk:G[k]?=some ⟨tg2,iter2,ifs2,0⟩) {scope:Scope} {pos:Pos} {it acc:Value} {env:Env}
    (h0:codeAny (model prog w) A (.compLoop (.ListComp elt G scope pos) k it acc env) R s)
    (h:wpAny (model prog w) A (pyIter it) (fun it' s'=>codeAny (model prog w) A (.compLoop (.ListComp elt G scope pos) k it' acc env) R s')
      (notedBy (model prog w) A env fun x s'=>R (.error x) s') s) :
    codeAny (model prog w) A (.compStart (.ListComp elt G scope pos) k it acc env) R s:=by
  refine codeAny_of_tree ?_;show wpAny _ _ ((compStart (.ListComp elt G scope pos) k it acc env).onRaise (fun x=>do noteFrame x env;standAt theWindowsPlace)) _ _ s;refine wpAny_notedAt ?_;unfold compStart;rw [show (clausesOf (.ListComp elt G scope pos))[k]?=some ⟨tg2,iter2,ifs2,0⟩ from hk];show wpAny _ _ (ask >>= _) _ _ s;refine wpAny_bind (wpAny_askSetting (wpAny_ite ?_));split
  · first
      | exact wpAny_bind (wpAny_pure (wpAny_pure (And.intro rfl h0)))
      | exact wpAny_pure (And.intro rfl h0)
  · first
      | exact wpAny_bind (wpAny_rule (wpAny_bind (wpAny_standAt (wpAny_bind (wpAny_mono h (fun it' s' h'=>wpAny_pure (And.intro rfl h')) fun _ _ x=>x)))))
      | (refine wpAny_bind (wpAny_rule ?_);show wpAny _ _ (standAt iter2.pos >>= _) _ _ s;exact wpAny_bind (wpAny_standAt (wpAny_bind (wpAny_mono h (fun it' s' h'=>wpAny_pure (And.intro rfl h')) fun _ _ x=>x))))
structure PCl (Y:Cx) (c:Comprehension) (r:TI × TG × TT):Prop where
  as:c.is_async=0
  it:PI Y c.target c.iter r.1
  tg:PG Y c.target r.2.1
  fs:mI Y c.ifs r.2.2
  st:∀ E x,foldedSetIterable c.iter E x=pure x
abbrev qJ (g2:TG) (tt2:TT) (te:TE) (ys:List V) (σ2:St) (Fin:List V→St→Hp→Prop) (J2:It) (H4:Hp):Prop:=∃ W2:Nat→Nat→List V→St→Hp→Prop,(∃ m,W2 0 m ys σ2 H4)∧∀ i m ys σ H,W2 i m ys σ H →
  (J2.stop i H∧Fin ys σ H) ∨
  (J2.go i H∧ys.length < sizeLine∧∀ x H',J2.yld i H x H'→g2 x σ H' fun σ3 H5=>tt2 σ3 H5 fun b H6=>if b=true then te σ3 H6 fun v H7=>∃ m',m' < m∧W2 (i+1) m' (ys++[v]) σ3 H7 else ∃ m',m' < m∧W2 (i+1) m' ys σ3 H6)
abbrev LcT:List (TI × TG × TT)→TG→TT→TE→List V→St→(List V→St→Hp→Prop)→It→Hp→Prop
  | [],g,tt,te,ys,σ,Fn,J,H=>qJ g tt te ys σ Fn J H
  | r :: rs,g,tt,te,ys,σ2,Fn,J2,H4=>∃ W2:Nat→Nat→List V→St→Hp→Prop,(∃ m,W2 0 m ys σ2 H4)∧∀ i m ys σ H,W2 i m ys σ H →
    (J2.stop i H∧Fn ys σ H) ∨
    (J2.go i H∧∀ x H',J2.yld i H x H'→g x σ H' fun σ3 H5=>tt σ3 H5 fun b H6=>if b=true then r.1 σ3 H6 (LcT rs r.2.1 r.2.2 te ys σ3 fun ys' σ' H7=>∃ m',m' < m∧W2 (i+1) m' ys' σ' H7) else ∃ m',m' < m∧W2 (i+1) m' ys σ3 H6)
abbrev Lp (D:Addr) (its:List Value) (k:Nat):Addr × Obj:=(D,{ cls:=.type "list",data:=.seq its.toArray k })
def tL (Y:Cx) (D:Addr) (P:List (Addr × Obj)) (Fin:List V→St→Hp→Prop) (s:Shared):Prop:=∃ ys its k σ H,Inv Y (Lp D its k :: P) σ H s∧Vals ys its∧ys.length≤sizeLine∧Fin ys σ H
theorem qj {Y:Cx} (hc:Y.calm=true) (hxe:Y.xe=fun _ _=>False) {D:Addr} (hDx:D∈Y.ex∨Y.s₀.heap.objs.size≤D) (hDc:∀ x c,Y.env.cells.lookup x=some c→c≠D) (hDp:∀ p∈Y.pn,p.1≠D)
    {elt:Expr} {te:TE} {G:List Comprehension} {scope:Scope} {pos:Pos} (hbe:PE Y elt te) :
    ∀ (rs:List (TI × TG × TT)) (c:Comprehension) (r:TI × TG × TT) (k:Nat),G[k]?=some c→PCl Y c r→Paired (PCl Y) (G.drop (k+1)) rs →
    ∀ (P:List (Addr × Obj)),(∀ p∈P,p.1≠D)→∀ {σ:St} {H:Hp} {s:Shared} {ys:List V} {its:List Value} {kk:Nat} {Fin:List V→St→Hp→Prop},Inv Y (Lp D its kk :: P) σ H s→Vals ys its→ys.length≤sizeLine →
      r.1 σ H (LcT rs r.2.1 r.2.2 te ys σ Fin) →
      wpAny (model Y.prog Y.w) Y.A (eval c.iter Y.env) (fun x s₄=>wpAny (model Y.prog Y.w) Y.A (pyIter x) (fun it2 s₅ =>
        codeAny (model Y.prog Y.w) Y.A (.compStart (.ListComp elt G scope pos) k it2 (.ref D) Y.env) (fun r s₆=>match r with|.ok _=>tL Y D P Fin s₆|.error _=>False) s₅) (fun _ _=>False) s₄) (fun _ _=>False) s:=by
  intro rs;have xe:∀ e s,Y.xe e s→False:=fun e s z=>by rw [hxe] at z;exact z
  induction rs with
  | nil =>
    intro c r k hk hcl hG P hP σ H s ys its kk Fin I rv hz h;have hk2:G[k+1]?=none:=by
      have l:=aa9 hG;rw [abl] at l;exact abN (by simp at l;lia)
    obtain ⟨tg,iter,ifs,as⟩:=c;have as0:as=0:=hcl.as;subst as0;refine wpAny_mono (hcl.it _ s σ H _ I h) (fun v s1 h1=>wpAny_mono h1 (fun itv s2 h2=>?_) fun e s z=>(xe e s z).elim) fun e s z=>(xe e s z).elim;obtain ⟨it,fp,tn,J,H2,e,I2,T,st2,f2,W,⟨m0,w0⟩,turn⟩:=h2;subst e;have neD:∀ b∈fp,D≠b:=fun b hb=>(f2 b hb).2.2.2.2.2 (Lp D its kk) (aaa _ aaH);have fpYs:∀ {H':Hp} {n:Nat} {its':List Value},(∀ b∈fp,H' b=none)→∀ b∈fp,iT Y (Lp D its' n :: P) H' b:=fun {H' n its'} hn b hb=>by
      refine ⟨hn b hb,(f2 b hb).2.1,(f2 b hb).2.2.1,(f2 b hb).2.2.2.1,(f2 b hb).2.2.2.2.1,fun p hp=>?_⟩;rcases aao.mp hp with z|z
      · exact (f2 b hb).2.2.2.2.2 p (aaC _ z)
      · rcases aay.mp z with z|z
        · rw [z];exact neD b hb
        · exact (f2 b hb).2.2.2.2.2 p (aaa _ (aaw _ z))
    have loop:codeAny (model Y.prog Y.w) Y.A (.compLoop (.ListComp elt G scope pos) k (.ref it) (.ref D) Y.env) (fun r s₆=>match r with|.ok _=>tL Y D P Fin s₆|.error _=>False) s2:=by
      refine mH hk hk2 (fun n s'=>∃ i ys its k σ H',Inv Y (Lp D its k :: P) σ H' s'∧Vals ys its∧ys.length≤sizeLine∧tn i s'.heap∧(∀ b∈fp,H' b=none)∧W i n ys σ H') ?_ m0 ⟨0,ys,its,kk,σ,H2,I2,rv,hz,st2,fun b hb=>(f2 b hb).1,w0⟩;rintro n s3 ⟨i,ys3,its3,k3,σ3,H3,I3,rv3,hz3,st3,fr3,w3⟩;rcases turn i n ys3 σ3 H3 w3 with ⟨stop,qn⟩|⟨go,hlt,step⟩
      · refine wpAny_mono (T.done Y rfl rfl rfl hc i _ s3 _ H3 (fun _ _=>False) I3 (fpYs fr3) st3 stop) (fun r s4 ⟨hr,I4⟩=>?_) fun _ _ z=>z;subst hr;exact ⟨ys3,its3,k3,σ3,H3,I4,rv3,hz3,qn⟩
      · refine wpAny_mono (T.item Y rfl rfl rfl hc i _ s3 _ H3 (fun _ _=>False) I3 (fpYs fr3) st3 go) (fun r s4 ⟨u,hr,h4⟩=>?_) fun _ _ z=>z;subst hr;refine wpAny_mono h4 (fun _ s5 ⟨x,H5,I5,r5,y5,st5,fr5⟩=>?_) fun _ _ z=>z;have I5':=I5.pinned (fpYs fr5) (T.obj _ _ st5);refine wpAny_mono (hcl.tg _ s5 _ H5 x u _ I5' r5 (step x H5 y5)) (fun _ s6 ⟨σ6,H6,I6,q6⟩=>?_) fun e s z=>(xe e s z).elim;refine wpAny_mono (hcl.fs _ s6 σ6 H6 _ I6 q6) (fun ok s7 ⟨H7,I7,q7⟩=>?_) fun e s z=>(xe e s z).elim;have again:∀ {ys':List V} {its':List Value} {k':Nat} {σ':St} {H':Hp} {s':Shared},Inv Y (Lp D its' k' :: (P++bu fp s5.heap)) σ' H' s'→Vals ys' its'→ys'.length≤sizeLine→(∃ m',m' < n∧W (i+1) m' ys' σ' H') →
            ∃ m,m < n∧∃ i ys its k σ H',Inv Y (Lp D its k :: P) σ H' s'∧Vals ys its∧ys.length≤sizeLine∧tn i s'.heap∧(∀ b∈fp,H' b=none)∧W i m ys σ H':=fun {ys' its' k' σ' H' s'} Z rv' hz' hw=>by
          obtain ⟨m',hm,w'⟩:=hw;have pn:∀ {b:Addr} {o:Obj},b∈fp→s5.heap.get? b=some o→_:=fun {b o} hb e=>Z.pin (b,o) (aaa _ (aaw _ (aaa _ (bW hb e))));refine ⟨m',hm,i+1,ys',its',k',σ',H',Inv.unpinned (pl:=bu fp s5.heap) Z,rv',hz',T.keep _ _ _ st5 fun b hb o e=>(pn hb e).1,fun b hb=>?_,w'⟩;obtain ⟨o,e,d⟩:=T.obj _ _ st5 b hb;exact (pn hb e).2.1
        cases ok with
        | false =>
          rw [if_neg aah] at q7 ⊢;exact again I7 rv3 hz3 q7
        | true =>
          rw [if_pos rfl] at q7 ⊢;refine wpAny_mono (hbe _ s7 σ6 H7 _ I7 q7) (fun xv s15 ⟨v,H15,I15,r15,q15⟩=>?_) fun e s z=>(xe e s z).elim;have pD:=I15.pin (Lp D its3 k3) (aaa _ aaH);have hlen:=rv3.length;refine append_at pD.1 (fun h16 hs16 hD16=>?_) (by rw [aal];lia);have I16:Inv Y (P++bu fp s5.heap) σ6 H15 s15:=I15.pins_of fun p hp=>I15.pin p (aaa _ (aaw _ hp));have I17:Inv Y (P++bu fp s5.heap) σ6 H15 { s15 with heap:=h16 }:=I16.turned (t':=s15.toks) (it:=D) (fun b o hb e=>hs16.extBut b o hb e) pD.2.1 pD.2.2.1 hDx hDc fun p hp=>by
            rcases aao.mp hp with z|z
            · exact hDp p z
            · rcases aao.mp z with z|z
              · exact hP p z
              · exact aa3 (neD _ (dQ z).1)
          have I18:Inv Y (Lp D (its3++[xv]) (k3+1) :: (P++bu fp s5.heap)) σ6 H15 { s15 with heap:=h16 }:=I17.pins_of fun p hp=>by
            rcases aay.mp hp with z|z
            · rw [z];refine ⟨?_,pD.2.1,pD.2.2.1,pD.2.2.2.1,fun v z=>by cases z⟩;rw [List.push_toArray] at hD16;exact hD16
            · exact I17.pin p (aaa _ z)
          exact again I18 (rv3.append (.cons r15 .nil)) (by rw [aax,acA];exact hlt) q15
    exact iN hk loop (T.self _ 0 _ _ _ st2 loop)
  | cons r2 rs ih =>
    intro c r k hk hcl hG P hP σ H s ys its kk Fin I rv hz h;obtain ⟨c2,hk2,hcl2,hG2⟩:∃ c2,G[k+1]?=some c2∧PCl Y c2 r2∧Paired (PCl Y) (G.drop (k+1+1)) rs:=by
      cases e:G.drop (k+1) with
      | nil=>rw [e] at hG;cases hG
      | cons c2 l =>
        rw [e] at hG;have e1:G[k+1]?=some c2:=by
          have:=congrArg (·[0]?) e;simpa using this
        have e2:G.drop (k+1+1)=l:=by rw [← ace,e];rfl
        cases hG with
        | cons a b=>exact ⟨c2,e1,a,by rw [e2];exact b⟩
    obtain ⟨tg,iter,ifs,as⟩:=c;have as0:as=0:=hcl.as;subst as0;obtain ⟨tg2,iter2,ifs2,as2⟩:=c2;have as20:as2=0:=hcl2.as;subst as20;refine wpAny_mono (hcl.it _ s σ H _ I h) (fun v s1 h1=>wpAny_mono h1 (fun itv s2 h2=>?_) fun e s z=>(xe e s z).elim) fun e s z=>(xe e s z).elim;obtain ⟨it,fp,tn,J,H2,e,I2,T,st2,f2,W,⟨m0,w0⟩,turn⟩:=h2;subst e;have neD:∀ b∈fp,D≠b:=fun b hb=>(f2 b hb).2.2.2.2.2 (Lp D its kk) (aaa _ aaH);have fpYs:∀ {H':Hp} {n:Nat} {its':List Value},(∀ b∈fp,H' b=none)→∀ b∈fp,iT Y (Lp D its' n :: P) H' b:=fun {H' n its'} hn b hb=>by
      refine ⟨hn b hb,(f2 b hb).2.1,(f2 b hb).2.2.1,(f2 b hb).2.2.2.1,(f2 b hb).2.2.2.2.1,fun p hp=>?_⟩;rcases aao.mp hp with z|z
      · exact (f2 b hb).2.2.2.2.2 p (aaC _ z)
      · rcases aay.mp z with z|z
        · rw [z];exact neD b hb
        · exact (f2 b hb).2.2.2.2.2 p (aaa _ (aaw _ z))
    have loop:codeAny (model Y.prog Y.w) Y.A (.compLoop (.ListComp elt G scope pos) k (.ref it) (.ref D) Y.env) (fun r s₆=>match r with|.ok _=>tL Y D P Fin s₆|.error _=>False) s2:=by
      refine iO hk hk2 (fun n s'=>∃ i ys its k σ H',Inv Y (Lp D its k :: P) σ H' s'∧Vals ys its∧ys.length≤sizeLine∧tn i s'.heap∧(∀ b∈fp,H' b=none)∧W i n ys σ H') (hcl2.st _) ?_ m0 ⟨0,ys,its,kk,σ,H2,I2,rv,hz,st2,fun b hb=>(f2 b hb).1,w0⟩;rintro n s3 ⟨i,ys3,its3,k3,σ3,H3,I3,rv3,hz3,st3,fr3,w3⟩;rcases turn i n ys3 σ3 H3 w3 with ⟨stop,qn⟩|⟨go,step⟩
      · refine wpAny_mono (T.done Y rfl rfl rfl hc i _ s3 _ H3 (fun _ _=>False) I3 (fpYs fr3) st3 stop) (fun r s4 ⟨hr,I4⟩=>?_) fun _ _ z=>z;subst hr;exact ⟨ys3,its3,k3,σ3,H3,I4,rv3,hz3,qn⟩
      · refine wpAny_mono (T.item Y rfl rfl rfl hc i _ s3 _ H3 (fun _ _=>False) I3 (fpYs fr3) st3 go) (fun r s4 ⟨u,hr,h4⟩=>?_) fun _ _ z=>z;subst hr;refine wpAny_mono h4 (fun _ s5 ⟨x,H5,I5,r5,y5,st5,fr5⟩=>?_) fun _ _ z=>z;have I5':=I5.pinned (fpYs fr5) (T.obj _ _ st5);refine wpAny_mono (hcl.tg _ s5 _ H5 x u _ I5' r5 (step x H5 y5)) (fun _ s6 ⟨σ6,H6,I6,q6⟩=>?_) fun e s z=>(xe e s z).elim;refine wpAny_mono (hcl.fs _ s6 σ6 H6 _ I6 q6) (fun ok s7 ⟨H7,I7,q7⟩=>?_) fun e s z=>(xe e s z).elim;have again:∀ {ys':List V} {its':List Value} {k':Nat} {σ':St} {H':Hp} {s':Shared},Inv Y (Lp D its' k' :: (P++bu fp s5.heap)) σ' H' s'→Vals ys' its'→ys'.length≤sizeLine→(∃ m',m' < n∧W (i+1) m' ys' σ' H') →
            ∃ m,m < n∧∃ i ys its k σ H',Inv Y (Lp D its k :: P) σ H' s'∧Vals ys its∧ys.length≤sizeLine∧tn i s'.heap∧(∀ b∈fp,H' b=none)∧W i m ys σ H':=fun {ys' its' k' σ' H' s'} Z rv' hz' hw=>by
          obtain ⟨m',hm,w'⟩:=hw;have pn:∀ {b:Addr} {o:Obj},b∈fp→s5.heap.get? b=some o→_:=fun {b o} hb e=>Z.pin (b,o) (aaa _ (aaw _ (aaa _ (bW hb e))));refine ⟨m',hm,i+1,ys',its',k',σ',H',Inv.unpinned (pl:=bu fp s5.heap) Z,rv',hz',T.keep _ _ _ st5 fun b hb o e=>(pn hb e).1,fun b hb=>?_,w'⟩;obtain ⟨o,e,d⟩:=T.obj _ _ st5 b hb;exact (pn hb e).2.1
        cases ok with
        | false =>
          rw [if_neg aah] at q7 ⊢;exact again I7 rv3 hz3 q7
        | true =>
          rw [if_pos rfl] at q7 ⊢;refine wpAny_mono (ih ⟨tg2,iter2,ifs2,0⟩ r2 (k+1) hk2 hcl2 hG2 (P++bu fp s5.heap) (fun p hp=>?_) I7 rv3 hz3 q7) (fun x s8 h8=>wpAny_mono h8 (fun it2 s9 h9=>codeAny_mono h9 fun r s10 h10=>?_) fun _ _ z=>z) fun _ _ z=>z
          · rcases aao.mp hp with z|z
            · exact hP p z
            · exact aa3 (neD _ (dQ z).1)
          · cases r with
            | error e=>exact h10.elim
            | ok f =>
              obtain ⟨ys',its',k',σ',H',Z,rv',hz',w'⟩:=h10;exact again Z rv' hz' w'
    exact iN hk loop (T.self _ 0 _ _ _ st2 loop)
abbrev rS (cap:List (Option Nat)) (g:TG) (tt:TT) (r2:TI × TG × TT) (rs:List (TI × TG × TT)) (te:TE) (σ:St) (Q:VK) (J:It) (H1:Hp):Prop:=∃ W:Nat→Nat→List V→Hp→Prop,(∃ m,W 0 m [] H1)∧∀ i m ys H,W i m ys H →
  (J.stop i H∧∀ p,H p=none→Q (.ref p) (upd H p (.lst ys))) ∨
  (J.go i H∧∀ x H',J.yld i H x H'→g x (bS cap σ) H' fun σ2 H2=>tt σ2 H2 fun b H3=>if b=true then r2.1 σ2 H3 (LcT rs r2.2.1 r2.2.2 te ys σ2 fun ys' _ H4=>∃ m',m' < m∧W (i+1) m' ys' H4) else ∃ m',m' < m∧W (i+1) m' ys H3)
def uE (cap:List (Option Nat)) (wi:TI) (g:TG) (tt:TT) (r2:TI × TG × TT) (rs:List (TI × TG × TT)) (te:TE):TE:=fun σ H Q=>wi σ H (rS cap g tt r2 rs te σ Q)
section
variable {X:Cx}
theorem sC {elt tg iter:Expr} {ifs:List Expr} {G:List Comprehension} {r2:TI × TG × TT} {rs:List (TI × TG × TT)} {scope:Scope} {pos:Pos} {cl:List (Str × Addr)} {NY:List Str} {cap:List (Option Nat)} {wi:TI} {g:TG} {tt:TT} {te:TE} (hc:X.calm=true) (hi:PI X tg iter wi)
    (hclos:closureFor scope X.env=pure cl) (hci:CellsIn X.env cl) (hcap:CapOk X.env (relabel scope X.env) X.N NY cap)
    (hb:∀ fp s H C,PG (ar X scope cl NY fp s H C) tg g∧mI (ar X scope cl NY fp s H C) ifs tt∧Paired (PCl (ar X scope cl NY fp s H C)) G (r2 :: rs)∧PE (ar X scope cl NY fp s H C) elt te)
    (hkind:scope.kind=.function:=by rfl) (hnc:(scope.names.all fun y=>y.2 != .cell)=true:=by rfl)
    (hnames:(scope.names.all fun y=>y.2 != .local || scope.names.lookup y.1 == some .local)=true:=by rfl)
    (hhas:((relabel scope X.env).names.all fun p=>(p.2 != .cell && p.2 != .free) || (cl.lookup p.1).isSome)=true:=by rfl)
    (hs:∀ x,foldedSetIterable iter X.env x=pure x:=by intro _;rfl) :
    PE X (.ListComp elt (⟨tg,iter,ifs,0⟩ :: G) scope pos) (uE cap wi g tt r2 rs te):=by
  have hnc':∀ y∈scope.names,y.2≠.cell:=fun y hy=>by
    have q:=aa0.mp hnc y hy;simpa using q
  have hnames':∀ y∈scope.names,y.2=.local→scope.names.lookup y.1=some .local:=fun y hy e=>by
    have q:=aa0.mp hnames y hy;rw [e] at q;simpa using q
  intro pins s σ H Q I h;rw [eval_ListComp];refine wpAny_comprehension_free (use:=none) rfl hs hclos hkind hnames' (wpAny_mono (hi pins s σ H _ I h) (fun v s1 h1=>wpAny_mono h1 (fun itv s2 h2=>?_) fun _ _ e=>e) fun _ _ e=>e);obtain ⟨it,fp,tn,J,H2,e,I2,T,st2,f2,W,⟨m0,w0⟩,turn⟩:=h2;subst e;refine wpAny_newObj_type (wpAny_newFunctionEnv hnc' (by intro y hy;simp at hy) (fun h₁ hns₁ hsb₁=>?_) hkind);dsimp only at hns₁ hsb₁ ⊢;generalize hH2:s2.heap.push { cls:=.type "list",dict:=none,data:=.seq ([]:List Value).toArray }=G2 at hns₁ hsb₁ ⊢;have hC:G2.objs.size=s2.heap.objs.size+1:=by rw [← hH2,acd]
  have hDC:s2.heap.objs.size≠G2.objs.size:=by rw [hC];exact aas (acE _)
  have hDlt:s2.heap.objs.size≤G2.objs.size:=by rw [hC];exact acx _
  have below:∀ b,b < s2.heap.objs.size→b≠G2.objs.size∧b≠s2.heap.objs.size:=fun b hb=>⟨by rw [hC];exact aas (abL hb),aas hb⟩
  have old:∀ b o,s2.heap.get? b=some o→h₁.get? b=some o:=fun b o e=>hsb₁.extBut b o (below b (aag e)).1 (aac _ (hH2 ▸ aac _ e));have hacc:h₁.get? s2.heap.objs.size=some { cls:=.type "list",data:=.seq ([]:List Value).toArray 0 }:=hsb₁.extBut _ _ hDC (aac _ (hH2 ▸ aap _ rfl));have fpl:∀ b∈fp,b < s2.heap.objs.size:=fun b hb=>by
    obtain ⟨o,e,_⟩:=T.obj _ _ st2 b hb;exact aag e
  have freshD:H2 s2.heap.objs.size=none:=I2.hok.fresh (aad _);have freshC:H2 G2.objs.size=none:=I2.hok.fresh hDlt;have cellLt:∀ x c,X.env.cells.lookup x=some c→c < s2.heap.objs.size:=fun x c e=>by
    obtain ⟨v,q⟩:=I2.cell x c e;exact q.lt
  have hclX:∀ x c,cl.lookup x=some c→X.env.cells.lookup x=some c:=fun x c e=>hci.get e;obtain ⟨hbg,hbt,hbG,hbe⟩:=hb fp s2 H2 G2.objs.size;obtain ⟨c2,G',eG,hcl2,hG'⟩:∃ c2 G',G=c2 :: G'∧PCl (ar X scope cl NY fp s2 H2 G2.objs.size) c2 r2∧Paired (PCl (ar X scope cl NY fp s2 H2 G2.objs.size)) G' rs:=by
    cases hbG with
    | cons a b=>exact ⟨_,_,rfl,a,b⟩
  obtain ⟨tg2,iter2,ifs2,as2⟩:=c2;have as20:as2=0:=hcl2.as;subst as20;have okY:(ar X scope cl NY fp s2 H2 G2.objs.size).Ok:=by
    refine ⟨I2.ok.mod,hkind,I2.ok.glob,I2.ok.blt,hDlt,fun x y c e1 e2=>I2.ok.inj x y c (hclX x c e1) (hclX y c e2),fun x hx=>?_,fun x c hf _=>?_,I2.ok.hd,I2.ok.frames,.inl rfl,fun b hb=>⟨(below b (fpl b hb)).1,fun x c e z=>?_⟩,I2.bs,
      aaL I2.ok.bsz I2.sz,fun b o e hb=>?_,fun b hb hz=>?_,I2.stack,I2.stkFree⟩
    · have hx':(relabel scope X.env).names.lookup x=some .cell∨(relabel scope X.env).names.lookup x=some .free:=hx;have key:∀ k,(relabel scope X.env).names.lookup x=some k→(k=.cell∨k=.free)→∃ c,cl.lookup x=some c:=fun k e hk=>by
        have q:=aa0.mp hhas (x,k) (abo e);have q':(cl.lookup x).isSome=true:=by
          rcases hk with rfl|rfl <;> simpa using q
        exact acm.mp q'
      rcases hx' with e|e
      · exact key _ e (.inl rfl)
      · exact key _ e (.inr rfl)
    · exact absurd (show false=true from hf) aah
    · exact (f2 b hb).2.2.2.2.1 x c (hclX x c e) z
    · rcases (f2 b hb).2.2.2.1 with z|z
      · exact I2.ok.noex b o e z
      · exact absurd (aaq (aag (I2.ok.bs b o e).1) z) (abm _)
    · rcases aay.mp (I2.stkSub b hz) with z|z
      · exact (f2 b hb).2.1 z
      · exact (f2 b hb).2.2.1 z
  have fpYs:∀ {H':Hp} {n:Nat} {its:List Value},(∀ b∈fp,H' b=none)→∀ b∈fp,iT (ar X scope cl NY fp s2 H2 G2.objs.size) [(s2.heap.objs.size,{ cls:=.type "list",data:=.seq its.toArray n })] H' b:=fun {H' n its} hn b hb=>by
    refine ⟨hn b hb,(below b (fpl b hb)).1,fun hz=>?_,.inl hb,fun x c e=>(f2 b hb).2.2.2.2.1 x c (hclX x c e),fun p hp=>?_⟩
    · rcases aay.mp (I2.stkSub b hz) with z|z
      · exact (f2 b hb).2.1 z
      · exact (f2 b hb).2.2.1 z
    · have e:p=(s2.heap.objs.size,{ cls:=.type "list",data:=.seq its.toArray n }):=by simpa [ar] using hp
      rw [e];exact aa3 (below b (fpl b hb)).2
  have nostk:∀ b,s2.heap.objs.size≤b→b∉frs X.stack:=fun b hb hz=>by
    rcases aay.mp (I2.stkSub b hz) with z|z
    · have:=I2.lt;rw [← z] at this;exact absurd (aaq this hb) (abm _)
    · exact I2.nofs hb z
  have IY0:Inv (ar X scope cl NY fp s2 H2 G2.objs.size) [(s2.heap.objs.size,{ cls:=.type "list",data:=.seq ([]:List Value).toArray 0 })] (bS cap σ) H2 { s2 with heap:=h₁,toks:=s2.toks+([]:List (Str × Value)).length }:=by
    refine ⟨okY,rfl,I2.bare,Un.kept old,⟨_,hns₁,fun j x v e1 e2 e3=>?_⟩,fun x c e=>?_,freshC,fun x c e=>I2.freeC x c (hclX x c e),fun p hp=>?_,I2.hok.kept old,?_⟩
    · obtain ⟨i,h1,h2,h3,h4⟩:=CapOk.get (σ:=σ) hcap e1 e2;obtain ⟨m,hn,hl⟩:=I2.loc;have vis:Vis X.env.scope x:=by rcases h3 with z|z;exact .inr (.inl z);exact .inr (.inr z)
      obtain ⟨u,r,l⟩:=hl i x v h1 h2 vis;refine ⟨u,r,.inr ⟨h4,?_⟩⟩;rcases l with ⟨k,_⟩|⟨_,c,e,z⟩
      · rcases h3 with z|z <;> (rw [k] at z;cases z)
      · obtain ⟨c',e'⟩:=okY.has x h4;have e':cl.lookup x=some c':=e';have e'':=hclX x c' e';rw [e] at e'';cases e'';obtain ⟨o,ho,hd⟩:=z;exact ⟨c,e',o,old _ _ ho,hd⟩
    · obtain ⟨v,o,ho,hd⟩:=I2.cell x c (hclX x c e);exact ⟨v,o,old _ _ ho,hd⟩
    · have e:p=(s2.heap.objs.size,{ cls:=.type "list",data:=.seq ([]:List Value).toArray 0 }):=by simpa [ar] using hp
      rw [e];exact ⟨hacc,freshD,hDC,nostk _ (aad _),fun v z=>by cases z⟩
    · show (bS cap σ).length=NY.length;unfold bS;rw [aak];exact hcap.len
  have hcY:(ar X scope cl NY fp s2 H2 G2.objs.size).calm=true:=hc;have stW:tn 0 h₁:=T.keep _ _ _ st2 fun b _ o e=>old b o e;have loop:∀ s₃:Shared,s₃={ s2 with heap:=h₁,toks:=s2.toks+([]:List (Str × Value)).length } →
      codeAny (model X.prog X.w) X.A (.compLoop (.ListComp elt (⟨tg,iter,ifs,0⟩ :: G) scope pos) 0 (.ref it) (.ref s2.heap.objs.size) (compEnvC scope cl G2.objs.size X.env))
        (compPost (model X.prog X.w) X.A X.xe none (EP X pins σ Q) (.ref s2.heap.objs.size) G2.objs.size) s₃:=by
    rintro s₃ rfl;refine iO (k:=0) rfl (show (⟨tg,iter,ifs,0⟩ :: G:List Comprehension)[1]?=some ⟨tg2,iter2,ifs2,0⟩ by rw [eG];rfl) (fun n s'=>∃ i ys its k H',Inv (ar X scope cl NY fp s2 H2 G2.objs.size) [(s2.heap.objs.size,{ cls:=.type "list",data:=.seq its.toArray k })] (bS cap σ) H' s'∧Vals ys its∧ys.length≤sizeLine∧tn i s'.heap∧(∀ b∈fp,H' b=none)∧W i n ys H') (hcl2.st _) ?_ m0
      ⟨0,[],[],0,H2,IY0,.nil,aa1 _,stW,fun b hb=>(f2 b hb).1,w0⟩
    rintro n s3 ⟨i,ys,its,k,H3,I3,rv,hz,st3,fr3,w3⟩;rcases turn i n ys H3 w3 with ⟨stop,qn⟩|⟨go,step⟩
    · refine wpAny_mono (T.done (ar X scope cl NY fp s2 H2 G2.objs.size) rfl rfl rfl hcY i _ s3 _ H3 (fun _ _=>False) I3 (fpYs fr3) st3 stop) (fun r s4 ⟨hr,I4⟩=>?_) fun _ _ z=>z;subst hr;obtain ⟨m,hnC,_⟩:=id I4.loc;have hnC:s4.heap.Ns G2.objs.size m:=hnC;refine ⟨m,hnC,fun h' hsb=>?_⟩;have pD:=(I4.pin (s2.heap.objs.size,{ cls:=.type "list",data:=.seq its.toArray k }) (by simp [ar]))
      have un:Un (frs X.stack) fp H2 H3 s2.heap s4.heap:=I4.base;have I5:Inv X pins σ H3 s4:=I2.call' (ch:=fp) I4.os un I4.hok I4.bare fun b hb=>⟨(f2 b hb).2.2.2.1,(f2 b hb).2.1,(f2 b hb).2.2.2.2.1,(f2 b hb).2.2.2.2.2⟩
      have cC:H3 G2.objs.size=none:=I4.free;have szX:X.s₀.heap.objs.size≤s2.heap.objs.size:=I2.sz;have I6:Inv X pins σ H3 { s4 with heap:=h' }:=I5.turned (t':=s4.toks) (it:=G2.objs.size) (fun b o hb e=>hsb.extBut b o hb e) cC (aaT (aaq I2.lt hDlt)) (.inr (aaL szX hDlt))
        (fun x c e z=>absurd (cellLt x c e) (by rw [z];exact Nat.not_lt.mpr hDlt)) (fun p hp z=>absurd (aag (I2.pin p hp).1) (by rw [z];exact Nat.not_lt.mpr hDlt))
      have I7:Inv X pins σ (upd H3 s2.heap.objs.size (.lst ys)) { s4 with heap:=h' }:=I6.adopt pD.2.1 szX (aaT I2.lt) (fun x c e=>aas (cellLt x c e)) (fun p hp=>aas (aag (I2.pin p hp).1))
        ⟨hz,its,k,rv,hsb.extBut _ _ hDC pD.1⟩
      exact ⟨.ref s2.heap.objs.size,_,I7,rfl,qn _ pD.2.1⟩
    · refine wpAny_mono (T.item (ar X scope cl NY fp s2 H2 G2.objs.size) rfl rfl rfl hcY i _ s3 _ H3 (fun _ _=>False) I3 (fpYs fr3) st3 go) (fun r s4 ⟨u,hr,h4⟩=>?_) fun _ _ z=>z;subst hr;refine wpAny_mono h4 (fun _ s5 ⟨x,H5,I5,r5,y5,st5,fr5⟩=>?_) fun _ _ z=>z;have I5':=I5.pinned (fpYs fr5) (T.obj _ _ st5);refine wpAny_mono (hbg _ s5 _ H5 x u _ I5' r5 (step x H5 y5)) (fun _ s6 ⟨σ6,H6,I6,q6⟩=>?_) fun _ _ z=>z;refine wpAny_mono (hbt _ s6 σ6 H6 _ I6 q6) (fun ok s7 ⟨H7,I7,q7⟩=>?_) fun _ _ z=>z;have lenY:∀ {σ':St} {pn} {H'} {s'},Inv (ar X scope cl NY fp s2 H2 G2.objs.size) pn σ' H' s'→(bS cap σ).length=σ'.length:=fun {σ' pn H' s'} Z=>IY0.len.trans Z.len.symm;have captured:∀ {σ':St} {pn} {H'} {s'},Inv (ar X scope cl NY fp s2 H2 G2.objs.size) pn σ' H' s'→Inv (ar X scope cl NY fp s2 H2 G2.objs.size) pn (bS cap σ) H' s':=fun {σ' pn H' s'} Z=>by
        refine ⟨Z.ok,Z.os,Z.bare,Z.base,?_,Z.cell,Z.free,Z.freeC,Z.pin,Z.hok,IY0.len⟩;obtain ⟨m,hn,_⟩:=Z.loc;refine ⟨m,hn,fun j x v e1 e2 e3=>?_⟩;obtain ⟨i',h1,h2,h3,h4⟩:=CapOk.get (σ:=σ) hcap e1 e2;obtain ⟨m',hn',hl⟩:=I2.loc;have vis:Vis X.env.scope x:=by rcases h3 with z|z;exact .inr (.inl z);exact .inr (.inr z)
        obtain ⟨u,r,l⟩:=hl i' x v h1 h2 vis;refine ⟨u,r,.inr ⟨h4,?_⟩⟩;rcases l with ⟨kk,_⟩|⟨_,c,e,z⟩
        · rcases h3 with z|z <;> (rw [kk] at z;cases z)
        · obtain ⟨c',e'⟩:=okY.has x h4;have e':cl.lookup x=some c':=e';have e'':=hclX x c' e';rw [e] at e'';cases e'';obtain ⟨o,ho,hd⟩:=z;have nfp:c∉fp:=fun hz=>(f2 c hz).2.2.2.2.1 x c e rfl;obtain ⟨sl,q⟩:=Z.base.any (show s2.heap.get? c=some o from ho) (I2.freeC x c e) nfp;exact ⟨c,e',_,q,hd⟩
      have again:∀ {ys':List V} {its':List Value} {k':Nat} {σ':St} {H':Hp} {s':Shared},Inv (ar X scope cl NY fp s2 H2 G2.objs.size) ([(s2.heap.objs.size,{ cls:=.type "list",data:=.seq its'.toArray k' })]++bu fp s5.heap) σ' H' s'→Vals ys' its'→ys'.length≤sizeLine →
          (∃ m',m' < n∧W (i+1) m' ys' H')→∃ m,m < n∧∃ i ys its k H',Inv (ar X scope cl NY fp s2 H2 G2.objs.size) [(s2.heap.objs.size,{ cls:=.type "list",data:=.seq its.toArray k })] (bS cap σ) H' s'∧Vals ys its∧ys.length≤sizeLine∧tn i s'.heap∧(∀ b∈fp,H' b=none)∧W i m ys H':=fun {ys' its' k' σ' H' s'} Z rv' hz' hw=>by
        obtain ⟨m',hm,w'⟩:=hw;refine ⟨m',hm,i+1,ys',its',k',H',captured Z.unpinned,rv',hz',T.keep _ _ _ st5 fun b hb o e=>(Z.pin (b,o) (aaa _ (aaa _ (bW hb e)))).1,fun b hb=>?_,w'⟩;obtain ⟨o,e,d⟩:=T.obj _ _ st5 b hb;exact (Z.pin (b,o) (aaa _ (aaa _ (bW hb e)))).2.1
      cases ok with
      | false =>
        rw [if_neg aah] at q7 ⊢;exact again I7 rv hz q7
      | true =>
        rw [if_pos rfl] at q7 ⊢;have fpD:∀ p∈bu fp s5.heap,p.1≠s2.heap.objs.size:=fun p hp=>(below _ (fpl _ (dQ hp).1)).2;have go2:=qj (Y:=ar X scope cl NY fp s2 H2 G2.objs.size) hcY rfl (D:=s2.heap.objs.size) (.inr (aad _)) (fun x c e=>aas (cellLt x c (hclX x c e))) (fun p hp=>absurd hp (by simp [ar])) (elt:=elt) (G:=⟨tg,iter,ifs,0⟩ :: G) (scope:=scope) (pos:=pos) hbe rs ⟨tg2,iter2,ifs2,0⟩ r2 1 (by rw [eG];rfl) hcl2 (by rw [eG];exact hG') (bu fp s5.heap) fpD I7 rv hz q7;refine wpAny_mono go2 (fun x s8 h8=>wpAny_mono h8 (fun it2 s9 h9=>codeAny_mono h9 fun r s10 h10=>?_) fun _ _ z=>z) fun _ _ z=>z;cases r with
        | error e=>exact h10.elim
        | ok f =>
          obtain ⟨ys',its',k',σ',H',Z,rv',hz',w'⟩:=h10;exact again Z rv' hz' w'
  exact codeAny_compStart_list (loop _ rfl) (T.self _ 0 _ _ _ stW (loop _ rfl))
end
abbrev rR (g2:TG) (tt2:TT) (te:TE) (ys:List V) (σ2:St) (Fin:List V→Hp→Prop) (J2:It) (H4:Hp):Prop:=qJ g2 tt2 te ys σ2 (fun ys _ H=>Fin ys H) J2 H4
abbrev rT (cap:List (Option Nat)) (g:TG) (tt:TT) (wi2:TI) (g2:TG) (tt2:TT) (te:TE) (σ:St) (Q:VK) (J:It) (H1:Hp):Prop:=rS cap g tt (wi2,g2,tt2) [] te σ Q J H1
def uF (cap:List (Option Nat)) (wi:TI) (g:TG) (tt:TT) (wi2:TI) (g2:TG) (tt2:TT) (te:TE):TE:=fun σ H Q=>wi σ H (rT cap g tt wi2 g2 tt2 te σ Q)
section
variable {X:Cx}
theorem sD {elt tg iter tg2 iter2:Expr} {ifs ifs2:List Expr} {scope:Scope} {pos:Pos} {cl:List (Str × Addr)} {NY:List Str} {cap:List (Option Nat)} {wi wi2:TI} {g g2:TG} {tt tt2:TT} {te:TE} (hc:X.calm=true) (hi:PI X tg iter wi)
    (hclos:closureFor scope X.env=pure cl) (hci:CellsIn X.env cl) (hcap:CapOk X.env (relabel scope X.env) X.N NY cap)
    (hb:∀ fp s H C,PG (ar X scope cl NY fp s H C) tg g∧mI (ar X scope cl NY fp s H C) ifs tt∧PI (ar X scope cl NY fp s H C) tg2 iter2 wi2∧PG (ar X scope cl NY fp s H C) tg2 g2∧mI (ar X scope cl NY fp s H C) ifs2 tt2∧PE (ar X scope cl NY fp s H C) elt te)
    (hkind:scope.kind=.function:=by rfl) (hnc:(scope.names.all fun y=>y.2 != .cell)=true:=by rfl)
    (hnames:(scope.names.all fun y=>y.2 != .local || scope.names.lookup y.1 == some .local)=true:=by rfl)
    (hhas:((relabel scope X.env).names.all fun p=>(p.2 != .cell && p.2 != .free) || (cl.lookup p.1).isSome)=true:=by rfl)
    (hs:∀ x,foldedSetIterable iter X.env x=pure x:=by intro _;rfl) (hs2:∀ E x,foldedSetIterable iter2 E x=pure x:=by intro _ _;rfl) :
    PE X (.ListComp elt [⟨tg,iter,ifs,0⟩,⟨tg2,iter2,ifs2,0⟩] scope pos) (uF cap wi g tt wi2 g2 tt2 te) :=
  sC (r2:=(wi2,g2,tt2)) (rs:=[]) hc hi hclos hci hcap (fun fp s H C=>by obtain ⟨hbg,hbt,i2,t2,f2,hbe⟩:=hb fp s H C;exact ⟨hbg,hbt,(.cons ⟨rfl,i2,t2,f2,hs2⟩ .nil),hbe⟩) hkind hnc hnames hhas hs
end
open PySem PySem.Spec PyProof.Rows
def gx (h:Heap) (S:List Addr):Heap:=⟨h.objs.mapIdx fun i o=>if i∈S then { o with data:=.freed } else o,h.life⟩
theorem dE {h:Heap} {S:List Addr} {b:Addr} (hb:b∈S):(gx h S).get? b=none:=by
  unfold gx Heap.get?;simp only [Array.getElem?_mapIdx];cases e:h.objs[b]? with
  | none=>rfl
  | some o=>simp [hb]
theorem iz {h:Heap} {S:List Addr} {b:Addr} (hb:b∉S):(gx h S).get? b=h.get? b:=by
  unfold gx Heap.get?;simp only [Array.getElem?_mapIdx];cases e:h.objs[b]? with
  | none=>rfl
  | some o=>simp [hb]
theorem eB (h:Heap) (S:List Addr):(gx h S).StaysIn h:=fun b o e=>by
  by_cases hb:b∈S
  · rw [dE hb] at e;cases e
  · rw [iz hb] at e;exact e
theorem cV {h h1 base:Heap} {S:List Addr}:∀ {l:List Env},(∀ b∈l.filterMap (·.frame),b∈S)→h1.FunFrames base l→h1.FunFrames (gx h S) l
  | [],_,_=>trivial
  | env :: bx,hs,⟨hk,⟨L,o,hf,hn,ho,hd⟩,hr⟩=>by
    refine ⟨hk,⟨L,o,hf,dE (hs L ?_),ho,hd⟩,cV (fun b hb=>hs b ?_) hr⟩
    · rw [aby,hf];exact aaH
    · rw [aby,hf];exact aaw _ hb
def Trc (h:Heap) (e T:Addr) (cls:Value):Prop:=∃ oe vs oT ts a0,h.get? e=some oe∧(oe.cls=cls∧vs[0]?=some a0)∧oe.data=.fields vs∧vs[1]?=some (.ref T)∧T≠e∧h.get? T=some oT∧oT.data=.fields ts∧ts[3]?=some .none
section
variable {M:Model} {A:Around} {E:Value→Shared→Prop} {s:Shared}
structure Lft (l:List Env) (e:Addr) (x:List Addr) (h h':Heap):Prop where
  keep:∀ b o,b∉l.filterMap (·.frame)→b≠e→b∉x→h.get? b=some o→h'.get? b=some o
  slot:∀ b o,b∈l.filterMap (·.frame)→h.get? b=some o→∃ sl,h'.get? b=some { o with slots:=sl }
theorem jR {base b0:Heap} {l:List Env} {e:Addr} {x:List Addr} {cls:Value} {h h':Heap} (hl:h.FunFrames b0 l) {a0:Value} (L:Heap.LeftW (gx h (e :: x++l.filterMap (·.frame))) l e cls a0 h h') (he:h.get? e≠none) :
    Lft l e x h h'∧∃ T,Trc h' e T cls∧(T∈x∨h.get? T=none):=by
  obtain ⟨k1,k2,k3,k4⟩:=L;refine ⟨⟨fun b o hb hbe hx ho=>k1 b o (by rw [iz];exact ho;simp [hb,hbe,hx]),fun b o hb ho=>?_⟩,?_⟩
  · obtain ⟨_,o',ho',hd⟩:=hl.mem hb;rw [ho] at ho';cases ho';exact k4 b o ho hd
  · obtain ⟨oe,vs,T,oT,ts,h1,h2,h3,h4,h5,h6,h7,h8,h9⟩:=k3;refine ⟨T,⟨oe,vs,oT,ts,a0,h1,h2,h3,h4,h6,h7,h8,h9⟩,?_⟩;by_cases hT:T∈x
    · exact .inl hT
    · refine .inr ?_;have nf:T∉l.filterMap (·.frame):=fun z=>by
        obtain ⟨_,o,ho,hd⟩:=k2.mem z;rw [h7] at ho;cases ho;exact hd ts h8
      rw [iz (by simp [hT,h6,nf])] at h5;exact h5
theorem k_ {b0:Heap} {env:Env} {outer:List Env} {L e:Addr} {oe:Obj} {vs:Array Value} {Q:Unit→Shared→Prop} (hfr:A.frames=some (env :: outer)) (hl:s.heap.FunFrames b0 (env :: outer)) (hf:env.frame=some L)
    (he:s.heap.get? e=some oe) (hd:oe.data=.fields vs) (h1:vs[1]?=some .none) {a0:Value} (h0:vs[0]?=some a0)
    (h:∀ h' T,Lft (env :: outer) e [] s.heap h'→Trc h' e T oe.cls→s.heap.get? T=none→Q () { s with heap:=h' }):wpAny M A (leaving env (.ref e)) Q E s:=by
  refine wpAny_leaving_firstW (a0:=a0) (base:=gx s.heap (e :: []++(env :: outer).filterMap (·.frame))) hfr (cV (fun b hb=>aaa _ hb) hl) hf he (eB _ _) (dE (by simp)) hd h1 h0 fun h' L'=>?_;obtain ⟨l',T,t,z⟩:=jR (base:=b0) hl L' (by rw [he];simp);rcases z with z|z
  · exact absurd z (by simp)
  · exact h h' T l' t z
theorem mz {b0:Heap} {env:Env} {outer:List Env} {L e T:Addr} {cls:Value} {Q:Unit→Shared→Prop} (hfr:A.frames=some (env :: outer)) (hl:s.heap.FunFrames b0 (env :: outer)) (hf:env.frame=some L)
    (ht:Trc s.heap e T cls)
    (h:∀ h' T',Lft (env :: outer) e [T] s.heap h'→Trc h' e T' cls→(T'=T∨s.heap.get? T'=none)→Q () { s with heap:=h' }):wpAny M A (leaving env (.ref e)) Q E s:=by
  obtain ⟨oe,vs,oT,ts,a0,h1,h2,h3,h4,h6,h7,h8,h9⟩:=ht;refine wpAny_leaving_nextW (a0:=a0) (base:=gx s.heap (e :: [T]++(env :: outer).filterMap (·.frame))) (cls:=cls) hfr (cV (fun b hb=>aaa _ hb) hl) hf ⟨oe,vs,T,oT,ts,h1,h2,h3,h4,dE (by simp),h6,h7,h8,h9⟩ (eB _ _) (dE (by simp)) fun h' L'=>?_;obtain ⟨l',T',t,z⟩:=jR (base:=b0) hl L' (by rw [h1];simp);refine h h' T' l' t ?_;rcases z with z|z
  · exact .inl (by simpa using z)
  · exact .inr z
end
def CX1 (P:Program) (w:World):CXT:=fun outer H s E e s'=>∃ (ea T C:Addr) (H':Hp),e=.ref ea∧s'.os=s.os∧AllBare s'.gens∧Un (frs outer) [] H H' s.heap s'.heap∧HOk P w H' s'.heap∧s.heap.get? ea=none∧s.heap.get? T=none∧H' ea=none∧H' T=none∧Trc s'.heap ea T (.ref C)∧E (.ref C) none H'
theorem gA {h h' base:Heap}:∀ {l:List Env},(∀ b∈frs l,∀ o,h.get? b=some o→∃ sl,h'.get? b=some { o with slots:=sl })→h.FunFrames base l→h'.FunFrames base l
  | [],_,_=>trivial
  | env :: bx,k,⟨hk,⟨L,o,hf,hn,ho,hd⟩,hr⟩=>by
    have m:∀ b,b=L∨b∈frs bx→b∈frs (env :: bx):=fun b hb=>by
      show b∈(env :: bx).filterMap (·.frame);rw [aby,hf];rcases hb with rfl|hb
      · exact aaH
      · exact aaw _ hb
    obtain ⟨sl,e⟩:=k L (m L (.inl rfl)) o ho;exact ⟨hk,⟨L,_,hf,hn,e,hd⟩,gA (fun b hb=>k b (m b (.inr hb))) hr⟩
theorem iK {env:Env} {outer:List Env} {L:Addr} (hf:env.frame=some L):frs (env :: outer)=L :: frs outer:=by
  show (env :: outer).filterMap (·.frame)=_;rw [aby,hf];rfl
theorem mM {env:Env} {outer:List Env} {L e:Addr} {x:List Addr} {H0 H':Hp} {h0 h1 h2:Heap} (hf:env.frame=some L) (u:Un (frs (env :: outer)) [] H0 H' h0 h1) (l:Lft (env :: outer) e x h1 h2) (hL:h0.get? L=none) (he:h0.get? e=none) (hx:∀ b∈x,h0.get? b=none) :
    Un (frs outer) [] H0 H' h0 h2:=by
  have ne:∀ b o,h0.get? b=some o→b≠L∧b≠e∧b∉x:=fun b o q=>⟨(fun z=>by rw [z,hL] at q;cases q),(fun z=>by rw [z,he] at q;cases q),(fun z=>by rw [hx b z] at q;cases q)⟩
  have fr:∀ b,b∈frs (env :: outer)↔b=L∨b∈frs outer:=fun b=>by rw [iK hf,aay]
  have fwd:∀ b o,h0.get? b=some o→∀ o',h1.get? b=some o'→∃ sl,h2.get? b=some { o' with slots:=sl }:=fun b o q o' q'=>by
    by_cases hb:b∈frs (env :: outer)
    · exact l.slot b o' hb q'
    · exact ⟨o'.slots,l.keep b o' hb (ne b o q).2.1 (ne b o q).2.2 q'⟩
  refine ⟨fun b o q n hb _=>?_,fun b o q n hb _=>?_,fun b o q n h=>u.free b o q n h,fun b o q h=>?_,u.tups,u.frzs,u.tbls⟩
  · have nb:b∉frs (env :: outer):=fun z=>((fr b).mp z).elim (ne b o q).1 hb;exact l.keep b o nb (ne b o q).2.1 (ne b o q).2.2 (u.keep b o q n nb (by simp))
  · obtain ⟨sl,e1⟩:=u.slot b o q n ((fr b).mpr (.inr hb)) (by simp);obtain ⟨sl',e2⟩:=fwd b o q _ e1;exact ⟨sl',e2⟩
  · obtain ⟨o',e1⟩:=u.there b o q h;obtain ⟨sl,e2⟩:=fwd b o q o' e1;exact ⟨_,e2⟩
theorem lj {P:Program} {w:World} {l:List Env} {e:Addr} {x:List Addr} {H:Hp} {h1 h2:Heap} (ok:HOk P w H h1) (f:Lft l e x h1 h2) (hl:∀ b∈frs l,H b=none) (he:H e=none) (hx:∀ b∈x,H b=none):HOk P w H h2:=fun b u q =>
  (ok b u q).stay (fun c v hc r=>by
    have hn:H c≠none:=by rcases hc with rfl|hc;rw [q];simp;rw [hc];simp
    exact f.keep c v (fun z=>hn (hl c z)) (fun z=>hn (by rw [z];exact he)) (fun z=>hn (hx c z)) r) (fun _ r=>r) fun _ _ r=>r
section
variable {P:Program} {w:World} {K:aab} {mg:Str→Option Value} {base:Heap} {N:List Str} {qual:Str} {scope:Scope} {f:Addr} {cd:Value} {A:Around} {outer:List Env} {s0:Shared} {H0:Hp} {E:XK}
theorem sj {pins:List (Addr × Obj)} {σ:St} {H:Hp} {s:Shared} {h':Heap} {e C:Addr} {args:List Value} (I:Inv (fM (CX1 P w) P w K mg base N qual scope f cd A outer s0 H0 E) pins σ H s) (mk:Heap.MadeExcOf s.heap h' e (.ref C) args) (q:E (.ref C) none H) :
    (fM (CX1 P w) P w K mg base N qual scope f cd A outer s0 H0 E).xe (.ref e) { s with heap:=h' }:=by
  have hf:(envOfC qual scope s0.heap.objs.size f cd).frame=some s0.heap.objs.size:=rfl;obtain ⟨t,he,ht,_⟩:=mk.there;have fr:h'.FunFrames base (envOfC qual scope s0.heap.objs.size f cd :: outer):=gA (fun b _ o ho=>⟨o.slots,mk.keeps b o ho⟩) I.stack;have un1:Un (frs (envOfC qual scope s0.heap.objs.size f cd :: outer)) [] H0 H s0.heap h':=(Un.mono I.base (fun b hb=>by rw [iK hf];exact aaw _ hb) (fun b hb=>hb)).trans (Un.kept mk.keeps);have none_of:∀ b,s.heap.get? b=none→s0.heap.get? b=none∧H b=none:=fun b hb=>by
    constructor
    · cases z:s0.heap.get? b with
      | none=>rfl
      | some o =>
        obtain ⟨o',z'⟩:=I.base.there b o z (fun z=>nomatch z);rw [hb] at z';cases z'
    · cases z:H b with
      | none=>rfl
      | some o =>
        obtain ⟨u,hu⟩:=(I.hok b o z).get;rw [hb] at hu;cases hu
  refine k_ (b0:=base) (s:={ s with heap:=h' }) (oe:={ cls:=.ref C,data:=.fields #[.ref t,.none,.none,.none,.bool false,.none] }) I.ok.frames fr hf he rfl rfl (a0:=.ref t) rfl fun h2 T lf tr hT=>?_;have hT':s.heap.get? T=none:=by
    cases z:s.heap.get? T with
    | none=>rfl
    | some o =>
      have:=mk.keeps T o z;have hT:h'.get? T=none:=hT;rw [hT] at this;cases this
  have hL:s0.heap.get? s0.heap.objs.size=none:=by
    cases z:s0.heap.get? s0.heap.objs.size with
    | none=>rfl
    | some o=>exact absurd (aag z) (abm _)
  exact ⟨e,T,C,H,rfl,I.os,I.bare,mM hf un1 lf hL (none_of e mk.new).1 (fun b hb=>nomatch hb),lj (I.hok.kept mk.keeps) lf I.stkFree (none_of e mk.new).2 (fun b hb=>nomatch hb),(none_of e mk.new).1,(none_of T hT').1,(none_of e mk.new).2,(none_of T hT').2,tr,q⟩
theorem cw:gC (CX1 P w) (fM (CX1 P w) P w K mg base N qual scope f cd A outer s0 H0 E) E:=by
  rintro pins σ H s e s' I ⟨ea,T,C,H',rfl,os,bare,un,hok,n1,n2,m1,m2,tr,q⟩;have hf:(envOfC qual scope s0.heap.objs.size f cd).frame=some s0.heap.objs.size:=rfl;have un:Un (frs (envOfC qual scope s0.heap.objs.size f cd :: outer)) [] H H' s.heap s'.heap:=un;have fr:s'.heap.FunFrames base (envOfC qual scope s0.heap.objs.size f cd :: outer):=gA (fun b hb o ho=>un.any ho (I.stkFree b hb) (fun z=>nomatch z)) I.stack;have un1:Un (frs (envOfC qual scope s0.heap.objs.size f cd :: outer)) [] H0 H' s0.heap s'.heap:=(Un.mono I.base (fun b hb=>by rw [iK hf];exact aaw _ hb) (fun b hb=>hb)).trans un;have none_of:∀ b,s.heap.get? b=none→s0.heap.get? b=none:=fun b hb=>by
    cases z:s0.heap.get? b with
    | none=>rfl
    | some o =>
      obtain ⟨o',z'⟩:=I.base.there b o z (fun z=>nomatch z);rw [hb] at z';cases z'
  have hL:s0.heap.get? s0.heap.objs.size=none:=by
    cases z:s0.heap.get? s0.heap.objs.size with
    | none=>rfl
    | some o=>exact absurd (aag z) (abm _)
  have frN:∀ b∈frs (envOfC qual scope s0.heap.objs.size f cd :: outer),H' b=none:=fun b hb=>by
    obtain ⟨_,o,ho,_⟩:=(show s.heap.FunFrames base (envOfC qual scope s0.heap.objs.size f cd :: outer) from I.stack).mem hb;exact un.free b o ho (I.stkFree b hb) (fun z=>nomatch z)
  refine mz (b0:=base) I.ok.frames fr hf tr fun h2 T' lf tr' hT=>?_;have x1:∀ b∈[T],s0.heap.get? b=none:=fun b hb=>by rw [aar.mp hb];exact none_of T n2
  have x2:∀ b∈[T],H' b=none:=fun b hb=>by rw [aar.mp hb];exact m2
  refine ⟨ea,T',C,H',rfl,os.trans I.os,bare,mM hf un1 lf hL (none_of ea n1) x1,lj hok lf frN m1 x2,none_of ea n1,?_,m1,?_,tr',q⟩
  · rcases hT with rfl|hT
    · exact none_of _ n2
    · cases z:s0.heap.get? T' with
      | none=>rfl
      | some o =>
        obtain ⟨o',z'⟩:=un1.there T' o z (fun z=>nomatch z);rw [hT] at z';cases z'
  · rcases hT with rfl|hT
    · exact m2
    · cases z:H' T' with
      | none=>rfl
      | some o =>
        obtain ⟨u,hu⟩:=(hok T' o z).get;rw [hT] at hu;cases hu
end
structure EC (K:aab) (C:Addr):Prop where
  ex:∃ nm q N bs bm hdct sn sub ab col dd k0 k1 k2 k3 k5 B newId initId bmB mN,ExcBaseFacts B newId initId bmB∧bm.contains (.type "BaseException")=true∧mN ("__init__":Str)=none ∧
    ∀ h,K.In h→h.get? C=some (excClassObj nm q C N bs bm hdct sn sub ab col dd k0 k1 k2 k3 k5 newId)∧h.Ns N mN∧OwnTail h bmB bm
def Rz (X:Cx) (E:XK):Prop:=∀ (pins:List (Addr × Obj)) (σ:St) (H:Hp) (s:Shared) (h':Heap) (e C:Addr) (args:List Value),Inv X pins σ H s→Heap.MadeExcOf s.heap h' e (.ref C) args→E (.ref C) none H→X.xe (.ref e) { s with heap:=h' }
theorem rz1 {P:Program} {w:World} {K:aab} {mg:Str→Option Value} {base:Heap} {N:List Str} {qual:Str} {scope:Scope} {f:Addr} {cd:Value} {A:Around} {outer:List Env} {s0:Shared} {H0:Hp} {E:XK} :
    Rz (fM (CX1 P w) P w K mg base N qual scope f cd A outer s0 H0 E) E:=fun _ _ _ _ _ _ _ _ I mk q=>sj I mk q
theorem fP {X:Cx} {E:XK} {C:Addr} {x t:Str} {np p cpos pos:Pos} {j:Nat} (hz:Rz X E) (ec:EC X.K C) (hc:X.calm=true) (hg:Gl X x) (hm:X.mg x=some (.ref C))
    (hs:backTo cpos (starEach [.Constant (.str t) j p] X.env)=[(false,eval (.Constant (.str t) j p) X.env)]:=by rfl) (hdb:(x == ("__debug__":Str))=false:=by decide) :
    PS X (.Raise (some (.Call (.Name x np) [.Constant (.str t) j p] [] cpos)) none pos) (fun _ _ H=>E (.ref C) none H):=by
  intro pins s σ H D I h;obtain ⟨nm,q,N,bs,bm,hdct,sn,sub,ab,col,dd,k0,k1,k2,k3,k5,B,newId,initId,bmB,mN,F,hb,hni,hK⟩:=ec.ex;refine wpAny_Raise_call_subT (nm:=nm) (q:=q) (N:=N) (bs:=bs) (hdct:=hdct) (sn:=sn) (sub:=sub) (ab:=ab) (col:=col) (dd:=dd) (k0:=k0) (k1:=k1) (k2:=k2) (k3:=k3) (k5:=k5) F hb (I.ok.hd hc) (by rw [hs];rfl) hni (fj I hg hm ⟨rfl,?_⟩ hdb);rw [hs];refine Calls.evalArgs_plain (acp (Calls.Constant_str (Calls.spliced_nil ?_)));have I1:Inv X pins σ H { s with toks:=s.toks+1 }:=I.tok _;obtain ⟨h1,h2,h3⟩:=hK _ I1.kIn;exact ⟨rfl,(by show 1≤sizeLine;decide),h1,h2,h3,fun h' e mk=>hz pins σ H _ h' e C _ I1 mk h⟩
theorem Fun.ok1 {P:Program} {w:World} {K:aab} {mg:Str→Option Value} {base:Heap} {x qual:Str} {st:Stmt} {f:Addr} {fd:FuncData} {N ps:List Str} {k:Nat} {sp:Sp} (F:Fun K x qual st f fd) (S:FnScope N ps (am st)) (len:∀ vs H Q E,sp vs H Q E→vs.length=ps.length)
    (hbody:∀ (cdv:Value) (A:Around) (outer:List Env) (s:Shared) (H:Hp) (vs:List V) (Q:VK) (E:XK),Room k (A.deeper (envOfC qual (am st) s.heap.objs.size f cdv))→sp vs H Q E →
      ∃ t,PSs (fM (CX1 P w) P w K mg base N qual (am st) f cdv A outer s H E) (bi st) t∧t { nx:=fun _ H'=>Q .non H',rt:=Q } (dI N vs) H):FnOk P w K mg base (CX1 P w) (k+1) f fd ps sp:=by
  obtain ⟨oc,od,kV,doc,pm,an,cdv,ct,osl,rfl,lk,hcd⟩:=F.ex;exact qp lk hcd S len fun A outer s H vs Q E hr hsp=>hbody cdv A outer s H vs Q E hr hsp
def bN (P:Program) (w:World) (K:aab) (mg:Str→Option Value) (base:Heap) (x:Str) (k:Nat) (ps:List Str) (sp:Sp):Prop :=
  ∃ f fd,FnOk P w K mg base (CX1 P w) k f fd ps sp∧Binds K fd ps []∧aa6 K (.ref f)=true∧mg x=some (.ref f)
theorem aZ {X:Cx} {E:XK} {x:Str} {k k':Nat} {ps:List Str} {sp:Sp} {e:Expr} {es:List Expr} {t:TA} {p pos:Pos} (C:bN X.prog X.w X.K X.mg X.base x k ps sp) (hx:gC (CX1 X.prog X.w) X E) (hr:Room k' X.A) (hk:k≤k') (hg:Gl X x) (ha:PA X (e :: es) t)
    (hdb:(x == ("__debug__":Str))=false:=by decide) (he:starEach (e :: es) X.env=(false,eval e X.env) :: starEach es X.env:=by rfl) (hpl:(backTo pos (starEach es X.env)).any (·.1)=false:=by rfl) :
    PE X (.Call (.Name x p) (e :: es) [] pos) (kc sp [] E t):=by
  obtain ⟨f,fd,F,b,kp,m⟩:=C;exact mZ F (hr.mono hk) hg m kp b .nil hx ha hdb he hpl
def iS (X:Cx) (pins:List (Addr × Obj)) (a:Addr):Prop:=X.s₀.heap.get? a=none∧a≠X.env.locals∧(∀ x c,X.env.cells.lookup x=some c→c≠a)∧∀ p∈X.pn++pins,p.1≠a
def oR (X:Cx) (pins0:List (Addr × Obj)) (Cat:St→Addr→Hp→Prop):Cx :=
  { X with pn:=X.pn++pins0,xe:=fun e s'=>∃ ea T C H' σ,e=Value.ref ea∧Inv X pins0 σ H' s'∧Trc s'.heap ea T (.ref C)∧H' ea=none∧H' T=none∧iS X pins0 ea∧iS X pins0 T∧Cat σ C H' }
section
variable {X:Cx} {pins0 pins:List (Addr × Obj)} {Cat:St→Addr→Hp→Prop} {σ:St} {H:Hp} {s:Shared}
theorem rh (I:Inv X pins0 σ H s):Inv (oR X pins0 Cat) [] σ H s :=
  ⟨⟨I.ok.mod,I.ok.kind,I.ok.glob,I.ok.blt,I.ok.above,I.ok.inj,I.ok.has,I.ok.cab,I.ok.hd,I.ok.frames,I.ok.stk,I.ok.exf,I.ok.bs,I.ok.bsz,I.ok.noex,I.ok.exfs,I.ok.funs,I.ok.frf⟩,I.os,I.bare,I.base,I.loc,I.cell,I.free,I.freeC,fun p hp=>I.pin p (by
    have hp:p∈(X.pn++pins0)++[]:=hp
    rwa [ab8] at hp),I.hok,I.len⟩
theorem dS (I:Inv (oR X pins0 Cat) pins σ H s):Inv X pins0 σ H s :=
  ⟨⟨I.ok.mod,I.ok.kind,I.ok.glob,I.ok.blt,I.ok.above,I.ok.inj,I.ok.has,I.ok.cab,I.ok.hd,I.ok.frames,I.ok.stk,I.ok.exf,I.ok.bs,I.ok.bsz,I.ok.noex,I.ok.exfs,I.ok.funs,I.ok.frf⟩,I.os,I.bare,I.base,I.loc,I.cell,I.free,I.freeC,fun p hp=>I.pin p (show p∈(X.pn++pins0)++pins from aaC _ hp),I.hok,I.len⟩
theorem Inv.fresh_of (I:Inv X pins σ H s) {a:Addr} (hx:X.ex=[]) (h:s.heap.get? a=none):iS X pins a:=by
  refine ⟨?_,fun z=>?_,fun x c e z=>?_,fun p hp z=>?_⟩
  · cases q:X.s₀.heap.get? a with
    | none=>rfl
    | some o =>
      obtain ⟨o',q'⟩:=I.base.there a o q (by rw [hx];exact fun z=>nomatch z);rw [h] at q';cases q'
  · obtain ⟨m,⟨o,_,_,ho,_⟩,_⟩:=I.loc;rw [← z,h] at ho;cases ho
  · obtain ⟨v,o,ho,_⟩:=I.cell x c e;rw [z,h] at ho;cases ho
  · have:=(I.pin p hp).1;rw [z,h] at this;cases this
def sf (sp:Sp) (Cat:St→Addr→Hp→Prop) (t:TA):TE:=fun σ H Q=>t σ H fun vs H1=>sp vs H1 Q fun v _ H'=>∀ C,v=Value.ref C→Cat σ C H'
theorem qU {x:Str} {k k':Nat} {ps:List Str} {sp:Sp} {e:Expr} {es:List Expr} {t:TA} {p pos:Pos} (C:bN X.prog X.w X.K X.mg X.base x k ps sp) (hx:X.ex=[]) (hr:Room k' X.A) (hk:k≤k') (hg:Gl X x) (ha:PA (oR X pins0 Cat) (e :: es) t)
    (hdb:(x == ("__debug__":Str))=false:=by decide) (he:starEach (e :: es) X.env=(false,eval e X.env) :: starEach es X.env:=by rfl) (hpl:(backTo pos (starEach es X.env)).any (·.1)=false:=by rfl) :
    PE (oR X pins0 Cat) (.Call (.Name x p) (e :: es) [] pos) (sf sp Cat t):=by
  obtain ⟨f,fd,F,b,kp,m⟩:=C;intro pins s σ H Q I h;refine wpAny_Call_Name_kw (fj I hg m ?_ hdb);refine PySem.W.callWith_K (h₀:=X.base) I.ok.mod.kin kp (thn (ha pos pins s σ H _ I h) fun us s1 ⟨vs,H1,I1,r,q⟩=>⟨I1.kIn,?_⟩) he hpl;have r2:Vals vs (us++[]):=by rw [ab8];exact r
  have hl:(us++[]).length=ps.length:=by rw [← r2.length];exact F.len _ _ _ _ q
  refine wpAny_call (codeAny_mono (F.run X.A X.stack s1 H1 ⟨us,[]⟩ (us++[]) vs Q _ (hr.mono hk) I1.env0 (b s1 us I1.kIn hl) r2 q) fun r s' hq=>?_);cases r with
  | ok fl =>
    cases fl with
    | ret u=>exact I1.after hq
    | next=>exact abg hq
    | brk=>exact abg hq
    | cont=>exact abg hq
  | error e =>
    obtain ⟨ea,T,C,H',rfl,os,bare,un,hok,n1,n2,m1,m2,tr,q⟩:=hq;have J:=dS I1;exact ⟨ea,T,C,H',σ,rfl,J.call' os un hok bare (fun b z=>nomatch z),tr,m1,m2,J.fresh_of hx n1,J.fresh_of hx n2,q C rfl⟩
end
section
variable {M:Model} {A:Around} {E:Value→Shared→Prop} {s:Shared}
theorem oh {b0:Heap} {env:Env} {outer:List Env} {L e T:Addr} {cls:Value} {Q:Unit→Shared→Prop} (hfr:A.frames=some (env :: outer)) (hl:s.heap.FunFrames b0 (env :: outer)) (hf:env.frame=some L) (ht:Trc s.heap e T cls)
    (h:∀ h' T',Lft (env :: outer) e [T] s.heap h'→Trc h' e T' cls→(T'=T∨s.heap.get? T'=none)→Q () { s with heap:=h' }) :
    wpAny M A (noteFrame (.ref e) env) (fun _ s2=>wpAny M A (setFlight (.ref e) none) Q E s2) E s:=by
  obtain ⟨oe,vs,oT,ts,a0,h1,h2,h3,h4,h6,h7,h8,h9⟩:=ht;refine wpAny_noteFrame_onW (a0:=a0) (base:=gx s.heap (e :: [T]++(env :: outer).filterMap (·.frame))) (cls:=cls) hfr (cV (fun b hb=>aaa _ hb) hl) hf ⟨oe,vs,T,oT,ts,h1,h2,h3,h4,dE (by simp),h6,h7,h8,h9⟩ (eB _ _) (dE (by simp)) fun h1' N=>?_;obtain ⟨k1,k2,k3,k4⟩:=N;refine wpAny_setFlight_noneW (s:={ s with heap:=h1' }) k1 k2 k3 fun h2' j1 j2 j3 j4=>?_;have L':Heap.LeftW (gx s.heap (e :: [T]++(env :: outer).filterMap (·.frame))) (env :: outer) e cls a0 s.heap h2':=⟨j1,j2,j3,fun b o hb hn=>by
    obtain ⟨sl,q⟩:=k4 b o hb hn;exact ⟨sl,j4 b _ q hn⟩⟩
  obtain ⟨l',T',t,z⟩:=jR (base:=b0) hl L' (by rw [h1];simp);refine h h2' T' l' t ?_;rcases z with z|z
  · exact .inl (by simpa using z)
  · exact .inr z
end
def cB (a C:Addr):HO:=.ext fun h=>∃ o vs,h.get? a=some o∧o.cls=.ref C∧o.data=.fields vs
structure Und (K:aab) (C P:Addr):Prop where
  ex:∃ nm q N bs bm hdct sn sub ab col dd k0 k1 k2 k3 k5 newId nm' q' N' bs' bm' hdct' sn' sub' ab' col' dd' k0' k1' k2' k3' k5' newId',(Value.ref C :: bm).contains (.ref P)=true∧bm'.contains (.type "BaseException")=true ∧
    ∀ h,K.In h→h.get? C=some (excClassObj nm q C N bs bm hdct sn sub ab col dd k0 k1 k2 k3 k5 newId)∧h.get? P=some (excClassObj nm' q' P N' bs' bm' hdct' sn' sub' ab' col' dd' k0' k1' k2' k3' k5' newId')
theorem oG {M:Model} {A:Around} {E:Value→Shared→Prop} {K:aab} {C P e:Addr} {oe:Obj} {s:Shared} {Q:Bool→Shared→Prop} (u:Und K C P) (hk:K.In s.heap) (he:s.heap.get? e=some oe) (hcls:oe.cls=.ref C) (hq:Q true s):wpAny M A (excMatches (.ref e) (.ref P)) Q E s:=by
  obtain ⟨nm,q,N,bs,bm,hdct,sn,sub,ab,col,dd,k0,k1,k2,k3,k5,newId,nm',q',N',bs',bm',hdct',sn',sub',ab',col',dd',k0',k1',k2',k3',k5',newId',h1,h2,h3⟩:=u.ex;obtain ⟨hC,hP⟩:=h3 _ hk;obtain ⟨h,g,d,t,os⟩:=s;have hcB:(Value.ref P :: bm').contains (.type "BaseException")=true:=by rw [List.contains_cons,h2,Bool.or_true]
  have f:=tc_notTuple;unfold excMatches
  repeat (first|(with_reducible refine wpAny_loadPart_at he ?_;rw [hcls])|with_reducible refine wpAny_loadPart_at hP ?_|(with_reducible refine wpAny_isSubtype_exc hP ?_;rw [hcB])|(with_reducible refine wpAny_isSubtype_exc hC ?_;rw [h1])|wp_step)
  exact hq
section
variable {X:Cx} {pins:List (Addr × Obj)} {σ:St} {H:Hp} {s:Shared}
theorem qF {ea T C:Addr} (I:Inv X pins σ H s) (tr:Trc s.heap ea T (.ref C)) (m1:H ea=none) (f1:iS X pins ea):Inv X pins σ (upd H ea (cB ea C)) s:=by
  obtain ⟨oe,vs,oT,ts,a0,h1,h2,h3,h4,h6,h7,h8,h9⟩:=tr;exact I.adopt2 m1 (fun u z=>by rw [f1.1] at z;cases z) f1.2.1 f1.2.2.1 f1.2.2.2 ⟨⟨oe,vs,h1,h2.1,h3⟩,⟨oe,h1⟩,fun g1 g2 ⟨o,ws,z1,z2,z3⟩ k=>⟨o,ws,k o z1,z2,z3⟩⟩
theorem lC {ea C:Addr} {x:List Addr} {h':Heap} (I:Inv X pins σ (upd H ea (cB ea C)) s) (f1:iS X pins ea) (fx:∀ T∈x,iS X pins T∧upd H ea (cB ea C) T=none) (lf:Lft X.stack ea x s.heap h') (hea:∃ o vs,h'.get? ea=some o∧o.cls=.ref C∧o.data=.fields vs) :
    Inv X pins σ (upd H ea (cB ea C)) { s with heap:=h' }:=by
  have tk:∀ b,upd H ea (cB ea C) b=none→b≠ea:=fun b hb z=>by rw [z,ad] at hb;cases hb
  have old:∀ b o,X.s₀.heap.get? b=some o→b≠ea∧b∉x∧b≠X.env.locals:=fun b o q=>by
    refine ⟨fun z=>?_,fun z=>?_,fun z=>?_⟩
    · rw [z,f1.1] at q;cases q
    · rw [(fx b z).1.1] at q;cases q
    · have h1:=aag q;rw [z] at h1;exact absurd I.ok.above (acK.mpr h1)
  have one:∀ b o,b≠ea→b∉x→s.heap.get? b=some o→∃ sl,h'.get? b=some { o with slots:=sl }:=fun b o z1 z2 q=>by
    by_cases hb:b∈frs X.stack
    · exact lf.slot b o hb q
    · exact ⟨o.slots,lf.keep b o hb z1 z2 q⟩
  have nstk:∀ b,b≠X.env.locals→b∉X.fs→b∉frs X.stack:=fun b z1 z2 z=>by
    rcases aay.mp (I.stkSub b z) with z|z
    · exact z1 z
    · exact z2 z
  have cl:∀ x' c,X.env.cells.lookup x'=some c→∀ v,s.heap.IsCell c v→h'.IsCell c v:=fun x' c e v ⟨o,ho,hd⟩=>by
    obtain ⟨sl,z⟩:=one c o (f1.2.2.1 x' c e) (fun z=>(fx c z).1.2.2.1 x' c e rfl) ho;exact ⟨_,z,hd⟩
  refine ⟨I.ok,I.os,I.bare,⟨fun b o q n hb hx=>?_,fun b o q n hb hx=>?_,I.base.free,fun b o q hx=>?_,I.base.tups,I.base.frzs,I.base.tbls⟩,?_,fun x' c e=>?_,I.free,I.freeC,fun p hp=>?_,fun b u q=>?_,I.len⟩
  · exact lf.keep b o (nstk b (old b o q).2.2 hb) (old b o q).1 (old b o q).2.1 (I.base.keep b o q n hb hx)
  · obtain ⟨sl,z⟩:=I.base.slot b o q n hb hx;obtain ⟨sl',z'⟩:=one b _ (old b o q).1 (old b o q).2.1 z;exact ⟨sl',z'⟩
  · obtain ⟨o',z⟩:=I.base.there b o q hx;obtain ⟨sl',z'⟩:=one b _ (old b o q).1 (old b o q).2.1 z;exact ⟨_,z'⟩
  · obtain ⟨m,⟨o,es,ep,ho,hd,r⟩,hl⟩:=I.loc;obtain ⟨sl,z⟩:=one X.env.locals o (aa3 f1.2.1) (fun z=>(fx _ z).1.2.1 rfl) ho;refine ⟨m,⟨_,es,ep,z,hd,r⟩,fun i y v e1 e2 e3=>?_⟩;obtain ⟨u,ru,l⟩:=hl i y v e1 e2 e3;refine ⟨u,ru,?_⟩;rcases l with l|⟨k,c,e,z⟩
    · exact .inl l
    · exact .inr ⟨k,c,e,cl y c e _ z⟩
  · obtain ⟨v,z⟩:=I.cell x' c e;exact ⟨v,cl x' c e v z⟩
  · obtain ⟨z1,z2,z3,z4,z5⟩:=I.pin p hp;exact ⟨lf.keep _ _ (nstk _ z3 z4) (f1.2.2.2 p hp) (fun z=>(fx _ z).1.2.2.2 p hp rfl) z1,z2,z3,z4,z5⟩
  · by_cases z1:b=ea
    · subst z1;rw [ad] at q;cases q;obtain ⟨o,vs,y1,y2,y3⟩:=hea;exact ⟨⟨o,vs,y1,y2,y3⟩,⟨o,y1⟩,fun g1 g2 ⟨o,ws,y1,y2,y3⟩ k=>⟨o,ws,k o y1,y2,y3⟩⟩
    · have tr:∀ c v,upd H ea (cB ea C) c=some v→c≠ea→∀ o,s.heap.get? c=some o→h'.get? c=some o:=fun c v hc z o r=>lf.keep c o (fun y=>by rw [I.stkFree c y] at hc;cases hc) z (fun y=>by rw [(fx c y).2] at hc;cases hc) r;refine (I.hok b u q).stay (fun c v hc r=>?_) (fun _ r=>r) fun _ _ r=>r;rcases hc with rfl|hc
      · exact tr c u q z1 v r
      · refine tr c _ hc (fun z=>?_) v r;rw [z,ad] at hc;cases hc
end
section
variable {M:Model} {A:Around} {E:Value→Shared→Prop} {s:Shared}
theorem ox {b0:Heap} {l:List Env} {e T:Addr} {cls:Value} {Q:Unit→Shared→Prop} (hl:s.heap.FunFrames b0 l) (ht:Trc s.heap e T cls)
    (h:∀ h' T',Lft l e [T] s.heap h'→Trc h' e T' cls→(T'=T∨s.heap.get? T'=none)→Q () { s with heap:=h' }):wpAny M A (setFlight (.ref e) none) Q E s:=by
  obtain ⟨oe,vs,oT,ts,a0,h1,h2,h3,h4,h6,h7,h8,h9⟩:=ht;refine wpAny_setFlight_noneW (base:=gx s.heap (e :: [T]++l.filterMap (·.frame))) (cls:=cls) (a0:=a0) (fl:=.none) (eB _ _) (cV (fun b hb=>aaa _ hb) hl) ⟨oe,vs,T,oT,ts,h1,h2,h3,h4,dE (by simp),h6,h7,h8,h9⟩ fun h2' j1 j2 j3 j4=>?_;have L':Heap.LeftW (gx s.heap (e :: [T]++l.filterMap (·.frame))) l e cls a0 s.heap h2':=⟨j1,j2,j3,fun b o hb hn=>⟨o.slots,j4 b o hb hn⟩⟩
  obtain ⟨l',T',t,z⟩:=jR (base:=b0) hl L' (by rw [h1];simp);refine h h2' T' l' t ?_;rcases z with z|z
  · exact .inl (by simpa using z)
  · exact .inr z
end
section
variable {X:Cx} {pins:List (Addr × Obj)} {σ:St} {H:Hp} {s:Shared}
theorem Inv.unset {i:Nat} {n:Str} {v:Option Value} {m:Str→Option Value} {h':Heap} {t':Nat} (I:Inv X pins σ H s) (hN:X.N.Nodup) (hi:X.N[i]?=some n) (hl:∀ (i:Nat) (x:Str) (v:V),X.N[i]?=some x→σ[i]?=some (some v)→Vis X.env.scope x→∃ u,RelV v u∧uw X.env s.heap m x u)
    (hn:h'.Ns X.env.locals (fun x=>if x=n then v else m x)) (hs:abt X.env.locals s.heap h'):Inv X pins (σ.set i none) H { s with heap:=h',toks:=t' }:=by
  have cne:∀ x c,X.env.cells.lookup x=some c→c≠X.env.locals:=fun x c e z=>by
    obtain ⟨v,o,ho,hd⟩:=I.cell x c e;obtain ⟨m,⟨o',es,ep,ho',hd',_⟩,_⟩:=I.loc;rw [z,ho'] at ho;cases ho;rw [hd'] at hd;cases hd
  have old:∀ b o,X.s₀.heap.get? b=some o→b≠X.env.locals:=fun b o q z=>by
    have h1:=aag q;rw [z] at h1;exact absurd I.ok.above (acK.mpr h1)
  refine ⟨I.ok,I.os,I.bare,⟨fun b o q n hb hx=>hs.extBut b o (old b o q) (I.base.keep b o q n hb hx),fun b o q n hb hx=>?_,I.base.free,fun b o q hx=>?_,I.base.tups,I.base.frzs,I.base.tbls⟩,⟨_,hn,fun j y w e1 e2 e3=>?_⟩,fun x c e=>?_,I.free,I.freeC,fun p hp=>?_,fun b u q=>?_,?_⟩
  · obtain ⟨sl,z⟩:=I.base.slot b o q n hb hx;exact ⟨sl,hs.extBut b _ (old b o q) z⟩
  · obtain ⟨o',z⟩:=I.base.there b o q hx;exact ⟨o',hs.extBut b _ (old b o q) z⟩
  · by_cases hj:j=i
    · subst hj;rw [List.getElem?_set_self'] at e2;cases z:σ[j]? with
      | none=>rw [z] at e2;simp at e2
      | some _=>rw [z] at e2;simp at e2
    · rw [List.getElem?_set_ne (aa3 hj)] at e2;obtain ⟨u,ru,l⟩:=hl j y w e1 e2 e3;refine ⟨u,ru,?_⟩;rcases l with ⟨k,l⟩|⟨k,c,e,o,ho,hd⟩
      · refine .inl ⟨k,?_⟩;have : y≠n:=fun z=>hj (iq hN e1 (by rw [z];exact hi));show (if y=n then v else m y)=some u;rw [if_neg this];exact l
      · exact .inr ⟨k,c,e,o,hs.extBut c o (cne y c e) ho,hd⟩
  · obtain ⟨v,o,ho,hd⟩:=I.cell x c e;exact ⟨v,o,hs.extBut c o (cne x c e) ho,hd⟩
  · obtain ⟨z1,z2,z3,z4,z5⟩:=I.pin p hp;exact ⟨hs.extBut _ _ z3 z1,z2,z3,z4,z5⟩
  · refine (I.hok b u q).stay (fun c v hc r=>hs.extBut c v (fun z=>?_) r) (fun _ r=>r) fun _ _ r=>r;rcases hc with rfl|hc
    · rw [z,I.free] at q;cases q
    · rw [z,I.free] at hc;cases hc
  · rw [List.length_set];exact I.len
def mJ (X:Cx) (v:Value):Cx:={ X with A:=X.A.mark (some v),calm:=false,xe:=fun _ _=>False }
theorem li {v:Value} (I:Inv X pins σ H s):Inv (mJ X v) pins σ H s :=
  ⟨⟨I.ok.mod,I.ok.kind,I.ok.glob,I.ok.blt,I.ok.above,I.ok.inj,I.ok.has,I.ok.cab,(fun z=>absurd (show false=true from z) aah),I.ok.frames,I.ok.stk,I.ok.exf,I.ok.bs,I.ok.bsz,I.ok.noex,I.ok.exfs,I.ok.funs,I.ok.frf⟩,I.os,I.bare,I.base,I.loc,I.cell,I.free,I.freeC,I.pin,I.hok,I.len⟩
theorem mE {v:Value} (c:X.calm=true→X.A.handled=none) (fr:X.A.frames=some X.stack) (I:Inv (mJ X v) pins σ H s):Inv X pins σ H s :=
  ⟨⟨I.ok.mod,I.ok.kind,I.ok.glob,I.ok.blt,I.ok.above,I.ok.inj,I.ok.has,I.ok.cab,c,fr,I.ok.stk,I.ok.exf,I.ok.bs,I.ok.bsz,I.ok.noex,I.ok.exfs,I.ok.funs,I.ok.frf⟩,I.os,I.bare,I.base,I.loc,I.cell,I.free,I.freeC,I.pin,I.hok,I.len⟩
end
theorem Trc.there {h:Heap} {e T C:Addr} (t:Trc h e T (.ref C)):∃ o vs,h.get? e=some o∧o.cls=.ref C∧o.data=.fields vs:=by
  obtain ⟨oe,vs,oT,ts,a0,h1,h2,h3,_⟩:=t;exact ⟨oe,vs,h1,h2.1,h3⟩
theorem Trc.ne {h:Heap} {e T:Addr} {c:Value} (t:Trc h e T c):T≠e:=by
  obtain ⟨oe,vs,oT,ts,a0,h1,h2,h3,h4,h6,_⟩:=t;exact h6
def uJ (K:aab) (Pa:Addr) (iE:Nat) (tb:(St→Addr→Hp→Prop)→TS) (ts:TS):TS:=fun D σ H =>
  tb (fun σ' C H'=>Und K C Pa∧∀ ea,H' ea=none→ts { nx:=fun σ2 H2=>D.nx (σ2.set iE none) H2,rt:=fun _ _=>False } (σ'.set iE (some (.ref ea))) (upd H' ea (cB ea C))) D σ H
theorem sq {X:Cx} {body:List Stmt} {tb:(St→Addr→Hp→Prop)→TS} {ts:TS} {iE:Nat} {n x:Str} {Pa:Addr} {b₀:Stmt} {suite:List Stmt} {tp hpos pos:Pos} (hx:X.ex=[]) (hst:X.stack=X.env :: X.outer) (hfr:X.env.frame=some X.env.locals)
    (hg:Gl X x) (hm:X.mg x=some (.ref Pa)) (hN:X.N.Nodup) (hi:X.N[iE]?=some n) (hl:X.env.scope.names.lookup n=some .local) (hb:∀ pins0 Cat,PSs (oR X pins0 Cat) body (tb Cat)) (hs:∀ v,PSs (mJ X v) (b₀ :: suite) ts) (hdb:(x == ("__debug__":Str))=false:=by decide) :
    PS X (.Try body [.ExceptHandler (some (.Name x tp)) (some n) (b₀ :: suite) hpos] [] [] pos) (uJ X.K Pa iE tb ts):=by
  intro pins s σ H D I h;refine wpAny_Try_except (wpAny_mono (hb pins _ [] s σ H D (rh I) h) (fun f s1 q=>?_) (fun e s1 q=>?_))
  · cases f with
    | next=>obtain ⟨σ',H',I',q⟩:=q;exact wpAny_execs_nil ⟨σ',H',dS I',q⟩
    | brk=>obtain ⟨σ',H',I',q⟩:=q;exact ⟨σ',H',dS I',q⟩
    | cont=>obtain ⟨σ',H',I',q⟩:=q;exact ⟨σ',H',dS I',q⟩
    | ret u=>obtain ⟨v,σ',H',I',r,q⟩:=q;exact ⟨v,σ',H',dS I',r,q⟩
  · obtain ⟨ea,T,C,H',σ',rfl,J,tr,m1,m2,f1,f2,und,cat⟩:=q;have fr:X.A.frames=some (X.env :: X.outer):=by rw [← hst];exact J.ok.frames
    have stk:s1.heap.FunFrames X.base (X.env :: X.outer):=by rw [← hst];exact J.stack
    refine oh (b0:=X.base) fr stk hfr tr fun h2 T2 lf tr2 hT2=>?_;have J1:=qF J tr m1 f1;have mT:upd H' ea (cB ea C) T=none:=by rw [aj tr.ne];exact m2
    have J2:Inv X pins σ' (upd H' ea (cB ea C)) { s1 with heap:=h2 }:=lC J1 f1 (x:=[T]) (fun b hb=>by rw [aar.mp hb];exact ⟨f2,mT⟩) (by rw [hst];exact lf) tr2.there;have fT2:iS X pins T2∧upd H' ea (cB ea C) T2=none:=by
      rcases hT2 with rfl|z
      · exact ⟨f2,mT⟩
      · refine ⟨J1.fresh_of hx z,?_⟩;cases q:upd H' ea (cB ea C) T2 with
        | none=>rfl
        | some o =>
          obtain ⟨u,hu⟩:=(J1.hok T2 o q).get;rw [z] at hu;cases hu
    refine wpAny_handleBy_cons (codeAny_handlers_test ?_) (by intro q;cases q);refine fj (X:=mJ X (.ref ea)) (li J2) hg hm ?_ hdb;obtain ⟨oe,vs,he2,hc2,_⟩:=tr2.there;refine oG (s:={ s1 with heap:=h2 }) und J2.kIn he2 hc2 ?_;show codeAny _ _ _ _ _;refine codeAny_handlers_suite_as ?_;have stk2:h2.FunFrames X.base (X.env :: X.outer):=by rw [← hst];exact J2.stack
    refine ox (s:={ s1 with heap:=h2 }) (b0:=X.base) (l:=X.env :: X.outer) stk2 tr2 fun h3 T3 lf3 tr3 hT3=>?_;have J3:Inv X pins σ' (upd H' ea (cB ea C)) { s1 with heap:=h3 }:=lC (s:={ s1 with heap:=h2 }) J2 f1 (x:=[T2]) (fun b hb=>by rw [aar.mp hb];exact fT2) (by rw [hst];exact lf3) tr3.there;refine hW (v:=.ref ea) J3 hN hi (.inl hl) rfl (fun s4 J4=>?_) (.inr hl);refine wpAny_mono (hs (.ref ea) pins s4 _ _ _ (li J4) (cat ea m1)) (fun f s5 q5=>?_) (fun _ _ z=>z.elim);cases f with
    | next =>
      obtain ⟨σ5,H5,I5,q5⟩:=q5;have I5:=mE J.ok.hd J.ok.frames I5;obtain ⟨m,hn,hlk⟩:=id I5.loc;exact wpAny_nameGoes_keeps hl hn (by rw [I5.ok.kind];rfl) fun h6 v hn6 hs6=>⟨_,H5,I5.unset hN hi hlk hn6 hs6,q5⟩
    | brk=>obtain ⟨_,_,_,q⟩:=q5;exact abg q
    | cont=>obtain ⟨_,_,_,q⟩:=q5;exact abg q
    | ret u=>obtain ⟨_,_,_,_,_,q⟩:=q5;exact abg q
open PySem PySem.Spec PyProof.Rows
structure Lkp (M:Model) (h:Heap) (C:Addr):Prop where
  ga:acI M h (typeLookup (.ref C) "__getattribute__") (some (.builtin "BaseException.__getattribute__"))
  no:acI M h (typeLookup (.ref C) "__getattr__") none
  cls:acI M h (typeLookup (.ref C) "__class__") (some (.builtin "object.__class__"))
  be:acI M h (isSubtype (.ref C) (.type "BaseException")) true
  obj:acI M h (isSubtype (.ref C) (.type (".".intercalate ("object.__class__".cutAt '.').dropLast))) true
section
variable {prog:Program} {w:World} {A:Around} {E:Value→Shared→Prop} {h:Heap} {g:Array GenState} {d:Drawn} {t:Nat} {os:OsState} {a C:Addr} {o:Obj}
theorem rA {R:Result→Shared→Prop} (L:Lkp (model prog w) h C) (hx:h.get? a=some o) (hc:o.cls=.ref C) (hq:R (.ok (.ret (.ref C))) ⟨h,g,d,t,os⟩) :
    codeAny (model prog w) A (.call (.builtin "getset_descriptor.__get__") ⟨[.builtin "object.__class__",.ref a,.ref C],[]⟩) R ⟨h,g,d,t,os⟩:=by
  have hT5:(⟨h,g,d,t,os⟩:Shared).TypeIs (.builtin "object.__class__") "getset_descriptor":=acz;refine codeAny_call_builtin F.slot_gs_get.plain F.entry_gs_get (F.slot_gs_get.check _ _ _ _ _ _ _ _ hT5 (F.args_gs_get _ _ _) ?_)
  repeat (any_goals (first|assumption|(with_reducible refine wpAny_loadPart_at hx ?_;rw [hc])|(refine L.obj _ _ _ _ (fun _ _ e=>e) ?_)|wp_step))
  refine ⟨Code.quiet_builtin _ (by decide +kernel),codeAny_builtin F.entry_object_class ?_⟩
  repeat (any_goals (first|assumption|(with_reducible refine wpAny_loadPart_at hx ?_;rw [hc])|wp_step))
theorem oN {M:Model} {nameV:Value} {Q:Unit→Shared→Prop} (L:Lkp M h C) (hx:h.get? a=some o) (hc:o.cls=.ref C) (hq:Q () ⟨h,g,d,t,os⟩):wpAny M A (checkBuiltinCall "BaseException.__getattribute__" ⟨[.ref a,nameV],[]⟩) Q E ⟨h,g,d,t,os⟩:=by
  have hk:builtinKind "BaseException.__getattribute__" = some .slot:=by decide +kernel
  have hsplit:splitId "BaseException.__getattribute__" = some ("BaseException","__getattribute__"):=by decide +kernel
  have ha:=F.args_bexc_ga (.ref a) nameV;simp only [checkBuiltinCall,hk,hsplit];refine wpAny_bind ?_;unfold isInstance
  repeat (first|(with_reducible refine wpAny_loadPart_at hx ?_;rw [hc])|(refine L.be _ _ _ _ (fun _ _ e=>e) ?_)|wp_step)
  exact hq
theorem oM {tk:Tok} {Q:Fin→Shared→Prop} (L:Lkp (model prog w) h C) (hx:h.get? a=some o) (hc:o.cls=.ref C) (hq:Q (.done (.ret (.ref C))) ⟨h,g,d,t,os⟩) :
    wpAny (model prog w) A (Builtin.«object.__getattribute__» ⟨[.ref a,.str "__class__" tk],[]⟩) Q E ⟨h,g,d,t,os⟩:=by
  have hT5:(⟨h,g,d,t,os⟩:Shared).TypeIs (.builtin "object.__class__") "getset_descriptor":=acz;have f5:=acz;have f6:=F.slot_gs_get.lookup;have f7:=F.slot_gs_set.lookup
  repeat (any_goals (first|assumption|(with_reducible refine wpAny_loadPart_at hx ?_;rw [hc])|(refine L.cls _ _ _ _ (fun _ _ e=>e) ?_)|wp_step))
  refine rA L hx hc ?_
  repeat (any_goals (first|assumption|wp_step))
theorem qD {tk:Tok} {R:Result→Shared→Prop} (L:Lkp (model prog w) h C) {B:String} (hg:Slot B "__getattribute__" "BaseException.__getattribute__") (hx:h.get? a=some o) (hc:o.cls=.ref C) (hq:R (.ok (.ret (.ref C))) ⟨h,g,d,t,os⟩) :
    codeAny (model prog w) A (.call (.builtin "BaseException.__getattribute__") ⟨[.ref a,.str "__class__" tk],[]⟩) R ⟨h,g,d,t,os⟩ :=
  codeAny_call_builtin hg.plain F.entry_bexc_ga (oN L hx hc (oM L hx hc hq))
theorem tw {tk:Tok} {fill expr:Bool} {Q:Value→Shared→Prop} (L:Lkp (model prog w) h C) {B:String} (hg:Slot B "__getattribute__" "BaseException.__getattribute__") (hx:h.get? a=some o) (hc:o.cls=.ref C) (hq:Q (.ref C) ⟨h,g,d,t,os⟩) :
    wpAny (model prog w) A (getAttrBy (.ref a) (.str "__class__" tk) fill expr) Q E ⟨h,g,d,t,os⟩:=by
  have f3:=hg.bind (.ref a);have hx0:(expr && onTheHeap (Value.builtin "BaseException.__getattribute__"))=false:=by cases expr <;> rfl
  have hx2:(Value.builtin "BaseException.__getattribute__" == Value.builtin "object.__getattribute__")=false:=by decide +kernel
  have hx1:(onTheHeap (Value.ref C) && Value.builtin "BaseException.__getattribute__" == Value.builtin "object.__getattribute__")=false:=by rw [hx2];rfl
  repeat (any_goals (first|assumption|(with_reducible refine wpAny_loadPart_at hx ?_;rw [hc])|(refine L.ga _ _ _ _ (fun _ _ e=>e) ?_)|(refine L.no _ _ _ _ (fun _ _ e=>e) ?_)|wp_step))
  refine qD L hg hx hc ?_
  repeat (any_goals (first|assumption|wp_step))
theorem qE {Q:Option Value→Shared→Prop} (L:Lkp (model prog w) h C) {B:String} (hg:Slot B "__getattribute__" "BaseException.__getattribute__") (hx:h.get? a=some o) (hc:o.cls=.ref C) (hq:Q (some (.ref C)) ⟨h,g,d,t+1,os⟩):wpAny (model prog w) A (getAttr? (.ref a) "__class__") Q E ⟨h,g,d,t,os⟩:=by
  unfold getAttr? getAttrBy?
  repeat (any_goals (first|assumption|with_reducible apply tw L hg hx hc|wp_step))
end
structure ExC (K:aab) (C:Addr):Prop where
  lk:∀ (M:Model) (h:Heap),K.In h→Lkp M h C
  cl:(aaZ K C).isSome=true
  sl:∃ B,Slot B "__getattribute__" "BaseException.__getattribute__"
theorem lh {K:aab} {e C:Addr} (x:ExC K C):PySem.W.KitX K (.ref e) (.ref C) (fun h=>∃ o,h.get? e=some o∧o.cls=.ref C) where
  ty:=fun M h _ p=>by
    obtain ⟨o,h1,h2⟩:=p;exact h2 ▸ (PySem.W.Looks.ld h1).andThen .now
  it:=fun _ _ X _=>by
    have hcD:=x.cl;unfold aaZ at hcD;split at hcD
    · rename_i c' d' cd' sl' ho;intro A' Q' E' s' k q;unfold isType loadHead;exact wpAny_bind (wpAny_loadPart (k _ _ (X _ _ ho)) (wpAny_pure q))
    · cases hcD
  ne:=fun h tp dd its n sl X htp=>by
    refine Bool.eq_false_iff.mpr fun q=>?_;have e:C=tp:=Value.ref.inj (beq_iff_eq.mp q);subst e;have hcD:=x.cl;unfold aaZ at hcD;split at hcD
    · rename_i c' d' cd' sl' ho;have z:=(X _ _ ho).symm.trans htp;cases z
    · cases hcD
  ca:=fun {prog w A E Q s} X p k=>by
    obtain ⟨h,g,d,t,os⟩:=s;obtain ⟨o,h1,h2⟩:=p;obtain ⟨B,hg⟩:=x.sl;exact qE (x.lk _ _ X) hg h1 h2 k
open PySem PySem.Spec PyProof.Rows
theorem fz:∀ {bs:List Bool} {its:List Value},Vals (bs.map V.bl) its→its=bs.map Value.bool
  | [],_,.nil=>rfl
  | b :: r,_,.cons h t=>by
    cases (show _=Value.bool b from h);rw [fz t];rfl
theorem nC {X:Cx} {pins:List (Addr × Obj)} {σ:St} {H:Hp} {s:Shared} (I:Inv X pins σ H s) {A:Around} (hu:A.units+0 < cLine) (b:Bool):SeqAt.EqAt A s (.bool b) (.bool true) (Value.bool b == Value.bool true):=by
  have z:=(EqR.flat (K:=X.K) (H:=H) (n:=0) (x:=.bl b) (y:=.bl true) rfl rfl).at I (A:=A) (u:=.bool b) (v:=.bool true) rfl rfl hu;have e:eqV (.bl b) (.bl true)=(Value.bool b == Value.bool true):=by cases b <;> rfl
  rw [e] at z;exact z
theorem oo {X:Cx} (hu:X.A.units+64 < cLine):MtR X "list.count" (fun x vs H Q=>∃ (l:Addr) (bs:List Bool),x=.ref l∧vs=[.bl true]∧SqL X.K H l (bs.map V.bl)∧Q (.int (bs.countP id:Nat)) H):=by
  intro pins s σ H x vs v us Q I rx rv h;obtain ⟨l,bs,rfl,rfl,hq,q⟩:=h;cases rx;obtain ⟨u,rfl,ru⟩:=dl rv;cases ru;obtain ⟨its,r,⟨o,n,ho,hc,hs,hd⟩,hz⟩:=I.list hq;have ei:=fz r;subst ei;obtain ⟨oc,od,dat,sl⟩:=o;cases (show oc=_ from hc);cases (show dat=_ from hd);refine call_meets F.slot_list_count ⟨_,ho,rfl⟩ F.entry_list_count (F.args_list_count_2 _ _) (SeqAt.list_countAt l (bs.map Value.bool).toArray n od sl (.bool true) (fun v=>v == .bool true)) ⟨ho,fun y hy=>?_,?_⟩
  · have hy':y∈bs.map Value.bool:=by simpa using hy
    obtain ⟨b,_,rfl⟩:=acC.mp hy';exact nC I (by show X.A.units+1+0 < cLine;lia) b
  · have e:(bs.map Value.bool).countP (fun v=>v == .bool true)=bs.countP id:=by
      rw [List.countP_map];congr 1;funext b;cases b <;> rfl
    refine ⟨.int (bs.countP id:Nat),H,I.tok _,⟨s.toks,?_⟩,q⟩;show Value.int (((bs.map Value.bool).toArray.toList.countP fun v=>v == .bool true:Nat):Int) s.toks=_;rw [show (bs.map Value.bool).toArray.toList=bs.map Value.bool from rfl,e]
theorem om {X:Cx} (hu:X.A.units+64 < cLine):MtR X "list.index" (fun x vs H Q=>∃ (l:Addr) (bs:List Bool) (j:Nat),x=.ref l∧vs=[.bl true]∧SqL X.K H l (bs.map V.bl)∧bs[j]?=some true∧(∀ m,m < j→bs[m]?=some false)∧bs.length≤1000∧Q (.int (j:Nat)) H):=by
  intro pins s σ H x vs v us Q I rx rv h;obtain ⟨l,bs,j,rfl,rfl,hq,hj,hb,hl,q⟩:=h;cases rx;obtain ⟨u,rfl,ru⟩:=dl rv;cases ru;obtain ⟨its,r,⟨o,n,ho,hc,hs,hd⟩,hz⟩:=I.list hq;have ei:=fz r;subst ei;obtain ⟨oc,od,dat,sl⟩:=o;cases (show oc=_ from hc);cases (show dat=_ from hd);have hjl:j < bs.length:=(aai.mp hj).1;refine call_meets F.slot_list_index ⟨_,ho,rfl⟩ F.entry_list_index (F.args_list_index_2 _ _) (SeqAt.list_indexAt l (bs.map Value.bool).toArray n od sl (.bool true) (fun v=>v == .bool true) j (by simpa using hjl) (by lia) ?_ ?_) ⟨ho,fun y hy=>?_,?_⟩
  · have : bs[j]=true:=(aai.mp hj).2;simp [this]
  · intro m hm hmj;have : bs[m]'(by simpa using hm)=false:=(aai.mp (hb m hmj)).2;simp [this]
  · have hy':y∈bs.map Value.bool:=by simpa using hy
    obtain ⟨b,_,rfl⟩:=acC.mp hy';exact nC I (by show X.A.units+1+0 < cLine;lia) b
  · exact ⟨.int (j:Nat),H,I.tok _,⟨_,rfl⟩,q⟩
theorem gZ:∀ {ns:List Int} {its:List Value},Vals (ns.map V.int) its→∃ ts:List (Int × Tok),its=ts.map (fun p=>Value.int p.1 p.2)∧ts.map (·.1)=ns
  | [],_,.nil=>⟨[],rfl,rfl⟩
  | i :: r,_,.cons h t=>by
    obtain ⟨k,rfl⟩:=(show ∃ k,_=Value.int i k from h)
    obtain ⟨ts,e1,e2⟩:=gZ t;exact ⟨(i,k) :: ts,by rw [e1];rfl,by rw [aaG,e2]⟩
open PySem PySem.Spec PyProof.Rows
open PySem PySem.Spec PyProof.Rows
def fX (es:Array DictEntry):Bool:=es.toList.all fun e=>match e.key with|.str _ _=>true|_=>false
theorem qe {es:Array DictEntry} (h:fX es=true):StrKeys es:=fun e he=>by
  have z:=aa0.mp h e (by simpa using he);cases q:e.key with
  | str n t=>exact ⟨n,t,rfl⟩
  | _=>rw [q] at z;cases z
section
variable {K:aab} {C Pa N N':Addr} {nm nm' q q':Str} {bs bs' sub sub':List Value} {hdct hdct':Bool} {sn sn':List Str} {ab ab':Bool} {col col':Option Bool} {dd dd':Option Addr} {k0 k1 k2 k3 k5 k0' k1' k2' k3' k5' oc oc':Option Value}
  {c1 c2:Value} {od od':Option Addr} {es es':Array DictEntry} {n n':Nat} {sl sl':Array (Option Value)}
theorem rK (s:K.lookup N=some ⟨c1,od,.dict es n,sl⟩) (t:fX es=true) {h:Heap} (X:K.In h):h.Ns N (nsFind es):=⟨_,es,n,X _ _ s,rfl,qe t,fun _=>rfl⟩
abbrev iW:List Value:=[.type "ValueError",.type "Exception",.type "BaseException",.type "object"]
theorem jV (l:K.lookup C=some (excClassObj nm q C N bs (.ref Pa :: iW) hdct sn sub ab col dd k0 k1 k2 k3 k5 "ValueError.__new__")) (s:K.lookup N=some ⟨c1,od,.dict es n,sl⟩) (t:fX es=true) (i:nsFind es "__init__" = none)
    (l':K.lookup Pa=some (excClassObj nm' q' Pa N' bs' iW hdct' sn' sub' ab' col' dd' k0' k1' k2' k3' k5' "ValueError.__new__")) (s':K.lookup N'=some ⟨c2,od',.dict es' n',sl'⟩) (t':fX es'=true) (i':nsFind es' "__init__" = none):EC K C :=
  ⟨_,_,_,_,_,_,_,_,_,_,_,_,_,_,_,_,"ValueError",_,_,_,nsFind es,PySem.F.excBase_ValueError,(by rfl),i,fun h X=>⟨X _ _ l,rK s t X,.own (X _ _ l') (rK s' t' X) i' .base⟩⟩
theorem gO (l:K.lookup C=some (excClassObj nm q C N bs (.ref Pa :: iW) hdct sn sub ab col dd k0 k1 k2 k3 k5 "ValueError.__new__"))
    (l':K.lookup Pa=some (excClassObj nm' q' Pa N' bs' iW hdct' sn' sub' ab' col' dd' k0' k1' k2' k3' k5' "ValueError.__new__")):Und K C Pa :=
  ⟨_,_,_,_,_,_,_,_,_,_,_,_,_,_,_,_,_,_,_,_,_,_,_,_,_,_,_,_,_,_,_,_,_,_,(by simp),(by rfl),fun h X=>⟨X _ _ l,X _ _ l'⟩⟩
theorem jU (l:K.lookup C=some (excClassObj nm q C N bs (.ref Pa :: iW) hdct sn sub ab col dd k0 k1 k2 k3 k5 "ValueError.__new__")) (f1:aaP K (.ref C) "__getattribute__" = some (some (.builtin "BaseException.__getattribute__"))) (f2:aaP K (.ref C) "__getattr__" = some none)
    (f3:aaP K (.ref C) "__class__" = some (some (.builtin "object.__class__"))) (f4:aaj K (.ref C) (.type "BaseException")=some true) (f5:aaj K (.ref C) (.type "object")=some true):ExC K C where
  lk:=fun M h X=>⟨PySem.W.looks_findIn X f1,PySem.W.looks_findIn X f2,PySem.W.looks_findIn X f3,PySem.W.looks_subIn X f4,by
    have e:(".".intercalate ("object.__class__".cutAt '.').dropLast) = "object":=by decide +kernel
    rw [e];exact PySem.W.looks_subIn X f5⟩
  cl:=by unfold aaZ;rw [l];rfl
  sl:=⟨"ValueError",PySem.F.attrBase_ValueError.ga⟩
theorem au {D:Addr} {cd:ClassData} {b:Bool} (ne:(Value.ref C == Value.ref D)=false) (h1:aaZ K D=some cd) (h2:abf K (.ref D)=some (.type "type")) (h3:aaj K (.ref C) (.ref D)=some b):aaI K (.ref C) (.ref D)=some b:=by
  unfold aaI PySem.W.kitCls;rw [ne,if_neg (by simp)];show (if ((aaZ K D).isSome && abf K (Value.ref D) == some (Value.type "type"))=true then aaj K (Value.ref C) (Value.ref D) else none)=some b;rw [h1,h2];exact (if_pos (by simp)).trans h3
theorem fV:aaI K (.ref C) (.ref C)=some true:=by
  unfold aaI;rw [if_pos (beq_self_eq_true _)]
theorem gW (h3:aaj K (.ref C) (.type "ValueError")=some true):aaI K (.ref C) (.type "ValueError")=some true:=by
  unfold aaI PySem.W.kitCls;have e:PySem.W.kitMeta "ValueError" = true:=by decide +kernel
  have e1:(Value.ref C == Value.type "ValueError")=false:=rfl;simp only [e1,e,if_true];exact h3
end
end L2
namespace L2
open PySem
theorem fW {K:aab} {t a b c d:Value} (h1:aaI K t a=some false) (h2:aaI K t b=some false) (h3:aaI K t c=some false) (h4:aaI K t d=some false):PySem.W.kitAny K t [a,b,c,d]=some false:=by
  simp only [PySem.W.kitAny,h1,h2,h3,h4]
open PySem PySem.Spec PyProof.Rows
open PySem PySem.Spec PyProof.Rows
section
variable {X:Cx}
end
open PySem PySem.Spec PyProof.Rows
section
variable {X:Cx}
theorem me {ts:List (Int × Tok)} {j:Nat} (h:j < ts.length):numAt ts.toArray j=(ts[j]).1:=by
  unfold numAt;simp [h]
theorem rB {ts:List (Int × Tok)} {k:Nat} {v:Value} (hk:k < ts.length) (hv:(intItems ts.toArray)[k]?=some v):∃ t,v=.int (numAt ts.toArray k) t:=by
  unfold intItems at hv;rw [me hk];have e:((ts.toArray.map fun p=>Value.int p.1 p.2))[k]?=some (Value.int (ts[k]).1 (ts[k]).2):=by simp [hk]
  have hv':((ts.toArray.map fun p=>Value.int p.1 p.2))[k]?=some v:=hv;rw [e] at hv';exact ⟨_,(aaN hv').symm⟩
theorem oO (hc:X.calm=true):cW X (.builtin "min") (fun xs H Q=>∃ (p:Addr) (ns:List Int),xs=[.ref p]∧SqL X.K H p (ns.map V.int)∧ns≠[]∧∀ m∈ns,(∀ x∈ns,m≤x)→Q (.int m) H):=by
  intro pins s σ H xs us Q I r h;obtain ⟨p,ns,rfl,hq,hne,q⟩:=h;obtain ⟨u,rfl,rx⟩:=dl r;cases rx;obtain ⟨its,r',pl,hz⟩:=I.list hq;obtain ⟨ts,e1,e2⟩:=gZ r';subst e1;have el:(ts.map (fun p=>Value.int p.1 p.2)).toArray=intItems ts.toArray:=by unfold intItems;simp
  have hl:0 < ts.length:=by
    rw [← aak (f:=(·.1)),e2];exact List.length_pos_iff.mpr hne
  refine min_intList (xs:=ts.toArray) (I.ok.hd hc) (by rw [← el];exact pl.isList) (by simpa using hl) fun v h' tk hv hk=>?_;have sz:ts.toArray.size=ts.length:=by simp
  rw [sz] at hv;obtain ⟨b1,b2⟩:=argBest_lt (numAt ts.toArray) (ts.length - 1);revert b1 b2 hv;generalize argBest (fun i j=>decide (numAt ts.toArray i < numAt ts.toArray j)) (ts.length - 1)=k;intro hv b1 b2;have kl:k < ts.length:=by lia
  obtain ⟨t,rfl⟩:=rB kl hv;refine ⟨.int (numAt ts.toArray k),H,I.kept (t':=tk) hk,⟨t,rfl⟩,q _ ?_ fun x hx=>?_⟩
  · rw [me kl,← e2];exact List.mem_map.mpr ⟨_,List.getElem_mem kl,rfl⟩
  · rw [← e2] at hx;obtain ⟨y,hy,rfl⟩:=acC.mp hx;obtain ⟨j,hj,rfl⟩:=abz hy;have:=b2 j (by lia);rw [me hj] at this;exact this
end
open PySem PySem.Spec PyProof.Rows
section
variable {prog:Program} {w:World} {A:Around} {E:Value→Shared→Prop} {s:Shared} {I:Addr} {fp wr:List Addr} {G:Array GenState→Array GenState→Prop} {n:Nat} {P:Nat→Value→Prop} {St:Nat→Shared→Prop}
end
end L2
set_option maxHeartbeats 1000000
namespace L2
open PySem PySem.Spec PyProof.Rows
section
variable {X:Cx} {pos:Pos} {t u:TS}
end
open PySem PySem.Spec PyProof.Rows
section
variable {X:Cx}
end
open PySem PySem.Spec PyProof.Rows
section
variable {X:Cx}
end
end L2
namespace PySem
open Builtin Builtin.Str Builtin.Int
section
variable {prog:Program} {w:World} {A:Around} {E:Value→Shared→Prop} {s:Shared} {x:Str} {t:Tok} {Q:Value→Shared→Prop}
  {I:Addr} {fp wr:List Addr} {G:Array GenState→Array GenState→Prop} {n:Nat} {P:Nat→Value→Prop} {St:Nat→Shared→Prop}
end
end PySem
namespace L2
open PySem PySem.Spec PyProof.Rows
section
variable {X:Cx}
end
open PySem PySem.Spec PyProof.Rows
section
variable {X:Cx}
end
open PySem PySem.Spec PyProof.Rows
section
variable {X:Cx} {pins:List (Addr × Obj)} {σ:St} {H:Hp} {s:Shared} {A:Around} {Q:Value→Shared→Prop} {E:Value→Shared→Prop} {b:Bool}
end
section
variable {X:Cx} {a b c d:Expr} {ta tb tc td:TE} {pos:Pos}
end
section
variable {X:Cx}
end
open PySem PySem.Spec PyProof.Rows
section
variable {X:Cx} {o e:Expr} {es:List Expr} {to:TE} {t:TA} {name:Str} {apos cpos:Pos} {T id:String} {r:V→List V→Hp→VK→Prop} {K:aab}
end
open PySem PySem.Spec PyProof.Rows
structure Trn (J:It) (n:Nat) (Kp:Hp→Prop) (item:Nat→V→Hp→Hp→Prop):Prop where
  go:∀ i H,i < n→Kp H→J.go i H
  stop:∀ H,Kp H→J.stop n H
  yld:∀ i H x H',i < n→Kp H→J.yld i H x H'→item i x H H'
theorem Trn.list {K:aab} {a:Addr} {xs:List V}:Trn (Itl K a) xs.length (fun H=>SqL K H a xs) (fun i x H H'=>H'=H∧xs[i]?=some x) :=
  ⟨fun i H hi q=>⟨xs,xs[i],q,by simp [hi]⟩,fun H q=>⟨xs,q,aad _⟩,fun i H x H' hi q y=>⟨y.1,y.2 xs q⟩⟩
theorem Trn.tup {K:aab} {a:Addr} {xs:List V}:Trn (Itt K a) xs.length (fun H=>SqT K H a xs) (fun i x H H'=>H'=H∧xs[i]?=some x) :=
  ⟨fun i H hi q=>⟨xs,xs[i],q,by simp [hi]⟩,fun H q=>⟨xs,q,aad _⟩,fun i H x H' hi q y=>⟨y.1,y.2 xs q⟩⟩
theorem Trn.range {lo:Int} {n:Nat}:Trn (Itr lo n) n (fun _=>True) (fun i x H H'=>H'=H∧x=.int (lo+i)) :=
  ⟨fun i H hi _=>hi,fun H _=>aad _,fun i H x H' hi _ y=>y⟩
theorem Trn.str {z:Str}:Trn (Its z) z.cps.size (fun _=>True) (fun i x H H'=>H'=H∧∃ c,z.cps[i]?=some c∧x=.str ⟨#[c]⟩) :=
  ⟨fun i H hi _=>hi,fun H _=>aad _,fun i H x H' hi _ y=>y⟩
theorem lg {J:It} {n:Nat} {Kp:Hp→Prop} {item:Nat→V→Hp→Hp→Prop} (T:Trn J n Kp item) {cap:List (Option Nat)} {g:TG} {tt:TT} {te:TE} {σ:St} {H:Hp} {Q:VK} (Pv:Nat→List V→Hp→Prop) (h0:Pv 0 [] H) (hk:∀ i ys H,i≤n→Pv i ys H→Kp H∧ys.length < sizeLine)
    (hs:∀ i x ys H H',i < n→item i x H H'→Pv i ys H→∀ Nx:List V→Hp→Prop,(∀ ys' H2,Pv (i+1) ys' H2→Nx ys' H2)→g x (bS cap σ) H' fun σ2 H2=>tt σ2 H2 fun b H3=>if b=true then te σ2 H3 fun v H4=>Nx (ys++[v]) H4 else Nx ys H3)
    (hd:∀ ys H,Pv n ys H→∀ p,H p=none→Q (.ref p) (upd H p (.lst ys))):tK cap g tt te σ Q J H:=by
  refine ⟨fun i m ys H=>m=n - i∧i≤n∧Pv i ys H,⟨n,by simp,aa1 _,h0⟩,?_⟩;rintro i m ys H ⟨rfl,hi,p⟩;by_cases hlt:i < n
  · refine .inr ⟨T.go i H hlt (hk i ys H hi p).1,(hk i ys H hi p).2,fun x H' y=>?_⟩;exact hs i x ys H H' hlt (T.yld i H x H' hlt (hk i ys H hi p).1 y) p (fun ys' H4=>∃ m',m' < n - i∧m'=n - (i+1)∧i+1≤n∧Pv (i+1) ys' H4) fun ys' H2 h=>⟨_,by lia,rfl,hlt,h⟩
  · have e:i=n:=by lia
    subst e;exact .inl ⟨T.stop H (hk _ ys H hi p).1,hd ys H p⟩
theorem sR {J:It} {n:Nat} {Kp:Hp→Prop} {item:Nat→V→Hp→Hp→Prop} (T:Trn J n Kp item) {cap:List (Option Nat)} {g:TG} {tt:TT} {wi2:TI} {g2:TG} {tt2:TT} {te:TE} {σ:St} {H:Hp} {Q:VK} (Pv:Nat→List V→Hp→Prop) (h0:Pv 0 [] H) (hk:∀ i ys H,i≤n→Pv i ys H→Kp H)
    (hs:∀ i x ys H H',i < n→item i x H H'→Pv i ys H→∀ Nx:List V→Hp→Prop,(∀ ys' H2,Pv (i+1) ys' H2→Nx ys' H2)→g x (bS cap σ) H' fun σ2 H2=>tt σ2 H2 fun b H3=>if b=true then wi2 σ2 H3 (rR g2 tt2 te ys σ2 Nx) else Nx ys H3)
    (hd:∀ ys H,Pv n ys H→∀ p,H p=none→Q (.ref p) (upd H p (.lst ys))):rT cap g tt wi2 g2 tt2 te σ Q J H:=by
  refine ⟨fun i m ys H=>m=n - i∧i≤n∧Pv i ys H,⟨n,by simp,aa1 _,h0⟩,?_⟩;rintro i m ys H ⟨rfl,hi,p⟩;by_cases hlt:i < n
  · refine .inr ⟨T.go i H hlt (hk i ys H hi p),fun x H' y=>?_⟩;exact hs i x ys H H' hlt (T.yld i H x H' hlt (hk i ys H hi p) y) p (fun ys' H4=>∃ m',m' < n - i∧m'=n - (i+1)∧i+1≤n∧Pv (i+1) ys' H4) fun ys' H2 h=>⟨_,by lia,rfl,hlt,h⟩
  · have e:i=n:=by lia
    subst e;exact .inl ⟨T.stop H (hk _ ys H hi p),hd ys H p⟩
theorem sO {J:It} {n:Nat} {Kp:Hp→Prop} {item:Nat→V→Hp→Hp→Prop} (T:Trn J n Kp item) {g2:TG} {tt2:TT} {te:TE} {ys:List V} {σ:St} {H:Hp} {Fin:List V→Hp→Prop} (Pv:Nat→List V→St→Hp→Prop) (h0:Pv 0 ys σ H) (hk:∀ i ys σ H,i≤n→Pv i ys σ H→Kp H∧ys.length < sizeLine)
    (hs:∀ i x ys σ H H',i < n→item i x H H'→Pv i ys σ H→∀ Nx:List V→St→Hp→Prop,(∀ ys' σ' H2,Pv (i+1) ys' σ' H2→Nx ys' σ' H2)→g2 x σ H' fun σ3 H5=>tt2 σ3 H5 fun b H6=>if b=true then te σ3 H6 fun v H7=>Nx (ys++[v]) σ3 H7 else Nx ys σ3 H6)
    (hd:∀ ys σ H,Pv n ys σ H→Fin ys H):rR g2 tt2 te ys σ Fin J H:=by
  refine ⟨fun i m ys σ H=>m=n - i∧i≤n∧Pv i ys σ H,⟨n,by simp,aa1 _,h0⟩,?_⟩;rintro i m ys σ H ⟨rfl,hi,p⟩;by_cases hlt:i < n
  · refine .inr ⟨T.go i H hlt (hk i ys σ H hi p).1,(hk i ys σ H hi p).2,fun x H' y=>?_⟩;exact hs i x ys σ H H' hlt (T.yld i H x H' hlt (hk i ys σ H hi p).1 y) p (fun ys' σ' H4=>∃ m',m' < n - i∧m'=n - (i+1)∧i+1≤n∧Pv (i+1) ys' σ' H4) fun ys' σ' H2 h=>⟨_,by lia,rfl,hlt,h⟩
  · have e:i=n:=by lia
    subst e;exact .inl ⟨T.stop H (hk _ ys σ H hi p).1,hd ys σ H p⟩
open PySem PySem.Spec PyProof.Rows
open PySem PySem.Spec PyProof.Rows
section
variable {X:Cx}
end
open PySem PySem.Spec PyProof.Rows
section
variable {X:Cx} {a b c d e:Expr} {ta tb tc td te:TE} {pos:Pos}
end
end L2
namespace L2
open PySem PySem.Spec PyProof.Rows PySem.W
def cdO (c:Addr) (qual:Str):HO:=.ext fun h=>h.CodeRec (.ref c) qual
structure LTab (P:Addr) (qual:Str) (H:Hp) (ps:Array Value):Prop where
  tab:H P=some (.tbl ps)
  tri:TriplesOk ps.toList
  cds:∀ pos cv,codeAmong pos ps.toList=some cv→∃ c',cv=.ref c'∧H c'=some (cdO c' qual)
theorem i_ {pos:Pos} {a b:Int} {c cv:Value} (l:List Value) (h:TriplesOk l) (hn:codeAmong pos (l++[rawInt a,rawInt b,c])=some cv):codeAmong pos l=some cv∨cv=c:=by
  fun_induction TriplesOk l with
  | case1 =>
    simp only [abV,codeAmong,rawInt] at hn;split at hn
    · exact .inr (aaN hn).symm
    · cases hn
  | case2 a' t b' u x bx ih =>
    simp only [abZ,codeAmong] at hn ⊢;split at hn
    · rename_i hc;rw [if_pos hc];exact .inl hn
    · rename_i hc;rw [if_neg hc];exact ih h hn
  | case3 l h1 h2=>exact h.elim
theorem tz {P:Program} {w:World} {H:Hp} {h:Heap} {c:Addr} {qual:Str} (r:h.CodeRec (.ref c) qual):ObjOk P w H h c (cdO c qual):=by
  refine ⟨r,?_,fun h1 h2 p k=>?_⟩
  · obtain ⟨c',o,vs,t,e,ho,_⟩:=r;cases e;exact ⟨o,ho⟩
  · obtain ⟨c',o,vs,t,e,ho,r⟩:=p;cases e;exact ⟨c,o,vs,t,rfl,k o ho,r⟩
section
variable {X:Cx} {pins:List (Addr × Obj)} {σ:St} {H:Hp} {s:Shared}
theorem Inv.tbl (I:Inv X pins σ H s) {P:Addr} {ps:Array Value} (h:H P=some (.tbl ps)):s.heap.get? P=some (tabObj ps):=I.hok P _ h
abbrev eA (X:Cx) (params:Arguments) (body:Expr) (scope:Scope) (c':Addr) (ctv:Value):Obj :=
  kla_obj "<lambda>" (X.env.qual ++ "<lambda>") params body scope [] ((X.mg "__name__").getD .none) c' ctv
theorem p_ (I:Inv X pins σ H s) {params:Arguments} {body:Expr} {scope:Scope} {pos:Pos} {c P:Addr} {ps:Array Value} (hdef:defaultsOf params X.env=([],[])) (hcl:closureFor scope X.env=pure [])
    (hcode:X.env.code=.ref c) (C:CodeHd X.base c P) (hB:X.base.BuiltinsAt X.mg P) (T:LTab P (X.env.qual ++ "<lambda>") H ps) {Q:Value→Shared→Prop}
    (h:∀ f c' ctv H' s',Inv X (pins++[(f,eA X params body scope c' ctv)]) σ H' s'→(∃ ps',LTab P (X.env.qual ++ "<lambda>") H' ps')→H' c'=some (cdO c' (X.env.qual ++ "<lambda>"))→But P H H'→Q (.ref f) s') :
    wpAny (model X.prog X.w) X.A (eval (.Lambda params body scope pos) X.env) Q X.xe s:=by
  refine kla_eval hdef ?_;have hP:=I.tbl T.tab;have hns:s.heap.Ns mainGlobals X.mg:=I.mod.glob.keeps I.bk;have C':CodeHd s.heap c P:=C.keeps I.bk;have pinned:∀ {H':Hp} {h':Heap} {tk:Tok} {c':Addr} {ctv:Value},Inv X pins σ H' { s with heap:=h'.push (eA X params body scope c' ctv),toks:=tk }→s.heap.objs.size≤h'.objs.size→HOk X.prog X.w H' h' →
      Inv X (pins++[(h'.objs.size,eA X params body scope c' ctv)]) σ H' { s with heap:=h'.push (eA X params body scope c' ctv),toks:=tk }:=fun {H' h' tk c' ctv} J hs hk=>by
    refine J.pins_of fun p hp=>?_;rcases aao.mp hp with hp|hp
    · exact J.pin p (aaa _ hp)
    · rw [aar.mp hp];refine ⟨aap _ rfl,hk.fresh (aad _),aaT (aaq I.lt hs),I.nofs hs,fun v z=>by cases z⟩
  cases hA:codeAmong pos ps.toList with
  | none =>
    have hgP:mainGlobals≠P:=fun e=>by
      obtain ⟨o,es,ep,e0,d0,_⟩:=hns;rw [e,hP] at e0;cases e0;cases d0
    refine kla_makeFunction hcl I.ok.glob hns hcode C' hP T.tri hA hgP (hB.keeps I.bk) fun c' ctv h' tk hx hge hlt hrec hP'=>?_;have hsz:s.heap.objs.size≤h'.objs.size:=aaL hge (Nat.le_of_lt hlt);have nc:H c'=none:=I.hok.fresh hge;have ncP:c'≠P:=fun e=>by rw [e,T.tab] at nc;cases nc
    have keepB:∀ b o,b≠P→s.heap.get? b=some o→h'.get? b=some o:=fun b o hb e=>hx b o hb e;have eP:upd (upd H P (.tbl (ps++#[rawInt pos.line,rawInt pos.col,.ref c']))) c' (cdO c' (X.env.qual ++ "<lambda>")) P=some (.tbl (ps++#[rawInt pos.line,rawInt pos.col,.ref c'])):=by
      rw [aj ncP.symm,ad]
    have eO:∀ b,b≠P→b≠c'→upd (upd H P (.tbl (ps++#[rawInt pos.line,rawInt pos.col,.ref c']))) c' (cdO c' (X.env.qual ++ "<lambda>")) b=H b:=fun b h1 h2=>by
      rw [aj h2,aj h1]
    have eS:∀ b o,b≠P→H b=some o→upd (upd H P (.tbl (ps++#[rawInt pos.line,rawInt pos.col,.ref c']))) c' (cdO c' (X.env.qual ++ "<lambda>")) b=some o:=fun b o h1 h2=>by
      rw [eO b h1 (ah h2 nc)];exact h2
    have eC:upd (upd H P (.tbl (ps++#[rawInt pos.line,rawInt pos.col,.ref c']))) c' (cdO c' (X.env.qual ++ "<lambda>")) c'=some (cdO c' (X.env.qual ++ "<lambda>")):=ad;generalize upd (upd H P (.tbl (ps++#[rawInt pos.line,rawInt pos.col,.ref c']))) c' (cdO c' (X.env.qual ++ "<lambda>"))=H2 at eP eO eS eC;have ok:HOk X.prog X.w H2 h':=fun b o e=>by
      by_cases hb:b=P
      · subst hb;rw [eP] at e;cases e;exact hP'
      by_cases hb2:b=c'
      · subst hb2;rw [eC] at e;cases e;exact tz hrec
      rw [eO b hb hb2] at e;refine (I.hok b o e).stay (fun d v hd q=>keepB d v ?_ q) (fun d q=>eS d _ (fun z=>by rw [z,T.tab] at q;cases q) q) fun d xs q=>eS d _ (fun z=>by rw [z,T.tab] at q;cases q) q;rintro rfl;rcases hd with z|z
      · exact hb z.symm
      · rw [T.tab] at z;cases z
    have J:Inv X pins σ H2 { s with heap:=h'.push (eA X params body scope c' ctv),toks:=tk }:=by
      refine I.un (h':=h'.push (eA X params body scope c' ctv)) ⟨fun b o q n _ _=>?_,fun b o q n _ _=>?_,fun b o q n _=>?_,fun b o q _=>?_,fun b xs q=>?_,fun b o xs q=>?_,fun b qs q=>?_⟩ (ok.kept fun b u e=>aac _ e)
      · exact aac _ (keepB b o (fun z=>by rw [z,T.tab] at n;cases n) q)
      · exact ⟨o.slots,aac _ (keepB b o (fun z=>by rw [z,T.tab] at n;cases n) q)⟩
      · rw [eO b (fun z=>by rw [z,T.tab] at n;cases n) (aas (aaq (aag q) hge))];exact n
      · by_cases hb:b=P
        · subst hb;exact ⟨_,aac _ hP'⟩
        · exact ⟨o,aac _ (keepB b o hb q)⟩
      · exact eS b _ (fun z=>by rw [z,T.tab] at q;cases q) q
      · exact eS b _ (fun z=>by rw [z,T.tab] at q;cases q) q
      · by_cases hb:b=P
        · subst hb;rw [T.tab] at q;cases q;exact ⟨_,eP⟩
        · exact ⟨#[],by rw [eS b _ hb q];simp⟩
    refine h _ c' ctv H2 _ (pinned J hsz ok) ⟨_,eP,?_,fun pos' cv hc=>?_⟩ eC (fun b o hb e=>eS b o hb e)
    · rw [aau];exact TriplesOk_snoc _ _ _ _ T.tri
    · rw [aau] at hc;rcases i_ _ T.tri hc with z|z
      · obtain ⟨d,e1,e2⟩:=T.cds pos' cv z;exact ⟨d,e1,eS d _ (fun y=>by rw [y,T.tab] at e2;cases e2) e2⟩
      · exact ⟨c',z,eC⟩
  | some cv =>
    obtain ⟨c',rfl,ec⟩:=T.cds pos cv hA;refine kla_makeFunctionHit hcl I.ok.glob hns hcode C' hP T.tri hA (hB.keeps I.bk) fun ctv h' tk hk hsz=>?_;have J:Inv X pins σ H { s with heap:=h'.push (eA X params body scope c' ctv),toks:=tk }:=I.kept fun b u e=>aac _ (hk b u e);exact h _ c' ctv H _ (pinned J hsz (I.hok.kept hk)) ⟨ps,T⟩ ec (fun b o _ e=>e)
end
section
variable {CX:CXT} {P:Program} {w:World} {K:aab} {mg:Str→Option Value} {base:Heap} {k:Nat}
theorem qb {A:Around} {outer:List Env} {s:Shared} {H:Hp} {f c':Addr} {ctv pm:Value} {name qual:Str} {params:Arguments} {body:Expr} {scope:Scope} {N ps:List Str} {args:Args} {us:List Value} {vs:List V} {Q:VK} {E:XK}
    (ho:s.heap.get? f=some (kla_obj name qual params body scope [] pm c' ctv)) (hcd:s.heap.CodeRec (.ref c') qual) (S:FnScope N ps scope) (hr:Room (k+1) A) (e0:Env0 P w K mg base A outer s H)
    (hb:bindArgs (kla_fn name qual params body scope [] pm (.ref c') ctv) args=pure (ps.zip us)) (r:Vals vs us) (hl:vs.length=ps.length)
    (hbody:∃ t,PE (fM CX P w K mg base N qual scope f (.ref c') A outer s H E) body t∧t (dI N vs) H Q):codeAny (model P w) A (.call (.ref f) args) (CR CX outer P w H s Q E) s:=by
  have lim:s.heap.NoLimit:=e0.mod.nolimit.keeps fun b o e=>(e0.bs b o e).1;have hkind:∀ y∈ps.zip us,scope.names.lookup y.1=some .local∨(scope.names.lookup y.1=some .cell∧((cellsFrom (s.heap.objs.size+1) scope.names []).lookup y.1).isSome=true):=fun ⟨n,v⟩ hy=>by
    rcases S.par n (List.of_mem_zip hy).1 with q|q
    · exact .inl q
    · exact .inr ⟨q,acv _ _ _ (.inl q)⟩
  refine kla_callFunE hr.depth ho rfl S.co S.gen rfl hcd ?_;refine wpAny_of_eq hb ?_;refine wpAny_newFunctionEnv_cells S.kind hkind fun env he s1 x=>?_;subst he;refine ⟨lim.keeps x.toInCall.keep,kla_codeExpr ?_⟩;obtain ⟨t,ht,hq⟩:=hbody;have I:Inv (fM CX P w K mg base N qual scope f (.ref c') A outer s H E) [] (dI N vs) H s1:=jn S hr.hd e0 hl r x;refine wpAny_mono (ht [] s1 (dI N vs) H _ I hq) (fun u s' hs=>?_) fun e s' hs=>hs;obtain ⟨v,H',J,rv,q⟩:=hs;exact ⟨v,H',J.os,J.bare,J.base,J.hok,rv,q⟩
end
def cM (kf:Nat→List Int):Nat→Nat
  | 0=>0
  | j+1=>if HT.lexLt (kf (j+1)) (kf (cM kf j))=true then j+1 else cM kf j
theorem lF (kf:Nat→List Int):∀ j,cM kf j≤j
  | 0=>aad _
  | j+1=>by
    unfold cM;split
    · exact aad _
    · exact Nat.le_succ_of_le (lF kf j)
section
variable {X:Cx} {pins pl:List (Addr × Obj)} {σ:St} {H:Hp} {s:Shared}
theorem Inv.turn1 {a:Addr} {o o':Obj} {h':Heap} {tk:Nat} (I:Inv X (pins++(a,o) :: pl) σ H s) (k:∀ b ob,b≠a→s.heap.get? b=some ob→h'.get? b=some ob) (e:h'.get? a=some o') (d:∀ v,o'.data≠.cell v)
    (h0:X.s₀.heap.objs.size≤a) (hp:∀ p∈X.pn++pins,p.1≠a) (hpl:∀ p∈pl,p.1≠a):Inv X (pins++(a,o') :: pl) σ H { s with heap:=h',toks:=tk }:=by
  obtain ⟨pe,pn,pL,pf,pd⟩:=I.pin (a,o) (aaa _ (aaa _ aaH));have J:Inv X (pins++pl) σ H s:=I.pins_of fun p hp=>I.pin p (aaa _ (by
    rcases aao.mp hp with z|z
    · exact aaC _ z
    · exact aaa _ (aaw _ z)))
  have hc:∀ x c,X.env.cells.lookup x=some c→c≠a:=fun x c z y=>by
    obtain ⟨v,oc,ho,hd⟩:=I.cell x c z;rw [y,pe] at ho;cases ho;exact pd v hd
  have h3:∀ p∈X.pn++(pins++pl),p.1≠a:=fun p z=>by
    rcases aao.mp z with z|z
    · exact hp p (aaC _ z)
    · rcases aao.mp z with z|z
      · exact hp p (aaa _ z)
      · exact hpl p z
  have T:Inv X (pins++pl) σ H { s with heap:=h',toks:=tk }:=J.turned k pn pL (.inr h0) hc h3;refine T.pins_of fun p z=>?_;rcases aao.mp z with z|z
  · exact T.pin p (aaa _ (aaC _ z))
  · rcases aay.mp z with rfl|z
    · exact ⟨e,pn,pL,pf,d⟩
    · exact T.pin p (aaa _ (aaa _ z))
theorem Inv.turn0 {a:Addr} {o:Obj} {h':Heap} {tk:Nat} (I:Inv X (pins++(a,o) :: pl) σ H s) (k:∀ b ob,b≠a→s.heap.get? b=some ob→h'.get? b=some ob)
    (h0:X.s₀.heap.objs.size≤a) (hp:∀ p∈X.pn++pins,p.1≠a) (hpl:∀ p∈pl,p.1≠a):Inv X (pins++pl) σ H { s with heap:=h',toks:=tk }:=by
  obtain ⟨pe,pn,pL,pf,pd⟩:=I.pin (a,o) (aaa _ (aaa _ aaH));have J:Inv X (pins++pl) σ H s:=I.pins_of fun p hp=>I.pin p (aaa _ (by
    rcases aao.mp hp with z|z
    · exact aaC _ z
    · exact aaa _ (aaw _ z)))
  have hc:∀ x c,X.env.cells.lookup x=some c→c≠a:=fun x c z y=>by
    obtain ⟨v,oc,ho,hd⟩:=I.cell x c z;rw [y,pe] at ho;cases ho;exact pd v hd
  have h3:∀ p∈X.pn++(pins++pl),p.1≠a:=fun p z=>by
    rcases aao.mp z with z|z
    · exact hp p (aaC _ z)
    · rcases aao.mp z with z|z
      · exact hp p (aaa _ z)
      · exact hpl p z
  exact J.turned k pn pL (.inr h0) hc h3
theorem Inv.swap {a b:Addr × Obj} (I:Inv X (pins++[a,b]) σ H s):Inv X (pins++[b,a]) σ H s:=I.pins_of fun p z=>I.pin p (aaa _ (by
  rcases aao.mp z with z|z
  · exact aaC _ z
  · exact aaa _ (by simp at z ⊢;exact z.symm)))
theorem Inv.at {a:Addr} {o:Obj} (I:Inv X (pins++pl) σ H s) (h:(a,o)∈pl):s.heap.get? a=some o:=(I.pin (a,o) (aaa _ (aaa _ h))).1
theorem oq {l q Ia S:Addr} {xs:List V} {kf:Nat→List Int} {Kv:Nat→V→Hp→Prop} {G:Hp→Prop} {Q:VK} (hh:X.A.handled=none) (hlI:l≠Ia) (hSI:S≠Ia)
    (hI0:X.s₀.heap.objs.size≤Ia) (hS0:X.s₀.heap.objs.size≤S) (hpI:∀ p∈X.pn++pins,p.1≠Ia) (hpS:∀ p∈X.pn++pins,p.1≠S) (hl:∀ H,G H→SqL X.K H l xs) (mono:∀ i k H H',Kv i k H→Same H H'→Kv i k H')
    (turn:∀ i x u pl H s,xs[i]?=some x→RelV x u→G H→Inv X (pins++pl) σ H s→wpAny (model X.prog X.w) X.A.in1 (call (.ref q) [u]) (EP X (pins++pl) σ fun k H'=>Kv i k H'∧G H'∧Same H H') (fun _ _=>False) s)
    (cmp:∀ i j k k' u u' pl H s (Q:Value→Shared→Prop),Kv i k H→Kv j k' H→RelV k u→RelV k' u'→Inv X (pins++pl) σ H s→Q (.bool (HT.lexLt (kf i) (kf j))) s→wpAny (model X.prog X.w) X.A.in1 (richCompare .Lt u u') Q (fun _ _=>False) s)
    (hQ:∀ x H,xs[cM kf (xs.length - 1)]?=some x→G H→Q x H) :
    ∀ (r j:Nat) (H:Hp) (s:Shared) (vb kb:Value) (xb kv:V) (c:Nat) (oI:Obj),xs.length - (j+1)=r→j+1≤xs.length→Inv X (pins++[(S,seqObj "list" #[vb,kb] c),(Ia,oI)]) σ H s→s.heap.IsListIter Ia l (j+1) →
      xs[cM kf j]?=some xb→RelV xb vb→RelV kv kb→Kv (cM kf j) kv H→G H →
      codeAny (model X.prog X.w) X.A (.builtin "min.loop" ⟨[.ref Ia,.ref q,.ref S],[]⟩) (fun r s'=>match r with|.ok (.ret v)=>EP X pins σ Q v s'|.ok _=>False|.error e=>X.xe e s') s:=by
  have hname:(toString "min" ++ toString ".loop":String) = "min.loop":=by decide
  have unpin:∀ {pl H s},Inv X (pins++pl) σ H s→Inv X pins σ H s:=fun I=>I.pins_of fun p z=>I.pin p (aaa _ (aaC _ z));intro r
  induction r with
  | zero =>
    intro j H s vb kb xb kv c oI hr hj I hit hxb rvb rkb hk g;have hin:j+1=xs.length:=by lia
    have nS:=I.at (pl:=[(S,seqObj "list" #[vb,kb] c),(Ia,oI)]) (.head _);obtain ⟨its,rl,pL,_⟩:=I.list (hl H g);have W:=Walks.list (prog:=X.prog) (w:=X.w) (A:=X.A.in1) hh Ia l hlI its.toArray;have hsz:its.toArray.size=xs.length:=by rw [aal,rl.length]
    refine codeAny_builtin acu ?_;rw [abQ abj _];show wpAny _ X.A.in1 (seqItems? (.ref S) >>= _) _ _ _;refine wpAny_bind (wpAny_seqItems nS rfl ?_);show wpAny _ X.A.in1 (tryCatch (pyNext (.ref Ia)) _ >>= _) _ _ _;refine wpAny_bind (wpAny_tryCatch (W.done _ _ _ ⟨by rw [hsz,← hin];exact hit,pL.isList⟩ fun h' tk' hk'=>?_));have hk1:∀ b o,b≠Ia→s.heap.get? b=some o→h'.get? b=some o:=fun b o hb e=>hk' b o (by simpa using hb) e;have I1:Inv X (pins++[(S,seqObj "list" #[vb,kb] c)]) σ H { s with heap:=h',toks:=tk' }:=I.swap.turn0 hk1 hI0 hpI (fun p hp=>by rw [aar.mp hp];exact hSI);have hS':=I1.at (pl:=[(S,seqObj "list" #[vb,kb] c)]) (.head _);have s1:=aaX h' S (aaR fun _=>(#[]:Array Value));show wpAny _ X.A.in1 (updateSeq S (fun _=>#[]) >>= _) _ _ _;refine wpAny_bind ?_;refine wpAny_updateSeq hS' rfl (wpAny_bind (wpAny_letGo (wpAny_pure ?_)));have I2:=I1.turn0 (pl:=[]) (h':=h'.update S (aaR fun _=>(#[]:Array Value))) (tk:=tk') (fun b ob hb e=>(s1.2 b hb).trans e) hS0 hpS (fun p hp=>by simp at hp);rw [ab8] at I2;refine ⟨xb,H,I2,rvb,hQ xb H ?_ g⟩;rw [show xs.length - 1=j by lia];exact hxb
  | succ r ih =>
    intro j H s vb kb xb kv c oI hr hj I hit hxb rvb rkb hk g;have hlt:j+1 < xs.length:=by lia
    have nS:=I.at (pl:=[(S,seqObj "list" #[vb,kb] c),(Ia,oI)]) (.head _);obtain ⟨its,rl,pL,_⟩:=I.list (hl H g);have W:=Walks.list (prog:=X.prog) (w:=X.w) (A:=X.A.in1) hh Ia l hlI its.toArray;have hsz:its.toArray.size=xs.length:=by rw [aal,rl.length]
    refine codeAny_builtin acu ?_;rw [abQ abj _];show wpAny _ X.A.in1 (seqItems? (.ref S) >>= _) _ _ _;refine wpAny_bind (wpAny_seqItems nS rfl ?_);show wpAny _ X.A.in1 (tryCatch (pyNext (.ref Ia)) _ >>= _) _ _ _;refine wpAny_bind (wpAny_tryCatch (W.item (j+1) _ _ _ (by rw [hsz];exact hlt) ⟨hit,pL.isList⟩ fun v h' tk' hP hst' hk'=>?_));have hk1:∀ b o,b≠Ia→s.heap.get? b=some o→h'.get? b=some o:=fun b o hb e=>hk' b o (by simpa using hb) e;have hv:its[j+1]?=some v:=by simpa using hP
    obtain ⟨x,hx,rx⟩:∃ x,xs[j+1]?=some x∧RelV x v:=by
      have hxx:xs[j+1]?=some xs[j+1]:=aaf hlt;obtain ⟨u,hu,ru⟩:=rl.get hxx;rw [hv] at hu;cases hu;exact ⟨_,hxx,ru⟩
    obtain ⟨oI',hoI',hoc,hod⟩:=id hst'.1;have I1:Inv X (pins++[(S,seqObj "list" #[vb,kb] c),(Ia,oI')]) σ H { s with heap:=h',toks:=tk' } :=
      (I.swap.turn1 hk1 hoI' (fun v z=>by rw [hod] at z;cases z) hI0 hpI (fun p hp=>by rw [aar.mp hp];exact hSI)).swap
    show wpAny _ X.A.in1 (tryCatch (holding [v] (call (.ref q) [v])) _ >>= _) _ _ _;refine wpAny_bind (wpAny_tryCatch (wpAny_holding (wpAny_mono (turn (j+1) x v _ H _ hx rx g I1) (fun kx s2 he=>?_) fun _ _ hF=>hF.elim)));obtain ⟨kx',H2,I2,rk2,hk2,g2,S2⟩:=he;have hkb:=mono _ _ _ _ hk S2;have nS2:=I2.at (pl:=[(S,seqObj "list" #[vb,kb] c),(Ia,oI')]) (.head _);have nI2:=I2.at (pl:=[(S,seqObj "list" #[vb,kb] c),(Ia,oI')]) (.tail _ (.head _));have hit2:s2.heap.IsListIter Ia l (j+1+1):=⟨oI',nI2,hoc,hod⟩
    show wpAny _ X.A.in1 (tryCatch (holding [v,kx] (richCompare .Lt kx kb >>= _)) _ >>= _) _ _ _;refine wpAny_bind (wpAny_tryCatch (wpAny_holding (wpAny_bind (wpAny_mono (cmp (j+1) (cM kf j) kx' kv kx kb _ H2 s2 (fun z s'=>z=.bool (HT.lexLt (kf (j+1)) (kf (cM kf j)))∧s'=s2) hk2 hkb rk2 rkb I2 ⟨rfl,rfl⟩) (fun z s3 hz=>?_) fun _ _ hF=>hF.elim))));obtain ⟨rfl,rfl⟩:=hz;refine wpAny_bind (wpAny_holding (wpAny_truthy_bool ?_));refine wpAny_bind (wpAny_letGo (wpAny_pure ?_));by_cases hb':HT.lexLt (kf (j+1)) (kf (cM kf j))=true
    · have s1:=aaX s3.heap S (aaR fun _=>#[v,kx]);obtain ⟨c2,hc2⟩:∃ c2,(s3.heap.update S (aaR fun _=>#[v,kx])).get? S=some (seqObj "list" #[v,kx] c2):=⟨_,get?_update_seq nS2 fun _=>#[v,kx]⟩
      simp only [hb',if_true];refine wpAny_bind ?_;refine wpAny_updateSeq nS2 rfl (wpAny_bind (wpAny_letGo ?_));rw [hname];have eb:cM kf (j+1)=j+1:=by conv=>lhs;unfold cM;rw [if_pos hb']
      have I3:Inv X (pins++[(S,seqObj "list" #[v,kx] c2),(Ia,oI')]) σ H2 { s3 with heap:=s3.heap.update S (aaR fun _=>#[v,kx]),toks:=s3.toks } :=
        I2.turn1 (fun b ob hb e=>(s1.2 b hb).trans e) hc2 (fun v z=>by cases z) hS0 hpS (fun p hp=>by rw [aar.mp hp];exact hSI.symm)
      refine wpAny_pure ⟨plainId_quiet abj _,ih (j+1) H2 _ v kx x kx' c2 oI' (by lia) hlt I3 ⟨oI',(s1.2 Ia hSI.symm).trans nI2,hoc,hod⟩ (by rw [eb];exact hx) rx rk2 (by rw [eb];exact hk2) g2⟩
    · simp only [hb',aaU,if_false];refine wpAny_bind (wpAny_letGo ?_);rw [hname];have eb:cM kf (j+1)=cM kf j:=by conv=>lhs;unfold cM;rw [if_neg hb']
      refine wpAny_pure ⟨plainId_quiet abj _,ih (j+1) H2 _ vb kb xb kv c oI' (by lia) hlt I2 hit2 (by rw [eb];exact hxb) rvb rkb (by rw [eb];exact hkb) g2⟩
theorem uP {l q:Addr} {xs:List V} {kf:Nat→List Int} {Kv:Nat→V→Hp→Prop} {G:Hp→Prop} {Q:VK} (hh:X.A.handled=none) (I:Inv X pins σ H s) (hne:0 < xs.length) (g:G H)
    (hl:∀ H,G H→SqL X.K H l xs) (mono:∀ i k H H',Kv i k H→Same H H'→Kv i k H')
    (turn:∀ i x u pl H s,xs[i]?=some x→RelV x u→G H→Inv X (pins++pl) σ H s→wpAny (model X.prog X.w) X.A.in1 (call (.ref q) [u]) (EP X (pins++pl) σ fun k H'=>Kv i k H'∧G H'∧Same H H') (fun _ _=>False) s)
    (cmp:∀ i j k k' u u' pl H s (Q:Value→Shared→Prop),Kv i k H→Kv j k' H→RelV k u→RelV k' u'→Inv X (pins++pl) σ H s→Q (.bool (HT.lexLt (kf i) (kf j))) s→wpAny (model X.prog X.w) X.A.in1 (richCompare .Lt u u') Q (fun _ _=>False) s)
    (hQ:∀ x H,xs[cM kf (xs.length - 1)]?=some x→G H→Q x H) :
    wpAny (model X.prog X.w) X.A (call (.builtin "min") [.ref l] [(abJ "key",.ref q)]) (EP X pins σ Q) X.xe s:=by
  have hname:(toString "min" ++ toString ".loop":String) = "min.loop":=by decide
  obtain ⟨its,rl,pL,_⟩:=I.list (hl H g);have hls:=pL.isList;obtain ⟨ol,hol,_⟩:=id hls;have hll:l < s.heap.objs.size:=aag hol;refine kmk_tree PySem.F.kind_min PySem.F.plain_min PySem.F.entry_min (kmk_min_key _ _) ?_;show wpAny _ X.A.in1 (Builtin.Builtins.bindParams "min" ["key","default"] 0 ⟨[],[(abJ "key",.ref q)]⟩ >>= _) _ _ s;refine wpAny_bind (wpAny_of_eq (show Builtin.Builtins.bindParams "min" ["key","default"] 0 ⟨[],[(abJ "key",.ref q)]⟩=pure [some (.ref q),none] from rfl) ?_);refine wpAny_bind (wpAny_pure ?_);refine wpAny_bind (wpAny_pyIter_list hls ?_);refine wpAny_bind (wpAny_newList ?_ (aa1 _));rw [hname];have hS:(s.heap.push { cls:=.type "list_iterator",data:=.fields #[.ref l,.int 0 0] }).objs.size=s.heap.objs.size+1:=size_push' ..;have hlI:l≠s.heap.objs.size:=aas hll;have hSI:(s.heap.push { cls:=.type "list_iterator",data:=.fields #[.ref l,.int 0 0] }).objs.size≠s.heap.objs.size:=by rw [hS];exact aaT (acE _)
  have gI:((s.heap.push { cls:=.type "list_iterator",data:=.fields #[.ref l,.int 0 0] }).push (seqObj "list" #[] 0)).get? s.heap.objs.size=some { cls:=.type "list_iterator",data:=.fields #[.ref l,.int 0 0] } :=
    aac _ (aap _ rfl)
  have gS:((s.heap.push { cls:=.type "list_iterator",data:=.fields #[.ref l,.int 0 0] }).push (seqObj "list" #[] 0)).get? (s.heap.push { cls:=.type "list_iterator",data:=.fields #[.ref l,.int 0 0] }).objs.size=some (seqObj "list" #[] 0):=aap _ rfl;have kk:∀ b u,s.heap.get? b=some u→((s.heap.push { cls:=.type "list_iterator",data:=.fields #[.ref l,.int 0 0] }).push (seqObj "list" #[] 0)).get? b=some u:=fun b u e=>aac _ (aac _ e);have hI0:X.s₀.heap.objs.size≤s.heap.objs.size:=I.sz;have hS0:X.s₀.heap.objs.size≤(s.heap.push { cls:=.type "list_iterator",data:=.fields #[.ref l,.int 0 0] }).objs.size:=by rw [hS];exact Nat.le_succ_of_le I.sz
  have hpI:∀ p∈X.pn++pins,p.1≠s.heap.objs.size:=fun p hp=>aas (aag (I.pin p hp).1);have hpS:∀ p∈X.pn++pins,p.1≠(s.heap.push { cls:=.type "list_iterator",data:=.fields #[.ref l,.int 0 0] }).objs.size:=fun p hp=>by rw [hS];exact aas (abL (aag (I.pin p hp).1))
  have I0:Inv X (pins++[((s.heap.push { cls:=.type "list_iterator",data:=.fields #[.ref l,.int 0 0] }).objs.size,seqObj "list" #[] 0),(s.heap.objs.size,{ cls:=.type "list_iterator",data:=.fields #[.ref l,.int 0 0] })]) σ H
      { s with heap:=(s.heap.push { cls:=.type "list_iterator",data:=.fields #[.ref l,.int 0 0] }).push (seqObj "list" #[] 0),toks:=s.toks }:=by
    refine (I.kept (t':=s.toks) kk).pins_of fun p hp=>?_;rcases aao.mp hp with hp|hp
    · exact (I.kept (t':=s.toks) kk).pin p (aaa _ hp)
    · rcases aay.mp hp with rfl|hp
      · refine ⟨gS,I.hok.fresh (by rw [hS];exact acx _),?_,I.nofs (by rw [hS];exact acx _),fun v z=>by cases z⟩;rw [hS];exact aaT (abL I.lt)
      · rw [aar.mp hp];exact ⟨gI,I.hok.fresh (aad _),aaT I.lt,I.nofs (aad _),fun v z=>by cases z⟩
  refine wpAny_pure ⟨plainId_quiet abj _,?_⟩;have W:=Walks.list (prog:=X.prog) (w:=X.w) (A:=X.A.in1) hh s.heap.objs.size l hlI its.toArray;have hsz:its.toArray.size=xs.length:=by rw [aal,rl.length]
  refine codeAny_builtin acu ?_;rw [abQ abj _];show wpAny _ X.A.in1 (seqItems? (.ref _) >>= _) _ _ _;refine wpAny_bind (wpAny_seqItems gS rfl ?_);show wpAny _ X.A.in1 (tryCatch (pyNext (.ref s.heap.objs.size)) _ >>= _) _ _ _;refine wpAny_bind (wpAny_tryCatch (W.item 0 _ _ _ (by rw [hsz];exact hne) ⟨⟨_,gI,rfl,rfl⟩,hls.at fun o e=>kk _ o e⟩ fun v h' tk' hP hst' hk'=>?_));have hv:its[0]?=some v:=by simpa using hP
  obtain ⟨x,hx,rx⟩:∃ x,xs[0]?=some x∧RelV x v:=by
    have hxx:xs[0]?=some xs[0]:=aaf hne;obtain ⟨u,hu,ru⟩:=rl.get hxx;rw [hv] at hu;cases hu;exact ⟨_,hxx,ru⟩
  obtain ⟨oI',hoI',hoc,hod⟩:=id hst'.1;have I1:=(I0.swap.turn1 (h':=h') (tk:=tk') (fun b ob hb e=>hk' b ob (by simpa using hb) e) hoI' (fun v z=>by rw [hod] at z;cases z) hI0 hpI (fun p hp=>by rw [aar.mp hp];exact hSI)).swap;show wpAny _ X.A.in1 (tryCatch (holding [v] (call (.ref q) [v])) _ >>= _) _ _ _;refine wpAny_bind (wpAny_tryCatch (wpAny_holding (wpAny_mono (turn 0 x v _ H _ hx rx g I1) (fun kx s2 he=>?_) fun _ _ hF=>hF.elim)));obtain ⟨kx',H2,I2,rk2,hk2,g2,S2⟩:=he;generalize (s.heap.push { cls:=.type "list_iterator",data:=.fields #[.ref l,.int 0 0] }).objs.size=S at hSI hS0 hpS I2 ⊢;generalize s.heap.objs.size=Ia at hlI hSI hI0 hpI I2 hst' ⊢;have nS2:=I2.at (pl:=[(S,seqObj "list" #[] 0),(Ia,oI')]) (.head _);have nI2:=I2.at (pl:=[(S,seqObj "list" #[] 0),(Ia,oI')]) (.tail _ (.head _));have s1:=aaX s2.heap S (aaR fun _=>#[v,kx]);obtain ⟨c2,hc2⟩:∃ c2,(s2.heap.update S (aaR fun _=>#[v,kx])).get? S=some (seqObj "list" #[v,kx] c2):=⟨_,get?_update_seq nS2 fun _=>#[v,kx]⟩
  show wpAny _ X.A.in1 (updateSeq S (fun _=>#[v,kx]) >>= _) _ _ _;refine wpAny_bind ?_;refine wpAny_updateSeq nS2 rfl ?_;rw [hname];have I3:Inv X (pins++[(S,seqObj "list" #[v,kx] c2),(Ia,oI')]) σ H2 { s2 with heap:=s2.heap.update S (aaR fun _=>#[v,kx]),toks:=s2.toks } :=
    I2.turn1 (fun b ob hb e=>(s1.2 b hb).trans e) hc2 (fun v z=>by cases z) hS0 hpS (fun p hp=>by rw [aar.mp hp];exact hSI.symm)
  refine wpAny_pure ⟨plainId_quiet abj _,?_⟩;exact oq hh hlI hSI hI0 hS0 hpI hpS hl mono turn cmp hQ _ 0 H2 _ v kx x kx' c2 oI' rfl hne I3 ⟨oI',(s1.2 Ia hSI.symm).trans nI2,hoc,hod⟩ hx rx rk2 hk2 g2
end
theorem uQ (a b:Int):HT.lexLt [a] [b]=decide (a < b):=by
  show (if a=b then HT.lexLt [] [] else decide (a < b))=_;by_cases h:a=b
  · rw [if_pos h,HT.lexLt_nil_nil,decide_eq_false (by lia)]
  · rw [if_neg h]
def KeyIn (kd:Bool) (ks:List Int) (k:V) (H:Hp):Prop:=if kd=true then ∃ a,k=.ref a∧H a=some (.tup (ks.map V.int)) else ∃ n,ks=[n]∧k=.int n
theorem KeyIn.mono {kd:Bool} {ks:List Int} {k:V} {H H':Hp} (h:KeyIn kd ks k H) (g:Same H H'):KeyIn kd ks k H':=by
  unfold KeyIn at h ⊢;split at h
  · obtain ⟨a,e,ha⟩:=h;rename_i c;rw [if_pos c];exact ⟨a,e,g _ _ ha⟩
  · rename_i c;rw [if_neg c];exact h
theorem PairsIn.tups {H H':Hp} (t:∀ b xs,H b=some (.tup xs)→H' b=some (.tup xs)):∀ {ps:List (Int × Int)} {vs:List V},PairsIn H ps vs→PairsIn H' ps vs
  | _,_,.nil=>.nil
  | _,_,.cons ⟨a,e,h⟩ r=>.cons ⟨a,e,t _ _ h⟩ (PairsIn.tups t r)
def gJ (key:Int × Int→List Int) (ps:List (Int × Int)) (i:Nat):List Int:=match ps[i]? with|some p=>key p|none=>[]
def tR (P:Addr) (qual:Str) (key:Int × Int→List Int) (ta:TA):TE:=fun σ H Q=>ta σ H fun vs H1=>∃ l us ps,vs=[.ref l]∧H1 l=some (.lst us)∧PairsIn H1 ps us∧0 < us.length∧(∃ tp,LTab P qual H1 tp) ∧
  ∀ x H',us[cM (gJ key ps) (us.length - 1)]?=some x→But P H1 H'→(∃ tp,LTab P qual H' tp)→Q x H'
section
variable {X:Cx}
theorem n9 {e:Expr} {ta:TA} {tb:TE} {params:Arguments} {body:Expr} {scope:Scope} {lpos kpos p pos:Pos} {c P:Addr} {y:Str} {kd:Bool} {key:Int × Int→List Int} (hr:Room 2 X.A) (hg:Gl X "min") (hm:X.mg "min" = none) (hv:bootBuiltins "min" = some (.builtin "min")) (pa:PA X [e] ta)
    (hdef:defaultsOf params X.env=([],[])) (hcl:closureFor scope X.env=pure []) (hcode:X.env.code=.ref c) (C:CodeHd X.base c P) (hB:X.base.BuiltinsAt X.mg P) (S:FnScope [y] [y] scope)
    (hbind:∀ pm c' ctv u,bindArgs (kla_fn "<lambda>" (X.env.qual ++ "<lambda>") params body scope [] pm (.ref c') ctv) ⟨[u],[]⟩=pure [(y,u)])
    (hbody:∀ f c' s H E,PE (fM CX0 X.prog X.w X.K X.mg X.base [y] (X.env.qual ++ "<lambda>") scope f (.ref c') X.A.in1 X.stack s H E) body tb)
    (hkey:∀ p x H Q,PairIn H p x→(∀ k H',KeyIn kd (key p) k H'→Same H H'→Q k H')→tb [some x] H Q)
    (he:backTo pos (starEach [e] X.env)=(false,eval e X.env) :: backTo pos (starEach [] X.env):=by rfl)
    (hplain:(backTo pos (starEach [e] X.env)).any (·.1)=false:=by rfl) :
    PE X (.Call (.Name "min" p) [e] [⟨some "key",.Lambda params body scope lpos,kpos⟩] pos) (tR P (X.env.qual ++ "<lambda>") key ta):=by
  intro pins s σ H Q I h;refine wpAny_Call_Name_kw (gw I hg hm hv ?_);refine callWith_kw (thn (pa pos pins s σ H _ I h) fun us0 s1 hz=>?_) he hplain;obtain ⟨vs,H1,I1,r1,l,us,ps,rfl,el,hps,hne,⟨tp,T⟩,q⟩:=hz;obtain ⟨u1,rfl,ru⟩:∃ u,us0=[u]∧RelV (.ref l) u:=by
    cases r1 with
    | cons a b=>cases b;exact ⟨_,rfl,a⟩
  cases ru;refine kws_cons (p_ I1 hdef hcl hcode C hB T fun f c' ctv H2 s2 I2 T2 ec B2=>?_);refine kws_nil ?_;have nlP:l≠P:=fun z=>by rw [z,T.tab] at el;cases el
  have len:=hps.length;refine wpAny_mono (uP (xs:=us) (kf:=gJ key ps) (Kv:=fun i k H=>∃ p,ps[i]?=some p∧KeyIn kd (key p) k H) (G:=fun H=>Same H2 H) (Q:=Q) hr.hd I2 hne (Same.refl _) (fun H g=>SqL.of (g _ _ (B2 _ _ nlP el))) (fun i k H H' h g=>by
      obtain ⟨p,e,h⟩:=h;exact ⟨p,e,h.mono g⟩) (fun i x u pl H3 s3 hx rx g I3=>?_) (fun i j k k' u u' pl H3 s3 Q' hk hk' rk rk' I3 hq=>?_) (fun x H3 hx g=>?_)) (fun v s3 hs=>?_) fun e s' hs=>hs
  · obtain ⟨p,hpi,hpx⟩:=ig (PairsIn.tups (fun b xs z=>g _ _ (B2 _ _ (fun y=>by rw [y,T.tab] at z;cases z) z)) hps) hx;have ho:s3.heap.get? f=some (eA X params body scope c' ctv):=(I3.pin (f,eA X params body scope c' ctv) (aaa _ (aaC _ (aaa _ (by simp))))).1;have hcd:s3.heap.CodeRec (.ref c') (X.env.qual ++ "<lambda>"):=(I3.hok c' _ (g _ _ ec)).1;refine wpAny_call (codeAny_mono (qb (k:=0) (CX:=CX0) (E:=E0) (Q:=fun k H'=>(∃ p,ps[i]?=some p∧KeyIn kd (key p) k H')∧Same H2 H'∧Same H3 H') (vs:=[x]) ho hcd S hr.in1 I3.env0.in1 (us:=[u]) (hbind _ _ _ _) (.cons rx .nil) rfl ⟨tb,hbody _ _ _ _ _,?_⟩) fun r s' hq=>?_)
    · exact hkey p x H3 _ hpx fun k H' hk hs=>⟨⟨p,hpi,hk⟩,g.trans hs,hs⟩
    · cases r with
      | error e=>exact abg hq
      | ok fl =>
        cases fl with
        | ret u=>exact I3.after hq
        | next=>exact abg hq
        | brk=>exact abg hq
        | cont=>exact abg hq
  · obtain ⟨p,hp,hk⟩:=hk;obtain ⟨p',hp',hk'⟩:=hk';have e1:gJ key ps i=key p:=by unfold gJ;rw [hp]
    have e2:gJ key ps j=key p':=by unfold gJ;rw [hp']
    rw [e1,e2] at hq;cases kd with
    | true =>
      obtain ⟨a,rfl,ea⟩:∃ a,k=.ref a∧H3 a=some (.tup ((key p).map V.int)):=hk;obtain ⟨a',rfl,ea'⟩:∃ a,k'=.ref a∧H3 a=some (.tup ((key p').map V.int)):=hk';cases rk;cases rk';obtain ⟨its,r1,p1,_⟩:=I3.tuple (SqT.of ea);obtain ⟨its2,r2,p2,_⟩:=I3.tuple (SqT.of ea');exact HT.lt_tupInts p1 p2 (iI r1) (iI r2) hr.in1.units0 hq
    | false =>
      obtain ⟨n,en,rfl⟩:∃ n,key p=[n]∧k=.int n:=hk;obtain ⟨n',en',rfl⟩:∃ n,key p'=[n]∧k'=.int n:=hk';rw [en,en',uQ] at hq;obtain ⟨t,rfl⟩:∃ t,u=.int n t:=rk;obtain ⟨t',rfl⟩:∃ t,u'=.int n' t:=rk';exact CmpOf.ints_lt (prog:=X.prog) (w:=X.w) (A:=X.A.in1) (P:=fun i v=>∃ t,v=.int (if i=0 then n else n') t) (fun i=>if i=0 then n else n') (fun i v h=>h) 0 1 _ _ _ _ _ ⟨t,rfl⟩ ⟨t',rfl⟩ hq
  · obtain ⟨tp2,T2⟩:=T2;refine q x H3 hx (fun b o hb e=>g _ _ (B2 b o hb e)) ⟨tp2,g _ _ T2.tab,T2.tri,fun pos' cv hc=>?_⟩;obtain ⟨d,e1,e2⟩:=T2.cds pos' cv hc;exact ⟨d,e1,g _ _ e2⟩
  · obtain ⟨x,H3,I3,rx,hq⟩:=hs;exact ⟨x,H3,I3.unpinned,rx,hq⟩
end
end L2
namespace L2
open PySem PySem.Spec PyProof.Rows PySem.W
section
variable {X:Cx} {pins pl:List (Addr × Obj)} {σ:St} {H:Hp} {s:Shared}
end
section
variable {X:Cx}
end
end L2
namespace L2
open PySem PySem.Spec PyProof.Rows PySem.W
structure FunC (K:aab) (x qual:Str) (st:Stmt) (f:Addr) (fd:FuncData) (c:Addr):Prop where
  ex:∃ (oc:Value) (od:Option Addr) (kV doc pm:Value) (an:Option Addr) (ct:Value) (osl:Array (Option Value)),
    fd=abd x qual (bR st) (bi st) (am st) .none kV doc pm an (.ref c) ct∧K.lookup f=some ⟨oc,od,.func fd,osl⟩∧abI K (.ref c) qual=true
  kp:aa6 K (.ref f)=true
section
variable {P:Program} {w:World} {K:aab} {mg:Str→Option Value} {base:Heap}
theorem rn {x qual:Str} {st:Stmt} {f c:Addr} {oc:Value} {od an:Option Addr} {osl:Array (Option Value)} {kV doc pm ct:Value} (l:K.lookup f=some ⟨oc,od,.func (abd x qual (bR st) (bi st) (am st) .none kV doc pm an (.ref c) ct),osl⟩)
    (h:abI K (.ref c) qual=true) (k:aa6 K (.ref f)=true):FunC K x qual st f (abd x qual (bR st) (bi st) (am st) .none kV doc pm an (.ref c) ct) c:=⟨⟨oc,od,kV,doc,pm,an,ct,osl,rfl,l,h⟩,k⟩
end
open PySem PySem.Spec PyProof.Rows
theorem ow {T c:Addr} {qual:Str} {P:Program} {w:World} {K:aab} {mg mb:Str→Option Value} {CX:CXT} {k:Nat} {fa a:Addr} {fd:FuncData} {x:Str} {sp:Sp} {s₁:Shared} {vs:List Value} {ns:List Int}
    (KX:K.In s₁.heap) (hns:s₁.heap.Ns mainGlobals mg) (hb:s₁.heap.Ns builtinsNs mb) (hbb:∀ x:Str,x ≠ "__name__"→mb x=bootBuiltins x) (hlim:s₁.heap.NoLimit) (hsm:∃ mm,s₁.heap.Ns sysModules mm) (hg:s₁.gens=#[])
    (ha:s₁.heap.get? a=some { cls:=.type "list",data:=.seq vs.toArray }) (hi:IntsAre vs ns) (hl:ns.length≤sizeLine) (hr:Room k callerA)
    (hT:s₁.heap.get? T=some (PySem.W.tabObj #[])) (hTc:s₁.heap.TableAt c T #[]) (hKT:K.lookup T=none) (hBT:s₁.heap.BuiltinsAt mg T)
    (F:∀ base:Heap,K.In base→base.Ns mainGlobals mg→base.BuiltinsAt mg T→FnOk P w K mg base CX k fa fd [x] sp) (hbind:∀ (s:Shared) (u:Value),BindsTo s fd ⟨[u],[]⟩ [(x,u)])
    (hsp:∀ H:Hp,LTab T qual H #[]→SqL K H a (ns.map V.int)→sp [.ref a] H (fun v _=>v=.bl true) fun _ _ _=>False)
    (hCX:∀ H e s',CX [] H s₁ (fun _ _ _=>False) e s'→False) :
    codeAny (model P w) callerA (.call (.ref fa) ⟨[.ref a],[]⟩) (fun r s'=>r=.ok (.ret (.bool true))∧OldK s₁.heap s'.heap∧s'.os=s₁.os∧AllBare s'.gens) s₁:=by
  have rv:=jf hi;have lenV:=hi.length;have nTa:T≠a:=fun e=>by rw [e,ha] at hT;cases hT
  have core:∀ H0:Hp,vc H0→SqL K H0 a (ns.map V.int)→HOk P w H0 s₁.heap→(∀ b,H0 b≠none→b=a)→(H0 a≠none→K.lookup a=none) →
      codeAny (model P w) callerA (.call (.ref fa) ⟨[.ref a],[]⟩) (fun r s'=>r=.ok (.ret (.bool true))∧OldK s₁.heap s'.heap∧s'.os=s₁.os∧AllBare s'.gens) s₁:=by
    intro H0 hO hS0 hok0 hA0 hK0;have h0T:H0 T=none:=by
      cases q:H0 T with
      | none=>rfl
      | some u=>exact absurd (hA0 T (by rw [q];simp)) nTa
    obtain ⟨H,eH⟩:∃ H:Hp,H=upd H0 T (.tbl #[]):=⟨_,rfl⟩
    have eT:H T=some (.tbl #[]):=by rw [eH,ad]
    have eN:∀ b,b≠T→H b=H0 b:=fun b hb=>by rw [eH,aj hb]
    have eS:∀ b o,H0 b=some o→H b=some o:=fun b o e=>by rw [eN b (ah e h0T)];exact e
    have hok:HOk P w H s₁.heap:=fun b o e=>by
      by_cases hb:b=T
      · subst hb;rw [eT] at e;cases e;exact hT
      · rw [eN b hb] at e;exact (hok0 b o e).stay (fun _ _ _ q=>q) (fun d q=>eS d _ q) fun d xs q=>eS d _ q
    have hS:SqL K H a (ns.map V.int):=by
      rcases hS0 with (h|⟨o,h⟩)|h
      · exact .inl (.inl (eS _ _ h))
      · exact .inl (.inr ⟨o,eS _ _ h⟩)
      · exact .inr h
    have hA:∀ b,H b≠none→b=a∨b=T:=fun b h=>by
      by_cases hb:b=T
      · exact .inr hb
      · rw [eN b hb] at h;exact .inl (hA0 b h)
    have base_of:∀ {b:Addr} {o:Obj},s₁.heap.get? b=some o→H b=none→(i7 s₁.heap H).get? b=some o:=fun e n=>qk e n;have noB:∀ {b:Addr} {o:Obj},s₁.heap.get? b=some o→o.cls≠.none→(∀ its n,o.data≠.seq its n)→H b=none:=fun {b o} e d1 d2=>by
      cases q:H b with
      | none=>rfl
      | some u =>
        rcases hA b (by rw [q];simp) with z|z
        · subst z;rw [ha] at e;cases e;exact absurd rfl (d2 _ _)
        · subst z;rw [hT] at e;cases e;exact absurd rfl d1
    have noA:∀ {b:Addr} {o:Obj} {es:Array DictEntry} {ep:Nat},s₁.heap.get? b=some o→o.data=.dict es ep→H b=none:=fun {b o es ep} e d=>by
      cases q:H b with
      | none=>rfl
      | some u =>
        rcases hA b (by rw [q];simp) with z|z
        · subst z;rw [ha] at e;cases e;cases d
        · subst z;rw [hT] at e;cases e;cases d
    have nsK:∀ {b:Addr} {m:Str→Option Value},s₁.heap.Ns b m→(i7 s₁.heap H).Ns b m:=fun {b m} ⟨o,es,ep,e,d,r⟩=>⟨o,es,ep,base_of e (noA e d),d,r⟩
    have hKb:K.In (i7 s₁.heap H):=fun b o e=>base_of (KX b o e) (by
      cases q:H b with
      | none=>rfl
      | some u =>
        rcases hA b (by rw [q];simp) with z|z
        · subst z;rw [eN b nTa.symm] at q;rw [hK0 (by rw [q];simp)] at e;cases e
        · subst z;rw [hKT] at e;cases e)
    have hBb:(i7 s₁.heap H).BuiltinsAt mg T:=by
      obtain ⟨bm,ob,b1,b2,b3,b4,b5,b6,b7,b8⟩:=hBT;exact ⟨bm,ob,b1,b2,b3,b4,base_of b5 (noB b5 (by rw [b6];simp) (fun its n z=>by rw [b8] at z;cases z)),b6,b7,b8⟩
    have hM:Mod K mg (i7 s₁.heap H):=⟨hKb,nsK hns,⟨mb,nsK hb,hbb⟩,let ⟨mc,h1,h2⟩:=hlim;⟨mc,nsK h1,h2⟩,let ⟨mm,h1⟩:=hsm;⟨mm,nsK h1⟩⟩
    have e0:Env0 P w K mg (i7 s₁.heap H) callerA [] s₁ H:=⟨rfl,hM,fun b o e=>q_ e,Nat.le_of_eq (oE _ _),trivial,fun b hb=>absurd (show b∈([]:List Addr) from hb) (by simp),hok,.of_eq hg⟩
    have hL:LTab T qual H #[]:=⟨eT,trivial,fun pos cv z=>by cases z⟩
    refine codeAny_mono ((F _ hKb (nsK hns) hBb).run callerA [] s₁ H ⟨[.ref a],[]⟩ [.ref a] [.ref a] _ _ hr e0 (hbind s₁ (.ref a)) (.cons rfl .nil) (hsp H hL hS)) fun r s' h=>?_;cases r with
    | error e=>exact (hCX H e s' h).elim
    | ok fl =>
      cases fl with
      | next=>exact abg h
      | brk=>exact abg h
      | cont=>exact abg h
      | ret u =>
        obtain ⟨v,H',os,bare,un,hok',r',q⟩:=h;have q':v=.bl true:=q;subst q';obtain rfl:u=Value.bool true:=r';refine ⟨rfl,⟨fun b o e=>?_,fun b o e=>un.there b o e (by simp)⟩,os,bare⟩;by_cases hbT:b=T
        · subst hbT;rw [hT] at e;cases e;obtain ⟨more,e2⟩:=un.tbls b #[] eT;have e3:s'.heap.get? b=some (PySem.W.tabObj (#[]++more)):=hok' b _ e2;exact .inr (.inl ⟨hTc.isCodeTable,rfl,#[],more,rfl,e3⟩)
        · cases q:H b with
          | none=>exact .inl (un.keep b o e q (by intro z;exact absurd (show b∈([]:List Addr) from z) (by simp)) (by simp))
          | some u =>
            rw [eN b hbT] at q;rcases hO b with z|⟨ob,xs,z⟩
            · rw [q] at z;cases z
            · have z2:=un.frzs b ob _ (eS _ _ z);obtain ⟨e1,_⟩:=hok0 b _ z;obtain ⟨e2,_⟩:=hok' b _ z2;rw [e] at e1;cases e1;exact .inl e2
  cases hk:K.lookup a with
  | some o =>
    have e:=KX a o hk;rw [ha] at e;cases e;refine core (fun _=>none) (fun _=>.inl rfl) (.inr ⟨_,vs.toArray,_,hk,rfl,rfl,rfl,by rw [aal,lenV];exact hl,by simpa using rv⟩) (fun b u z=>by have z':(none:Option HO)=some u:=z;cases z') (fun b z=>absurd rfl z) fun z=>absurd rfl z
  | none =>
    refine core (fun b=>if b=a then some (.frz { cls:=.type "list",data:=.seq vs.toArray } (.lst (ns.map V.int))) else none) (fun b=>?_) (.inl (.inr ⟨{ cls:=.type "list",data:=.seq vs.toArray },if_pos rfl⟩)) (fun b u z=>?_) (fun b z=>?_) fun _=>hk
    · by_cases hb:b=a
      · exact .inr ⟨_,_,if_pos hb⟩
      · exact .inl (if_neg hb)
    · by_cases hb:b=a
      · have z':=(if_pos hb).symm.trans z;cases z';subst hb;exact ⟨ha,by rw [aak];exact hl,vs,_,rv,ha⟩
      · have z':=(if_neg hb).symm.trans z;cases z'
    · by_cases hb:b=a
      · exact hb
      · exact absurd (if_neg hb) z
theorem walk_ofT {T c:Addr} {qual:Str} {l:PySem.W.OpenLaw} {n k:Nat} {q:Program} {loose:List Str} {XP:(Str→Option Value)→Heap→Prop} {YP:World→Heap→Prop} {d:DefRec} {K:Params→aab} {CX:World→CXT} {sp:World→Sp} {x:Str}
    (hn:l.most=some n) (hn2:n≤sizeLine) (hdf:d.params.defaults=[]) (hr:Room k callerA) (hi:PyProof.Rows.importsNone q=true)
    (hY:∀ (w:World) (h:Heap),YP w h→(K w.params).In h∧h.get? T=some (PySem.W.tabObj #[])) (hC:∀ w:World,PySem.W.codeHdIn (K w.params) c T=true) (hKT:∀ w:World,(K w.params).lookup T=none)
    (F:∀ (w:World) (mg:Str→Option Value) (fa:Addr) (h:Heap),(K w.params).In h→h.Ns mainGlobals mg→mg d.name=some (.ref fa) →
      ∃ fd:FuncData,(∀ (s:Shared) (u:Value),BindsTo s fd ⟨[u],[]⟩ [(x,u)]) ∧
        ∀ base:Heap,(K w.params).In base→base.Ns mainGlobals mg→base.BuiltinsAt mg T→FnOk l.prog w (K w.params) mg base (CX w) k fa fd [x] (sp w))
    (hsp:∀ (w:World) (H:Hp) (a:Addr) (ns:List Int),ns.length≤n→LTab T qual H #[]→SqL (K w.params) H a (ns.map V.int)→sp w [.ref a] H (fun v _=>v=.bl true) fun _ _ _=>False)
    (hCX:∀ (w:World) (H:Hp) (s:Shared) (e:Value) (s':Shared),CX w [] H s (fun _ _ _=>False) e s'→False) :
    PySem.W.WalkO q loose XP YP l.row.toRowW d [] (fun f vs=>PySem.call f vs):=by
  refine Att.attach_call hn hdf fun w s₀ s₁ mg mb fa o pm cd doc a vs ns G Y ho hd hcd hmg hobj hints hlen hg=>?_;obtain ⟨KX,hT⟩:=hY w _ Y;obtain ⟨fd,hb,hF⟩:=F w mg fa _ KX G.T.g hmg;have hTc:s₁.heap.TableAt c T #[]:=(PySem.W.codeHd_of_K KX (hC w)).tab hT;obtain ⟨bm,ob,b1,b2,b3,b4,b5,b6⟩:=G.T.bmain;have hBT:s₁.heap.BuiltinsAt mg T:=by
    refine ⟨bm,ob,b1,b2,fun z=>?_,fun z=>?_,b3,b4,b5,b6⟩
    · obtain ⟨o',es,ep,e,hd',_⟩:=G.T.g;rw [z,e] at b3;cases b3;rw [hd'] at b6;cases b6
    · rw [z,hT] at b3;cases b3;cases b4
  exact ow (qual:=qual) KX G.T.g G.T.b G.T.builtins G.T.nolimit (let ⟨mm,h1,_⟩:=(G.T.seer hi).mods;⟨mm,h1⟩) hg hobj hints (aaL hlen hn2) hr hT hTc (hKT w) hBT hF hb (fun H hL hS=>hsp w H a ns hlen hL hS) fun H e s'=>hCX w H s₁ e s'
open PySem PySem.Spec PyProof.Rows
open PySem PySem.Spec PyProof.Rows
open PySem PySem.Spec PyProof.Rows
section
variable {prog:Program} {w:World} {A:Around} {E:Value→Shared→Prop} {s:Shared}
theorem fU (d:Addr) (hd:(d == sysModules)=false) :
    MeetsIn prog w (Builtin.«dict.items» ⟨[.ref d],[]⟩) (fun _ R s=>s.TypeIs (.ref d) "dict" ∧
      R (.ok (.ret (.ref s.heap.objs.size))) { s with heap:=s.heap.push { cls:=.type "dict_items",data:=.fields #[.ref d] } }) :=
  .of_wp fun A R s ⟨hm,h⟩=>by
    unfold Builtin.«dict.items»;refine wpAny_bind ?_;unfold Builtin.Dict.noArgs;refine wpAny_bind (wpAny_notOrdered_dict hm ?_);show wpAny _ _ (pure d) _ _ s;refine wpAny_pure ?_;show wpAny _ _ (ab5 d >>= _) _ _ s;unfold ab5;rw [if_neg (by rw [hd];exact aah)];refine wpAny_bind (wpAny_pure ?_);exact wpAny_bind (wpAny_newObj_type (wpAny_pure ⟨_,rfl,h⟩))
theorem iD {v d:Addr} {o:Obj} {es:Array DictEntry} {ep:Nat} {Q:Value→Shared→Prop} (hv:s.heap.IsItemsView v d) (ho:s.heap.get? d=some o) (hdat:o.data=.dict es ep)
    (hQ:Q (.ref s.heap.objs.size) { s with heap:=s.heap.push { cls:=.type "dict_itemiterator",data:=.fields #[.none,.bool false,.ref d,.int 0 0,.int es.size 0,.int ep 0,.none,.none] } }) :
    wpAny (model prog w) A (pyIter (.ref v)) Q E s:=by
  obtain ⟨ov,hov,hcv,hdv⟩:=id hv;refine wpAny_pyIter_slot hv.typeIs F.slot_dict_items_iter (wpAny_call_entry F.slot_dict_items_iter hv.typeIs F.entry_dict_items_iter ?_ (F.args_dict_items_iter_1 _));unfold Builtin.«dict_items.__iter__»;refine wpAny_bind (wpAny_pure ?_);refine wpAny_bind ?_;unfold Builtin.Dict_items.dictOf;refine wpAny_bind (wpAny_field hov hdv (x:=.ref d) rfl (wpAny_pure ?_));refine wpAny_bind ?_;unfold Builtin.Dict_items.newIterator;refine wpAny_bind (wpAny_dictEntries ho hdat ?_);refine wpAny_bind (wpAny_dictEpoch ho hdat ?_);have hown:aaY "dict_itemiterator" = true:=by decide
  simp only [hown,if_true];refine wpAny_newObj_type (wpAny_pure ⟨_,rfl,"dict_itemiterator",_,⟨_,aap _ rfl,rfl⟩,F.slot_dict_itemiterator_next.lookup,?_⟩)
    (by simp only [sizeOk,ach,aal,aax,aaO,aba,sizeLine_eq];lia)
  simpa [rawInt,ach] using hQ
theorem jk {it d:Addr} {i n ep:Nat} {od:Obj} {es:Array DictEntry} {e:DictEntry} {ok ov:Value} {Q:Option Value→Shared→Prop} (hit:IsItemIter s.heap it d i n ep ok ov) (hod:s.heap.get? d=some od) (hdd:od.data=.dict es ep) (hsz:es.size=n) (hx:es[i]?=some e)
    (hQ:∀ h',IsItemIterOut h' it d (i+1) n ep e.key e.val s.heap.objs.size →
      h'.get? s.heap.objs.size=some { cls:=.type "tuple",data:=.seq #[e.key,e.val] }→h'.objs.size=s.heap.objs.size+1 →
      (∀ b o,b≠it→s.heap.get? b=some o→h'.get? b=some o)→Q (some (.ref s.heap.objs.size)) { s with heap:=h' }) :
    wpAny (model prog w) A (pyNext (.ref it)) Q E s:=by
  obtain ⟨hp,g,dr,tk,os⟩:=s;have hT:Shared.TypeIs ⟨hp,g,dr,tk,os⟩ (.ref it) "dict_itemiterator":=⟨_,hit,rfl⟩
  unfold pyNext;refine wpAny_bind (wpAny_attempt (wpAny_callSpecial?_slot (name:=abJ "__next__") hT aaQ
    (wpAny_call_entry aaQ hT abB ?_ (abx _))))
  refine wpAny_bind (wpAny_pure ?_);refine wpAny_bind ?_;refine wpAny_bind ?_
  first|refine wpAny_bind (wpAny_typeNameOfWhole_itemiter hT (wpAny_pure ?_))|refine wpAny_bind (wpAny_typeNameOf_itemiter hT (wpAny_pure ?_))
  refine wpAny_bind (wpAny_fieldsOf hit rfl ?_);have hown:aaY "dict_itemiterator" = true:=by decide
  simp only [hown,if_true];show wpAny _ _ (if (Value.ref d == Value.none)=true then _ else _) _ _ _;rw [if_neg (show ¬ ((Value.ref d == Value.none)=true) from aah)];refine wpAny_bind (wpAny_pure ?_);refine wpAny_bind (wpAny_dictEntries hod hdd ?_);rw [if_neg (by rw [hsz];simp)];refine wpAny_bind (wpAny_pure ?_);refine wpAny_bind (wpAny_dictEpoch hod hdd ?_);rw [if_neg (by simp)];refine wpAny_pure ?_;simp only [show ¬ ((i:Int) < 0) from by lia,if_false,abK,hx];refine wpAny_bind ?_
  first|refine wpAny_bind (wpAny_typeNameOfWhole_itemiter hT (wpAny_pure ?_))|refine wpAny_bind (wpAny_typeNameOf_itemiter hT (wpAny_pure ?_))
  refine wpAny_bind (wpAny_isOneOf_itemiter hT ?_);show wpAny _ _ (setField (.ref it) 3 (rawInt ((i:Int)+1)) >>= _) _ _ ⟨hp,g,dr,tk,os⟩;refine wpAny_bind (wpAny_setField_rec hit (by simp) fun h₁ he₁ hs₁=>?_)
  replace hs₁:abt it hp h₁:=hs₁
  replace he₁:IsItemIter h₁ it d (i+1) n ep ok ov:=by
    have e:((i+1:Nat):Int)=(i:Int)+1:=by lia
    unfold IsItemIter;rw [e];simpa [rawInt] using he₁
  have hT₁:Shared.TypeIs ⟨h₁,g,dr,tk,os⟩ (.ref it) "dict_itemiterator":=⟨_,he₁,rfl⟩
  refine wpAny_bind (wpAny_holding ?_);refine wpAny_bind (wpAny_isOneOf_itemiter hT₁ ?_);refine wpAny_bind (wpAny_isOneOf_itemiter hT₁ ?_);show wpAny _ _ (abu (.ref it) 6 e.key e.val) _ _ ⟨h₁,g,dr,tk,os⟩;unfold abu;refine wpAny_bind (wpAny_newTuple ?_);have he₂:IsItemIter (h₁.push { cls:=.type "tuple",data:=.seq #[e.key,e.val] }) it d (i+1) n ep ok ov:=aac _ he₁;generalize hh₂:h₁.push { cls:=.type "tuple",data:=.seq #[e.key,e.val] }=h₂ at he₂;have hz₁:h₁.objs.size=hp.objs.size:=hs₁.1;have hil:it < hp.objs.size:=aag hit;have ht₂:h₂.get? hp.objs.size=some { cls:=.type "tuple",data:=.seq #[e.key,e.val] }:=by rw [← hh₂,← hz₁];exact aap _ rfl
  have hz₂:h₂.objs.size=hp.objs.size+1:=by rw [← hh₂,acd,hz₁]
  have hk₂:∀ b o,b≠it→hp.get? b=some o→h₂.get? b=some o:=fun b o hb e=>by rw [← hh₂];exact aac _ (hs₁.extBut b o hb e)
  show wpAny _ _ (abn (.ref it) >>= _) _ _ ⟨h₂,g,dr,tk,os⟩;rw [hz₁];clear hh₂ he₁ hs₁ hT₁ hz₁ h₁;refine wpAny_bind ?_;unfold abn;refine wpAny_bind (wpAny_field he₂ rfl (x:=.none) rfl (wpAny_pure ?_));simp only [if_true];refine wpAny_bind (wpAny_field he₂ rfl (x:=ok) rfl ?_);refine wpAny_bind (wpAny_field he₂ rfl (x:=ov) rfl ?_);refine wpAny_bind (wpAny_setField_rec he₂ (by simp) fun h₃ he₃ hs₃=>?_)
  replace hs₃:abt it h₂ h₃:=hs₃
  replace he₃:IsItemIter h₃ it d (i+1) n ep e.key ov:=he₃
  refine wpAny_bind (wpAny_setField_rec he₃ (by simp) fun h₄ he₄ hs₄=>?_)
  replace hs₄:abt it h₃ h₄:=hs₄
  replace he₄:IsItemIter h₄ it d (i+1) n ep e.key e.val:=he₄
  refine wpAny_bind (wpAny_setField_rec he₄ (by simp) fun h₅ he₅ hs₅=>?_)
  replace hs₅:abt it h₄ h₅:=hs₅
  replace he₅:IsItemIterOut h₅ it d (i+1) n ep e.key e.val hp.objs.size:=he₅
  refine wpAny_bind (wpAny_setField_rec he₅ (by simp) fun h₆ he₆ hs₆=>?_)
  replace hs₆:abt it h₅ h₆:=hs₆
  replace he₆:IsItemIterOut h₆ it d (i+1) n ep e.key e.val hp.objs.size:=he₆
  refine wpAny_bind (wpAny_letGo (wpAny_pure (wpAny_pure ⟨_,rfl,wpAny_pure (hQ h₆ he₆ ?_ ?_ ?_)⟩)))
  · exact hs₆.extBut _ _ (aaT hil) (hs₅.extBut _ _ (aaT hil) (hs₄.extBut _ _ (aaT hil) (hs₃.extBut _ _ (aaT hil) ht₂)))
  · show h₆.objs.size=hp.objs.size+1;rw [hs₆.1,hs₅.1,hs₄.1,hs₃.1,hz₂]
  · exact fun b o hb e=>hs₆.extBut b o hb (hs₅.extBut b o hb (hs₄.extBut b o hb (hs₃.extBut b o hb (hk₂ b o hb e))))
theorem mj {it d:Addr} {i n ep:Nat} {od:Obj} {es:Array DictEntry} {ok ov:Value} {Q:Option Value→Shared→Prop} (hh:A.handled=none) (hit:IsItemIter s.heap it d i n ep ok ov) (hod:s.heap.get? d=some od) (hdd:od.data=.dict es ep) (hsz:es.size=n) (hge:es.size≤i)
    (hQ:∀ h',Heap.ExtBut it s.heap h'→Q none { s with heap:=h' }):wpAny (model prog w) A (pyNext (.ref it)) Q E s:=by
  have hT:s.TypeIs (.ref it) "dict_itemiterator":=⟨_,hit,rfl⟩
  unfold pyNext;refine wpAny_bind (wpAny_attempt (wpAny_callSpecial?_slot (name:=abJ "__next__") hT aaQ
    (wpAny_call_entry aaQ hT abB ?_ (abx _))))
  refine wpAny_bind (wpAny_pure ?_);refine wpAny_bind ?_;refine wpAny_bind ?_
  first|refine wpAny_bind (wpAny_typeNameOfWhole_itemiter hT (wpAny_pure ?_))|refine wpAny_bind (wpAny_typeNameOf_itemiter hT (wpAny_pure ?_))
  refine wpAny_bind (wpAny_fieldsOf hit rfl ?_);have hown:aaY "dict_itemiterator" = true:=by decide
  simp only [hown,if_true];show wpAny _ _ (if (Value.ref d == Value.none)=true then _ else _) _ _ s;rw [if_neg (show ¬ ((Value.ref d == Value.none)=true) from aah)];refine wpAny_bind (wpAny_pure ?_);refine wpAny_bind (wpAny_dictEntries hod hdd ?_);rw [if_neg (by rw [hsz];simp)];refine wpAny_bind (wpAny_pure ?_);refine wpAny_bind (wpAny_dictEpoch hod hdd ?_);rw [if_neg (by simp)];refine wpAny_pure ?_;simp only [show ¬ ((i:Int) < 0) from by lia,if_false,abK,ab2 hge];refine wpAny_bind ?_
  first|refine wpAny_bind (wpAny_typeNameOfWhole_itemiter hT (wpAny_pure ?_))|refine wpAny_bind (wpAny_typeNameOf_itemiter hT (wpAny_pure ?_))
  show wpAny _ _ (setField (.ref it) 2 .none >>= _) _ _ s;refine wpAny_bind (wpAny_setField hit rfl (by simp) ?_);show wpAny _ _ (newExc (.type "StopIteration") [] >>= _) _ _ _;refine wpAny_bind ?_;simp only [newExc,newTuple];refine wpAny_bind (wpAny_newObj_type ?_ (by size_fits));refine wpAny_bind (m:=firstArgMember _ _) (wpAny_of_eq (a:=Value.none) (by first|rfl|(simp only [firstArgMember];rfl)) ?_);refine wpAny_newObj_type ?_ (by size_fits);simp only [raiseNew];refine wpAny_bind (wpAny_handled ?_);rw [show A.in1.handled=none from hh];refine wpAny_bind (wpAny_pure (wpAny_throw ?_));refine wpAny_bind (wpAny_isInstance (T:="StopIteration") (b:=true) ⟨_,aap _ rfl,rfl⟩ isSubtype_stop ?_);exact wpAny_pure (hQ _ (((aaX ..).extBut.push _).push _))
end
def py (kvs:List (List Key × V)):Nat→V→V→Hp→Prop:=fun i k y H=>∃ kv b,kvs[i]?=some kv∧k=.ref b∧y=kv.2∧H b=some (.tup (kv.1.map kV))
def pz (kvs:List (Key × V)):Nat→V→V→Hp→Prop:=fun i k y _=>∃ kv,kvs[i]?=some kv∧k=kV kv.1∧y=kv.2
def Iti (d:Addr) (o:Obj) (u:HO) (n:Nat) (rw:Nat→V→V→Hp→Prop):It :=
  ⟨fun i H=>H d=some (.frz o u)∧i < n,fun i H x H'=>∃ p k y,H p=none∧x=.ref p∧H'=upd H p (.tup [k,y])∧rw i k y H,fun i H=>H d=some (.frz o u)∧n≤i⟩
def Ent (P:Program) (w:World) (d:Addr) (o:Obj) (u:HO) (n:Nat) (rw:Nat→V→V→Hp→Prop) (es:Array DictEntry) (ep:Nat):Prop :=
  o.data=.dict es ep∧es.size=n∧∀ H h,HOk P w H h→H d=some (.frz o u)→h.get? d=some o∧∀ i e,es[i]?=some e→∃ k y,RelV k e.key∧RelV y e.val∧rw i k y H
theorem rN {P:Program} {w:World} {H:Hp} {h:Heap} {d:Addr} {o:Obj} {kvs:List (List Key × V)} (ok:HOk P w H h) (e:H d=some (.frz o (.dT kvs))) :
    h.get? d=some o∧o.ExactDict∧(d == sysModules)=false∧∃ es ep,Ent P w d o (.dT kvs) kvs.length (py kvs) es ep:=by
  obtain ⟨ho,z,hs,xs,rel,o2,es,ep,ho2,c,dat,_⟩:=(show ObjOk P w H h d (.frz o (.dT kvs)) from ok d _ e)
  rw [ho] at ho2;cases ho2;obtain ⟨_,_,_,hsz,_⟩:=qo ok e dat;refine ⟨ho,c,hs,es,ep,dat,hsz,fun H h ok e=>?_⟩;obtain ⟨ho,_,_,hsz,xs,rel,l⟩:=qo ok e dat;refine ⟨ho,fun i en he=>?_⟩;have lx:=aa9 rel;have hi:i < es.size:=by
    rcases Nat.lt_or_ge i es.size with h|h
    · exact h
    · rw [ab2 h] at he;cases he
  have hx:xs[i]?=some xs[i]:=aaf (by lia);have hkv:kvs[i]?=some kvs[i]:=aaf (by lia);rw [entry_at l i,hx] at he;have he:entryOfKey (tupleKind (aG P w)) xs[i]=en:=aaN he;subst he;have r:=Paired.nth rel i _ _ hkv hx;exact ⟨.ref xs[i].2.1,kvs[i].2,rfl,r.2.2,_,_,hkv,rfl,rfl,r.2.1⟩
theorem gm {P:Program} {w:World}:∀ {es:List DictEntry} {vs:List (Key × Value)},Pairs (aG P w) es vs→∀ {i:Nat} {e:DictEntry},es[i]?=some e→∃ kv,vs[i]?=some kv∧(aG P w).is kv.1 e.key=true∧e.val=kv.2
  | _,_,.nil,i,e,h=>by simp at h
  | _,_,.cons a b c,0,e,h=>by simp at h;subst h;exact ⟨_,rfl,a,b⟩
  | _,_,.cons a b c,i+1,e,h=>by simpa using gm c (by simpa using h)
theorem rO {P:Program} {w:World} {H:Hp} {h:Heap} {d:Addr} {o:Obj} {kvs:List (Key × V)} (ok:HOk P w H h) (e:H d=some (.frz o (.dK kvs))) :
    h.get? d=some o∧o.ExactDict∧(d == sysModules)=false∧∃ es ep,Ent P w d o (.dK kvs) kvs.length (pz kvs) es ep:=by
  obtain ⟨ho,z,hs,vs,rel,o2,es,ep,ho2,c,dat,ks,pr,nd⟩:=(show ObjOk P w H h d (.frz o (.dK kvs)) from ok d _ e)
  rw [ho] at ho2;cases ho2;have lv:=aa9 rel;have hsz:es.size=kvs.length:=by rw [← aam,pr.length];lia
  refine ⟨ho,c,hs,es,ep,dat,hsz,fun H h ok e=>?_⟩;obtain ⟨ho,z,hs,vs,rel,o2,es2,ep2,ho2,c,dat2,ks,pr,nd⟩:=(show ObjOk P w H h d (.frz o (.dK kvs)) from ok d _ e)
  rw [ho] at ho2;cases ho2;rw [dat] at dat2;cases dat2;refine ⟨ho,fun i en he=>?_⟩;obtain ⟨kv,e1,e2,e3⟩:=gm pr (i:=i) (e:=en) (by simpa using he);have hi:i < vs.length:=(aai.mp e1).1;have lv:=aa9 rel;have hkv:kvs[i]?=some kvs[i]:=aaf (by lia);have r:=Paired.nth rel i _ _ hkv e1;refine ⟨kV kvs[i].1,kvs[i].2,?_,by rw [e3];exact r.2,_,hkv,rfl,rfl⟩;rw [r.1];rcases aK e2 with ⟨j,t,q1,q2⟩|⟨x,t,q1,q2⟩
  · rw [q1,q2];exact ⟨t,rfl⟩
  · rw [q1,q2];exact ⟨t,rfl⟩
theorem lM {P:Program} {w:World} {K:aab} {elts:List Expr} {k:Nat} {pos:Pos} (d it:Addr) (hdi:d≠it) (o:Obj) (u:HO) (n:Nat) (rw:Nat→V→V→Hp→Prop) (es:Array DictEntry) (ep:Nat) (hE:Ent P w d o u n rw es ep) :
    Turn P w K (.Tuple elts k pos) (Iti d o u n rw) [it] it (fun i h=>∃ ok ov,IsItemIter h it d i n ep ok ov) where
  mem:=by simp
  obj:=fun i h st b hb=>by
    have e:b=it:=by simpa using hb
    subst e;obtain ⟨ok,ov,e⟩:=st;exact ⟨_,e,fun v z=>by cases z⟩
  keep:=fun i h h' st k=>by
    obtain ⟨ok,ov,e⟩:=st;exact ⟨ok,ov,k it (by simp) _ e⟩
  item:=by
    intro X hP hw hK hc i pins s σ H E I hf st hg;subst hP hw hK;obtain ⟨e,hlt⟩:=hg;obtain ⟨dat,hsz,hE⟩:=hE;obtain ⟨ho,hE⟩:=hE H s.heap I.hok e;obtain ⟨f0,f1,f2,f3,f4,f5⟩:=hf it (by simp);obtain ⟨ok,ov,hit⟩:=st;have hx:es[i]?=some es[i]:=abO (by lia);obtain ⟨kx,y,r1,r2,r3⟩:=hE i _ hx;have hilt:it < s.heap.objs.size:=aag hit;refine jk hit ho dat hsz hx fun h' hit' hT hz hk=>?_;refine ⟨_,rfl,wpAny_letOwnedTupleGo_items hit' fun h'' he' hs'=>?_⟩;have hs2:abt it h' h'':=hs';have keep:∀ b o,b∉[it]→s.heap.get? b=some o→h''.get? b=some o:=fun b o hb q=>by
      have b1:b≠it:=fun z=>hb (by simp [z]);exact (hs2.2 b b1).trans (hk b o b1 q)
    have I1:Inv X pins σ H { s with heap:=h'',toks:=s.toks }:=I.turnedL keep hf;have gT:h''.get? s.heap.objs.size=some { cls:=.type "tuple",data:=.seq #[es[i].key,es[i].val] }:=(hs2.2 _ (aaT hilt)).trans hT;have fresh:H s.heap.objs.size=none:=I.hok.fresh (aad _);have I2:=I1.adopt (a:=s.heap.objs.size) (o:=.tup [kx,y]) fresh I.sz (aaT I.lt) (fun y c e1=>by
        obtain ⟨v,q⟩:=I.cell y c e1;exact aas q.lt) (fun q hq=>aas (aag (I.pin q hq).1)) ⟨by show 2≤sizeLine;decide,[es[i].key,es[i].val],.cons r1 (.cons r2 .nil),⟨_,gT,rfl,_,rfl⟩⟩
    refine ⟨.ref s.heap.objs.size,_,I2,rfl,⟨_,kx,y,fresh,rfl,rfl,r3⟩,⟨_,_,he'⟩,fun b hb=>?_⟩;have z:b=it:=by simpa using hb
    subst z;rw [aj (aas hilt)];exact f0
  done:=by
    intro X hP hw hK hc i pins s σ H E I hf st hg;subst hP hw hK;obtain ⟨e,hge⟩:=hg;obtain ⟨dat,hsz,hE⟩:=hE;obtain ⟨ho,hE⟩:=hE H s.heap I.hok e;obtain ⟨f0,f1,f2,f3,f4,f5⟩:=hf it (by simp);obtain ⟨ok,ov,hit⟩:=st;exact mj (I.ok.hd hc) hit ho dat hsz (by lia) fun h' eb=>⟨rfl,I.turned (t':=s.toks) (fun b o hb e=>eb b o hb e) f0 f1 f3 f4 f5⟩
  self:=fun _ _ _ _ _ st h=>by
    obtain ⟨ok,ov,hit⟩:=st;exact PySem.W.kcp_self hit h
def tm (te:TE):TI:=fun σ H R=>te σ H fun x H1=>∃ d,x=.ref d ∧
  ((∃ kvs,H1 d=some (.dT kvs)∧∀ o,R (Iti d o (.dT kvs) kvs.length (py kvs)) (upd H1 d (.frz o (.dT kvs))))∨(∃ kvs,H1 d=some (.dK kvs)∧∀ o,R (Iti d o (.dK kvs) kvs.length (pz kvs)) (upd H1 d (.frz o (.dK kvs)))) ∨
   (∃ o kvs,H1 d=some (.frz o (.dT kvs))∧R (Iti d o (.dT kvs) kvs.length (py kvs)) H1)∨∃ o kvs,H1 d=some (.frz o (.dK kvs))∧R (Iti d o (.dK kvs) kvs.length (pz kvs)) H1)
theorem kK {X:Cx} {elts:List Expr} {k:Nat} {tpos:Pos} {o:Expr} {to:TE} {apos cpos:Pos} (ho:PE X o to)
    (hbase:attributeBase o "items" X.env (eval o X.env)=eval o X.env:=by rfl) (hline:(apos.endLine == cpos.line)=true:=by rfl):PI X (.Tuple elts k tpos) (.Call (.Attribute o "items" apos) [] [] cpos) (tm to):=by
  intro pins s σ H R I h;refine wpAny_Call_method0_late hbase hline (thn (ho pins s σ H _ I h) fun v s1 ⟨x,H1,I1,r1,d,ex,q1⟩=>?_);subst ex;cases r1;have main:∀ (ob:Obj) (u:HO) (n:Nat) (rw:Nat→V→V→Hp→Prop) (es:Array DictEntry) (ep:Nat) (H2:Hp),s1.heap.get? d=some ob→ob.ExactDict→(d == sysModules)=false→Inv X pins σ H2 s1→Ent X.prog X.w d ob u n rw es ep→R (Iti d ob u n rw) H2 →
      MethodOn X.prog X.w X.A "items" cpos (.ref d) [] (fun v s1=>wpAny (model X.prog X.w) X.A (pyIter v) (PIE X pins σ (.Tuple elts k tpos) R) X.xe s1) X.xe s1:=fun ob u n rw es ep H2 g c hs I2 hE q=>by
    have hT:s1.TypeIs (.ref d) "dict":=⟨ob,g,c.1⟩
    refine ⟨"dict","dict.items",acs,abY,PySem.F.type_dict_items,hT,fun a e=>by cases e;exact ⟨ob,g,c.2.1⟩,ab3 rfl (PySem.evalArgs_none ?_)⟩;refine call_meetsIn abY hT PySem.F.entry_dict_items (PySem.F.args_dict_items_1 _) (fU d hs) ⟨hT,?_⟩;have g1:(s1.heap.push { cls:=.type "dict_items",data:=.fields #[.ref d] }).get? d=some ob:=aac _ g;refine iD (s:={ s1 with heap:=s1.heap.push { cls:=.type "dict_items",data:=.fields #[.ref d] } }) (v:=s1.heap.objs.size) (d:=d) ⟨_,aap _ rfl,rfl,rfl⟩ g1 hE.1 ?_;have kp:∀ b o,s1.heap.get? b=some o→((s1.heap.push { cls:=.type "dict_items",data:=.fields #[.ref d] }).push { cls:=.type "dict_itemiterator",data:=.fields #[.none,.bool false,.ref d,.int 0 0,.int es.size 0,.int ep 0,.none,.none] }).get? b=some o:=fun b o e=>aac _ (aac _ e);have hlt:d < s1.heap.objs.size:=aag g;have hsz:(s1.heap.push { cls:=.type "dict_items",data:=.fields #[.ref d] }).objs.size=s1.heap.objs.size+1:=acd _ _;refine ⟨(s1.heap.push { cls:=.type "dict_items",data:=.fields #[.ref d] }).objs.size,[(s1.heap.push { cls:=.type "dict_items",data:=.fields #[.ref d] }).objs.size],_,_,H2,rfl,I2.kept (t':=s1.toks) kp,lM d _ (by rw [hsz];exact aas (abL hlt)) ob u n rw es ep hE,⟨.none,.none,?_⟩,fun b hb=>?_,q⟩
    · have e:=aap (s1.heap.push { cls:=.type "dict_items",data:=.fields #[.ref d] }) (o:={ cls:=.type "dict_itemiterator",data:=.fields #[.none,.bool false,.ref d,.int 0 0,.int es.size 0,.int ep 0,.none,.none] }) rfl;rw [hE.2.1] at e;rw [hE.2.1];exact e
    · have e:b=(s1.heap.push { cls:=.type "dict_items",data:=.fields #[.ref d] }).objs.size:=by simpa using hb
      have hb2:s1.heap.objs.size≤b:=by rw [e,hsz];exact acx _
      exact I2.fpOk hb2 (I2.hok.fresh hb2)
  have nf:∀ u,H1 d=some u→(∀ o v,u≠.frz o v)→∀ o v,X.H₀ d≠some (.frz o v):=fun u e1 n o v q=>by
    have z:=I1.base.frzs d o v q;rw [e1] at z;injection z with z;exact n _ _ z
  rcases q1 with ⟨kvs,e1,q⟩|⟨kvs,e1,q⟩|⟨ob,kvs,e1,q⟩|⟨ob,kvs,e1,q⟩
  · obtain ⟨z,hd,xs,rel,ob,es,ep,hob,c⟩:=(show ObjOk X.prog X.w H1 s1.heap d (.dT kvs) from I1.hok d _ e1)
    have I2:Inv X pins σ (upd H1 d (.frz ob (.dT kvs))) s1:=I1.retype e1 (fun _ z=>nomatch z) (fun _ z=>nomatch z) (fun _ z=>nomatch z) (nf _ e1 fun _ _ z=>nomatch z) ⟨hob,I1.hok d _ e1⟩;obtain ⟨h1,h2,h3,es',ep',hE⟩:=rN I2.hok (ad (H:=H1) (a:=d));exact main ob _ _ _ _ _ _ h1 h2 h3 I2 hE (q ob)
  · obtain ⟨z,hd,vs,rel,ob,es,ep,hob,c⟩:=(show ObjOk X.prog X.w H1 s1.heap d (.dK kvs) from I1.hok d _ e1)
    have I2:Inv X pins σ (upd H1 d (.frz ob (.dK kvs))) s1:=I1.retype e1 (fun _ z=>nomatch z) (fun _ z=>nomatch z) (fun _ z=>nomatch z) (nf _ e1 fun _ _ z=>nomatch z) ⟨hob,I1.hok d _ e1⟩;obtain ⟨h1,h2,h3,es',ep',hE⟩:=rO I2.hok (ad (H:=H1) (a:=d));exact main ob _ _ _ _ _ _ h1 h2 h3 I2 hE (q ob)
  · obtain ⟨h1,h2,h3,es',ep',hE⟩:=rN I1.hok e1;exact main ob _ _ _ _ _ _ h1 h2 h3 I1 hE q
  · obtain ⟨h1,h2,h3,es',ep',hE⟩:=rO I1.hok e1;exact main ob _ _ _ _ _ _ h1 h2 h3 I1 hE q
theorem Trn.items {d:Addr} {o:Obj} {u:HO} {n:Nat} {rw:Nat→V→V→Hp→Prop}:Trn (Iti d o u n rw) n (fun H=>H d=some (.frz o u)) (fun i x H H'=>∃ p k y,H p=none∧x=.ref p∧H'=upd H p (.tup [k,y])∧rw i k y H) :=
  ⟨fun i H hi q=>⟨q,hi⟩,fun H q=>⟨q,aad _⟩,fun i H x H' hi q y=>y⟩
theorem cJ {J:It} {n:Nat} {Kp:Hp→Prop} {item:Nat→V→Hp→Hp→Prop} (T:Trn J n Kp item) {g:TG} {tb:TS} {D:Ends} {σ:St} {H:Hp} (Pv:Nat→St→Hp→Prop) (h0:Pv 0 σ H) (hk:∀ i σ H,i≤n→Pv i σ H→Kp H)
    (hs:∀ i x σ H H',i < n→item i x H H'→Pv i σ H→g x σ H' fun σ2 H2=>tb { D with nx:=Pv (i+1),ct:=Pv (i+1),bk:=D.nx } σ2 H2) (hd:∀ σ H,Pv n σ H→D.nx σ H) :
    ∃ W:Nat→Nat→St→Hp→Prop,(∃ m,W 0 m σ H)∧∀ i m σ H,W i m σ H →
      (J.stop i H∧D.nx σ H)∨(J.go i H∧∃ N:St→Hp→Prop,(∀ σ' H',N σ' H'→∃ m',m' < m∧W (i+1) m' σ' H')∧∀ x H',J.yld i H x H'→g x σ H' fun σ2 H2=>tb { D with nx:=N,ct:=N,bk:=D.nx } σ2 H2):=by
  refine ⟨fun i m σ H=>m=n - i∧i≤n∧Pv i σ H,⟨n,by simp,aa1 _,h0⟩,?_⟩;rintro i m σ H ⟨rfl,hi,p⟩;have q:=hk i σ H hi p;by_cases hlt:i < n
  · exact .inr ⟨T.go i H hlt q,Pv (i+1),fun σ' H' p'=>⟨n - (i+1),by lia,rfl,hlt,p'⟩,fun x H' y=>hs i x σ H H' hlt (T.yld i H x H' hlt q y) p⟩
  · have e:i=n:=by lia
    subst e;exact .inl ⟨T.stop H q,hd σ H p⟩
def eI (H:Hp) (d:Addr):Prop:=∀ o v,H d≠some (.frz o v)
def t5 (t:TS):TS:=fun D σ H=>t { nx:=fun σ' H'=>∃ d o u,eI H d∧H' d=some (.frz o u)∧D.nx σ' (upd H' d u),rt:=fun v H'=>∃ d o u,eI H d∧H' d=some (.frz o u)∧D.rt v (upd H' d u),bk:=fun σ' H'=>∃ d o u,eI H d∧H' d=some (.frz o u)∧D.bk σ' (upd H' d u),ct:=fun σ' H'=>∃ d o u,eI H d∧H' d=some (.frz o u)∧D.ct σ' (upd H' d u) } σ H
theorem mU {X:Cx} {st:Stmt} {t:TS} (hs:PS X st t):PS X st (t5 t):=by
  intro pins s σ H D I h;have back:∀ {σ':St} {H1:Hp} {s1:Shared} {d:Addr} {o:Obj} {u:HO},Inv X pins σ' H1 s1→eI H d→H1 d=some (.frz o u)→Inv X pins σ' (upd H1 d u) s1:=fun {σ' H1 s1 d o u} I2 nf e1 =>
    I2.retype e1 (fun _ z=>nomatch z) (fun _ z=>nomatch z) (fun _ z=>nomatch z) (fun o v q=>nf _ _ (I.base.frzs d o v q)) (show ObjOk X.prog X.w H1 s1.heap d (.frz o u) from I2.hok d _ e1).2
  refine thn (hs pins s σ _ _ I h) fun f s1 q=>?_;cases f with
  | next=>obtain ⟨σ',H',I2,d,o,u,nf,e1,q⟩:=q;exact ⟨σ',_,back I2 nf e1,q⟩
  | brk=>obtain ⟨σ',H',I2,d,o,u,nf,e1,q⟩:=q;exact ⟨σ',_,back I2 nf e1,q⟩
  | cont=>obtain ⟨σ',H',I2,d,o,u,nf,e1,q⟩:=q;exact ⟨σ',_,back I2 nf e1,q⟩
  | ret u=>obtain ⟨v,σ',H',I2,r,d,o,u,nf,e1,q⟩:=q;exact ⟨v,σ',_,back I2 nf e1,r,q⟩
end L2
namespace PySem
open Sem (wp)
namespace F
end F
section
variable {prog:Program} {w:World} {A:Around} {E:Value→Shared→Prop} {h:Heap} {g:Array GenState} {d:Drawn} {t:Nat} {os:OsState} {a:Addr} {xs:Array Value} {k:Nat}
end
end PySem
namespace L2
open PySem PySem.Spec PyProof.Rows
section
variable {prog:Program} {w:World} {A:Around} {E:Value→Shared→Prop} {s:Shared}
end
open PySem PySem.Spec PyProof.Rows
section
variable {X:Cx}
end
structure FunD (K:aab) (x qual:Str) (st:Stmt) (f:Addr) (fd:FuncData) (tD:Addr):Prop where
  ex:∃ (oc:Value) (od:Option Addr) (kV doc pm:Value) (an:Option Addr) (cdv ct:Value) (osl:Array (Option Value)),
    fd=abd x qual (bR st) (bi st) (am st) (.ref tD) kV doc pm an cdv ct∧K.lookup f=some ⟨oc,od,.func fd,osl⟩∧abI K cdv qual=true
  kp:aa6 K (.ref f)=true
section
variable {P:Program} {w:World} {K:aab} {mg:Str→Option Value} {base:Heap}
end
open PySem PySem.Spec PyProof.Rows
section
variable {X:Cx} {tg:Expr}
end
open PySem PySem.Spec PyProof.Rows
end L2
namespace L2
open PySem PySem.Spec PyProof.Rows PySem.W
section
variable {prog:Program} {w:World} {A:Around} {E:Value→Shared→Prop} {s:Shared}
end
theorem sE {X:Cx} {o i:Expr} {td ty:TE} {pos:Pos} (hu:X.A.units+1 < cLine) (hi:PE X i ty) (ho:PE X o td) (hm:behindInMarks .In o=false):PE X (.Compare i [.In] [o] pos) (tU ty td):=sF (sH hu hi ho) hm
open PySem PySem.Spec PyProof.Rows
def sQ (e l:Nat→Bool) (n m:Nat):Nat→Nat→Bool
  | _,0=>decide (n < m)
  | j,k+1=>if e j=true then sQ e l n m (j+1) k else l j
section
open PySem.SeqAt
open PySem.AutoSeq1 (wpAny_loadPart')
open PySem.MeetsSeq PySem.MeetsSeq2 PySem.MeetsSeq3
end
inductive LtR (K:aab) (H:Hp):Nat→V→V→Bool→Prop
  | int {n:Nat} {a b:Int}:LtR K H n (.int a) (.int b) (decide (a < b))
  | tup {n:Nat} {a b:Addr} {xs ys:List V} {e l:Nat→Bool} (ha:SqT K H a xs) (hb:SqT K H b ys) (h:∀ (j:Nat) x y,xs[j]?=some x→ys[j]?=some y→EqR K H n x y (e j)) (hl:∀ (j:Nat) x y,xs[j]?=some x→ys[j]?=some y→e j=false→LtR K H n x y (l j)) :
      LtR K H (n+1) (.ref a) (.ref b) (sQ e l xs.length ys.length 0 (min xs.length ys.length))
section
variable {X:Cx} {pins:List (Addr × Obj)} {σ:St} {H:Hp} {s:Shared}
end
section
variable {X:Cx}
end
open PySem PySem.Spec PyProof.Rows
def Fq (K:aab) (x:Str) (s:Stmt) (f:Addr):Prop:=aav K mainGlobals x=some (some (.ref f))∧∃ fd,Fun K x x s f fd
theorem Fq.mk4 {K:aab} {x:Str} {st:Stmt} {f:Addr} {oc:Value} {od an:Option Addr} {osl:Array (Option Value)} {kV doc pm cdv ct:Value} (a:aav K mainGlobals x=some (some (.ref f))) (l:K.lookup f=some ⟨oc,od,.func (abd x x (bR st) (bi st) (am st) .none kV doc pm an cdv ct),osl⟩)
    (c:abI K cdv x=true) (k:aa6 K (.ref f)=true):Fq K x st f:=⟨a,_,qm l c k⟩
theorem Fq.use {K:aab} {x:Str} {st:Stmt} {f:Addr} {h:Heap} {mg:Str→Option Value} (q:Fq K x st f) (X:K.In h) (G:h.Ns mainGlobals mg) {ps:List Str}
    (hb:∀ (kV doc pm:Value) (an:Option Addr) (cdv ct:Value) (us:List Value),us.length=ps.length→bindArgs (abd x x (bR st) (bi st) (am st) .none kV doc pm an cdv ct) ⟨us,[]⟩=pure (ps.zip us)):∃ fd,Fun K x x st f fd∧Binds K fd ps []∧mg x=some (.ref f):=by
  obtain ⟨a,fd,F⟩:=q;exact ⟨fd,F,F.binds hb,aaM X G a⟩
open PySem PySem.Spec PyProof.Rows
end L2
namespace Tim
open PySem PyProof.Rows
def rm:Bool→Keyed→Array Keyed→Nat→Nat→Nat→StateT SortSt Sem (Option Nat):=sortPriv% PySem.Builtin.gallop
def pZ:Array Keyed→Array Keyed→StateT SortSt Sem (Array Keyed):=sortPriv% PySem.Builtin.mergeLo
def p8:Array Keyed→Array Keyed→StateT SortSt Sem (Array Keyed):=sortPriv% PySem.Builtin.mergeHi
structure Ord (M:Model) (A:Around) (E:Value→Shared→Prop) (s:Shared) (κ:SortKind) (P:Keyed→Prop) (lt:Keyed→Keyed→Bool):Prop where
  ask:∀ {x y:Keyed} {st:SortSt} {Q:Option Bool→SortSt→Prop},P x→P y→kindOf st=κ→Q (some (lt x y)) st→wpS M A E s (lt' x y) Q st
  asym:∀ {x y:Keyed},P x→P y→lt x y=true→lt y x=false
  trans:∀ {x y z:Keyed},P x→P y→P z→lt y x=false→lt z y=false→lt z x=false
section
variable {M:Model} {A:Around} {E:Value→Shared→Prop} {s:Shared} {κ:SortKind} {P:Keyed→Prop} {lt:Keyed→Keyed→Bool}
theorem ao {arr:Array Keyed} {i:Nat} {x:Keyed} {st:SortSt} {Q:Keyed→SortSt→Prop} (h:arr[i]?=some x) (q:Q x st):wpS M A E s (elem' arr i) Q st:=by
  rw [elem'_eq,h];exact wpS_pure q
structure Bnd (B:Nat→Bool) (n k:Nat):Prop where
  le:k≤n
  lo:∀ i,i < k→B i=true
  hi:∀ i,k≤i→i < n→B i=false
theorem aV (O:Ord M A E s κ P lt) {left:Bool} {key:Keyed} {arr:Array Keyed} {base n hint:Nat} {st:SortSt} {Q:Option Nat→SortSt→Prop} (hk:kindOf st=κ) (hkey:P key) (hP:∀ x∈arr.toList,P x) (hn:base+n≤arr.size) (hh:hint < n) (B:Nat→Bool)
    (hB:∀ i x,i < n→arr[base+i]?=some x→B i=if left=true then lt x key else !lt key x) (mono:∀ i j,i≤j→j < n→B j=true→B i=true)
    (q:∀ k,Bnd B n k→Q (some k) st):wpS M A E s (rm left key arr base n hint) Q st:=by
  have beyond:∀ {i:Nat} {Q':Option Bool→SortSt→Prop},i < n→Q' (some (B i)) st→wpS M A E s (do
      let x ← elem' arr (base+i)
      if left=true then lt' x key else do
        let r ← lt' key x
        pure (r.map (!·))) Q' st:=by
    intro i Q' hi hq;have hsz:base+i < arr.size:=by lia
    have hx:arr[base+i]?=some (arr[base+i]'hsz):=getElem?_pos arr (base+i) hsz;have pm:P (arr[base+i]'hsz):=hP _ (by simp);refine wpS_bind (ao hx ?_);have e:=hB i _ hi hx;by_cases c:left=true
    · rw [if_pos c] at e ⊢;rw [e] at hq;exact O.ask pm hkey hk hq
    · rw [if_neg c] at e ⊢;refine wpS_bind (O.ask hkey pm hk (wpS_pure ?_));rw [e] at hq;exact hq
  refine wpS_bind (wpS_mono (beyond (i:=hint) hh (Q':=fun r st'=>r=some (B hint)∧st'=st) ⟨rfl,rfl⟩) ?_);rintro r st' ⟨rfl,rfl⟩;dsimp only;by_cases c:B hint=true
  · rw [if_pos c];refine wpS_bind (wpS_mono (wpS_forRange (I:=fun x c st''=>st''=st'∧∃ la o,c=(none,la,o)∧la < o∧x+1≤o∧hint+la < n∧B (hint+la)=true) (Q:=fun c st''=>st''=st'∧∃ la o,c=(none,la,o)∧la < o∧hint+la < n∧B (hint+la)=true∧(n - hint≤o∨(hint+o < n∧B (hint+o)=false))) ?step ?fin ⟨rfl,0,1,rfl,by lia,by lia,by lia,c⟩) ?_)
    case fin =>
      rintro c st'' ⟨rfl,la,o,rfl,h1,h2,h3,h4⟩;exact ⟨rfl,la,o,rfl,h1,h3,h4,.inl (by lia)⟩
    case step =>
      rintro x c st'' _ hx ⟨rfl,la,o,rfl,h1,h2,h3,h4⟩;dsimp only;by_cases ge:o ≥ n - hint
      · rw [if_pos ge];exact wpS_pure ⟨rfl,la,o,rfl,h1,h3,h4,.inl ge⟩
      · rw [if_neg ge];refine wpS_bind (wpS_mono (beyond (i:=hint+o) (by lia) (Q':=fun r st'=>r=some (B (hint+o))∧st'=st'') ⟨rfl,rfl⟩) ?_);rintro r st' ⟨rfl,rfl⟩;dsimp only;by_cases d:B (hint+o)=true
        · rw [d];simp only [acF,aaU,if_false];exact wpS_pure ⟨rfl,_,_,rfl,by lia,by lia,by lia,d⟩
        · have d:B (hint+o)=false:=by simpa using d
          rw [d];simp only [Bool.not_false,if_true];exact wpS_pure ⟨rfl,la,o,rfl,h1,h3,h4,.inr ⟨by lia,d⟩⟩
    rintro c2 st3 ⟨rfl,la,o,rfl,h1,h3,h4,h5⟩;dsimp only;refine wpS_bind (wpS_mono (wpS_forRange (I:=fun x c st'=>st'=st3∧∃ lo hi,c=(none,lo,hi)∧lo≤hi∧hi≤n∧hi - lo≤n - x∧(∀ i,i < lo→B i=true)∧∀ i,hi≤i→i < n→B i=false) (Q:=fun c st'=>st'=st3∧∃ lo hi,c=(none,lo,hi)∧Bnd B n hi) ?bstep ?bfin ?binit) ?bpost)
    case binit =>
      refine ⟨rfl,_,_,rfl,by lia,by lia,by lia,fun i hi=>mono i _ (by lia) h3 h4,fun i hi hi2=>?_⟩;rcases h5 with h5|⟨h5,h6⟩
      · lia
      · cases e:B i with
        | false=>rfl
        | true=>rw [mono (hint+o) i (by lia) hi2 e] at h6;cases h6
    case bfin =>
      rintro c st' ⟨rfl,lo,hi,rfl,a1,a2,a3,a4,a5⟩;have : lo=hi:=by lia
      subst this;exact ⟨rfl,lo,lo,rfl,a2,a4,a5⟩
    case bstep =>
      rintro x c st' _ hx ⟨rfl,lo,hi,rfl,a1,a2,a3,a4,a5⟩;dsimp only;by_cases ge:lo ≥ hi
      · rw [if_pos ge];have : lo=hi:=by lia
        subst this;exact wpS_pure ⟨rfl,lo,lo,rfl,a2,a4,a5⟩
      · rw [if_neg ge];refine wpS_bind (wpS_mono (beyond (i:=lo+(hi - lo) / 2) (by lia) (Q':=fun r st''=>r=some (B (lo+(hi - lo) / 2))∧st''=st') ⟨rfl,rfl⟩) ?_);rintro r st'' ⟨rfl,rfl⟩;dsimp only;by_cases d:B (lo+(hi - lo) / 2)=true
        · rw [if_pos d];exact wpS_pure ⟨rfl,_,_,rfl,by lia,a2,by lia,fun i hi'=>mono i _ (by lia) (by lia) d,a5⟩
        · rw [if_neg d];refine wpS_pure ⟨rfl,_,_,rfl,by lia,by lia,by lia,a4,fun i h1 h2=>?_⟩;cases e:B i with
          | false=>rfl
          | true=>exact absurd (mono _ i h1 h2 e) d
    case bpost =>
      rintro c st' ⟨rfl,lo,hi,rfl,b⟩;exact wpS_pure (q hi b)
  · rw [if_neg c];have c:B hint=false:=by simpa using c
    refine wpS_bind (wpS_mono (wpS_forRange (I:=fun x c st''=>st''=st'∧∃ la o,c=(none,la,o)∧la < o∧x+1≤o∧la≤hint∧B (hint - la)=false) (Q:=fun c st''=>st''=st'∧∃ la o,c=(none,la,o)∧la < o∧la≤hint∧B (hint - la)=false∧(hint+1≤o∨(o≤hint∧B (hint - o)=true))) ?step ?fin ⟨rfl,0,1,rfl,by lia,by lia,by lia,c⟩) ?_)
    case fin =>
      rintro c st'' ⟨rfl,la,o,rfl,h1,h2,h3,h4⟩;exact ⟨rfl,la,o,rfl,h1,h3,h4,.inl (by lia)⟩
    case step =>
      rintro x c st'' _ hx ⟨rfl,la,o,rfl,h1,h2,h3,h4⟩;dsimp only;by_cases ge:o ≥ hint+1
      · rw [if_pos ge];exact wpS_pure ⟨rfl,la,o,rfl,h1,h3,h4,.inl ge⟩
      · rw [if_neg ge];refine wpS_bind (wpS_mono (beyond (i:=hint - o) (by lia) (Q':=fun r st'=>r=some (B (hint - o))∧st'=st'') ⟨rfl,rfl⟩) ?_);rintro r st' ⟨rfl,rfl⟩;dsimp only;by_cases d:B (hint - o)=true
        · rw [if_pos d];exact wpS_pure ⟨rfl,la,o,rfl,h1,h3,h4,.inr ⟨by lia,d⟩⟩
        · rw [if_neg d];exact wpS_pure ⟨rfl,_,_,rfl,by lia,by lia,by lia,by simpa using d⟩
    rintro c2 st3 ⟨rfl,la,o,rfl,h1,h3,h4,h5⟩;dsimp only;refine wpS_bind (wpS_mono (wpS_forRange (I:=fun x c st'=>st'=st3∧∃ lo hi,c=(none,lo,hi)∧lo≤hi∧hi≤n∧hi - lo≤n - x∧(∀ i,i < lo→B i=true)∧∀ i,hi≤i→i < n→B i=false) (Q:=fun c st'=>st'=st3∧∃ lo hi,c=(none,lo,hi)∧Bnd B n hi) ?bstep ?bfin ?binit) ?bpost)
    case binit =>
      refine ⟨rfl,_,_,rfl,by lia,by lia,by lia,fun i hi=>?_,fun i hi hi2=>?_⟩
      · rcases h5 with h5|⟨h5,h6⟩
        · lia
        · exact mono i _ (by lia) (by lia) h6
      · cases e:B i with
        | false=>rfl
        | true=>rw [mono (hint - la) i (by lia) hi2 e] at h4;cases h4
    case bfin =>
      rintro c st' ⟨rfl,lo,hi,rfl,a1,a2,a3,a4,a5⟩;have : lo=hi:=by lia
      subst this;exact ⟨rfl,lo,lo,rfl,a2,a4,a5⟩
    case bstep =>
      rintro x c st' _ hx ⟨rfl,lo,hi,rfl,a1,a2,a3,a4,a5⟩;dsimp only;by_cases ge:lo ≥ hi
      · rw [if_pos ge];have : lo=hi:=by lia
        subst this;exact wpS_pure ⟨rfl,lo,lo,rfl,a2,a4,a5⟩
      · rw [if_neg ge];refine wpS_bind (wpS_mono (beyond (i:=lo+(hi - lo) / 2) (by lia) (Q':=fun r st''=>r=some (B (lo+(hi - lo) / 2))∧st''=st') ⟨rfl,rfl⟩) ?_);rintro r st'' ⟨rfl,rfl⟩;dsimp only;by_cases d:B (lo+(hi - lo) / 2)=true
        · rw [if_pos d];exact wpS_pure ⟨rfl,_,_,rfl,by lia,a2,by lia,fun i hi'=>mono i _ (by lia) (by lia) d,a5⟩
        · rw [if_neg d];refine wpS_pure ⟨rfl,_,_,rfl,by lia,by lia,by lia,a4,fun i h1 h2=>?_⟩;cases e:B i with
          | false=>rfl
          | true=>exact absurd (mono _ i h1 h2 e) d
    case bpost =>
      rintro c st' ⟨rfl,lo,hi,rfl,b⟩;exact wpS_pure (q hi b)
end
end Tim
namespace Tim
open PySem PyProof.Rows
def Le (lt:Keyed→Keyed→Bool) (x y:Keyed):Prop:=lt y x=false
structure Mg (lt:Keyed→Keyed→Bool) (a b out:List Keyed) (ia ib:Nat):Prop where
  ha:ia≤a.length
  hb:ib≤b.length
  perm:out.Perm (a.take ia++b.take ib)
  srt:out.Pairwise (Le lt)
  le:∀ x∈out,∀ y,(y∈a.drop ia∨y∈b.drop ib)→Le lt x y
def Res (lt:Keyed→Keyed→Bool) (a b r:List Keyed):Prop:=r.Perm (a++b)∧r.Pairwise (Le lt)
section
variable {lt:Keyed→Keyed→Bool} {a b out:List Keyed} {ia ib:Nat}
theorem Mg.swap (h:Mg lt a b out ia ib):Mg lt b a out ib ia:=⟨h.hb,h.ha,h.perm.trans abp,h.srt,fun x hx y hy=>h.le x hx y hy.symm⟩
theorem Mg.nil:Mg lt a b [] 0 0:=⟨aa1 _,aa1 _,by simp,.nil,fun x hx=>by cases hx⟩
theorem o5 (ha:a.Pairwise (Le lt)) {i:Nat} {x:Keyed} (hx:a[i]?=some x):∀ y∈a.drop (i+1),Le lt x y:=by
  obtain ⟨hi,e⟩:=aai.mp hx;intro y hy;obtain ⟨k,hk,ek⟩:=abz hy;rw [List.getElem_drop] at ek;rw [← e,← ek];exact abk.mp ha i (i+1+k) hi (by rw [abl] at hk;lia) (by lia)
theorem Mg.pushA (h:Mg lt a b out ia ib) (sa:a.Pairwise (Le lt)) {x:Keyed} (hx:a[ia]?=some x) (hl:∀ y∈b.drop ib,Le lt x y):Mg lt a b (out++[x]) (ia+1) ib:=by
  obtain ⟨hi,e⟩:=aai.mp hx;have hd:a.drop ia=x :: a.drop (ia+1):=by rw [aa5 hi,e]
  refine ⟨hi,h.hb,?_,?_,?_⟩
  · rw [aaJ,hx];show (out++[x]).Perm (a.take ia++[x]++b.take ib);refine (h.perm.append_right [x]).trans ?_;rw [aaB,aaB];exact List.perm_append_comm.append_left _
  · rw [abr];refine ⟨h.srt,by simp,fun o ho y hy=>?_⟩;rw [aar.mp hy];exact h.le o ho x (.inl (by rw [hd];exact aaH))
  · intro o ho y hy;rcases aao.mp ho with ho|ho
    · rcases hy with hy|hy
      · exact h.le o ho y (.inl (by rw [hd];exact aaw _ hy))
      · exact h.le o ho y (.inr hy)
    · rw [aar.mp ho];rcases hy with hy|hy
      · exact o5 sa hx y hy
      · exact hl y hy
theorem Mg.pushB (h:Mg lt a b out ia ib) (sb:b.Pairwise (Le lt)) {x:Keyed} (hx:b[ib]?=some x) (hl:∀ y∈a.drop ia,Le lt x y):Mg lt a b (out++[x]) ia (ib+1):=(h.swap.pushA sb hx hl).swap
theorem Mg.appA (h:Mg lt a b out ia ib) (sa:a.Pairwise (Le lt)):∀ k,ia+k≤a.length→(∀ i x,i < k→a[ia+i]?=some x→∀ y∈b.drop ib,Le lt x y)→Mg lt a b (out++(a.drop ia).take k) (ia+k) ib
  | 0,_,_=>by simpa using h
  | k+1,hk,hl=>by
    have ih:=Mg.appA h sa k (by lia) fun i x hi=>hl i x (by lia);have hi:ia+k < a.length:=by lia
    have hx:a[ia+k]?=some a[ia+k]:=aaf hi;have:=ih.pushA sa hx (hl k _ (by lia) hx);rw [aaB] at this;have e:(a.drop ia).take (k+1)=(a.drop ia).take k++[a[ia+k]]:=by
      rw [aaJ,acq,hx];rfl
    rw [e];exact this
theorem Mg.appB (h:Mg lt a b out ia ib) (sb:b.Pairwise (Le lt)) (k:Nat) (hk:ib+k≤b.length) (hl:∀ i x,i < k→b[ib+i]?=some x→∀ y∈a.drop ia,Le lt x y):Mg lt a b (out++(b.drop ib).take k) ia (ib+k):=(h.swap.appA sb k hk hl).swap
theorem Mg.fin (h:Mg lt a b out ia ib) {X:List Keyed} (hp:X.Perm (a.drop ia++b.drop ib)) (hs:X.Pairwise (Le lt)):Res lt a b (out++X):=by
  refine ⟨?_,?_⟩
  · refine (h.perm.append hp).trans ?_;have e:(a++b).Perm (a.take ia++a.drop ia++(b.take ib++b.drop ib)):=by rw [aa2,aa2]
    refine List.Perm.trans ?_ e.symm;rw [aaB,aaB];refine ab7 _ ?_;rw [← aaB,← aaB];exact ab4 _ abp
  · rw [abr];refine ⟨h.srt,hs,fun x hx y hy=>h.le x hx y ?_⟩;exact aao.mp (hp.mem_iff.mp hy)
theorem iL (sa:a.Pairwise (Le lt)) (i:Nat):(a.drop i).Pairwise (Le lt):=sa.sublist (List.drop_sublist i a)
theorem Mg.done (h:Mg lt a b out ia ib) (sa:a.Pairwise (Le lt)) (e:ib=b.length):Res lt a b (out++a.drop ia++b.drop ib):=by
  rw [aaB];have e2:b.drop ib=[]:=by rw [e,List.drop_length]
  refine h.fin (List.Perm.refl _) ?_;rw [e2,ab8];exact iL sa ia
theorem Mg.last (h:Mg lt a b out ia ib) (sb:b.Pairwise (Le lt)) {x:Keyed} (e:a.drop ia=[x]) (hl:∀ y∈b,Le lt y x):Res lt a b (out++b.drop ib++a.drop ia):=by
  rw [aaB];refine h.fin abp ?_;rw [abr];refine ⟨iL sb ib,by rw [e];simp,fun y hy z hz=>?_⟩;rw [e] at hz;rw [aar.mp hz];exact hl y (abS hy)
end
structure SameS (st st':SortSt):Prop where
  arr:arrOf st'=arrOf st
  pend:pendingOf st'=pendingOf st
  kind:kindOf st'=kindOf st
  fail:failedOf st'=failedOf st
theorem SameS.refl (st:SortSt):SameS st st:=⟨rfl,rfl,rfl,rfl⟩
section
variable {M:Model} {A:Around} {E:Value→Shared→Prop} {s:Shared} {κ:SortKind} {P:Keyed→Prop} {lt:Keyed→Keyed→Bool}
theorem ak {a:Array Keyed} {i:Nat} {x:Keyed} (h:a[i]?=some x):a.toList[i]?=some x:=by simpa using h
theorem aE {a:Array Keyed} {i:Nat} (h:i < a.size):∃ x,a[i]?=some x∧x∈a.toList:=⟨a[i],getElem?_pos a i h,by simp⟩
theorem fm (a:Array Keyed) (i:Nat):(a.extract i a.size).toList=a.toList.drop i:=by
  rw [abR,abA,← aam,← abl,abE]
theorem jq (a:Array Keyed) (i k:Nat):(a.extract i (i+k)).toList=(a.toList.drop i).take k:=by
  rw [abR,abA,Nat.add_sub_cancel_left]
theorem bP (O:Ord M A E s κ P lt) {a:List Keyed} (sa:a.Pairwise (Le lt)) (pa:∀ x∈a,P x) {x y0:Keyed} (px:P x) {i:Nat} (hy:a[i]?=some y0) (h:Le lt x y0):∀ y∈a.drop i,Le lt x y:=by
  obtain ⟨hi,e⟩:=aai.mp hy;intro y hm;rw [aa5 hi,e] at hm;rcases aay.mp hm with rfl|hm
  · exact h
  · exact O.trans px (pa _ (aan hy)) (pa _ (abS hm)) h (o5 sa hy y hm)
def cS (lt:Keyed→Keyed→Bool) (key:Keyed) (a:Array Keyed) (base:Nat) (i:Nat):Bool:=match a[base+i]? with|some x=>!lt key x|none=>false
def below (lt:Keyed→Keyed→Bool) (key:Keyed) (a:Array Keyed) (base:Nat) (i:Nat):Bool:=match a[base+i]? with|some x=>lt x key|none=>false
theorem rL {a:Array Keyed} (sa:a.toList.Pairwise (Le lt)) {i j:Nat} {x y:Keyed} (hx:a[i]?=some x) (hy:a[j]?=some y) (hij:i < j):Le lt x y:=by
  obtain ⟨h1,e1⟩:=aai.mp (ak hx);obtain ⟨h2,e2⟩:=aai.mp (ak hy);rw [← e1,← e2];exact abk.mp sa i j h1 h2 hij
theorem fb (O:Ord M A E s κ P lt) {a:Array Keyed} (pa:∀ x∈a.toList,P x) (sa:a.toList.Pairwise (Le lt)) {key:Keyed} (pk:P key) {base n:Nat} (hn:base+n≤a.size):∀ i j,i≤j→j < n→cS lt key a base j=true→cS lt key a base i=true:=by
  intro i j hij hj h;obtain ⟨x,hx,mx⟩:=aE (a:=a) (i:=base+i) (by lia);obtain ⟨y,hy,my⟩:=aE (a:=a) (i:=base+j) (by lia);unfold cS at h ⊢;rw [hy] at h;rw [hx];by_cases e:i=j
  · subst e;rw [hx] at hy;cases hy;exact h
  · have h1:Le lt x y:=rL sa hx hy (by lia);have h2:lt key y=false:=by simpa using h
    have:=O.trans (pa x mx) (pa y my) pk h1 h2;simp [this]
theorem cb (O:Ord M A E s κ P lt) {a:Array Keyed} (pa:∀ x∈a.toList,P x) (sa:a.toList.Pairwise (Le lt)) {key:Keyed} (pk:P key) {base n:Nat} (hn:base+n≤a.size):∀ i j,i≤j→j < n→below lt key a base j=true→below lt key a base i=true:=by
  intro i j hij hj h;obtain ⟨x,hx,mx⟩:=aE (a:=a) (i:=base+i) (by lia);obtain ⟨y,hy,my⟩:=aE (a:=a) (i:=base+j) (by lia);unfold below at h ⊢;rw [hy] at h;rw [hx];by_cases e:i=j
  · subst e;rw [hx] at hy;cases hy;exact h
  · have h1:Le lt x y:=rL sa hx hy (by lia);show lt x key=true;cases c:lt x key with
    | true=>rfl
    | false =>
      have:=O.trans pk (pa x mx) (pa y my) c h1;have h:lt y key=true:=h;rw [this] at h;cases h
theorem jZ (O:Ord M A E s κ P lt) {a b:Array Keyed} {st:SortSt} {Q:Array Keyed→SortSt→Prop} (hk:kindOf st=κ) (pa:∀ x∈a.toList,P x) (pb:∀ x∈b.toList,P x) (sa:a.toList.Pairwise (Le lt)) (sb:b.toList.Pairwise (Le lt)) {b0 al:Keyed} (hb0:b[0]?=some b0) (hl0:∀ y∈a.toList,Le lt b0 y) (hal:a.toList.getLast?=some al) (hll:∀ y∈b.toList,Le lt y al)
    (q:∀ r st',SameS st st'→Res lt a.toList b.toList r.toList→Q r st'):wpS M A E s (pZ a b) Q st:=by
  refine wpS_bind (wpS_lift (wpAny_rule ⟨rfl,?_⟩));refine wpS_bind (ao hb0 ?_);have hz:=ak hb0;have lenA:a.toList.length=a.size:=aam;have lenB:b.toList.length=b.size:=aam;obtain ⟨hb1,_⟩:=aai.mp hz;have m0:Mg lt a.toList b.toList (#[b0]:Array Keyed).toList 0 1:=by
    have:=(Mg.nil (lt:=lt) (a:=a.toList) (b:=b.toList)).pushB sb hz (by simpa using hl0);exact this
  have doneB:∀ {out:Array Keyed} {ia ib:Nat},Mg lt a.toList b.toList out.toList ia ib→ib=b.size→Res lt a.toList b.toList (out++a.extract ia a.size++b.extract ib b.size).toList:=fun {out ia ib} h e=>by
    rw [aau,aau,fm,fm];exact h.done sa (by lia)
  have doneA:∀ {out:Array Keyed} {ia ib:Nat},Mg lt a.toList b.toList out.toList ia ib→ia=a.size→Res lt a.toList b.toList (out++a.extract ia a.size++b.extract ib b.size).toList:=fun {out ia ib} h e=>by
    rw [aau,aau,fm,fm,aaB];have e2:a.toList.drop ia=[]:=by rw [e,← lenA,List.drop_length]
    refine h.fin (List.Perm.refl _) ?_;rw [e2,abV];exact iL sb ib
  have lastA:∀ {out:Array Keyed} {ia ib:Nat},Mg lt a.toList b.toList out.toList ia ib→ia+1=a.size→Res lt a.toList b.toList (out++b.extract ib b.size++a.extract ia a.size).toList:=fun {out ia ib} h e=>by
    rw [aau,aau,fm,fm];refine h.last sb (x:=al) ?_ hll;have hi:ia < a.toList.length:=by lia
    rw [aa5 hi,aa8 (by lia)];rw [List.getLast?_eq_getElem?,lenA,show a.size - 1=ia by lia,aaf hi] at hal;rw [aaN hal]
  dsimp only;by_cases c1:(1 == b.size)=true
  · rw [if_pos c1];exact wpS_pure (q _ _ (SameS.refl _) (doneB m0 (by simpa using c1)))
  rw [if_neg c1];by_cases c2:(0+1 == a.size)=true
  · rw [if_pos c2];exact wpS_pure (q _ _ (SameS.refl _) (lastA m0 (by simpa using c2)))
  rw [if_neg c2];have c1:1≠b.size:=by simpa using c1
  have c2:1≠a.size:=by simpa using c2
  have a1:1≤a.size:=by
    cases h:a.toList with
    | nil=>rw [h] at hal;cases hal
    | cons x l=>rw [← lenA,h];simp
  refine wpS_bind (wpS_get ?_);refine wpS_bind (wpS_mono (wpS_forRange (I:=fun x c st'=>SameS st st'∧∃ out ia ib mg,c=(none,out,ia,ib,mg)∧Mg lt a.toList b.toList out.toList ia ib∧ia+1 < a.size∧ib < b.size∧x+1≤ia+ib)
    (Q:=fun c st'=>SameS st st'∧∃ r bx,c=(some r,bx)∧Res lt a.toList b.toList r.toList) ?step ?fin ⟨SameS.refl _,_,0,1,_,rfl,m0,by lia,by lia,by lia⟩) ?post)
  case post =>
    rintro c st' ⟨hs,r,bx,rfl,hr⟩;exact wpS_pure (q _ _ hs hr)
  case fin =>
    rintro c st' ⟨hs,out,ia,ib,mg,rfl,hm,h1,h2,h3⟩
    lia
  case step =>
    rintro x c st' _ hx ⟨hs,out,ia,ib,mg,rfl,hm,h1,h2,h3⟩;dsimp only;have hk':kindOf st'=κ:=hs.kind.trans hk;refine wpS_bind (wpS_mono (wpS_forRange (I:=fun y c st''=>st''=st'∧∃ out ia ib ac bc,c=(none,out,ia,ib,ac,bc)∧Mg lt a.toList b.toList out.toList ia ib∧ia+1 < a.size∧ib < b.size∧x+1+y≤ia+ib)
      (Q:=fun c st''=>st''=st'∧((∃ r bx,c=(some r,bx)∧Res lt a.toList b.toList r.toList)∨∃ out ia ib ac bc,c=(none,out,ia,ib,ac,bc)∧Mg lt a.toList b.toList out.toList ia ib∧ia+1 < a.size∧ib < b.size∧x+2≤ia+ib)) ?step1 ?fin1 ⟨rfl,out,ia,ib,0,0,rfl,hm,h1,h2,by lia⟩) ?post1)
    case fin1 =>
      rintro c st'' ⟨rfl,out,ia,ib,ac,bc,rfl,hm,h1,h2,h3⟩
      lia
    case step1 =>
      rintro y c st'' _ hy ⟨rfl,out,ia,ib,ac,bc,rfl,hm,h1,h2,h3⟩;dsimp only;obtain ⟨xa,exa,mxa⟩:=aE (a:=a) (i:=ia) (by lia);obtain ⟨xb,exb,mxb⟩:=aE (a:=b) (i:=ib) (by lia);refine wpS_bind (ao exb (wpS_bind (ao exa (wpS_bind (O.ask (pb _ mxb) (pa _ mxa) hk' ?_)))));dsimp only;by_cases d:lt xb xa=true
      · rw [if_pos d];refine wpS_bind (ao exb ?_);have hm':Mg lt a.toList b.toList (out.push xb).toList ia (ib+1):=by
          rw [aat];exact hm.pushB sb (ak exb) (bP O sa pa (pb _ mxb) (ak exa) (O.asym (pb _ mxb) (pa _ mxa) d))
        by_cases e1:(ib+1 == b.size)=true
        · rw [if_pos e1];exact wpS_pure ⟨rfl,.inl ⟨_,_,rfl,doneB hm' (by simpa using e1)⟩⟩
        · rw [if_neg e1];have e1:ib+1≠b.size:=by simpa using e1
          by_cases e2:bc+1 ≥ mg
          · rw [if_pos e2];exact wpS_pure ⟨rfl,.inr ⟨_,_,_,_,_,rfl,hm',h1,by lia,by lia⟩⟩
          · rw [if_neg e2];exact wpS_pure ⟨rfl,_,_,_,_,_,rfl,hm',h1,by lia,by lia⟩
      · rw [if_neg d];have d:lt xb xa=false:=by simpa using d
        refine wpS_bind (ao exa ?_);have hm':Mg lt a.toList b.toList (out.push xa).toList (ia+1) ib:=by
          rw [aat];exact hm.pushA sa (ak exa) (bP O sb pb (pa _ mxa) (ak exb) d)
        by_cases e1:(ia+1+1 == a.size)=true
        · rw [if_pos e1];exact wpS_pure ⟨rfl,.inl ⟨_,_,rfl,lastA hm' (by simpa using e1)⟩⟩
        · rw [if_neg e1];have e1:ia+1+1≠a.size:=by simpa using e1
          by_cases e2:ac+1 ≥ mg
          · rw [if_pos e2];exact wpS_pure ⟨rfl,.inr ⟨_,_,_,_,_,rfl,hm',by lia,h2,by lia⟩⟩
          · rw [if_neg e2];exact wpS_pure ⟨rfl,_,_,_,_,_,rfl,hm',by lia,h2,by lia⟩
    case post1 =>
      rintro c st'' ⟨rfl,⟨r,bx,rfl,hr⟩|⟨out,ia,ib,ac,bc,rfl,hm,h1,h2,h3⟩⟩
      · exact wpS_pure ⟨hs,_,_,rfl,hr⟩
      dsimp only;refine wpS_bind (wpS_lift (wpAny_rule ⟨rfl,?_⟩));refine wpS_bind (wpS_mono (wpS_forRange (I:=fun y c st''=>SameS st st''∧∃ out ia ib mg ac bc,c=(none,out,ia,ib,mg,ac,bc)∧Mg lt a.toList b.toList out.toList ia ib∧ia+1 < a.size∧ib < b.size∧x+2+y≤ia+ib)
        (Q:=fun c st''=>SameS st st''∧((∃ r bx,c=(some r,bx)∧Res lt a.toList b.toList r.toList)∨∃ out ia ib mg ac bc,c=(none,out,ia,ib,mg,ac,bc)∧Mg lt a.toList b.toList out.toList ia ib∧ia+1 < a.size∧ib < b.size∧x+2≤ia+ib)) ?step2 ?fin2 ⟨hs,out,ia,ib,_,_,_,rfl,hm,h1,h2,by lia⟩) ?post2)
      case fin2 =>
        rintro c st2 ⟨hs2,out,ia,ib,mg,ac,bc,rfl,hm,h1,h2,h3⟩
        lia
      case post2 =>
        rintro c st2 ⟨hs2,⟨r,bx,rfl,hr⟩|⟨out,ia,ib,mg,ac,bc,rfl,hm,h1,h2,h3⟩⟩
        · exact wpS_pure ⟨hs2,_,_,rfl,hr⟩
        dsimp only;refine wpS_bind (wpS_modify (wpS_pure ⟨⟨hs2.arr,hs2.pend,hs2.kind,hs2.fail⟩,_,_,_,_,rfl,hm,h1,h2,by lia⟩))
      case step2 =>
        rintro y c st2 _ hy ⟨hs2,out,ia,ib,mg,ac,bc,rfl,hm,h1,h2,h3⟩;dsimp only;have hk2:kindOf st2=κ:=hs2.kind.trans hk;by_cases cm:mg > 1
        · rw [if_pos cm];obtain ⟨xb,exb,mxb⟩:=aE (a:=b) (i:=ib) (by lia);refine wpS_bind (wpS_modify (wpS_bind (ao exb (wpS_bind (aV O (B:=cS lt xb a ia) hk2 (pb _ mxb) pa (by lia) (by lia) (fun i x hi hx=>by unfold cS;rw [hx];rfl) (fb O pa sa (pb _ mxb) (by lia)) fun k bk=>?_)))));dsimp only;have hle:=bk.le;have hA0:∀ i x,i < k→a.toList[ia+i]?=some x→∀ y∈b.toList.drop ib,Le lt x y:=fun i x hi hx=>by
            have hx':a[ia+i]?=some x:=by simpa using hx
            have hb:=bk.lo i hi;unfold cS at hb;rw [hx'] at hb;have hb:lt xb x=false:=by simpa using hb
            exact bP O sb pb (pa x (aan hx)) (ak exb) hb
          have hmA0:=hm.appA sa k (by lia) hA0;have hKB0:∀ y∈a.toList.drop (ia+k),Le lt xb y:=by
            by_cases c:ia+k < a.size
            · obtain ⟨x3,ex3,mx3⟩:=aE (a:=a) (i:=ia+k) c;have hb:=bk.hi k (aad _) (by lia);unfold cS at hb;rw [ex3] at hb;have hb:lt xb x3=true:=by simpa using hb
              exact bP O sa pa (pb _ mxb) (ak ex3) (O.asym (pb _ mxb) (pa _ mx3) hb)
            · rw [aa8 (by lia)];intro y hy;cases hy
          by_cases ck:k > 0
          · rw [if_pos ck];have hmA:Mg lt a.toList b.toList (out++a.extract ia (ia+k)).toList (ia+k) ib:=by
              rw [aau,jq];exact hmA0
            by_cases e5:(ia+k+1 == a.size)=true
            · rw [if_pos e5];exact wpS_pure ⟨⟨hs2.arr,hs2.pend,hs2.kind,hs2.fail⟩,.inl ⟨_,_,rfl,lastA hmA (by simpa using e5)⟩⟩
            rw [if_neg e5];have e5:ia+k+1≠a.size:=by simpa using e5
            by_cases e6:(ia+k == a.size)=true
            · rw [if_pos e6];exact wpS_pure ⟨⟨hs2.arr,hs2.pend,hs2.kind,hs2.fail⟩,.inl ⟨_,_,rfl,doneA hmA (by simpa using e6)⟩⟩
            rw [if_neg e6];have e6:ia+k≠a.size:=by simpa using e6
            have hKB:=hKB0;refine wpS_bind (ao exb ?_);have hmA2:Mg lt a.toList b.toList ((out++a.extract ia (ia+k)).push xb).toList (ia+k) (ib+1):=by
              rw [aat];exact hmA.pushB sb (ak exb) hKB
            by_cases e1:(ib+1 == b.size)=true
            · rw [if_pos e1];exact wpS_pure ⟨⟨hs2.arr,hs2.pend,hs2.kind,hs2.fail⟩,.inl ⟨_,_,rfl,doneB hmA2 (by simpa using e1)⟩⟩
            rw [if_neg e1];have e1:ib+1≠b.size:=by simpa using e1
            obtain ⟨xa2,exa2,mxa2⟩:=aE (a:=a) (i:=ia+k) (by lia);refine wpS_bind (ao exa2 (wpS_bind (aV O (B:=below lt xa2 b (ib+1)) hk2 (pa _ mxa2) pb (by lia) (by lia) (fun i x hi hx=>by unfold below;rw [hx];rfl) (cb O pb sb (pa _ mxa2) (by lia)) fun k2 bk2=>?_)));dsimp only;have hle2:=bk2.le;have hA2:∀ i x,i < k2→b.toList[ib+1+i]?=some x→∀ y∈a.toList.drop (ia+k),Le lt x y:=fun i x hi hx=>by
              have hx':b[ib+1+i]?=some x:=by simpa using hx
              have hb:=bk2.lo i hi;unfold below at hb;rw [hx'] at hb;have px:=pb x (aan hx);exact bP O sa pa px (ak exa2) (O.asym px (pa _ mxa2) hb)
            have hmB0:=hmA2.appB sb k2 (by lia) hA2;have hKA:∀ y∈b.toList.drop (ib+1+k2),Le lt xa2 y:=by
              by_cases c:ib+1+k2 < b.size
              · obtain ⟨x3,ex3,mx3⟩:=aE (a:=b) (i:=ib+1+k2) c;have hb:=bk2.hi k2 (aad _) (by lia);unfold below at hb;rw [ex3] at hb;exact bP O sb pb (pa _ mxa2) (ak ex3) hb
              · rw [aa8 (by lia)];intro y hy;cases hy
            by_cases ck2:k2 > 0
            · rw [if_pos ck2];have hmB:Mg lt a.toList b.toList ((out++a.extract ia (ia+k)).push xb++b.extract (ib+1) (ib+1+k2)).toList (ia+k) (ib+1+k2):=by
                rw [aau,jq];exact hmB0
              by_cases e2:(ib+1+k2 == b.size)=true
              · rw [if_pos e2];exact wpS_pure ⟨⟨hs2.arr,hs2.pend,hs2.kind,hs2.fail⟩,.inl ⟨_,_,rfl,doneB hmB (by simpa using e2)⟩⟩
              rw [if_neg e2];have e2:ib+1+k2≠b.size:=by simpa using e2
              refine wpS_bind (ao exa2 ?_);have hmC:Mg lt a.toList b.toList (((out++a.extract ia (ia+k)).push xb++b.extract (ib+1) (ib+1+k2)).push xa2).toList (ia+k+1) (ib+1+k2):=by
                rw [aat];exact hmB.pushA sa (ak exa2) hKA
              by_cases e3:(ia+k+1+1 == a.size)=true
              · rw [if_pos e3];exact wpS_pure ⟨⟨hs2.arr,hs2.pend,hs2.kind,hs2.fail⟩,.inl ⟨_,_,rfl,lastA hmC (by simpa using e3)⟩⟩
              · rw [if_neg e3];have e3:ia+k+1+1≠a.size:=by simpa using e3
                by_cases e4:(decide (k < 7) && decide (k2 < 7))=true
                · rw [if_pos e4];exact wpS_pure ⟨⟨hs2.arr,hs2.pend,hs2.kind,hs2.fail⟩,.inr ⟨_,_,_,_,_,_,rfl,hmC,by lia,by lia,by lia⟩⟩
                · rw [if_neg e4];exact wpS_pure ⟨⟨hs2.arr,hs2.pend,hs2.kind,hs2.fail⟩,_,_,_,_,_,_,rfl,hmC,by lia,by lia,by lia⟩
            · rw [if_neg ck2];obtain rfl:k2=0:=by lia
              have hmB:Mg lt a.toList b.toList ((out++a.extract ia (ia+k)).push xb).toList (ia+k) (ib+1):=hmA2;have hKA:∀ y∈b.toList.drop (ib+1),Le lt xa2 y:=hKA;refine wpS_bind (ao exa2 ?_);have hmC:Mg lt a.toList b.toList (((out++a.extract ia (ia+k)).push xb).push xa2).toList (ia+k+1) (ib+1):=by
                rw [aat];exact hmB.pushA sa (ak exa2) hKA
              by_cases e3:(ia+k+1+1 == a.size)=true
              · rw [if_pos e3];exact wpS_pure ⟨⟨hs2.arr,hs2.pend,hs2.kind,hs2.fail⟩,.inl ⟨_,_,rfl,lastA hmC (by simpa using e3)⟩⟩
              · rw [if_neg e3];have e3:ia+k+1+1≠a.size:=by simpa using e3
                by_cases e4:(decide (k < 7) && decide (0 < 7))=true
                · rw [if_pos e4];exact wpS_pure ⟨⟨hs2.arr,hs2.pend,hs2.kind,hs2.fail⟩,.inr ⟨_,_,_,_,_,_,rfl,hmC,by lia,by lia,by lia⟩⟩
                · rw [if_neg e4];exact wpS_pure ⟨⟨hs2.arr,hs2.pend,hs2.kind,hs2.fail⟩,_,_,_,_,_,_,rfl,hmC,by lia,by lia,by lia⟩
          · rw [if_neg ck];obtain rfl:k=0:=by lia
            have hmA:Mg lt a.toList b.toList out.toList ia ib:=hm;have hKB:∀ y∈a.toList.drop ia,Le lt xb y:=hKB0;refine wpS_bind (ao exb ?_);have hmA2:Mg lt a.toList b.toList ((out).push xb).toList (ia) (ib+1):=by
              rw [aat];exact hmA.pushB sb (ak exb) hKB
            by_cases e1:(ib+1 == b.size)=true
            · rw [if_pos e1];exact wpS_pure ⟨⟨hs2.arr,hs2.pend,hs2.kind,hs2.fail⟩,.inl ⟨_,_,rfl,doneB hmA2 (by simpa using e1)⟩⟩
            rw [if_neg e1];have e1:ib+1≠b.size:=by simpa using e1
            obtain ⟨xa2,exa2,mxa2⟩:=aE (a:=a) (i:=ia) (by lia);refine wpS_bind (ao exa2 (wpS_bind (aV O (B:=below lt xa2 b (ib+1)) hk2 (pa _ mxa2) pb (by lia) (by lia) (fun i x hi hx=>by unfold below;rw [hx];rfl) (cb O pb sb (pa _ mxa2) (by lia)) fun k2 bk2=>?_)));dsimp only;have hle2:=bk2.le;have hA2:∀ i x,i < k2→b.toList[ib+1+i]?=some x→∀ y∈a.toList.drop (ia),Le lt x y:=fun i x hi hx=>by
              have hx':b[ib+1+i]?=some x:=by simpa using hx
              have hb:=bk2.lo i hi;unfold below at hb;rw [hx'] at hb;have px:=pb x (aan hx);exact bP O sa pa px (ak exa2) (O.asym px (pa _ mxa2) hb)
            have hmB0:=hmA2.appB sb k2 (by lia) hA2;have hKA:∀ y∈b.toList.drop (ib+1+k2),Le lt xa2 y:=by
              by_cases c:ib+1+k2 < b.size
              · obtain ⟨x3,ex3,mx3⟩:=aE (a:=b) (i:=ib+1+k2) c;have hb:=bk2.hi k2 (aad _) (by lia);unfold below at hb;rw [ex3] at hb;exact bP O sb pb (pa _ mxa2) (ak ex3) hb
              · rw [aa8 (by lia)];intro y hy;cases hy
            by_cases ck2:k2 > 0
            · rw [if_pos ck2];have hmB:Mg lt a.toList b.toList ((out).push xb++b.extract (ib+1) (ib+1+k2)).toList (ia) (ib+1+k2):=by
                rw [aau,jq];exact hmB0
              by_cases e2:(ib+1+k2 == b.size)=true
              · rw [if_pos e2];exact wpS_pure ⟨⟨hs2.arr,hs2.pend,hs2.kind,hs2.fail⟩,.inl ⟨_,_,rfl,doneB hmB (by simpa using e2)⟩⟩
              rw [if_neg e2];have e2:ib+1+k2≠b.size:=by simpa using e2
              refine wpS_bind (ao exa2 ?_);have hmC:Mg lt a.toList b.toList (((out).push xb++b.extract (ib+1) (ib+1+k2)).push xa2).toList (ia+1) (ib+1+k2):=by
                rw [aat];exact hmB.pushA sa (ak exa2) hKA
              by_cases e3:(ia+1+1 == a.size)=true
              · rw [if_pos e3];exact wpS_pure ⟨⟨hs2.arr,hs2.pend,hs2.kind,hs2.fail⟩,.inl ⟨_,_,rfl,lastA hmC (by simpa using e3)⟩⟩
              · rw [if_neg e3];have e3:ia+1+1≠a.size:=by simpa using e3
                by_cases e4:(decide (0 < 7) && decide (k2 < 7))=true
                · rw [if_pos e4];exact wpS_pure ⟨⟨hs2.arr,hs2.pend,hs2.kind,hs2.fail⟩,.inr ⟨_,_,_,_,_,_,rfl,hmC,by lia,by lia,by lia⟩⟩
                · rw [if_neg e4];exact wpS_pure ⟨⟨hs2.arr,hs2.pend,hs2.kind,hs2.fail⟩,_,_,_,_,_,_,rfl,hmC,by lia,by lia,by lia⟩
            · rw [if_neg ck2];obtain rfl:k2=0:=by lia
              have hmB:Mg lt a.toList b.toList ((out).push xb).toList (ia) (ib+1):=hmA2;have hKA:∀ y∈b.toList.drop (ib+1),Le lt xa2 y:=hKA;refine wpS_bind (ao exa2 ?_);have hmC:Mg lt a.toList b.toList (((out).push xb).push xa2).toList (ia+1) (ib+1):=by
                rw [aat];exact hmB.pushA sa (ak exa2) hKA
              by_cases e3:(ia+1+1 == a.size)=true
              · rw [if_pos e3];exact wpS_pure ⟨⟨hs2.arr,hs2.pend,hs2.kind,hs2.fail⟩,.inl ⟨_,_,rfl,lastA hmC (by simpa using e3)⟩⟩
              · rw [if_neg e3];have e3:ia+1+1≠a.size:=by simpa using e3
                by_cases e4:(decide (0 < 7) && decide (0 < 7))=true
                · rw [if_pos e4];exact wpS_pure ⟨⟨hs2.arr,hs2.pend,hs2.kind,hs2.fail⟩,.inr ⟨_,_,_,_,_,_,rfl,hmC,by lia,by lia,by lia⟩⟩
                · rw [if_neg e4];exact wpS_pure ⟨⟨hs2.arr,hs2.pend,hs2.kind,hs2.fail⟩,_,_,_,_,_,_,rfl,hmC,by lia,by lia,by lia⟩
        · rw [if_neg cm];obtain ⟨xb,exb,mxb⟩:=aE (a:=b) (i:=ib) (by lia);refine wpS_bind (wpS_modify (wpS_bind (ao exb (wpS_bind (aV O (B:=cS lt xb a ia) hk2 (pb _ mxb) pa (by lia) (by lia) (fun i x hi hx=>by unfold cS;rw [hx];rfl) (fb O pa sa (pb _ mxb) (by lia)) fun k bk=>?_)))));dsimp only;have hle:=bk.le;have hA0:∀ i x,i < k→a.toList[ia+i]?=some x→∀ y∈b.toList.drop ib,Le lt x y:=fun i x hi hx=>by
            have hx':a[ia+i]?=some x:=by simpa using hx
            have hb:=bk.lo i hi;unfold cS at hb;rw [hx'] at hb;have hb:lt xb x=false:=by simpa using hb
            exact bP O sb pb (pa x (aan hx)) (ak exb) hb
          have hmA0:=hm.appA sa k (by lia) hA0;have hKB0:∀ y∈a.toList.drop (ia+k),Le lt xb y:=by
            by_cases c:ia+k < a.size
            · obtain ⟨x3,ex3,mx3⟩:=aE (a:=a) (i:=ia+k) c;have hb:=bk.hi k (aad _) (by lia);unfold cS at hb;rw [ex3] at hb;have hb:lt xb x3=true:=by simpa using hb
              exact bP O sa pa (pb _ mxb) (ak ex3) (O.asym (pb _ mxb) (pa _ mx3) hb)
            · rw [aa8 (by lia)];intro y hy;cases hy
          by_cases ck:k > 0
          · rw [if_pos ck];have hmA:Mg lt a.toList b.toList (out++a.extract ia (ia+k)).toList (ia+k) ib:=by
              rw [aau,jq];exact hmA0
            by_cases e5:(ia+k+1 == a.size)=true
            · rw [if_pos e5];exact wpS_pure ⟨⟨hs2.arr,hs2.pend,hs2.kind,hs2.fail⟩,.inl ⟨_,_,rfl,lastA hmA (by simpa using e5)⟩⟩
            rw [if_neg e5];have e5:ia+k+1≠a.size:=by simpa using e5
            by_cases e6:(ia+k == a.size)=true
            · rw [if_pos e6];exact wpS_pure ⟨⟨hs2.arr,hs2.pend,hs2.kind,hs2.fail⟩,.inl ⟨_,_,rfl,doneA hmA (by simpa using e6)⟩⟩
            rw [if_neg e6];have e6:ia+k≠a.size:=by simpa using e6
            have hKB:=hKB0;refine wpS_bind (ao exb ?_);have hmA2:Mg lt a.toList b.toList ((out++a.extract ia (ia+k)).push xb).toList (ia+k) (ib+1):=by
              rw [aat];exact hmA.pushB sb (ak exb) hKB
            by_cases e1:(ib+1 == b.size)=true
            · rw [if_pos e1];exact wpS_pure ⟨⟨hs2.arr,hs2.pend,hs2.kind,hs2.fail⟩,.inl ⟨_,_,rfl,doneB hmA2 (by simpa using e1)⟩⟩
            rw [if_neg e1];have e1:ib+1≠b.size:=by simpa using e1
            obtain ⟨xa2,exa2,mxa2⟩:=aE (a:=a) (i:=ia+k) (by lia);refine wpS_bind (ao exa2 (wpS_bind (aV O (B:=below lt xa2 b (ib+1)) hk2 (pa _ mxa2) pb (by lia) (by lia) (fun i x hi hx=>by unfold below;rw [hx];rfl) (cb O pb sb (pa _ mxa2) (by lia)) fun k2 bk2=>?_)));dsimp only;have hle2:=bk2.le;have hA2:∀ i x,i < k2→b.toList[ib+1+i]?=some x→∀ y∈a.toList.drop (ia+k),Le lt x y:=fun i x hi hx=>by
              have hx':b[ib+1+i]?=some x:=by simpa using hx
              have hb:=bk2.lo i hi;unfold below at hb;rw [hx'] at hb;have px:=pb x (aan hx);exact bP O sa pa px (ak exa2) (O.asym px (pa _ mxa2) hb)
            have hmB0:=hmA2.appB sb k2 (by lia) hA2;have hKA:∀ y∈b.toList.drop (ib+1+k2),Le lt xa2 y:=by
              by_cases c:ib+1+k2 < b.size
              · obtain ⟨x3,ex3,mx3⟩:=aE (a:=b) (i:=ib+1+k2) c;have hb:=bk2.hi k2 (aad _) (by lia);unfold below at hb;rw [ex3] at hb;exact bP O sb pb (pa _ mxa2) (ak ex3) hb
              · rw [aa8 (by lia)];intro y hy;cases hy
            by_cases ck2:k2 > 0
            · rw [if_pos ck2];have hmB:Mg lt a.toList b.toList ((out++a.extract ia (ia+k)).push xb++b.extract (ib+1) (ib+1+k2)).toList (ia+k) (ib+1+k2):=by
                rw [aau,jq];exact hmB0
              by_cases e2:(ib+1+k2 == b.size)=true
              · rw [if_pos e2];exact wpS_pure ⟨⟨hs2.arr,hs2.pend,hs2.kind,hs2.fail⟩,.inl ⟨_,_,rfl,doneB hmB (by simpa using e2)⟩⟩
              rw [if_neg e2];have e2:ib+1+k2≠b.size:=by simpa using e2
              refine wpS_bind (ao exa2 ?_);have hmC:Mg lt a.toList b.toList (((out++a.extract ia (ia+k)).push xb++b.extract (ib+1) (ib+1+k2)).push xa2).toList (ia+k+1) (ib+1+k2):=by
                rw [aat];exact hmB.pushA sa (ak exa2) hKA
              by_cases e3:(ia+k+1+1 == a.size)=true
              · rw [if_pos e3];exact wpS_pure ⟨⟨hs2.arr,hs2.pend,hs2.kind,hs2.fail⟩,.inl ⟨_,_,rfl,lastA hmC (by simpa using e3)⟩⟩
              · rw [if_neg e3];have e3:ia+k+1+1≠a.size:=by simpa using e3
                by_cases e4:(decide (k < 7) && decide (k2 < 7))=true
                · rw [if_pos e4];exact wpS_pure ⟨⟨hs2.arr,hs2.pend,hs2.kind,hs2.fail⟩,.inr ⟨_,_,_,_,_,_,rfl,hmC,by lia,by lia,by lia⟩⟩
                · rw [if_neg e4];exact wpS_pure ⟨⟨hs2.arr,hs2.pend,hs2.kind,hs2.fail⟩,_,_,_,_,_,_,rfl,hmC,by lia,by lia,by lia⟩
            · rw [if_neg ck2];obtain rfl:k2=0:=by lia
              have hmB:Mg lt a.toList b.toList ((out++a.extract ia (ia+k)).push xb).toList (ia+k) (ib+1):=hmA2;have hKA:∀ y∈b.toList.drop (ib+1),Le lt xa2 y:=hKA;refine wpS_bind (ao exa2 ?_);have hmC:Mg lt a.toList b.toList (((out++a.extract ia (ia+k)).push xb).push xa2).toList (ia+k+1) (ib+1):=by
                rw [aat];exact hmB.pushA sa (ak exa2) hKA
              by_cases e3:(ia+k+1+1 == a.size)=true
              · rw [if_pos e3];exact wpS_pure ⟨⟨hs2.arr,hs2.pend,hs2.kind,hs2.fail⟩,.inl ⟨_,_,rfl,lastA hmC (by simpa using e3)⟩⟩
              · rw [if_neg e3];have e3:ia+k+1+1≠a.size:=by simpa using e3
                by_cases e4:(decide (k < 7) && decide (0 < 7))=true
                · rw [if_pos e4];exact wpS_pure ⟨⟨hs2.arr,hs2.pend,hs2.kind,hs2.fail⟩,.inr ⟨_,_,_,_,_,_,rfl,hmC,by lia,by lia,by lia⟩⟩
                · rw [if_neg e4];exact wpS_pure ⟨⟨hs2.arr,hs2.pend,hs2.kind,hs2.fail⟩,_,_,_,_,_,_,rfl,hmC,by lia,by lia,by lia⟩
          · rw [if_neg ck];obtain rfl:k=0:=by lia
            have hmA:Mg lt a.toList b.toList out.toList ia ib:=hm;have hKB:∀ y∈a.toList.drop ia,Le lt xb y:=hKB0;refine wpS_bind (ao exb ?_);have hmA2:Mg lt a.toList b.toList ((out).push xb).toList (ia) (ib+1):=by
              rw [aat];exact hmA.pushB sb (ak exb) hKB
            by_cases e1:(ib+1 == b.size)=true
            · rw [if_pos e1];exact wpS_pure ⟨⟨hs2.arr,hs2.pend,hs2.kind,hs2.fail⟩,.inl ⟨_,_,rfl,doneB hmA2 (by simpa using e1)⟩⟩
            rw [if_neg e1];have e1:ib+1≠b.size:=by simpa using e1
            obtain ⟨xa2,exa2,mxa2⟩:=aE (a:=a) (i:=ia) (by lia);refine wpS_bind (ao exa2 (wpS_bind (aV O (B:=below lt xa2 b (ib+1)) hk2 (pa _ mxa2) pb (by lia) (by lia) (fun i x hi hx=>by unfold below;rw [hx];rfl) (cb O pb sb (pa _ mxa2) (by lia)) fun k2 bk2=>?_)));dsimp only;have hle2:=bk2.le;have hA2:∀ i x,i < k2→b.toList[ib+1+i]?=some x→∀ y∈a.toList.drop (ia),Le lt x y:=fun i x hi hx=>by
              have hx':b[ib+1+i]?=some x:=by simpa using hx
              have hb:=bk2.lo i hi;unfold below at hb;rw [hx'] at hb;have px:=pb x (aan hx);exact bP O sa pa px (ak exa2) (O.asym px (pa _ mxa2) hb)
            have hmB0:=hmA2.appB sb k2 (by lia) hA2;have hKA:∀ y∈b.toList.drop (ib+1+k2),Le lt xa2 y:=by
              by_cases c:ib+1+k2 < b.size
              · obtain ⟨x3,ex3,mx3⟩:=aE (a:=b) (i:=ib+1+k2) c;have hb:=bk2.hi k2 (aad _) (by lia);unfold below at hb;rw [ex3] at hb;exact bP O sb pb (pa _ mxa2) (ak ex3) hb
              · rw [aa8 (by lia)];intro y hy;cases hy
            by_cases ck2:k2 > 0
            · rw [if_pos ck2];have hmB:Mg lt a.toList b.toList ((out).push xb++b.extract (ib+1) (ib+1+k2)).toList (ia) (ib+1+k2):=by
                rw [aau,jq];exact hmB0
              by_cases e2:(ib+1+k2 == b.size)=true
              · rw [if_pos e2];exact wpS_pure ⟨⟨hs2.arr,hs2.pend,hs2.kind,hs2.fail⟩,.inl ⟨_,_,rfl,doneB hmB (by simpa using e2)⟩⟩
              rw [if_neg e2];have e2:ib+1+k2≠b.size:=by simpa using e2
              refine wpS_bind (ao exa2 ?_);have hmC:Mg lt a.toList b.toList (((out).push xb++b.extract (ib+1) (ib+1+k2)).push xa2).toList (ia+1) (ib+1+k2):=by
                rw [aat];exact hmB.pushA sa (ak exa2) hKA
              by_cases e3:(ia+1+1 == a.size)=true
              · rw [if_pos e3];exact wpS_pure ⟨⟨hs2.arr,hs2.pend,hs2.kind,hs2.fail⟩,.inl ⟨_,_,rfl,lastA hmC (by simpa using e3)⟩⟩
              · rw [if_neg e3];have e3:ia+1+1≠a.size:=by simpa using e3
                by_cases e4:(decide (0 < 7) && decide (k2 < 7))=true
                · rw [if_pos e4];exact wpS_pure ⟨⟨hs2.arr,hs2.pend,hs2.kind,hs2.fail⟩,.inr ⟨_,_,_,_,_,_,rfl,hmC,by lia,by lia,by lia⟩⟩
                · rw [if_neg e4];exact wpS_pure ⟨⟨hs2.arr,hs2.pend,hs2.kind,hs2.fail⟩,_,_,_,_,_,_,rfl,hmC,by lia,by lia,by lia⟩
            · rw [if_neg ck2];obtain rfl:k2=0:=by lia
              have hmB:Mg lt a.toList b.toList ((out).push xb).toList (ia) (ib+1):=hmA2;have hKA:∀ y∈b.toList.drop (ib+1),Le lt xa2 y:=hKA;refine wpS_bind (ao exa2 ?_);have hmC:Mg lt a.toList b.toList (((out).push xb).push xa2).toList (ia+1) (ib+1):=by
                rw [aat];exact hmB.pushA sa (ak exa2) hKA
              by_cases e3:(ia+1+1 == a.size)=true
              · rw [if_pos e3];exact wpS_pure ⟨⟨hs2.arr,hs2.pend,hs2.kind,hs2.fail⟩,.inl ⟨_,_,rfl,lastA hmC (by simpa using e3)⟩⟩
              · rw [if_neg e3];have e3:ia+1+1≠a.size:=by simpa using e3
                by_cases e4:(decide (0 < 7) && decide (0 < 7))=true
                · rw [if_pos e4];exact wpS_pure ⟨⟨hs2.arr,hs2.pend,hs2.kind,hs2.fail⟩,.inr ⟨_,_,_,_,_,_,rfl,hmC,by lia,by lia,by lia⟩⟩
                · rw [if_neg e4];exact wpS_pure ⟨⟨hs2.arr,hs2.pend,hs2.kind,hs2.fail⟩,_,_,_,_,_,_,rfl,hmC,by lia,by lia,by lia⟩
end
end Tim
namespace Tim
open PySem PyProof.Rows
structure Mh (lt:Keyed→Keyed→Bool) (a b out:List Keyed) (na nb:Nat):Prop where
  ha:na≤a.length
  hb:nb≤b.length
  perm:out.Perm (a.drop na++b.drop nb)
  srt:out.Pairwise fun x y=>Le lt y x
  le:∀ x∈out,∀ y,(y∈a.take na∨y∈b.take nb)→Le lt y x
section
variable {lt:Keyed→Keyed→Bool} {a b out:List Keyed} {na nb:Nat}
theorem Mh.swap (h:Mh lt a b out na nb):Mh lt b a out nb na:=⟨h.hb,h.ha,h.perm.trans abp,h.srt,fun x hx y hy=>h.le x hx y hy.symm⟩
theorem Mh.nil:Mh lt a b [] a.length b.length:=⟨aad _,aad _,by simp,.nil,fun x hx=>by cases hx⟩
theorem o0 (ha:a.Pairwise (Le lt)) {i:Nat} {x:Keyed} (hx:a[i]?=some x):∀ y∈a.take i,Le lt y x:=by
  obtain ⟨hi,e⟩:=aai.mp hx;intro y hy;obtain ⟨k,hk,ek⟩:=abz hy;rw [List.getElem_take] at ek;rw [← e,← ek];rw [aaV] at hk;exact abk.mp ha k i (by lia) hi (by lia)
theorem Mh.pushA (h:Mh lt a b out (na+1) nb) (sa:a.Pairwise (Le lt)) {x:Keyed} (hx:a[na]?=some x) (hl:∀ y∈b.take nb,Le lt y x):Mh lt a b (out++[x]) na nb:=by
  obtain ⟨hi,e⟩:=aai.mp hx;have hd:a.drop na=x :: a.drop (na+1):=by rw [aa5 hi,e]
  have ht:a.take (na+1)=a.take na++[x]:=by rw [aaJ,hx];rfl
  refine ⟨by lia,h.hb,?_,?_,?_⟩
  · rw [hd];show (out++[x]).Perm (x :: (a.drop (na+1)++b.drop nb));exact (h.perm.append_right [x]).trans (abp (l₂:=[x]))
  · rw [abr];refine ⟨h.srt,by simp,fun o ho y hy=>?_⟩;rw [aar.mp hy];exact h.le o ho x (.inl (by rw [ht];simp))
  · intro o ho y hy;rcases aao.mp ho with ho|ho
    · rcases hy with hy|hy
      · exact h.le o ho y (.inl (by rw [ht];exact aaC _ hy))
      · exact h.le o ho y (.inr hy)
    · rw [aar.mp ho];rcases hy with hy|hy
      · exact o0 sa hx y hy
      · exact hl y hy
theorem Mh.pushB (h:Mh lt a b out na (nb+1)) (sb:b.Pairwise (Le lt)) {x:Keyed} (hx:b[nb]?=some x) (hl:∀ y∈a.take na,Le lt y x):Mh lt a b (out++[x]) na nb:=(h.swap.pushA sb hx hl).swap
theorem Mh.appA (sa:a.Pairwise (Le lt)):∀ (k at_:Nat) {out:List Keyed},Mh lt a b out (at_+k) nb→(∀ i x,at_≤i→i < at_+k→a[i]?=some x→∀ y∈b.take nb,Le lt y x)→Mh lt a b (out++((a.drop at_).take k).reverse) at_ nb
  | 0,at_,out,h,_=>by simpa using h
  | k+1,at_,out,h,hl=>by
    have hi:at_+k < a.length:=by have:=h.ha;lia
    have hx:a[at_+k]?=some a[at_+k]:=aaf hi;have h1:=h.pushA (na:=at_+k) sa hx (hl _ _ (by lia) (by lia) hx);have h2:=Mh.appA sa k at_ h1 fun i x h1 h2=>hl i x h1 (by lia);have e:(a.drop at_).take (k+1)=(a.drop at_).take k++[a[at_+k]]:=by
      rw [aaJ,acq,hx];rfl
    rw [e,List.reverse_append];rw [aaB] at h2;exact h2
theorem Mh.appB (sb:b.Pairwise (Le lt)) (k at_:Nat) (h:Mh lt a b out na (at_+k)) (hl:∀ i x,at_≤i→i < at_+k→b[i]?=some x→∀ y∈a.take na,Le lt y x):Mh lt a b (out++((b.drop at_).take k).reverse) na at_:=(Mh.appA sb k at_ h.swap hl).swap
theorem Mh.fin (h:Mh lt a b out na nb) {X:List Keyed} (hp:X.Perm (a.take na++b.take nb)) (hs:X.Pairwise (Le lt)):Res lt a b (X++out.reverse):=by
  refine ⟨?_,?_⟩
  · refine (hp.append ((List.reverse_perm out).trans h.perm)).trans ?_;have e:(a++b).Perm (a.take na++a.drop na++(b.take nb++b.drop nb)):=by rw [aa2,aa2]
    refine List.Perm.trans ?_ e.symm;rw [aaB,aaB];refine ab7 _ ?_;rw [← aaB,← aaB];exact ab4 _ abp
  · rw [abr];refine ⟨hs,List.pairwise_reverse.mpr h.srt,fun x hx y hy=>h.le y (List.mem_reverse.mp hy) x ?_⟩;exact aao.mp (hp.mem_iff.mp hx)
theorem g_ (sa:a.Pairwise (Le lt)) (i:Nat):(a.take i).Pairwise (Le lt):=sa.sublist (List.take_sublist i a)
theorem nB (a:Array Keyed) (i:Nat):(a.extract 0 i).toList=a.toList.take i:=by
  rw [abR,abA,List.drop_zero,Nat.sub_zero]
theorem dW (a:Array Keyed) (i j:Nat) (h:i≤j):((a.extract i j).reverse).toList=((a.toList.drop i).take (j - i)).reverse:=by
  rw [Array.toList_reverse,abR,abA]
end
section
variable {M:Model} {A:Around} {E:Value→Shared→Prop} {s:Shared} {κ:SortKind} {P:Keyed→Prop} {lt:Keyed→Keyed→Bool}
theorem bQ (O:Ord M A E s κ P lt) {a:List Keyed} (sa:a.Pairwise (Le lt)) (pa:∀ x∈a,P x) {x y0:Keyed} (px:P x) {i:Nat} (hy:a[i]?=some y0) (h:Le lt y0 x):∀ y∈a.take (i+1),Le lt y x:=by
  intro y hm;rw [aaJ,hy] at hm;rcases aao.mp hm with hm|hm
  · exact O.trans (pa _ (abF hm)) (pa _ (aan hy)) px (o0 sa hy y hm) h
  · have : y=y0:=by simpa using hm
    rw [this];exact h
theorem j0 (O:Ord M A E s κ P lt) {a b:Array Keyed} {st:SortSt} {Q:Array Keyed→SortSt→Prop} (hk:kindOf st=κ) (pa:∀ x∈a.toList,P x) (pb:∀ x∈b.toList,P x) (sa:a.toList.Pairwise (Le lt)) (sb:b.toList.Pairwise (Le lt)) {b0 al:Keyed} (hb0:b[0]?=some b0) (hl0:∀ y∈a.toList,Le lt b0 y) (hal:a[a.size - 1]?=some al) (hll:∀ y∈b.toList,Le lt y al)
    (q:∀ r st',SameS st st'→Res lt a.toList b.toList r.toList→Q r st'):wpS M A E s (p8 a b) Q st:=by
  refine wpS_bind (wpS_lift (wpAny_rule ⟨rfl,?_⟩));refine wpS_bind (ao hal ?_);have lenA:a.toList.length=a.size:=aam;have lenB:b.toList.length=b.size:=aam;obtain ⟨hb1,_⟩:=aai.mp (ak hb0);obtain ⟨ha1,_⟩:=aai.mp (ak hal);have a1:1≤a.size:=by lia
  have m0:Mh lt a.toList b.toList (#[al]:Array Keyed).toList (a.size - 1) b.size:=by
    have h0:=Mh.nil (lt:=lt) (a:=a.toList) (b:=b.toList);rw [lenA,lenB,show a.size=a.size - 1+1 by lia] at h0;exact h0.pushA sa (ak hal) fun y hy=>hll y (abF hy)
  have done0:∀ {out:Array Keyed} {na nb:Nat},Mh lt a.toList b.toList out.toList na nb→(na=0∨nb=0)→Res lt a.toList b.toList (a.extract 0 na++b.extract 0 nb++out.reverse).toList:=fun {out na nb} h e=>by
    rw [aau,aau,nB,nB,Array.toList_reverse];refine h.fin (List.Perm.refl _) ?_;rcases e with e|e
    · rw [e,List.take_zero,abV];exact g_ sb nb
    · rw [e,List.take_zero,ab8];exact g_ sa na
  have firstB:∀ {out:Array Keyed} {na nb:Nat},Mh lt a.toList b.toList out.toList na nb→nb=1→Res lt a.toList b.toList (b.extract 0 nb++a.extract 0 na++out.reverse).toList:=fun {out na nb} h e=>by
    rw [aau,aau,nB,nB,Array.toList_reverse];refine h.fin abp ?_;have e1:b.toList.take nb=[b0]:=by
      rw [e,aaJ,ak hb0];rfl
    rw [e1,abr];refine ⟨by simp,g_ sa na,fun x hx y hy=>?_⟩;rw [aar.mp hx];exact hl0 y (abF hy)
  dsimp only;by_cases c1:(a.size - 1 == 0)=true
  · rw [if_pos c1];exact wpS_pure (q _ _ (SameS.refl _) (done0 m0 (.inl (by simpa using c1))))
  rw [if_neg c1];by_cases c2:(b.size == 1)=true
  · rw [if_pos c2];exact wpS_pure (q _ _ (SameS.refl _) (firstB m0 (by simpa using c2)))
  rw [if_neg c2];have c1:a.size - 1≠0:=by simpa using c1
  have c2:b.size≠1:=by simpa using c2
  refine wpS_bind (wpS_get ?_);refine wpS_bind (wpS_mono (wpS_forRange (I:=fun x c st'=>SameS st st'∧∃ na nb out mg,c=(none,na,nb,out,mg)∧Mh lt a.toList b.toList out.toList na nb∧0 < na∧1 < nb∧x+1+na+nb≤a.size+b.size)
    (Q:=fun c st'=>SameS st st'∧∃ r bx,c=(some r,bx)∧Res lt a.toList b.toList r.toList) ?step ?fin ⟨SameS.refl _,_,_,_,_,rfl,m0,by lia,by lia,by lia⟩) ?post)
  case post =>
    rintro c st' ⟨hs,r,bx,rfl,hr⟩;exact wpS_pure (q _ _ hs hr)
  case fin =>
    rintro c st' ⟨hs,na,nb,out,mg,rfl,hm,h1,h2,h3⟩
    lia
  case step =>
    rintro x c st' _ hx ⟨hs,na,nb,out,mg,rfl,hm,h1,h2,h3⟩;dsimp only;have hk':kindOf st'=κ:=hs.kind.trans hk;refine wpS_bind (wpS_mono (wpS_forRange (I:=fun y c st''=>st''=st'∧∃ na nb out ac bc,c=(none,na,nb,out,ac,bc)∧Mh lt a.toList b.toList out.toList na nb∧0 < na∧1 < nb∧x+1+y+na+nb≤a.size+b.size)
      (Q:=fun c st''=>st''=st'∧((∃ r bx,c=(some r,bx)∧Res lt a.toList b.toList r.toList)∨∃ na nb out ac bc,c=(none,na,nb,out,ac,bc)∧Mh lt a.toList b.toList out.toList na nb∧0 < na∧1 < nb∧x+2+na+nb≤a.size+b.size)) ?step1 ?fin1 ⟨rfl,na,nb,out,0,0,rfl,hm,h1,h2,by lia⟩) ?post1)
    case fin1 =>
      rintro c st'' ⟨rfl,na,nb,out,ac,bc,rfl,hm,h1,h2,h3⟩
      lia
    case step1 =>
      rintro y c st'' _ hy ⟨rfl,na,nb,out,ac,bc,rfl,hm,h1,h2,h3⟩;dsimp only;have la:=hm.ha;have lb:=hm.hb;obtain ⟨xa,exa,mxa⟩:=aE (a:=a) (i:=na - 1) (by lia);obtain ⟨xb,exb,mxb⟩:=aE (a:=b) (i:=nb - 1) (by lia);refine wpS_bind (ao exb (wpS_bind (ao exa (wpS_bind (O.ask (pb _ mxb) (pa _ mxa) hk' ?_)))));dsimp only;by_cases d:lt xb xa=true
      · rw [if_pos d];refine wpS_bind (ao exa ?_);have hm':Mh lt a.toList b.toList (out.push xa).toList (na - 1) nb:=by
          rw [aat];have hm2:Mh lt a.toList b.toList out.toList (na - 1+1) nb:=by rw [show na - 1+1=na by lia];exact hm
          refine hm2.pushA sa (ak exa) ?_;have:=bQ O sb pb (pa _ mxa) (ak exb) (O.asym (pb _ mxb) (pa _ mxa) d)
          rwa [show nb - 1+1=nb by lia] at this
        by_cases e1:(na - 1 == 0)=true
        · rw [if_pos e1];exact wpS_pure ⟨rfl,.inl ⟨_,_,rfl,done0 hm' (.inl (by simpa using e1))⟩⟩
        · rw [if_neg e1];have e1:na - 1≠0:=by simpa using e1
          by_cases e2:ac+1 ≥ mg
          · rw [if_pos e2];exact wpS_pure ⟨rfl,.inr ⟨_,_,_,_,_,rfl,hm',by lia,h2,by lia⟩⟩
          · rw [if_neg e2];exact wpS_pure ⟨rfl,_,_,_,_,_,rfl,hm',by lia,h2,by lia⟩
      · rw [if_neg d];have d:lt xb xa=false:=by simpa using d
        refine wpS_bind (ao exb ?_);have hm':Mh lt a.toList b.toList (out.push xb).toList na (nb - 1):=by
          rw [aat];have hm2:Mh lt a.toList b.toList out.toList na (nb - 1+1):=by rw [show nb - 1+1=nb by lia];exact hm
          refine hm2.pushB sb (ak exb) ?_;have:=bQ O sa pa (pb _ mxb) (ak exa) d
          rwa [show na - 1+1=na by lia] at this
        by_cases e1:(nb - 1 == 1)=true
        · rw [if_pos e1];exact wpS_pure ⟨rfl,.inl ⟨_,_,rfl,firstB hm' (by simpa using e1)⟩⟩
        · rw [if_neg e1];have e1:nb - 1≠1:=by simpa using e1
          by_cases e2:bc+1 ≥ mg
          · rw [if_pos e2];exact wpS_pure ⟨rfl,.inr ⟨_,_,_,_,_,rfl,hm',h1,by lia,by lia⟩⟩
          · rw [if_neg e2];exact wpS_pure ⟨rfl,_,_,_,_,_,rfl,hm',h1,by lia,by lia⟩
    case post1 =>
      rintro c st'' ⟨rfl,⟨r,bx,rfl,hr⟩|⟨na,nb,out,ac,bc,rfl,hm,h1,h2,h3⟩⟩
      · exact wpS_pure ⟨hs,_,_,rfl,hr⟩
      dsimp only;refine wpS_bind (wpS_lift (wpAny_rule ⟨rfl,?_⟩));refine wpS_bind (wpS_mono (wpS_forRange (I:=fun y c st''=>SameS st st''∧∃ na nb out mg ac bc,c=(none,na,nb,out,mg,ac,bc)∧Mh lt a.toList b.toList out.toList na nb∧0 < na∧1 < nb∧x+2+y+na+nb≤a.size+b.size)
        (Q:=fun c st''=>SameS st st''∧((∃ r bx,c=(some r,bx)∧Res lt a.toList b.toList r.toList)∨∃ na nb out mg ac bc,c=(none,na,nb,out,mg,ac,bc)∧Mh lt a.toList b.toList out.toList na nb∧0 < na∧1 < nb∧x+2+na+nb≤a.size+b.size)) ?step2 ?fin2 ⟨hs,na,nb,out,_,_,_,rfl,hm,h1,h2,by lia⟩) ?post2)
      case fin2 =>
        rintro c st2 ⟨hs2,na,nb,out,mg,ac,bc,rfl,hm,h1,h2,h3⟩
        lia
      case post2 =>
        rintro c st2 ⟨hs2,⟨r,bx,rfl,hr⟩|⟨na,nb,out,mg,ac,bc,rfl,hm,h1,h2,h3⟩⟩
        · exact wpS_pure ⟨hs2,_,_,rfl,hr⟩
        dsimp only;refine wpS_bind (wpS_modify (wpS_pure ⟨⟨hs2.arr,hs2.pend,hs2.kind,hs2.fail⟩,_,_,_,_,rfl,hm,h1,h2,by lia⟩))
      case step2 =>
        rintro y c st2 _ hy ⟨hs2,na,nb,out,mg,ac,bc,rfl,hm,h1,h2,h3⟩;dsimp only;have hk2:kindOf st2=κ:=hs2.kind.trans hk;have la:=hm.ha;have lb:=hm.hb;by_cases cm:mg > 1
        · rw [if_pos cm];obtain ⟨xb,exb,mxb⟩:=aE (a:=b) (i:=nb - 1) (by lia);refine wpS_bind (wpS_modify (wpS_bind (ao exb (wpS_bind (aV O (B:=cS lt xb a 0) hk2 (pb _ mxb) pa (by lia) (by lia) (fun i x hi hx=>by unfold cS;rw [hx];rfl) (fb O pa sa (pb _ mxb) (by lia)) fun p1 bk=>?_)))));dsimp only;have hle:=bk.le;have hA0:∀ i x,p1≤i→i < p1+(na - p1)→a.toList[i]?=some x→∀ y∈b.toList.take nb,Le lt y x:=fun i x h1 h2 hx=>by
            have hx':a[0+i]?=some x:=by rw [abD];simpa using hx
            have hb:=bk.hi i h1 (by lia);unfold cS at hb;rw [hx'] at hb;have hb:lt xb x=true:=by simpa using hb
            have px:=pa x (aan hx);have:=bQ O sb pb px (ak exb) (O.asym (pb _ mxb) px hb)
            rwa [show nb - 1+1=nb by lia] at this
          have hmA0:=Mh.appA sa (na - p1) p1 (by rw [show p1+(na - p1)=na by lia];exact hm) hA0;have hKB0:0 < p1→∀ y∈a.toList.take p1,Le lt y xb:=fun hp=>by
            obtain ⟨x3,ex3,mx3⟩:=aE (a:=a) (i:=p1 - 1) (by lia);have hb:=bk.lo (p1 - 1) (by lia);unfold cS at hb;rw [abD,ex3] at hb;have hb:lt xb x3=false:=by simpa using hb
            have:=bQ O sa pa (pb _ mxb) (ak ex3) hb
            rwa [show p1 - 1+1=p1 by lia] at this
          by_cases ck:na - p1 > 0
          · rw [if_pos ck];have hmA:Mh lt a.toList b.toList (out++(a.extract p1 na).reverse).toList p1 nb:=by
              rw [aau,dW _ _ _ (by lia)];exact hmA0
            by_cases e5:(p1 == 0)=true
            · rw [if_pos e5];exact wpS_pure ⟨⟨hs2.arr,hs2.pend,hs2.kind,hs2.fail⟩,.inl ⟨_,_,rfl,done0 hmA (.inl (by simpa using e5))⟩⟩
            rw [if_neg e5];have e5:p1≠0:=by simpa using e5
            have hKB:=hKB0 (by lia);refine wpS_bind (ao exb ?_);have hmA2:Mh lt a.toList b.toList ((out++(a.extract p1 na).reverse).push xb).toList (p1) (nb - 1):=by
              rw [aat];have hmA':Mh lt a.toList b.toList (out++(a.extract p1 na).reverse).toList (p1) (nb - 1+1):=by rw [show nb - 1+1=nb by lia];exact hmA
              exact hmA'.pushB sb (ak exb) hKB
            by_cases e1:(nb - 1 == 1)=true
            · rw [if_pos e1];exact wpS_pure ⟨⟨hs2.arr,hs2.pend,hs2.kind,hs2.fail⟩,.inl ⟨_,_,rfl,firstB hmA2 (by simpa using e1)⟩⟩
            rw [if_neg e1];have e1:nb - 1≠1:=by simpa using e1
            obtain ⟨xa2,exa2,mxa2⟩:=aE (a:=a) (i:=p1 - 1) (by lia);refine wpS_bind (ao exa2 (wpS_bind (aV O (B:=below lt xa2 b 0) hk2 (pa _ mxa2) pb (by lia) (by lia) (fun i x hi hx=>by unfold below;rw [hx];rfl) (cb O pb sb (pa _ mxa2) (by lia)) fun p2 bk2=>?_)));dsimp only;have hle2:=bk2.le;have hA2:∀ i x,p2≤i→i < p2+(nb - 1 - p2)→b.toList[i]?=some x→∀ y∈a.toList.take (p1),Le lt y x:=fun i x h1 h2 hx=>by
              have hx':b[0+i]?=some x:=by rw [abD];simpa using hx
              have hb:=bk2.hi i h1 (by lia);unfold below at hb;rw [hx'] at hb;have:=bQ O sa pa (pb x (aan hx)) (ak exa2) hb
              rwa [show p1 - 1+1=p1 by lia] at this
            have hmB0:=Mh.appB sb (nb - 1 - p2) p2 (by rw [show p2+(nb - 1 - p2)=nb - 1 by lia];exact hmA2) hA2;have hKA0:0 < p2→∀ y∈b.toList.take p2,Le lt y xa2:=fun hp=>by
              obtain ⟨x3,ex3,mx3⟩:=aE (a:=b) (i:=p2 - 1) (by lia);have hb:=bk2.lo (p2 - 1) (by lia);unfold below at hb;rw [abD,ex3] at hb;have:=bQ O sb pb (pa _ mxa2) (ak ex3) (O.asym (pb _ mx3) (pa _ mxa2) hb)
              rwa [show p2 - 1+1=p2 by lia] at this
            by_cases ck2:nb - 1 - p2 > 0
            · rw [if_pos ck2];have hmB:Mh lt a.toList b.toList ((out++(a.extract p1 na).reverse).push xb++(b.extract p2 (nb - 1)).reverse).toList (p1) p2:=by
                rw [aau,dW _ _ _ (by lia)];exact hmB0
              by_cases e2:(p2 == 1)=true
              · rw [if_pos e2];exact wpS_pure ⟨⟨hs2.arr,hs2.pend,hs2.kind,hs2.fail⟩,.inl ⟨_,_,rfl,firstB hmB (by simpa using e2)⟩⟩
              rw [if_neg e2];have e2:p2≠1:=by simpa using e2
              by_cases e7:(p2 == 0)=true
              · rw [if_pos e7];exact wpS_pure ⟨⟨hs2.arr,hs2.pend,hs2.kind,hs2.fail⟩,.inl ⟨_,_,rfl,done0 hmB (.inr (by simpa using e7))⟩⟩
              rw [if_neg e7];have e7:p2≠0:=by simpa using e7
              have hKA:=hKA0 (by lia);refine wpS_bind (ao exa2 ?_);have hmC:Mh lt a.toList b.toList (((out++(a.extract p1 na).reverse).push xb++(b.extract p2 (nb - 1)).reverse).push xa2).toList (p1 - 1) (p2):=by
                rw [aat];have hmB':Mh lt a.toList b.toList ((out++(a.extract p1 na).reverse).push xb++(b.extract p2 (nb - 1)).reverse).toList (p1 - 1+1) (p2):=by rw [show p1 - 1+1=p1 by lia];exact hmB
                exact hmB'.pushA sa (ak exa2) hKA
              by_cases e3:(p1 - 1 == 0)=true
              · rw [if_pos e3];exact wpS_pure ⟨⟨hs2.arr,hs2.pend,hs2.kind,hs2.fail⟩,.inl ⟨_,_,rfl,done0 hmC (.inl (by simpa using e3))⟩⟩
              · rw [if_neg e3];have e3:p1 - 1≠0:=by simpa using e3
                by_cases e4:(decide (na - p1 < 7) && decide (nb - 1 - p2 < 7))=true
                · rw [if_pos e4];exact wpS_pure ⟨⟨hs2.arr,hs2.pend,hs2.kind,hs2.fail⟩,.inr ⟨_,_,_,_,_,_,rfl,hmC,by lia,by lia,by lia⟩⟩
                · rw [if_neg e4];exact wpS_pure ⟨⟨hs2.arr,hs2.pend,hs2.kind,hs2.fail⟩,_,_,_,_,_,_,rfl,hmC,by lia,by lia,by lia⟩
            · rw [if_neg ck2];have ep:p2=nb - 1:=by lia
              have hmB:Mh lt a.toList b.toList ((out++(a.extract p1 na).reverse).push xb).toList (p1) (nb - 1):=hmA2;have hKA:∀ y∈b.toList.take (nb - 1),Le lt y xa2:=by rw [← ep];exact hKA0 (by lia)
              refine wpS_bind (ao exa2 ?_);have hmC:Mh lt a.toList b.toList (((out++(a.extract p1 na).reverse).push xb).push xa2).toList (p1 - 1) (nb - 1):=by
                rw [aat];have hmB':Mh lt a.toList b.toList ((out++(a.extract p1 na).reverse).push xb).toList (p1 - 1+1) (nb - 1):=by rw [show p1 - 1+1=p1 by lia];exact hmB
                exact hmB'.pushA sa (ak exa2) hKA
              by_cases e3:(p1 - 1 == 0)=true
              · rw [if_pos e3];exact wpS_pure ⟨⟨hs2.arr,hs2.pend,hs2.kind,hs2.fail⟩,.inl ⟨_,_,rfl,done0 hmC (.inl (by simpa using e3))⟩⟩
              · rw [if_neg e3];have e3:p1 - 1≠0:=by simpa using e3
                by_cases e4:(decide (na - p1 < 7) && decide (nb - 1 - p2 < 7))=true
                · rw [if_pos e4];exact wpS_pure ⟨⟨hs2.arr,hs2.pend,hs2.kind,hs2.fail⟩,.inr ⟨_,_,_,_,_,_,rfl,hmC,by lia,by lia,by lia⟩⟩
                · rw [if_neg e4];exact wpS_pure ⟨⟨hs2.arr,hs2.pend,hs2.kind,hs2.fail⟩,_,_,_,_,_,_,rfl,hmC,by lia,by lia,by lia⟩
          · rw [if_neg ck];have ep1:p1=na:=by lia
            have hmA:Mh lt a.toList b.toList out.toList na nb:=hm;have hKB:∀ y∈a.toList.take na,Le lt y xb:=by rw [← ep1];exact hKB0 (by lia)
            refine wpS_bind (ao exb ?_);have hmA2:Mh lt a.toList b.toList ((out).push xb).toList (na) (nb - 1):=by
              rw [aat];have hmA':Mh lt a.toList b.toList (out).toList (na) (nb - 1+1):=by rw [show nb - 1+1=nb by lia];exact hmA
              exact hmA'.pushB sb (ak exb) hKB
            by_cases e1:(nb - 1 == 1)=true
            · rw [if_pos e1];exact wpS_pure ⟨⟨hs2.arr,hs2.pend,hs2.kind,hs2.fail⟩,.inl ⟨_,_,rfl,firstB hmA2 (by simpa using e1)⟩⟩
            rw [if_neg e1];have e1:nb - 1≠1:=by simpa using e1
            obtain ⟨xa2,exa2,mxa2⟩:=aE (a:=a) (i:=na - 1) (by lia);refine wpS_bind (ao exa2 (wpS_bind (aV O (B:=below lt xa2 b 0) hk2 (pa _ mxa2) pb (by lia) (by lia) (fun i x hi hx=>by unfold below;rw [hx];rfl) (cb O pb sb (pa _ mxa2) (by lia)) fun p2 bk2=>?_)));dsimp only;have hle2:=bk2.le;have hA2:∀ i x,p2≤i→i < p2+(nb - 1 - p2)→b.toList[i]?=some x→∀ y∈a.toList.take (na),Le lt y x:=fun i x h1 h2 hx=>by
              have hx':b[0+i]?=some x:=by rw [abD];simpa using hx
              have hb:=bk2.hi i h1 (by lia);unfold below at hb;rw [hx'] at hb;have:=bQ O sa pa (pb x (aan hx)) (ak exa2) hb
              rwa [show na - 1+1=na by lia] at this
            have hmB0:=Mh.appB sb (nb - 1 - p2) p2 (by rw [show p2+(nb - 1 - p2)=nb - 1 by lia];exact hmA2) hA2;have hKA0:0 < p2→∀ y∈b.toList.take p2,Le lt y xa2:=fun hp=>by
              obtain ⟨x3,ex3,mx3⟩:=aE (a:=b) (i:=p2 - 1) (by lia);have hb:=bk2.lo (p2 - 1) (by lia);unfold below at hb;rw [abD,ex3] at hb;have:=bQ O sb pb (pa _ mxa2) (ak ex3) (O.asym (pb _ mx3) (pa _ mxa2) hb)
              rwa [show p2 - 1+1=p2 by lia] at this
            by_cases ck2:nb - 1 - p2 > 0
            · rw [if_pos ck2];have hmB:Mh lt a.toList b.toList ((out).push xb++(b.extract p2 (nb - 1)).reverse).toList (na) p2:=by
                rw [aau,dW _ _ _ (by lia)];exact hmB0
              by_cases e2:(p2 == 1)=true
              · rw [if_pos e2];exact wpS_pure ⟨⟨hs2.arr,hs2.pend,hs2.kind,hs2.fail⟩,.inl ⟨_,_,rfl,firstB hmB (by simpa using e2)⟩⟩
              rw [if_neg e2];have e2:p2≠1:=by simpa using e2
              by_cases e7:(p2 == 0)=true
              · rw [if_pos e7];exact wpS_pure ⟨⟨hs2.arr,hs2.pend,hs2.kind,hs2.fail⟩,.inl ⟨_,_,rfl,done0 hmB (.inr (by simpa using e7))⟩⟩
              rw [if_neg e7];have e7:p2≠0:=by simpa using e7
              have hKA:=hKA0 (by lia);refine wpS_bind (ao exa2 ?_);have hmC:Mh lt a.toList b.toList (((out).push xb++(b.extract p2 (nb - 1)).reverse).push xa2).toList (na - 1) (p2):=by
                rw [aat];have hmB':Mh lt a.toList b.toList ((out).push xb++(b.extract p2 (nb - 1)).reverse).toList (na - 1+1) (p2):=by rw [show na - 1+1=na by lia];exact hmB
                exact hmB'.pushA sa (ak exa2) hKA
              by_cases e3:(na - 1 == 0)=true
              · rw [if_pos e3];exact wpS_pure ⟨⟨hs2.arr,hs2.pend,hs2.kind,hs2.fail⟩,.inl ⟨_,_,rfl,done0 hmC (.inl (by simpa using e3))⟩⟩
              · rw [if_neg e3];have e3:na - 1≠0:=by simpa using e3
                by_cases e4:(decide (na - p1 < 7) && decide (nb - 1 - p2 < 7))=true
                · rw [if_pos e4];exact wpS_pure ⟨⟨hs2.arr,hs2.pend,hs2.kind,hs2.fail⟩,.inr ⟨_,_,_,_,_,_,rfl,hmC,by lia,by lia,by lia⟩⟩
                · rw [if_neg e4];exact wpS_pure ⟨⟨hs2.arr,hs2.pend,hs2.kind,hs2.fail⟩,_,_,_,_,_,_,rfl,hmC,by lia,by lia,by lia⟩
            · rw [if_neg ck2];have ep:p2=nb - 1:=by lia
              have hmB:Mh lt a.toList b.toList ((out).push xb).toList (na) (nb - 1):=hmA2;have hKA:∀ y∈b.toList.take (nb - 1),Le lt y xa2:=by rw [← ep];exact hKA0 (by lia)
              refine wpS_bind (ao exa2 ?_);have hmC:Mh lt a.toList b.toList (((out).push xb).push xa2).toList (na - 1) (nb - 1):=by
                rw [aat];have hmB':Mh lt a.toList b.toList ((out).push xb).toList (na - 1+1) (nb - 1):=by rw [show na - 1+1=na by lia];exact hmB
                exact hmB'.pushA sa (ak exa2) hKA
              by_cases e3:(na - 1 == 0)=true
              · rw [if_pos e3];exact wpS_pure ⟨⟨hs2.arr,hs2.pend,hs2.kind,hs2.fail⟩,.inl ⟨_,_,rfl,done0 hmC (.inl (by simpa using e3))⟩⟩
              · rw [if_neg e3];have e3:na - 1≠0:=by simpa using e3
                by_cases e4:(decide (na - p1 < 7) && decide (nb - 1 - p2 < 7))=true
                · rw [if_pos e4];exact wpS_pure ⟨⟨hs2.arr,hs2.pend,hs2.kind,hs2.fail⟩,.inr ⟨_,_,_,_,_,_,rfl,hmC,by lia,by lia,by lia⟩⟩
                · rw [if_neg e4];exact wpS_pure ⟨⟨hs2.arr,hs2.pend,hs2.kind,hs2.fail⟩,_,_,_,_,_,_,rfl,hmC,by lia,by lia,by lia⟩
        · rw [if_neg cm];obtain ⟨xb,exb,mxb⟩:=aE (a:=b) (i:=nb - 1) (by lia);refine wpS_bind (wpS_modify (wpS_bind (ao exb (wpS_bind (aV O (B:=cS lt xb a 0) hk2 (pb _ mxb) pa (by lia) (by lia) (fun i x hi hx=>by unfold cS;rw [hx];rfl) (fb O pa sa (pb _ mxb) (by lia)) fun p1 bk=>?_)))));dsimp only;have hle:=bk.le;have hA0:∀ i x,p1≤i→i < p1+(na - p1)→a.toList[i]?=some x→∀ y∈b.toList.take nb,Le lt y x:=fun i x h1 h2 hx=>by
            have hx':a[0+i]?=some x:=by rw [abD];simpa using hx
            have hb:=bk.hi i h1 (by lia);unfold cS at hb;rw [hx'] at hb;have hb:lt xb x=true:=by simpa using hb
            have px:=pa x (aan hx);have:=bQ O sb pb px (ak exb) (O.asym (pb _ mxb) px hb)
            rwa [show nb - 1+1=nb by lia] at this
          have hmA0:=Mh.appA sa (na - p1) p1 (by rw [show p1+(na - p1)=na by lia];exact hm) hA0;have hKB0:0 < p1→∀ y∈a.toList.take p1,Le lt y xb:=fun hp=>by
            obtain ⟨x3,ex3,mx3⟩:=aE (a:=a) (i:=p1 - 1) (by lia);have hb:=bk.lo (p1 - 1) (by lia);unfold cS at hb;rw [abD,ex3] at hb;have hb:lt xb x3=false:=by simpa using hb
            have:=bQ O sa pa (pb _ mxb) (ak ex3) hb
            rwa [show p1 - 1+1=p1 by lia] at this
          by_cases ck:na - p1 > 0
          · rw [if_pos ck];have hmA:Mh lt a.toList b.toList (out++(a.extract p1 na).reverse).toList p1 nb:=by
              rw [aau,dW _ _ _ (by lia)];exact hmA0
            by_cases e5:(p1 == 0)=true
            · rw [if_pos e5];exact wpS_pure ⟨⟨hs2.arr,hs2.pend,hs2.kind,hs2.fail⟩,.inl ⟨_,_,rfl,done0 hmA (.inl (by simpa using e5))⟩⟩
            rw [if_neg e5];have e5:p1≠0:=by simpa using e5
            have hKB:=hKB0 (by lia);refine wpS_bind (ao exb ?_);have hmA2:Mh lt a.toList b.toList ((out++(a.extract p1 na).reverse).push xb).toList (p1) (nb - 1):=by
              rw [aat];have hmA':Mh lt a.toList b.toList (out++(a.extract p1 na).reverse).toList (p1) (nb - 1+1):=by rw [show nb - 1+1=nb by lia];exact hmA
              exact hmA'.pushB sb (ak exb) hKB
            by_cases e1:(nb - 1 == 1)=true
            · rw [if_pos e1];exact wpS_pure ⟨⟨hs2.arr,hs2.pend,hs2.kind,hs2.fail⟩,.inl ⟨_,_,rfl,firstB hmA2 (by simpa using e1)⟩⟩
            rw [if_neg e1];have e1:nb - 1≠1:=by simpa using e1
            obtain ⟨xa2,exa2,mxa2⟩:=aE (a:=a) (i:=p1 - 1) (by lia);refine wpS_bind (ao exa2 (wpS_bind (aV O (B:=below lt xa2 b 0) hk2 (pa _ mxa2) pb (by lia) (by lia) (fun i x hi hx=>by unfold below;rw [hx];rfl) (cb O pb sb (pa _ mxa2) (by lia)) fun p2 bk2=>?_)));dsimp only;have hle2:=bk2.le;have hA2:∀ i x,p2≤i→i < p2+(nb - 1 - p2)→b.toList[i]?=some x→∀ y∈a.toList.take (p1),Le lt y x:=fun i x h1 h2 hx=>by
              have hx':b[0+i]?=some x:=by rw [abD];simpa using hx
              have hb:=bk2.hi i h1 (by lia);unfold below at hb;rw [hx'] at hb;have:=bQ O sa pa (pb x (aan hx)) (ak exa2) hb
              rwa [show p1 - 1+1=p1 by lia] at this
            have hmB0:=Mh.appB sb (nb - 1 - p2) p2 (by rw [show p2+(nb - 1 - p2)=nb - 1 by lia];exact hmA2) hA2;have hKA0:0 < p2→∀ y∈b.toList.take p2,Le lt y xa2:=fun hp=>by
              obtain ⟨x3,ex3,mx3⟩:=aE (a:=b) (i:=p2 - 1) (by lia);have hb:=bk2.lo (p2 - 1) (by lia);unfold below at hb;rw [abD,ex3] at hb;have:=bQ O sb pb (pa _ mxa2) (ak ex3) (O.asym (pb _ mx3) (pa _ mxa2) hb)
              rwa [show p2 - 1+1=p2 by lia] at this
            by_cases ck2:nb - 1 - p2 > 0
            · rw [if_pos ck2];have hmB:Mh lt a.toList b.toList ((out++(a.extract p1 na).reverse).push xb++(b.extract p2 (nb - 1)).reverse).toList (p1) p2:=by
                rw [aau,dW _ _ _ (by lia)];exact hmB0
              by_cases e2:(p2 == 1)=true
              · rw [if_pos e2];exact wpS_pure ⟨⟨hs2.arr,hs2.pend,hs2.kind,hs2.fail⟩,.inl ⟨_,_,rfl,firstB hmB (by simpa using e2)⟩⟩
              rw [if_neg e2];have e2:p2≠1:=by simpa using e2
              by_cases e7:(p2 == 0)=true
              · rw [if_pos e7];exact wpS_pure ⟨⟨hs2.arr,hs2.pend,hs2.kind,hs2.fail⟩,.inl ⟨_,_,rfl,done0 hmB (.inr (by simpa using e7))⟩⟩
              rw [if_neg e7];have e7:p2≠0:=by simpa using e7
              have hKA:=hKA0 (by lia);refine wpS_bind (ao exa2 ?_);have hmC:Mh lt a.toList b.toList (((out++(a.extract p1 na).reverse).push xb++(b.extract p2 (nb - 1)).reverse).push xa2).toList (p1 - 1) (p2):=by
                rw [aat];have hmB':Mh lt a.toList b.toList ((out++(a.extract p1 na).reverse).push xb++(b.extract p2 (nb - 1)).reverse).toList (p1 - 1+1) (p2):=by rw [show p1 - 1+1=p1 by lia];exact hmB
                exact hmB'.pushA sa (ak exa2) hKA
              by_cases e3:(p1 - 1 == 0)=true
              · rw [if_pos e3];exact wpS_pure ⟨⟨hs2.arr,hs2.pend,hs2.kind,hs2.fail⟩,.inl ⟨_,_,rfl,done0 hmC (.inl (by simpa using e3))⟩⟩
              · rw [if_neg e3];have e3:p1 - 1≠0:=by simpa using e3
                by_cases e4:(decide (na - p1 < 7) && decide (nb - 1 - p2 < 7))=true
                · rw [if_pos e4];exact wpS_pure ⟨⟨hs2.arr,hs2.pend,hs2.kind,hs2.fail⟩,.inr ⟨_,_,_,_,_,_,rfl,hmC,by lia,by lia,by lia⟩⟩
                · rw [if_neg e4];exact wpS_pure ⟨⟨hs2.arr,hs2.pend,hs2.kind,hs2.fail⟩,_,_,_,_,_,_,rfl,hmC,by lia,by lia,by lia⟩
            · rw [if_neg ck2];have ep:p2=nb - 1:=by lia
              have hmB:Mh lt a.toList b.toList ((out++(a.extract p1 na).reverse).push xb).toList (p1) (nb - 1):=hmA2;have hKA:∀ y∈b.toList.take (nb - 1),Le lt y xa2:=by rw [← ep];exact hKA0 (by lia)
              refine wpS_bind (ao exa2 ?_);have hmC:Mh lt a.toList b.toList (((out++(a.extract p1 na).reverse).push xb).push xa2).toList (p1 - 1) (nb - 1):=by
                rw [aat];have hmB':Mh lt a.toList b.toList ((out++(a.extract p1 na).reverse).push xb).toList (p1 - 1+1) (nb - 1):=by rw [show p1 - 1+1=p1 by lia];exact hmB
                exact hmB'.pushA sa (ak exa2) hKA
              by_cases e3:(p1 - 1 == 0)=true
              · rw [if_pos e3];exact wpS_pure ⟨⟨hs2.arr,hs2.pend,hs2.kind,hs2.fail⟩,.inl ⟨_,_,rfl,done0 hmC (.inl (by simpa using e3))⟩⟩
              · rw [if_neg e3];have e3:p1 - 1≠0:=by simpa using e3
                by_cases e4:(decide (na - p1 < 7) && decide (nb - 1 - p2 < 7))=true
                · rw [if_pos e4];exact wpS_pure ⟨⟨hs2.arr,hs2.pend,hs2.kind,hs2.fail⟩,.inr ⟨_,_,_,_,_,_,rfl,hmC,by lia,by lia,by lia⟩⟩
                · rw [if_neg e4];exact wpS_pure ⟨⟨hs2.arr,hs2.pend,hs2.kind,hs2.fail⟩,_,_,_,_,_,_,rfl,hmC,by lia,by lia,by lia⟩
          · rw [if_neg ck];have ep1:p1=na:=by lia
            have hmA:Mh lt a.toList b.toList out.toList na nb:=hm;have hKB:∀ y∈a.toList.take na,Le lt y xb:=by rw [← ep1];exact hKB0 (by lia)
            refine wpS_bind (ao exb ?_);have hmA2:Mh lt a.toList b.toList ((out).push xb).toList (na) (nb - 1):=by
              rw [aat];have hmA':Mh lt a.toList b.toList (out).toList (na) (nb - 1+1):=by rw [show nb - 1+1=nb by lia];exact hmA
              exact hmA'.pushB sb (ak exb) hKB
            by_cases e1:(nb - 1 == 1)=true
            · rw [if_pos e1];exact wpS_pure ⟨⟨hs2.arr,hs2.pend,hs2.kind,hs2.fail⟩,.inl ⟨_,_,rfl,firstB hmA2 (by simpa using e1)⟩⟩
            rw [if_neg e1];have e1:nb - 1≠1:=by simpa using e1
            obtain ⟨xa2,exa2,mxa2⟩:=aE (a:=a) (i:=na - 1) (by lia);refine wpS_bind (ao exa2 (wpS_bind (aV O (B:=below lt xa2 b 0) hk2 (pa _ mxa2) pb (by lia) (by lia) (fun i x hi hx=>by unfold below;rw [hx];rfl) (cb O pb sb (pa _ mxa2) (by lia)) fun p2 bk2=>?_)));dsimp only;have hle2:=bk2.le;have hA2:∀ i x,p2≤i→i < p2+(nb - 1 - p2)→b.toList[i]?=some x→∀ y∈a.toList.take (na),Le lt y x:=fun i x h1 h2 hx=>by
              have hx':b[0+i]?=some x:=by rw [abD];simpa using hx
              have hb:=bk2.hi i h1 (by lia);unfold below at hb;rw [hx'] at hb;have:=bQ O sa pa (pb x (aan hx)) (ak exa2) hb
              rwa [show na - 1+1=na by lia] at this
            have hmB0:=Mh.appB sb (nb - 1 - p2) p2 (by rw [show p2+(nb - 1 - p2)=nb - 1 by lia];exact hmA2) hA2;have hKA0:0 < p2→∀ y∈b.toList.take p2,Le lt y xa2:=fun hp=>by
              obtain ⟨x3,ex3,mx3⟩:=aE (a:=b) (i:=p2 - 1) (by lia);have hb:=bk2.lo (p2 - 1) (by lia);unfold below at hb;rw [abD,ex3] at hb;have:=bQ O sb pb (pa _ mxa2) (ak ex3) (O.asym (pb _ mx3) (pa _ mxa2) hb)
              rwa [show p2 - 1+1=p2 by lia] at this
            by_cases ck2:nb - 1 - p2 > 0
            · rw [if_pos ck2];have hmB:Mh lt a.toList b.toList ((out).push xb++(b.extract p2 (nb - 1)).reverse).toList (na) p2:=by
                rw [aau,dW _ _ _ (by lia)];exact hmB0
              by_cases e2:(p2 == 1)=true
              · rw [if_pos e2];exact wpS_pure ⟨⟨hs2.arr,hs2.pend,hs2.kind,hs2.fail⟩,.inl ⟨_,_,rfl,firstB hmB (by simpa using e2)⟩⟩
              rw [if_neg e2];have e2:p2≠1:=by simpa using e2
              by_cases e7:(p2 == 0)=true
              · rw [if_pos e7];exact wpS_pure ⟨⟨hs2.arr,hs2.pend,hs2.kind,hs2.fail⟩,.inl ⟨_,_,rfl,done0 hmB (.inr (by simpa using e7))⟩⟩
              rw [if_neg e7];have e7:p2≠0:=by simpa using e7
              have hKA:=hKA0 (by lia);refine wpS_bind (ao exa2 ?_);have hmC:Mh lt a.toList b.toList (((out).push xb++(b.extract p2 (nb - 1)).reverse).push xa2).toList (na - 1) (p2):=by
                rw [aat];have hmB':Mh lt a.toList b.toList ((out).push xb++(b.extract p2 (nb - 1)).reverse).toList (na - 1+1) (p2):=by rw [show na - 1+1=na by lia];exact hmB
                exact hmB'.pushA sa (ak exa2) hKA
              by_cases e3:(na - 1 == 0)=true
              · rw [if_pos e3];exact wpS_pure ⟨⟨hs2.arr,hs2.pend,hs2.kind,hs2.fail⟩,.inl ⟨_,_,rfl,done0 hmC (.inl (by simpa using e3))⟩⟩
              · rw [if_neg e3];have e3:na - 1≠0:=by simpa using e3
                by_cases e4:(decide (na - p1 < 7) && decide (nb - 1 - p2 < 7))=true
                · rw [if_pos e4];exact wpS_pure ⟨⟨hs2.arr,hs2.pend,hs2.kind,hs2.fail⟩,.inr ⟨_,_,_,_,_,_,rfl,hmC,by lia,by lia,by lia⟩⟩
                · rw [if_neg e4];exact wpS_pure ⟨⟨hs2.arr,hs2.pend,hs2.kind,hs2.fail⟩,_,_,_,_,_,_,rfl,hmC,by lia,by lia,by lia⟩
            · rw [if_neg ck2];have ep:p2=nb - 1:=by lia
              have hmB:Mh lt a.toList b.toList ((out).push xb).toList (na) (nb - 1):=hmA2;have hKA:∀ y∈b.toList.take (nb - 1),Le lt y xa2:=by rw [← ep];exact hKA0 (by lia)
              refine wpS_bind (ao exa2 ?_);have hmC:Mh lt a.toList b.toList (((out).push xb).push xa2).toList (na - 1) (nb - 1):=by
                rw [aat];have hmB':Mh lt a.toList b.toList ((out).push xb).toList (na - 1+1) (nb - 1):=by rw [show na - 1+1=na by lia];exact hmB
                exact hmB'.pushA sa (ak exa2) hKA
              by_cases e3:(na - 1 == 0)=true
              · rw [if_pos e3];exact wpS_pure ⟨⟨hs2.arr,hs2.pend,hs2.kind,hs2.fail⟩,.inl ⟨_,_,rfl,done0 hmC (.inl (by simpa using e3))⟩⟩
              · rw [if_neg e3];have e3:na - 1≠0:=by simpa using e3
                by_cases e4:(decide (na - p1 < 7) && decide (nb - 1 - p2 < 7))=true
                · rw [if_pos e4];exact wpS_pure ⟨⟨hs2.arr,hs2.pend,hs2.kind,hs2.fail⟩,.inr ⟨_,_,_,_,_,_,rfl,hmC,by lia,by lia,by lia⟩⟩
                · rw [if_neg e4];exact wpS_pure ⟨⟨hs2.arr,hs2.pend,hs2.kind,hs2.fail⟩,_,_,_,_,_,_,rfl,hmC,by lia,by lia,by lia⟩
end
end Tim
namespace Tim
open PySem PyProof.Rows
def seg (L:List Keyed) (s n:Nat):List Keyed:=(L.drop s).take n
theorem seg_len {L:List Keyed} {s n:Nat} (h:s+n≤L.length):(seg L s n).length=n:=by unfold seg;rw [aaV,abl];lia
theorem jI (L:List Keyed) (s n m:Nat):seg L s n++seg L (s+n) m=seg L s (n+m):=by
  unfold seg;rw [List.take_add,ace]
theorem gf {L:List Keyed} {s n i:Nat} (h:i < n):(seg L s n)[i]?=L[s+i]?:=by
  unfold seg;rw [ack h,acq]
theorem cy {L:List Keyed} {s n:Nat} {x:Keyed} (h:x∈seg L s n):x∈L:=abS (abF h)
theorem o6 (L:List Keyed) (s n:Nat):L=L.take s++seg L s n++L.drop (s+n):=by
  unfold seg;rw [aaB,← ace,aa2,aa2]
theorem mS:∀ (l:List Keyed) (arr:Array Keyed) (o j:Nat),o+j+l.length≤arr.size→((l.zipIdx j).foldl (fun a p=>a.setIfInBounds (o+p.2) p.1) arr).toList=arr.toList.take (o+j)++l++arr.toList.drop (o+j+l.length)
  | [],arr,o,j,h=>by simp
  | p :: l,arr,o,j,h=>by
    have h:o+j+(l.length+1)≤arr.size:=h;rw [List.zipIdx_cons,List.foldl_cons,mS l _ o (j+1) (by rw [Array.size_setIfInBounds];lia)];have hi:o+j < arr.toList.length:=by rw [aam];lia
    have e:(arr.setIfInBounds (o+j) p).toList=arr.toList.take (o+j)++p :: arr.toList.drop (o+j+1):=by
      rw [Array.toList_setIfInBounds,List.set_eq_take_append_cons_drop,if_pos hi]
    have l1:(arr.toList.take (o+j)).length=o+j:=by rw [aaV];lia
    rw [e];have e1:(arr.toList.take (o+j)++p :: arr.toList.drop (o+j+1)).take (o+(j+1))=arr.toList.take (o+j)++[p]:=by
      rw [List.take_append,l1,abh (by lia),show o+(j+1) - (o+j)=1 by lia];rfl
    have e2:(arr.toList.take (o+j)++p :: arr.toList.drop (o+j+1)).drop (o+(j+1)+l.length)=arr.toList.drop (o+j+(l.length+1)):=by
      rw [List.drop_append,l1,aa8 (by lia),show o+(j+1)+l.length - (o+j)=l.length+1 by lia,abV,List.drop_succ_cons,ace];congr 1;lia
    rw [e1,e2];simp
structure Mrgd (lt:Keyed→Keyed→Bool) (L L':List Keyed) (s n:Nat):Prop where
  ex:∃ R,R.Perm (seg L s n)∧R.Pairwise (Le lt)∧L'=L.take s++R++L.drop (s+n)
theorem jL {lt:Keyed→Keyed→Bool} {X Y:List Keyed} (hx:X.Pairwise (Le lt)) (hy:Y.Pairwise (Le lt)) (h:∀ x∈X,∀ y∈Y,Le lt x y):(X++Y).Pairwise (Le lt):=List.pairwise_append.mpr ⟨hx,hy,h⟩
section
variable {M:Model} {A:Around} {E:Value→Shared→Prop} {s:Shared} {κ:SortKind} {P:Keyed→Prop} {lt:Keyed→Keyed→Bool}
theorem qK {σ:Type} {x:σ} {Q:PUnit→σ→Prop} {st:σ} (h:Q ⟨⟩ x):wpS M A E s (set x:StateT σ Sem PUnit) Q st:=by
  unfold wpS;rw [StateT.run_set];exact wpAny_pure ⟨rfl,h⟩
theorem jH {a:Array Keyed} {base n:Nat} (r:(seg a.toList base n).Pairwise (Le lt)) {i j:Nat} {x y:Keyed} (hx:a[base+i]?=some x) (hy:a[base+j]?=some y) (hij:i < j) (hj:j < n):Le lt x y:=by
  have e1:=gf (L:=a.toList) (s:=base) (n:=n) (i:=i) (by lia);have e2:=gf (L:=a.toList) (s:=base) (n:=n) (i:=j) hj;rw [ak hx] at e1;rw [ak hy] at e2;obtain ⟨h1,e1⟩:=aai.mp e1;obtain ⟨h2,e2⟩:=aai.mp e2;rw [← e1,← e2];exact abk.mp r i j h1 h2 hij
theorem lI (O:Ord M A E s κ P lt) {a:Array Keyed} (pa:∀ x∈a.toList,P x) {key:Keyed} (pk:P key) {base n:Nat} (r:(seg a.toList base n).Pairwise (Le lt)) (hn:base+n≤a.size):∀ i j,i≤j→j < n→cS lt key a base j=true→cS lt key a base i=true:=by
  intro i j hij hj h;obtain ⟨x,hx,mx⟩:=aE (a:=a) (i:=base+i) (by lia);obtain ⟨y,hy,my⟩:=aE (a:=a) (i:=base+j) (by lia);unfold cS at h ⊢;rw [hy] at h;rw [hx];by_cases e:i=j
  · subst e;rw [hx] at hy;cases hy;exact h
  · have h1:Le lt x y:=jH r hx hy (by lia) hj;have h2:lt key y=false:=by simpa using h
    have:=O.trans (pa x mx) (pa y my) pk h1 h2;simp [this]
theorem lG (O:Ord M A E s κ P lt) {a:Array Keyed} (pa:∀ x∈a.toList,P x) {key:Keyed} (pk:P key) {base n:Nat} (r:(seg a.toList base n).Pairwise (Le lt)) (hn:base+n≤a.size):∀ i j,i≤j→j < n→below lt key a base j=true→below lt key a base i=true:=by
  intro i j hij hj h;obtain ⟨x,hx,mx⟩:=aE (a:=a) (i:=base+i) (by lia);obtain ⟨y,hy,my⟩:=aE (a:=a) (i:=base+j) (by lia);unfold below at h ⊢;rw [hy] at h;rw [hx];by_cases e:i=j
  · subst e;rw [hx] at hy;cases hy;exact h
  · have h1:Le lt x y:=jH r hx hy (by lia) hj;show lt x key=true;cases c:lt x key with
    | true=>rfl
    | false =>
      have:=O.trans pk (pa x mx) (pa y my) c h1;have h:lt y key=true:=h;rw [this] at h;cases h
theorem fc {a:Array Keyed} {base n:Nat} (hn:base+n≤a.size) {x:Keyed} (h:x∈seg a.toList base n):∃ i,i < n∧a[base+i]?=some x:=by
  obtain ⟨i,hi,e⟩:=abz h;have hi':i < n:=by rw [seg_len (by rw [aam];exact hn)] at hi;exact hi
  refine ⟨i,hi',?_⟩;have:=gf (L:=a.toList) (s:=base) (n:=n) hi';rw [aaf hi,e] at this;simpa using this.symm
theorem nA (a:Array Keyed) (i j:Nat):(a.extract i j).toList=seg a.toList i (j - i):=by
  unfold seg;rw [abR,abA]
theorem j8 (O:Ord M A E s κ P lt) {st:SortSt} {i sa na pw sb nb pw2:Nat} {Q:Bool→SortSt→Prop} (hk:kindOf st=κ) (hf:failedOf st=none) (hP:∀ x∈(arrOf st).toList,P x) (h1:(pendingOf st)[i]?=some (sa,na,pw)) (h2:(pendingOf st)[i+1]?=some (sb,nb,pw2)) (hsb:sb=sa+na) (n1:1≤na) (n2:1≤nb) (hsz:sb+nb≤(arrOf st).size)
    (r1:(seg (arrOf st).toList sa na).Pairwise (Le lt)) (r2:(seg (arrOf st).toList sb nb).Pairwise (Le lt))
    (q:∀ st',kindOf st'=κ→failedOf st'=none→pendingOf st'=((pendingOf st).setIfInBounds i (sa,na+nb,pw)).eraseIdxIfInBounds (i+1)→Mrgd lt (arrOf st).toList (arrOf st').toList sa (na+nb)→Q true st'):wpS M A E s (mergeAt' i) Q st:=by
  refine wpS_bind (wpS_get ?_);rw [h1,h2];dsimp only;refine wpS_bind (qK ?_);obtain ⟨L,hL⟩:∃ L,L=(arrOf st).toList:=⟨_,rfl⟩
  have lenL:L.length=(arrOf st).size:=by rw [hL,aam]
  obtain ⟨xb,exb,mxb⟩:=aE (a:=arrOf st) (i:=sb) (by lia);have pxb:=hP _ mxb;have exb0:(arrOf st)[sb+0]?=some xb:=exb;have bY:∀ y∈seg (arrOf st).toList sb nb,Le lt xb y:=fun y hy=>by
    obtain ⟨j,hj,ej⟩:=fc hsz hy;by_cases c:j=0
    · subst c;have e:xb=y:=aaN (exb0.symm.trans ej);rw [← e];cases hh:lt xb xb with
      | false=>exact hh
      | true=>have:=O.asym (hP _ mxb) (hP _ mxb) hh;rw [hh] at this;cases this
    · exact jH r2 exb0 ej (by lia) hj
  have hn1:sa+na≤(arrOf st).size:=by lia
  refine wpS_bind (ao exb (wpS_bind (aV O (B:=cS lt xb (arrOf st) sa) hk pxb hP hn1 (by lia) (fun i x hi hx=>by unfold cS;rw [hx];rfl) (lI O hP pxb r1 hn1) fun k bk=>?_)));have hle:=bk.le;dsimp only;have same:∀ (R:List Keyed),R=seg (arrOf st).toList sa (na+nb)→R.Pairwise (Le lt)→Mrgd lt (arrOf st).toList (arrOf st).toList sa (na+nb):=fun R e hR=>⟨R,by rw [e],hR,by rw [e];exact o6 _ _ _⟩
  have XY:seg (arrOf st).toList sa na++seg (arrOf st).toList sb nb=seg (arrOf st).toList sa (na+nb):=by rw [hsb];exact jI _ _ _ _
  have f1:∀ x∈seg (arrOf st).toList sa k,Le lt x xb:=fun x hx=>by
    obtain ⟨j,hj,ej⟩:=fc (by lia) hx;have:=bk.lo j hj;unfold cS at this;rw [ej] at this;simpa [Le] using this
  by_cases c1:(na - k == 0)=true
  · rw [if_pos c1];have c1:na - k=0:=by simpa using c1
    have ek:k=na:=by lia
    rw [ek] at f1;exact wpS_pure (q _ hk hf rfl (same _ XY (jL r1 r2 fun x hx y hy=>O.trans (hP _ (cy hx)) pxb (hP _ (cy hy)) (f1 x hx) (bY y hy))))
  rw [if_neg c1];have c1:na - k≠0:=by simpa using c1
  obtain ⟨al,eal,mal⟩:=aE (a:=arrOf st) (i:=sa+k+(na - k) - 1) (by lia);have pal:=hP _ mal;have eal0:(arrOf st)[sa+(na - 1)]?=some al:=by rw [show sa+(na - 1)=sa+k+(na - k) - 1 by lia];exact eal
  refine wpS_bind (ao eal (wpS_bind (aV O (B:=below lt al (arrOf st) sb) hk pal hP hsz (by lia) (fun i x hi hx=>by unfold below;rw [hx];rfl) (lG O hP pal r2 hsz) fun k2 bk2=>?_)));have hle2:=bk2.le;dsimp only;have refl_:∀ x,P x→Le lt x x:=fun x px=>by
    cases hh:lt x x with
    | false=>exact hh
    | true=>have:=O.asym px px hh;rw [hh] at this;cases this
  have aX:∀ x∈seg (arrOf st).toList sa na,Le lt x al:=fun x hx=>by
    obtain ⟨j,hj,ej⟩:=fc (by lia) hx;by_cases c:j=na - 1
    · subst c;rw [eal0] at ej;cases ej;exact refl_ _ pal
    · exact jH r1 ej eal0 (by lia) (by lia)
  have g2:∀ y∈seg (arrOf st).toList (sb+k2) (nb - k2),Le lt al y:=fun y hy=>by
    obtain ⟨j,hj,ej⟩:=fc (by lia) hy;have:=bk2.hi (k2+j) (by lia) (by lia);unfold below at this;rw [← Nat.add_assoc,ej] at this;exact this
  by_cases c2:(k2 == 0)=true
  · rw [if_pos c2];have c2:k2=0:=by simpa using c2
    subst c2;have g2:∀ y∈seg (arrOf st).toList sb nb,Le lt al y:=g2;exact wpS_pure (q _ hk hf rfl (same _ XY (jL r1 r2 fun x hx y hy=>O.trans (hP _ (cy hx)) pal (hP _ (cy hy)) (aX x hx) (g2 y hy))))
  rw [if_neg c2];have c2:k2≠0:=by simpa using c2
  have eX:((arrOf st).extract (sa+k) sb).toList=seg (arrOf st).toList (sa+k) (na - k):=by rw [nA,show sb - (sa+k)=na - k by lia]
  have eY:((arrOf st).extract sb (sb+k2)).toList=seg (arrOf st).toList sb k2:=by rw [nA,Nat.add_sub_cancel_left]
  have X12:seg (arrOf st).toList sa k++seg (arrOf st).toList (sa+k) (na - k)=seg (arrOf st).toList sa na:=by rw [jI,show k+(na - k)=na by lia]
  have Y12:seg (arrOf st).toList sb k2++seg (arrOf st).toList (sb+k2) (nb - k2)=seg (arrOf st).toList sb nb:=by rw [jI,show k2+(nb - k2)=nb by lia]
  rw [← X12] at r1 aX;rw [← Y12] at r2 bY;obtain ⟨s1,s2,s12⟩:=List.pairwise_append.mp r1;obtain ⟨t1,t2,t12⟩:=List.pairwise_append.mp r2;have pX:∀ x∈((arrOf st).extract (sa+k) sb).toList,P x:=fun x hx=>by rw [eX] at hx;exact hP _ (cy hx)
  have pY:∀ x∈((arrOf st).extract sb (sb+k2)).toList,P x:=fun x hx=>by rw [eY] at hx;exact hP _ (cy hx)
  have sX:((arrOf st).extract (sa+k) sb).toList.Pairwise (Le lt):=by rw [eX];exact s2
  have sY:((arrOf st).extract sb (sb+k2)).toList.Pairwise (Le lt):=by rw [eY];exact t1
  have hb0:((arrOf st).extract sb (sb+k2))[0]?=some xb:=by
    have:=gf (L:=(arrOf st).toList) (s:=sb) (n:=k2) (i:=0) (by lia);rw [← eY] at this;rw [← aaS,this];exact ak exb
  have hl0:∀ y∈((arrOf st).extract (sa+k) sb).toList,Le lt xb y:=fun y hy=>by
    rw [eX] at hy;obtain ⟨j,hj,ej⟩:=fc (by lia) hy;have hb:=bk.hi (k+j) (by lia) (by lia);unfold cS at hb;rw [← Nat.add_assoc,ej] at hb;have hb:lt xb y=true:=by simpa using hb
    exact O.asym pxb (hP _ (cy hy)) hb
  have szX:((arrOf st).extract (sa+k) sb).size=na - k:=by rw [← aam,eX,seg_len (by rw [aam];lia)]
  have hal:((arrOf st).extract (sa+k) sb)[((arrOf st).extract (sa+k) sb).size - 1]?=some al:=by
    have:=gf (L:=(arrOf st).toList) (s:=sa+k) (n:=na - k) (i:=na - k - 1) (by lia);rw [← eX] at this;rw [← aaS,szX,this,show sa+k+(na - k - 1)=sa+k+(na - k) - 1 by lia];exact ak eal
  have hll:∀ y∈((arrOf st).extract sb (sb+k2)).toList,Le lt y al:=fun y hy=>by
    rw [eY] at hy;obtain ⟨j,hj,ej⟩:=fc (by lia) hy;have hb:=bk2.lo j hj;unfold below at hb;rw [ej] at hb;exact O.asym (hP _ (cy hy)) pal hb
  have fin:∀ (r:Array Keyed) (st':SortSt),SameS (SortSt.mk' (kindOf st) (arrOf st) (((pendingOf st).setIfInBounds i (sa,na+nb,pw)).eraseIdxIfInBounds (i+1)) (gallopOf st) (failedOf st)) st'→Res lt ((arrOf st).extract (sa+k) sb).toList ((arrOf st).extract sb (sb+k2)).toList r.toList →
      Mrgd lt (arrOf st).toList (List.foldl (fun a p=>a.setIfInBounds (sa+k+p.2) p.1) (arrOf st') r.toList.zipIdx).toList sa (na+nb):=fun r st' hS hr=>by
    have ea:arrOf st'=arrOf st:=hS.arr;rw [eX,eY] at hr;obtain ⟨hp,hs⟩:=hr;have lr:r.toList.length=na - k+k2:=by rw [hp.length_eq,aax,seg_len (by rw [aam];lia),seg_len (by rw [aam];lia)]
    have hput:=mS r.toList (arrOf st) (sa+k) 0 (by lia);rw [ea];have hput:(List.foldl (fun a p=>a.setIfInBounds (sa+k+p.2) p.1) (arrOf st) r.toList.zipIdx).toList=(arrOf st).toList.take (sa+k)++r.toList++(arrOf st).toList.drop (sa+k+r.toList.length):=hput;rw [hput,lr,show sa+k+(na - k+k2)=sb+k2 by lia];refine ⟨seg (arrOf st).toList sa k++(r.toList++seg (arrOf st).toList (sb+k2) (nb - k2)),?_,?_,?_⟩
    · rw [← XY,← X12,← Y12,aaB];refine ab7 _ ?_;rw [← aaB (seg (arrOf st).toList (sa+k) (na - k))];exact ab4 _ hp
    · have mem:∀ z∈r.toList,z∈seg (arrOf st).toList (sa+k) (na - k)∨z∈seg (arrOf st).toList sb k2:=fun z hz=>aao.mp (hp.mem_iff.mp hz);refine jL s1 (jL hs t2 fun x hx y hy=>?_) fun x hx y hy=>?_
      · rcases mem x hx with h|h
        · exact O.trans (hP _ (cy h)) pal (hP _ (cy hy)) (aX x (aaa _ h)) (g2 y hy)
        · exact t12 x h y hy
      · have up:∀ y,y∈seg (arrOf st).toList sb k2++seg (arrOf st).toList (sb+k2) (nb - k2)→Le lt x y:=fun y hy=>O.trans (hP _ (cy hx)) pxb (hP _ (by rcases aao.mp hy with h|h <;> exact cy h)) (f1 x hx) (bY y hy);rcases aao.mp hy with h|h
        · rcases mem y h with h|h
          · exact s12 x hx y h
          · exact up y (aaC _ h)
        · exact up y (aaa _ h)
    · have e1:(arrOf st).toList.take (sa+k)=(arrOf st).toList.take sa++seg (arrOf st).toList sa k:=by unfold seg;rw [List.take_add]
      have e2:(arrOf st).toList.drop (sb+k2)=seg (arrOf st).toList (sb+k2) (nb - k2)++(arrOf st).toList.drop (sa+(na+nb)):=by
        unfold seg;rw [show sa+(na+nb)=sb+k2+(nb - k2) by lia];have:=aa2 (nb - k2) ((arrOf st).toList.drop (sb+k2));rw [ace] at this;exact this.symm
      rw [e1,e2];simp only [aaB]
  by_cases c3:na - k≤k2
  · rw [if_pos c3];refine wpS_bind (jZ O hk pX pY sX sY hb0 hl0 (by rw [List.getLast?_eq_getElem?,aam,aaS];exact hal) hll fun r st' hS hr=>?_);refine wpS_bind (wpS_modify (wpS_bind (wpS_get (wpS_pure ?_))));have ef:failedOf st'=none:=hS.fail.trans hf;show Q (failedOf st').isNone _;rw [ef];exact q _ (hS.kind.trans hk) ef hS.pend (fin r st' hS hr)
  · rw [if_neg c3];refine wpS_bind (j0 O hk pX pY sX sY hb0 hl0 hal hll fun r st' hS hr=>?_);refine wpS_bind (wpS_modify (wpS_bind (wpS_get (wpS_pure ?_))));have ef:failedOf st'=none:=hS.fail.trans hf;show Q (failedOf st').isNone _;rw [ef];exact q _ (hS.kind.trans hk) ef hS.pend (fin r st' hS hr)
end
end Tim
namespace Tim
open PySem PyProof.Rows
def vx (a:Array Keyed) (i:Nat):Keyed:=(a[i]?).getD (Value.none,Value.none)
theorem mL {a:Array Keyed} {i:Nat} (h:i < a.size):a[i]?=some (vx a i):=by
  unfold vx;rw [getElem?_pos a i h];rfl
theorem a6 {a:Array Keyed} {i:Nat} (h:i < a.size):vx a i∈a.toList:=by
  have:=aan (ak (mL h));exact this
theorem dk {a b:Array Keyed} {i j:Nat} (h:a[i]?=b[j]?):vx a i=vx b j:=by unfold vx;rw [h]
theorem e_ {a:Array Keyed} {i j:Nat} (hj:j≤a.size) (k:Nat):vx (mirror a i j ((j - i) / 2)) k=if i≤k∧k < j then vx a (i+j - 1 - k) else vx a k:=by
  have e:=getElem?_mirror_all (i:=i) hj k;by_cases h1:i≤k∧k < j
  · rw [if_pos h1] at e ⊢;exact dk e
  · rw [if_neg h1] at e ⊢;exact dk e
theorem je {a:Array Keyed} {src d:Nat} (hs:src < a.size) (hd:d≤src) (k:Nat):vx (bubble a src d) k=if k=src - d then vx a src else if src - d < k∧k≤src then vx a (k - 1) else vx a k:=by
  have e:=getElem?_bubble hs d hd k;by_cases h1:k=src - d
  · rw [if_pos h1] at e ⊢;exact dk e
  · rw [if_neg h1] at e ⊢;by_cases h2:src - d < k∧k≤src
    · rw [if_pos h2] at e ⊢;exact dk e
    · rw [if_neg h2] at e ⊢;exact dk e
section
variable (lt:Keyed→Keyed→Bool)
def Up (a:Array Keyed) (lo n:Nat):Prop:=∀ i j,i < j→j < n→Le lt (vx a (lo+i)) (vx a (lo+j))
def Dn (a:Array Keyed) (lo n:Nat):Prop:=∀ i j,i < j→j < n→Le lt (vx a (lo+j)) (vx a (lo+i))
end
structure Kp (a a':Array Keyed) (lo:Nat):Prop where
  perm:a'.Perm a
  low:∀ k,k < lo→a'[k]?=a[k]?
theorem Kp.refl (a:Array Keyed) (lo:Nat):Kp a a lo:=⟨Array.Perm.refl _,fun _ _=>rfl⟩
theorem Kp.trans {a b c:Array Keyed} {lo:Nat} (h:Kp a b lo) (g:Kp b c lo):Kp a c lo:=⟨g.perm.trans h.perm,fun k hk=>(g.low k hk).trans (h.low k hk)⟩
theorem Kp.size {a b:Array Keyed} {lo:Nat} (h:Kp a b lo):b.size=a.size:=h.perm.size_eq
theorem Kp.all {a b:Array Keyed} {lo:Nat} (h:Kp a b lo) {P:Keyed→Prop} (hP:∀ x∈a.toList,P x):∀ x∈b.toList,P x:=fun x hx=>hP x ((Array.perm_iff_toList_perm.mp h.perm).mem_iff.mp hx)
theorem Kp.mirror {a:Array Keyed} {lo i j:Nat} (hi:lo≤i) (hj:j≤a.size):Kp a (mirror a i j ((j - i) / 2)) lo:=⟨mirror_perm _ _ _ _,fun k hk=>by rw [getElem?_mirror_all hj,if_neg (by lia)]⟩
theorem Kp.bubble {a:Array Keyed} {lo src d:Nat} (hs:src < a.size) (hd:d≤src) (hl:lo≤src - d):Kp a (bubble a src d) lo:=⟨bubble_perm _ _ _,fun k hk=>by rw [getElem?_bubble hs d hd,if_neg (by lia),if_neg (by lia)]⟩
structure SameA (st st':SortSt):Prop where
  pend:pendingOf st'=pendingOf st
  kind:kindOf st'=kindOf st
  fail:failedOf st'=failedOf st
theorem SameA.refl (st:SortSt):SameA st st:=⟨rfl,rfl,rfl⟩
section
variable {M:Model} {A:Around} {E:Value→Shared→Prop} {s:Shared} {κ:SortKind} {P:Keyed→Prop} {lt:Keyed→Keyed→Bool}
theorem cE (O:Ord M A E s κ P lt) {st:SortSt} {i j:Nat} {Q:Option Bool→SortSt→Prop} (hk:kindOf st=κ) (hP:∀ x∈(arrOf st).toList,P x) (hi:i < (arrOf st).size) (hj:j < (arrOf st).size) (h:Q (some (lt (vx (arrOf st) i) (vx (arrOf st) j))) st):wpS M A E s (ltAt' i j) Q st:=by
  rw [ltAt'_eq];refine wpS_bind (wpS_get ?_);exact wpS_bind (ao (mL hi) (wpS_bind (ao (mL hj) (O.ask (hP _ (a6 hi)) (hP _ (a6 hj)) hk h))))
theorem dc {st:SortSt} {i j:Nat} {Q:Unit→SortSt→Prop} (h:Q () (setArr st (mirror (arrOf st) i j ((j - i) / 2)))):wpS M A E s (reverseSlice' i j) Q st:=by
  rw [reverseSlice'_eq];exact wpS_modify h
theorem eF (O:Ord M A E s κ P lt) {x:Keyed} (px:P x):Le lt x x:=by
  cases hh:lt x x with
  | false=>exact hh
  | true=>have:=O.asym px px hh;rw [hh] at this;cases this
theorem Up.more (O:Ord M A E s κ P lt) {a:Array Keyed} (hP:∀ x∈a.toList,P x) {lo n:Nat} (hn:lo+n < a.size) (h1:1≤n) (h:Up lt a lo n) (c:Le lt (vx a (lo+n - 1)) (vx a (lo+n))):Up lt a lo (n+1):=fun i j hij hj=>by
  by_cases hjn:j < n
  · exact h i j hij hjn
  · obtain rfl:j=n:=by lia
    by_cases hi:i=j - 1
    · subst hi;rw [show lo+(j - 1)=lo+j - 1 by lia];exact c
    · have:=h i (j - 1) (by lia) (by lia);rw [show lo+(j - 1)=lo+j - 1 by lia] at this;exact O.trans (hP _ (a6 (by lia))) (hP _ (a6 (by lia))) (hP _ (a6 hn)) this c
theorem Dn.more (O:Ord M A E s κ P lt) {a:Array Keyed} (hP:∀ x∈a.toList,P x) {lo n:Nat} (hn:lo+n < a.size) (h1:1≤n) (h:Dn lt a lo n) (c:Le lt (vx a (lo+n)) (vx a (lo+n - 1))):Dn lt a lo (n+1):=fun i j hij hj=>by
  by_cases hjn:j < n
  · exact h i j hij hjn
  · obtain rfl:j=n:=by lia
    by_cases hi:i=j - 1
    · subst hi;rw [show lo+(j - 1)=lo+j - 1 by lia];exact c
    · have:=h i (j - 1) (by lia) (by lia);rw [show lo+(j - 1)=lo+j - 1 by lia] at this;exact O.trans (hP _ (a6 hn)) (hP _ (a6 (by lia))) (hP _ (a6 (by lia))) c this
theorem Dn.turn {a:Array Keyed} {lo n p q:Nat} (h:Dn lt a lo n) (hq:q≤n) (hsz:lo+n≤a.size) (eqv:∀ u v,p≤u→u < q→p≤v→v < q→Le lt (vx a (lo+u)) (vx a (lo+v))):Dn lt (mirror a (lo+p) (lo+q) ((lo+q - (lo+p)) / 2)) lo n:=fun i j hij hj=>by
  rw [e_ (by lia),e_ (by lia)];have e:∀ k,p≤k→k < q→lo+p+(lo+q) - 1 - (lo+k)=lo+(p+q - 1 - k):=fun k h1 h2=>by lia
  by_cases c1:lo+p≤lo+j∧lo+j < lo+q
  · rw [if_pos c1,e j (by lia) (by lia)];by_cases c2:lo+p≤lo+i∧lo+i < lo+q
    · rw [if_pos c2,e i (by lia) (by lia)];exact eqv _ _ (by lia) (by lia) (by lia) (by lia)
    · rw [if_neg c2];exact h i _ (by lia) (by lia)
  · rw [if_neg c1];by_cases c2:lo+p≤lo+i∧lo+i < lo+q
    · rw [if_pos c2,e i (by lia) (by lia)];exact h _ j (by lia) hj
    · rw [if_neg c2];exact h i j hij hj
theorem Dn.flip {a:Array Keyed} {lo n:Nat} (h:Dn lt a lo n) (hsz:lo+n≤a.size):Up lt (mirror a lo (lo+n) ((lo+n - lo) / 2)) lo n:=fun i j hij hj=>by
  rw [e_ (by lia),e_ (by lia),if_pos (by lia),if_pos (by lia),show lo+(lo+n) - 1 - (lo+i)=lo+(n - 1 - i) by lia,show lo+(lo+n) - 1 - (lo+j)=lo+(n - 1 - j) by lia];exact h _ _ (by lia) (by lia)
theorem iV (O:Ord M A E s κ P lt) {st:SortSt} {lo nrem:Nat} {Q:Option Nat→SortSt→Prop} (hk:kindOf st=κ) (hP:∀ x∈(arrOf st).toList,P x) (h1:1≤nrem) (hsz:lo+nrem≤(arrOf st).size)
    (q:∀ m st',SameA st st'→Kp (arrOf st) (arrOf st') lo→1≤m→m≤nrem→Up lt (arrOf st') lo m→Q (some m) st'):wpS M A E s (countRun' lo nrem) Q st:=by
  refine wpS_bind (wpS_mono (wpS_forRange (I:=fun x c st'=>st'=st∧c=(none,x)∧Up lt (arrOf st) lo x) (Q:=fun c st'=>st'=st∧∃ n,c=(none,n)∧1≤n∧n≤nrem∧Up lt (arrOf st) lo n∧(n=nrem∨lt (vx (arrOf st) (lo+n)) (vx (arrOf st) (lo+n - 1))=true)) ?step ?fin ⟨rfl,rfl,fun i j hij hj=>by lia⟩) ?post)
  case fin =>
    rintro c st' ⟨rfl,rfl,hs⟩;rw [show max 1 nrem=nrem by lia] at hs ⊢;exact ⟨rfl,nrem,rfl,h1,aad _,hs,.inl rfl⟩
  case step =>
    rintro x c st' hax hxn ⟨rfl,rfl,hs⟩;dsimp only;refine wpS_bind (cE O hk hP (by lia) (by lia) ?_);dsimp only;by_cases d:lt (vx (arrOf st') (lo+x)) (vx (arrOf st') (lo+x - 1))=true
    · rw [if_pos d];exact wpS_pure ⟨rfl,x,rfl,hax,by lia,hs,.inr d⟩
    · rw [if_neg d];have d:lt (vx (arrOf st') (lo+x)) (vx (arrOf st') (lo+x - 1))=false:=by simpa using d
      exact wpS_pure ⟨rfl,rfl,hs.more O hP (by lia) hax d⟩
  case post =>
    rintro c st' ⟨rfl,n,rfl,hn1,hn2,hup,hor⟩;dsimp only;by_cases c0:(n == nrem)=true
    · rw [if_pos c0];exact wpS_pure (q n _ (SameA.refl _) (Kp.refl _ _) hn1 hn2 hup)
    rw [if_neg c0];have c0:n≠nrem:=by simpa using c0
    have hn3:n+1≤nrem:=by lia
    have hlt:=hor.resolve_left c0;have hle:=O.asym (hP _ (a6 (by lia))) (hP _ (a6 (by lia))) hlt;by_cases cg:n > 1
    · rw [if_pos cg];refine wpS_bind (cE O hk hP (by lia) (by lia) ?_);dsimp only;by_cases d:lt (vx (arrOf st') lo) (vx (arrOf st') (lo+n - 1))=true
      · rw [if_pos d];exact wpS_pure (q n _ (SameA.refl _) (Kp.refl _ _) hn1 hn2 hup)
      rw [if_neg d];have d:lt (vx (arrOf st') lo) (vx (arrOf st') (lo+n - 1))=false:=by simpa using d
      have pv:∀ k,k≤n→P (vx (arrOf st') (lo+k)):=fun k hk=>hP _ (a6 (by lia));have pl:=pv (n - 1) (by lia);rw [show lo+(n - 1)=lo+n - 1 by lia] at pl;have p0:=pv 0 (by lia);have top:∀ k,k < n→Le lt (vx (arrOf st') (lo+k)) (vx (arrOf st') (lo+n - 1)):=fun k hk=>by
        by_cases c:k=n - 1
        · rw [c,show lo+(n - 1)=lo+n - 1 by lia];exact eF O pl
        · have:=hup k (n - 1) (by lia) (by lia)
          rwa [show lo+(n - 1)=lo+n - 1 by lia] at this
      have bot:∀ k,k < n→Le lt (vx (arrOf st') (lo+n - 1)) (vx (arrOf st') (lo+k)):=fun k hk=>by
        have d':Le lt (vx (arrOf st') (lo+n - 1)) (vx (arrOf st') (lo+0)):=d;by_cases c:k=0
        · rw [c];exact d'
        · exact O.trans pl p0 (pv k (by lia)) d' (hup 0 k (by lia) hk)
      have eqv:∀ u v,0≤u→u < n→0≤v→v < n→Le lt (vx (arrOf st') (lo+u)) (vx (arrOf st') (lo+v)):=fun u v _ hu _ hv=>O.trans (pv u (by lia)) pl (pv v (by lia)) (top u hu) (bot v hv);have hD0:Dn lt (arrOf st') lo n:=fun i j hij hj=>eqv j i (aa1 _) hj (aa1 _) (by lia);have hDn:=(hD0.more O hP (by lia) hn1 hle).turn (p:=0) (q:=n) (by lia) (by lia) eqv;rw [Nat.add_zero] at hDn;refine wpS_bind (dc ?_);obtain ⟨st1,est1⟩:∃ st1,st1=setArr st' (mirror (arrOf st') lo (lo+n) ((lo+n - lo) / 2)):=⟨_,rfl⟩
      have hD1:Dn lt (arrOf st1) lo (n+1):=by rw [est1];exact hDn
      have sA1:SameA st' st1:=by rw [est1];exact ⟨rfl,rfl,rfl⟩
      have kp1:Kp (arrOf st') (arrOf st1) lo:=by rw [est1];exact Kp.mirror (aad _) (by lia)
      rw [← est1];refine wpS_bind (wpS_lift (wpAny_rule ⟨rfl,?_⟩));have hz1:=kp1.size;refine wpS_bind (wpS_mono (wpS_forRange (I:=fun x c st2=>SameA st' st2∧Kp (arrOf st') (arrOf st2) lo∧∃ neq,c=(none,x,neq)∧Dn lt (arrOf st2) lo x∧neq+1≤x∧∀ u v,x - (neq+1)≤u→u < x→x - (neq+1)≤v→v < x→Le lt (vx (arrOf st2) (lo+u)) (vx (arrOf st2) (lo+v)))
        (Q:=fun c st2=>SameA st' st2∧Kp (arrOf st') (arrOf st2) lo∧∃ m neq,c=(none,m,neq)∧n+1≤m∧m≤nrem∧Dn lt (arrOf st2) lo m∧neq+1≤m∧∀ u v,m - (neq+1)≤u→u < m→m - (neq+1)≤v→v < m→Le lt (vx (arrOf st2) (lo+u)) (vx (arrOf st2) (lo+v))) ?step2 ?fin2 ⟨sA1,kp1,0,rfl,hD1,by lia,fun u v a1 a2 a3 a4=>by
          have : u=v:=by lia
          subst this;exact eF O (kp1.all hP _ (a6 (by lia)))⟩) ?post2)
      case fin2 =>
        rintro c st2 ⟨sA,kp,neq,rfl,hD,a1,a2⟩;rw [show max (n+1) nrem=nrem by lia] at hD a1 a2 ⊢;exact ⟨sA,kp,nrem,neq,rfl,hn3,aad _,hD,a1,a2⟩
      case step2 =>
        rintro x c st2 hax hxn ⟨sA,kp,neq,rfl,hD,a1,a2⟩;dsimp only;have hk2:kindOf st2=κ:=sA.kind.trans hk;have hP2:=kp.all hP;have hz2:=kp.size;refine wpS_bind (cE O hk2 hP2 (by lia) (by lia) ?_);dsimp only;by_cases d:lt (vx (arrOf st2) (lo+x)) (vx (arrOf st2) (lo+x - 1))=true
        · rw [if_pos d];have hD2:=hD.more O hP2 (by lia) (by lia) (O.asym (hP2 _ (a6 (by lia))) (hP2 _ (a6 (by lia))) d);by_cases c:neq > 0
          · rw [if_pos c];refine wpS_bind (dc (wpS_pure ⟨⟨sA.pend,sA.kind,sA.fail⟩,?_,0,rfl,?_,by lia,fun u v b1 b2 b3 b4=>?_⟩))
            · rw [show lo+x - (neq+1)=lo+(x - (neq+1)) by lia];exact kp.trans (Kp.mirror (by lia) (by lia))
            · rw [show lo+x - (neq+1)=lo+(x - (neq+1)) by lia];exact hD2.turn (by lia) (by lia) a2
            · have : u=v:=by lia
              subst this;refine eF O ?_;refine (kp.trans (Kp.mirror (lo:=lo) (i:=lo+x - (neq+1)) (j:=lo+x) (by lia) (by lia))).all hP _ (a6 ?_);rw [mirror_size];lia
          · rw [if_neg c];refine wpS_pure ⟨sA,kp,0,rfl,hD2,by lia,fun u v b1 b2 b3 b4=>?_⟩;have : u=v:=by lia
            subst this;exact eF O (hP2 _ (a6 (by lia)))
        · rw [if_neg d];have d:lt (vx (arrOf st2) (lo+x)) (vx (arrOf st2) (lo+x - 1))=false:=by simpa using d
          refine wpS_bind (cE O hk2 hP2 (by lia) (by lia) ?_);dsimp only;by_cases e:lt (vx (arrOf st2) (lo+x - 1)) (vx (arrOf st2) (lo+x))=true
          · rw [if_pos e];exact wpS_pure ⟨sA,kp,x,neq,rfl,hax,by lia,hD,a1,a2⟩
          · rw [if_neg e];have e:lt (vx (arrOf st2) (lo+x - 1)) (vx (arrOf st2) (lo+x))=false:=by simpa using e
            have pv:∀ k,k≤x→P (vx (arrOf st2) (lo+k)):=fun k hk=>hP2 _ (a6 (by lia));have px1:=pv (x - 1) (by lia);rw [show lo+(x - 1)=lo+x - 1 by lia] at px1;refine wpS_pure ⟨sA,kp,neq+1,rfl,hD.more O hP2 (by lia) (by lia) e,by lia,fun u v b1 b2 b3 b4=>?_⟩;have toL:∀ k,x - (neq+1)≤k→k < x→Le lt (vx (arrOf st2) (lo+k)) (vx (arrOf st2) (lo+x - 1))∧Le lt (vx (arrOf st2) (lo+x - 1)) (vx (arrOf st2) (lo+k)):=fun k c1 c2=>by
              have z1:=a2 k (x - 1) c1 c2 (by lia) (by lia);have z2:=a2 (x - 1) k (by lia) (by lia) c1 c2;rw [show lo+(x - 1)=lo+x - 1 by lia] at z1 z2;exact ⟨z1,z2⟩
            by_cases cu:u=x
            · by_cases cv:v=x
              · subst cu;subst cv;exact eF O (pv _ (aad _))
              · rw [cu];exact O.trans (pv _ (aad _)) px1 (pv v (by lia)) e (toL v (by lia) (by lia)).2
            · by_cases cv:v=x
              · rw [cv];exact O.trans (pv u (by lia)) px1 (pv _ (aad _)) (toL u (by lia) (by lia)).1 d
              · exact a2 u v (by lia) (by lia) (by lia) (by lia)
      case post2 =>
        rintro c st2 ⟨sA2,kp2,m,neq,rfl,m1,m2,hD2,a1,a2⟩;dsimp only;have hz2:=kp2.size;by_cases cn:neq > 0
        · rw [if_pos cn];refine wpS_bind (dc ?_);have kp3:=kp2.trans (Kp.mirror (lo:=lo) (i:=lo+(m - (neq+1))) (j:=lo+m) (by lia) (by lia));have hD3:=hD2.turn (p:=m - (neq+1)) (q:=m) (aad _) (by lia) a2;rw [show lo+m - (neq+1)=lo+(m - (neq+1)) by lia];have hz3:=kp3.size;refine wpS_bind (dc ?_);have hU:=Dn.flip hD3 (by rw [hz3];lia);have kpR:=kp3.trans (Kp.mirror (lo:=lo) (i:=lo) (j:=lo+m) (aad _) (by rw [hz3];lia));refine wpS_bind (wpS_mono (wpS_forRange (I:=fun x c st4=>SameA st' st4∧arrOf st4=mirror (mirror (arrOf st2) (lo+(m - (neq+1))) (lo+m) ((lo+m - (lo+(m - (neq+1)))) / 2)) lo (lo+m) ((lo+m - lo) / 2)∧c=(none,x)∧Up lt (mirror (mirror (arrOf st2) (lo+(m - (neq+1))) (lo+m) ((lo+m - (lo+(m - (neq+1)))) / 2)) lo (lo+m) ((lo+m - lo) / 2)) lo x) (Q:=fun c st4=>SameA st' st4∧arrOf st4=mirror (mirror (arrOf st2) (lo+(m - (neq+1))) (lo+m) ((lo+m - (lo+(m - (neq+1)))) / 2)) lo (lo+m) ((lo+m - lo) / 2)∧∃ n',c=(none,n')∧1≤n'∧n'≤nrem∧Up lt (mirror (mirror (arrOf st2) (lo+(m - (neq+1))) (lo+m) ((lo+m - (lo+(m - (neq+1)))) / 2)) lo (lo+m) ((lo+m - lo) / 2)) lo n') ?step3 ?fin3 ⟨⟨sA2.pend,sA2.kind,sA2.fail⟩,rfl,rfl,hU⟩) ?post3)
          case post3 =>
            rintro c st4 ⟨sA4,e4,n',rfl,n1',n2',hU'⟩;exact wpS_pure (q n' st4 sA4 (by rw [e4];exact kpR) n1' n2' (by rw [e4];exact hU'))
          case fin3 =>
            rintro c st4 ⟨sA4,e4,rfl,hU'⟩;rw [show max m nrem=nrem by lia] at hU' ⊢;exact ⟨sA4,e4,nrem,rfl,h1,aad _,hU'⟩
          case step3 =>
            rintro x c st4 hax hxn ⟨sA4,e4,rfl,hU'⟩;dsimp only;have hk4:kindOf st4=κ:=sA4.kind.trans hk;have hP4:∀ x∈(arrOf st4).toList,P x:=by rw [e4];exact kpR.all hP
            have hz4:(arrOf st4).size=(arrOf st').size:=by rw [e4];exact kpR.size
            refine wpS_bind (cE O hk4 hP4 (by lia) (by lia) ?_);dsimp only;by_cases d:lt (vx (arrOf st4) (lo+x)) (vx (arrOf st4) (lo+x - 1))=true
            · rw [if_pos d];exact wpS_pure ⟨sA4,e4,x,rfl,by lia,by lia,hU'⟩
            · rw [if_neg d];have d:lt (vx (arrOf st4) (lo+x)) (vx (arrOf st4) (lo+x - 1))=false:=by simpa using d
              refine wpS_pure ⟨sA4,e4,rfl,?_⟩;rw [← e4] at hU' ⊢;exact hU'.more O hP4 (by lia) (by lia) d
        · rw [if_neg cn];have hz3:=hz2;refine wpS_bind (dc ?_);have hU:=Dn.flip hD2 (by rw [hz3];lia);have kpR:=kp2.trans (Kp.mirror (lo:=lo) (i:=lo) (j:=lo+m) (aad _) (by rw [hz3];lia));refine wpS_bind (wpS_mono (wpS_forRange (I:=fun x c st4=>SameA st' st4∧arrOf st4=mirror (arrOf st2) lo (lo+m) ((lo+m - lo) / 2)∧c=(none,x)∧Up lt (mirror (arrOf st2) lo (lo+m) ((lo+m - lo) / 2)) lo x) (Q:=fun c st4=>SameA st' st4∧arrOf st4=mirror (arrOf st2) lo (lo+m) ((lo+m - lo) / 2)∧∃ n',c=(none,n')∧1≤n'∧n'≤nrem∧Up lt (mirror (arrOf st2) lo (lo+m) ((lo+m - lo) / 2)) lo n') ?step3 ?fin3 ⟨⟨sA2.pend,sA2.kind,sA2.fail⟩,rfl,rfl,hU⟩) ?post3)
          case post3 =>
            rintro c st4 ⟨sA4,e4,n',rfl,n1',n2',hU'⟩;exact wpS_pure (q n' st4 sA4 (by rw [e4];exact kpR) n1' n2' (by rw [e4];exact hU'))
          case fin3 =>
            rintro c st4 ⟨sA4,e4,rfl,hU'⟩;rw [show max m nrem=nrem by lia] at hU' ⊢;exact ⟨sA4,e4,nrem,rfl,h1,aad _,hU'⟩
          case step3 =>
            rintro x c st4 hax hxn ⟨sA4,e4,rfl,hU'⟩;dsimp only;have hk4:kindOf st4=κ:=sA4.kind.trans hk;have hP4:∀ x∈(arrOf st4).toList,P x:=by rw [e4];exact kpR.all hP
            have hz4:(arrOf st4).size=(arrOf st').size:=by rw [e4];exact kpR.size
            refine wpS_bind (cE O hk4 hP4 (by lia) (by lia) ?_);dsimp only;by_cases d:lt (vx (arrOf st4) (lo+x)) (vx (arrOf st4) (lo+x - 1))=true
            · rw [if_pos d];exact wpS_pure ⟨sA4,e4,x,rfl,by lia,by lia,hU'⟩
            · rw [if_neg d];have d:lt (vx (arrOf st4) (lo+x)) (vx (arrOf st4) (lo+x - 1))=false:=by simpa using d
              refine wpS_pure ⟨sA4,e4,rfl,?_⟩;rw [← e4] at hU' ⊢;exact hU'.more O hP4 (by lia) (by lia) d
    · rw [if_neg cg];obtain rfl:n=1:=by lia
      have hD1:Dn lt (arrOf st') lo (1+1):=Dn.more O hP (by lia) (aad _) (fun i j hij hj=>by lia) hle;have sA1:=SameA.refl st';have kp1:=Kp.refl (arrOf st') lo;refine wpS_bind (wpS_lift (wpAny_rule ⟨rfl,?_⟩));have hz1:=kp1.size;refine wpS_bind (wpS_mono (wpS_forRange (I:=fun x c st2=>SameA st' st2∧Kp (arrOf st') (arrOf st2) lo∧∃ neq,c=(none,x,neq)∧Dn lt (arrOf st2) lo x∧neq+1≤x∧∀ u v,x - (neq+1)≤u→u < x→x - (neq+1)≤v→v < x→Le lt (vx (arrOf st2) (lo+u)) (vx (arrOf st2) (lo+v)))
        (Q:=fun c st2=>SameA st' st2∧Kp (arrOf st') (arrOf st2) lo∧∃ m neq,c=(none,m,neq)∧1+1≤m∧m≤nrem∧Dn lt (arrOf st2) lo m∧neq+1≤m∧∀ u v,m - (neq+1)≤u→u < m→m - (neq+1)≤v→v < m→Le lt (vx (arrOf st2) (lo+u)) (vx (arrOf st2) (lo+v))) ?step2 ?fin2 ⟨sA1,kp1,0,rfl,hD1,by lia,fun u v a1 a2 a3 a4=>by
          have : u=v:=by lia
          subst this;exact eF O (kp1.all hP _ (a6 (by lia)))⟩) ?post2)
      case fin2 =>
        rintro c st2 ⟨sA,kp,neq,rfl,hD,a1,a2⟩;rw [show max (1+1) nrem=nrem by lia] at hD a1 a2 ⊢;exact ⟨sA,kp,nrem,neq,rfl,hn3,aad _,hD,a1,a2⟩
      case step2 =>
        rintro x c st2 hax hxn ⟨sA,kp,neq,rfl,hD,a1,a2⟩;dsimp only;have hk2:kindOf st2=κ:=sA.kind.trans hk;have hP2:=kp.all hP;have hz2:=kp.size;refine wpS_bind (cE O hk2 hP2 (by lia) (by lia) ?_);dsimp only;by_cases d:lt (vx (arrOf st2) (lo+x)) (vx (arrOf st2) (lo+x - 1))=true
        · rw [if_pos d];have hD2:=hD.more O hP2 (by lia) (by lia) (O.asym (hP2 _ (a6 (by lia))) (hP2 _ (a6 (by lia))) d);by_cases c:neq > 0
          · rw [if_pos c];refine wpS_bind (dc (wpS_pure ⟨⟨sA.pend,sA.kind,sA.fail⟩,?_,0,rfl,?_,by lia,fun u v b1 b2 b3 b4=>?_⟩))
            · rw [show lo+x - (neq+1)=lo+(x - (neq+1)) by lia];exact kp.trans (Kp.mirror (by lia) (by lia))
            · rw [show lo+x - (neq+1)=lo+(x - (neq+1)) by lia];exact hD2.turn (by lia) (by lia) a2
            · have : u=v:=by lia
              subst this;refine eF O ?_;refine (kp.trans (Kp.mirror (lo:=lo) (i:=lo+x - (neq+1)) (j:=lo+x) (by lia) (by lia))).all hP _ (a6 ?_);rw [mirror_size];lia
          · rw [if_neg c];refine wpS_pure ⟨sA,kp,0,rfl,hD2,by lia,fun u v b1 b2 b3 b4=>?_⟩;have : u=v:=by lia
            subst this;exact eF O (hP2 _ (a6 (by lia)))
        · rw [if_neg d];have d:lt (vx (arrOf st2) (lo+x)) (vx (arrOf st2) (lo+x - 1))=false:=by simpa using d
          refine wpS_bind (cE O hk2 hP2 (by lia) (by lia) ?_);dsimp only;by_cases e:lt (vx (arrOf st2) (lo+x - 1)) (vx (arrOf st2) (lo+x))=true
          · rw [if_pos e];exact wpS_pure ⟨sA,kp,x,neq,rfl,hax,by lia,hD,a1,a2⟩
          · rw [if_neg e];have e:lt (vx (arrOf st2) (lo+x - 1)) (vx (arrOf st2) (lo+x))=false:=by simpa using e
            have pv:∀ k,k≤x→P (vx (arrOf st2) (lo+k)):=fun k hk=>hP2 _ (a6 (by lia));have px1:=pv (x - 1) (by lia);rw [show lo+(x - 1)=lo+x - 1 by lia] at px1;refine wpS_pure ⟨sA,kp,neq+1,rfl,hD.more O hP2 (by lia) (by lia) e,by lia,fun u v b1 b2 b3 b4=>?_⟩;have toL:∀ k,x - (neq+1)≤k→k < x→Le lt (vx (arrOf st2) (lo+k)) (vx (arrOf st2) (lo+x - 1))∧Le lt (vx (arrOf st2) (lo+x - 1)) (vx (arrOf st2) (lo+k)):=fun k c1 c2=>by
              have z1:=a2 k (x - 1) c1 c2 (by lia) (by lia);have z2:=a2 (x - 1) k (by lia) (by lia) c1 c2;rw [show lo+(x - 1)=lo+x - 1 by lia] at z1 z2;exact ⟨z1,z2⟩
            by_cases cu:u=x
            · by_cases cv:v=x
              · subst cu;subst cv;exact eF O (pv _ (aad _))
              · rw [cu];exact O.trans (pv _ (aad _)) px1 (pv v (by lia)) e (toL v (by lia) (by lia)).2
            · by_cases cv:v=x
              · rw [cv];exact O.trans (pv u (by lia)) px1 (pv _ (aad _)) (toL u (by lia) (by lia)).1 d
              · exact a2 u v (by lia) (by lia) (by lia) (by lia)
      case post2 =>
        rintro c st2 ⟨sA2,kp2,m,neq,rfl,m1,m2,hD2,a1,a2⟩;dsimp only;have hz2:=kp2.size;by_cases cn:neq > 0
        · rw [if_pos cn];refine wpS_bind (dc ?_);have kp3:=kp2.trans (Kp.mirror (lo:=lo) (i:=lo+(m - (neq+1))) (j:=lo+m) (by lia) (by lia));have hD3:=hD2.turn (p:=m - (neq+1)) (q:=m) (aad _) (by lia) a2;rw [show lo+m - (neq+1)=lo+(m - (neq+1)) by lia];have hz3:=kp3.size;refine wpS_bind (dc ?_);have hU:=Dn.flip hD3 (by rw [hz3];lia);have kpR:=kp3.trans (Kp.mirror (lo:=lo) (i:=lo) (j:=lo+m) (aad _) (by rw [hz3];lia));refine wpS_bind (wpS_mono (wpS_forRange (I:=fun x c st4=>SameA st' st4∧arrOf st4=mirror (mirror (arrOf st2) (lo+(m - (neq+1))) (lo+m) ((lo+m - (lo+(m - (neq+1)))) / 2)) lo (lo+m) ((lo+m - lo) / 2)∧c=(none,x)∧Up lt (mirror (mirror (arrOf st2) (lo+(m - (neq+1))) (lo+m) ((lo+m - (lo+(m - (neq+1)))) / 2)) lo (lo+m) ((lo+m - lo) / 2)) lo x) (Q:=fun c st4=>SameA st' st4∧arrOf st4=mirror (mirror (arrOf st2) (lo+(m - (neq+1))) (lo+m) ((lo+m - (lo+(m - (neq+1)))) / 2)) lo (lo+m) ((lo+m - lo) / 2)∧∃ n',c=(none,n')∧1≤n'∧n'≤nrem∧Up lt (mirror (mirror (arrOf st2) (lo+(m - (neq+1))) (lo+m) ((lo+m - (lo+(m - (neq+1)))) / 2)) lo (lo+m) ((lo+m - lo) / 2)) lo n') ?step3 ?fin3 ⟨⟨sA2.pend,sA2.kind,sA2.fail⟩,rfl,rfl,hU⟩) ?post3)
          case post3 =>
            rintro c st4 ⟨sA4,e4,n',rfl,n1',n2',hU'⟩;exact wpS_pure (q n' st4 sA4 (by rw [e4];exact kpR) n1' n2' (by rw [e4];exact hU'))
          case fin3 =>
            rintro c st4 ⟨sA4,e4,rfl,hU'⟩;rw [show max m nrem=nrem by lia] at hU' ⊢;exact ⟨sA4,e4,nrem,rfl,h1,aad _,hU'⟩
          case step3 =>
            rintro x c st4 hax hxn ⟨sA4,e4,rfl,hU'⟩;dsimp only;have hk4:kindOf st4=κ:=sA4.kind.trans hk;have hP4:∀ x∈(arrOf st4).toList,P x:=by rw [e4];exact kpR.all hP
            have hz4:(arrOf st4).size=(arrOf st').size:=by rw [e4];exact kpR.size
            refine wpS_bind (cE O hk4 hP4 (by lia) (by lia) ?_);dsimp only;by_cases d:lt (vx (arrOf st4) (lo+x)) (vx (arrOf st4) (lo+x - 1))=true
            · rw [if_pos d];exact wpS_pure ⟨sA4,e4,x,rfl,by lia,by lia,hU'⟩
            · rw [if_neg d];have d:lt (vx (arrOf st4) (lo+x)) (vx (arrOf st4) (lo+x - 1))=false:=by simpa using d
              refine wpS_pure ⟨sA4,e4,rfl,?_⟩;rw [← e4] at hU' ⊢;exact hU'.more O hP4 (by lia) (by lia) d
        · rw [if_neg cn];have hz3:=hz2;refine wpS_bind (dc ?_);have hU:=Dn.flip hD2 (by rw [hz3];lia);have kpR:=kp2.trans (Kp.mirror (lo:=lo) (i:=lo) (j:=lo+m) (aad _) (by rw [hz3];lia));refine wpS_bind (wpS_mono (wpS_forRange (I:=fun x c st4=>SameA st' st4∧arrOf st4=mirror (arrOf st2) lo (lo+m) ((lo+m - lo) / 2)∧c=(none,x)∧Up lt (mirror (arrOf st2) lo (lo+m) ((lo+m - lo) / 2)) lo x) (Q:=fun c st4=>SameA st' st4∧arrOf st4=mirror (arrOf st2) lo (lo+m) ((lo+m - lo) / 2)∧∃ n',c=(none,n')∧1≤n'∧n'≤nrem∧Up lt (mirror (arrOf st2) lo (lo+m) ((lo+m - lo) / 2)) lo n') ?step3 ?fin3 ⟨⟨sA2.pend,sA2.kind,sA2.fail⟩,rfl,rfl,hU⟩) ?post3)
          case post3 =>
            rintro c st4 ⟨sA4,e4,n',rfl,n1',n2',hU'⟩;exact wpS_pure (q n' st4 sA4 (by rw [e4];exact kpR) n1' n2' (by rw [e4];exact hU'))
          case fin3 =>
            rintro c st4 ⟨sA4,e4,rfl,hU'⟩;rw [show max m nrem=nrem by lia] at hU' ⊢;exact ⟨sA4,e4,nrem,rfl,h1,aad _,hU'⟩
          case step3 =>
            rintro x c st4 hax hxn ⟨sA4,e4,rfl,hU'⟩;dsimp only;have hk4:kindOf st4=κ:=sA4.kind.trans hk;have hP4:∀ x∈(arrOf st4).toList,P x:=by rw [e4];exact kpR.all hP
            have hz4:(arrOf st4).size=(arrOf st').size:=by rw [e4];exact kpR.size
            refine wpS_bind (cE O hk4 hP4 (by lia) (by lia) ?_);dsimp only;by_cases d:lt (vx (arrOf st4) (lo+x)) (vx (arrOf st4) (lo+x - 1))=true
            · rw [if_pos d];exact wpS_pure ⟨sA4,e4,x,rfl,by lia,by lia,hU'⟩
            · rw [if_neg d];have d:lt (vx (arrOf st4) (lo+x)) (vx (arrOf st4) (lo+x - 1))=false:=by simpa using d
              refine wpS_pure ⟨sA4,e4,rfl,?_⟩;rw [← e4] at hU' ⊢;exact hU'.more O hP4 (by lia) (by lia) d
end
end Tim
namespace Tim
open PySem PyProof.Rows
section
variable {M:Model} {A:Around} {E:Value→Shared→Prop} {s:Shared} {κ:SortKind} {P:Keyed→Prop} {lt:Keyed→Keyed→Bool}
theorem oS (O:Ord M A E s κ P lt) {st:SortSt} {lo n ok:Nat} {Q:Bool→SortSt→Prop} (hk:kindOf st=κ) (hP:∀ x∈(arrOf st).toList,P x) (hsz:lo+n≤(arrOf st).size) (hok:ok≤n) (hs:Up lt (arrOf st) lo ok)
    (q:∀ st',SameA st st'→Kp (arrOf st) (arrOf st') lo→Up lt (arrOf st') lo n→Q true st'):wpS M A E s (binarySort' lo n ok) Q st:=by
  refine wpS_bind (wpS_mono (wpS_forRange (I:=fun k c st'=>c=(none,())∧SameA st st'∧Kp (arrOf st) (arrOf st') lo∧Up lt (arrOf st') lo (min k n))
    (Q:=fun c st'=>c=(none,())∧SameA st st'∧Kp (arrOf st) (arrOf st') lo∧Up lt (arrOf st') lo n) ?step ?fin ?init) ?post)
  case post =>
    rintro c st' ⟨rfl,sA,kp,hs'⟩;exact wpS_pure (q st' sA kp hs')
  case init =>
    refine ⟨rfl,SameA.refl _,Kp.refl _ _,fun i j hij hj=>?_⟩;exact hs i j hij (by lia)
  case fin =>
    rintro c st' ⟨hc,sA,kp,hs'⟩;refine ⟨hc,sA,kp,?_⟩
    rwa [show min (max (max ok 1) n) n=n by lia] at hs'
  case step =>
    rintro k c st' hak hkn ⟨rfl,sA,kp,hs'⟩;rw [show min k n=k by lia] at hs';have hk':kindOf st'=κ:=sA.kind.trans hk;have hP':=kp.all hP;have hz:=kp.size;have pv:∀ i,i≤k→P (vx (arrOf st') (lo+i)):=fun i hi=>hP' _ (a6 (by lia));refine wpS_bind (wpS_mono (wpS_forRange (I:=fun x c st''=>st''=st'∧∃ l r,c=(none,l,r)∧l≤r∧r≤k∧r - l≤k - x ∧
        (∀ i,i < l→Le lt (vx (arrOf st') (lo+i)) (vx (arrOf st') (lo+k)))∧(∀ i,r≤i→i < k→Le lt (vx (arrOf st') (lo+k)) (vx (arrOf st') (lo+i))))
      (Q:=fun c st''=>st''=st'∧∃ l r,c=(none,l,r)∧l≤k ∧
        (∀ i,i < l→Le lt (vx (arrOf st') (lo+i)) (vx (arrOf st') (lo+k)))∧(∀ i,l≤i→i < k→Le lt (vx (arrOf st') (lo+k)) (vx (arrOf st') (lo+i)))) ?istep ?ifin ?iinit) ?ipost)
    case iinit=>exact ⟨rfl,0,k,rfl,by lia,by lia,by lia,fun i hi=>by lia,fun i h1 h2=>by lia⟩
    case ifin =>
      rintro c st'' ⟨rfl,l,r,rfl,hlr,hrk,hm,hlo,hhi⟩;have : l=r:=by lia
      subst this;exact ⟨rfl,l,l,rfl,hrk,hlo,hhi⟩
    case istep =>
      rintro x c st'' _ hxk ⟨rfl,l,r,rfl,hlr,hrk,hm,hlo,hhi⟩;dsimp only;by_cases hge:l ≥ r
      · rw [if_pos hge];have : l=r:=by lia
        subst this;exact wpS_pure ⟨rfl,l,l,rfl,hrk,hlo,hhi⟩
      · rw [if_neg hge];refine wpS_bind (cE O hk' hP' (by lia) (by lia) ?_);dsimp only;have pm:=pv ((l+r) / 2) (by lia);by_cases d:lt (vx (arrOf st'') (lo+k)) (vx (arrOf st'') (lo+(l+r) / 2))=true
        · rw [if_pos d];have d':=O.asym (pv k (aad _)) pm d;refine wpS_pure ⟨rfl,l,(l+r) / 2,rfl,by lia,by lia,by lia,hlo,fun i h1 h2=>?_⟩;by_cases c:i=(l+r) / 2
          · rw [c];exact d'
          · exact O.trans (pv k (aad _)) pm (pv i (by lia)) d' (hs' _ _ (by lia) h2)
        · rw [if_neg d];have d:lt (vx (arrOf st'') (lo+k)) (vx (arrOf st'') (lo+(l+r) / 2))=false:=by simpa using d
          refine wpS_pure ⟨rfl,(l+r) / 2+1,r,rfl,by lia,by lia,by lia,fun i h1=>?_,hhi⟩;by_cases c:i=(l+r) / 2
          · rw [c];exact d
          · exact O.trans (pv i (by lia)) pm (pv k (aad _)) (hs' _ _ (by lia) (by lia)) d
    case ipost =>
      rintro c st'' ⟨rfl,l,r,rfl,hlk,hlo,hhi⟩;show wpS _ _ _ _ (do moveDown' (lo+k) (lo+l);pure (ForInStep.yield (none,()))) _ _;rw [moveDown'_eq];have hks:lo+k < (arrOf st'').size:=by lia
      refine wpS_bind (wpS_modify (wpS_pure ⟨rfl,⟨sA.pend,sA.kind,sA.fail⟩,kp.trans (Kp.bubble hks (by lia) (by lia)),?_⟩));rw [show min (k+1) n=k+1 by lia];intro i j hij hj;show Le lt (vx (bubble (arrOf st'') (lo+k) (lo+k - (lo+l))) (lo+i)) (vx (bubble (arrOf st'') (lo+k) (lo+k - (lo+l))) (lo+j));rw [je hks (by lia),je hks (by lia),show lo+k - (lo+k - (lo+l))=lo+l by lia];by_cases ci:lo+i=lo+l
      · rw [if_pos ci,if_neg (by lia),if_pos (by lia),show lo+j - 1=lo+(j - 1) by lia];exact hhi _ (by lia) (by lia)
      · rw [if_neg ci];by_cases cj:lo+j=lo+l
        · rw [if_pos cj,if_neg (by lia)];exact hlo _ (by lia)
        · rw [if_neg cj];by_cases c1:lo+l < lo+i∧lo+i≤lo+k
          · rw [if_pos c1,if_pos (by lia),show lo+i - 1=lo+(i - 1) by lia,show lo+j - 1=lo+(j - 1) by lia];exact hs' _ _ (by lia) (by lia)
          · rw [if_neg c1];by_cases c2:lo+l < lo+j∧lo+j≤lo+k
            · rw [if_pos c2,show lo+j - 1=lo+(j - 1) by lia];exact hs' _ _ (by lia) (by lia)
            · rw [if_neg c2];exact hs' _ _ hij (by lia)
end
def Runs (lt:Keyed→Keyed→Bool) (a:Array Keyed):List (Nat × Nat × Nat)→Nat→Nat→Prop
  | [],f,t=>f=t
  | (s,n,_) :: r,f,t=>s=f∧1≤n∧Up lt a s n∧Runs lt a r (s+n) t
section
variable {lt:Keyed→Keyed→Bool} {a a':Array Keyed}
theorem Runs.le:∀ {l:List (Nat × Nat × Nat)} {f t:Nat},Runs lt a l f t→f+l.length≤t
  | [],f,t,h=>by have : f=t:=h;simp;lia
  | (s,n,p) :: r,f,t,h=>by
    obtain ⟨rfl,h1,_,h2⟩:=h;have:=Runs.le h2;simp only [aaO];lia
theorem Runs.app:∀ {l1 l2:List (Nat × Nat × Nat)} {f t:Nat},Runs lt a (l1++l2) f t↔∃ m,Runs lt a l1 f m∧Runs lt a l2 m t
  | [],l2,f,t=>⟨fun h=>⟨f,rfl,h⟩,fun ⟨m,e,h⟩=>by have e:f=m:=e;subst e;exact h⟩
  | (s,n,p) :: r,l2,f,t=>by
    show (s=f∧1≤n∧Up lt a s n∧Runs lt a (r++l2) (s+n) t)↔_;rw [Runs.app];constructor
    · rintro ⟨e,h1,h2,m,h3,h4⟩;exact ⟨m,⟨e,h1,h2,h3⟩,h4⟩
    · rintro ⟨m,⟨e,h1,h2,h3⟩,h4⟩;exact ⟨e,h1,h2,m,h3,h4⟩
theorem Up.keep {s n:Nat} (h:Up lt a s n) (e:∀ k,s≤k→k < s+n→a'[k]?=a[k]?):Up lt a' s n:=fun i j hij hj=>by
  rw [dk (e (s+i) (by lia) (by lia)),dk (e (s+j) (by lia) (by lia))];exact h i j hij hj
theorem Runs.keep:∀ {l:List (Nat × Nat × Nat)} {f t:Nat},Runs lt a l f t→(∀ k,f≤k→k < t→a'[k]?=a[k]?)→Runs lt a' l f t
  | [],f,t,h,_=>h
  | (s,n,p) :: r,f,t,h,e=>by
    obtain ⟨rfl,h1,h2,h3⟩:=h;have:=h3.le;exact ⟨rfl,h1,h2.keep fun k a b=>e k a (by lia),Runs.keep h3 fun k a b=>e k (by lia) b⟩
theorem Runs.mod {g:Nat × Nat × Nat→Nat × Nat × Nat} (hg:∀ x,(g x).1=x.1∧(g x).2.1=x.2.1):∀ {l:List (Nat × Nat × Nat)} {f t k:Nat},Runs lt a l f t→Runs lt a (l.modify k g) f t
  | [],f,t,k,h=>by simpa using h
  | (s,n,p) :: r,f,t,0,h=>by
    rw [List.modify_zero_cons];obtain ⟨h1,h2⟩:=hg (s,n,p);have e:g (s,n,p)=(s,n,(g (s,n,p)).2.2):=Prod.ext h1 (Prod.ext h2 rfl);rw [e];exact h
  | (s,n,p) :: r,f,t,k+1,h=>by
    rw [List.modify_succ_cons];obtain ⟨e,h1,h2,h3⟩:=h;exact ⟨e,h1,h2,Runs.mod hg h3⟩
theorem jx {s n:Nat} (hn:s+n≤a.size):Up lt a s n↔(seg a.toList s n).Pairwise (Le lt):=by
  have len:(seg a.toList s n).length=n:=seg_len (by rw [aam];exact hn);have at_:∀ i (hi:i < n),(seg a.toList s n)[i]'(by lia)=vx a (s+i):=fun i hi=>by
    have h1:=gf (L:=a.toList) (s:=s) (n:=n) hi;rw [ak (mL (a:=a) (i:=s+i) (by lia)),aaf (by lia)] at h1;exact aaN h1
  rw [List.pairwise_iff_getElem];constructor
  · intro h i j hi hj hij;rw [at_ i (by lia),at_ j (by lia)];exact h i j hij (by lia)
  · intro h i j hij hj;have:=h i j (by lia) (by lia) hij;rw [at_ i (by lia),at_ j hj] at this;exact this
theorem Mrgd.use {L:List Keyed} {s n:Nat} (h:Mrgd lt a.toList a'.toList s n) (hn:s+n≤a.size):a'.Perm a∧Up lt a' s n∧∀ k,(k < s∨s+n≤k)→a'[k]?=a[k]?:=by
  obtain ⟨R,hp,hs,e⟩:=h.ex;have lenA:a.toList.length=a.size:=aam;have lR:R.length=n:=by rw [hp.length_eq,seg_len (by lia)]
  have lT:(a.toList.take s).length=s:=by rw [aaV];lia
  have pm:a'.toList.Perm a.toList:=by
    rw [e];have:=o6 a.toList s n
    conv=>rhs;rw [this]
    exact ab4 _ (ab7 _ hp)
  have pm':a'.Perm a:=Array.perm_iff_toList_perm.mpr pm;have sz:a'.size=a.size:=pm'.size_eq;refine ⟨pm',?_,fun k hk=>?_⟩
  · rw [jx (by lia)];have : seg a'.toList s n=R:=by
      unfold seg;rw [e,aaB,List.drop_left' lT,List.take_left' lR]
    rw [this];exact hs
  · rw [← aaS,← aaS,e];rcases hk with hk|hk
    · rw [aaB,acf (by lia),ack hk]
    · rw [abv (by rw [aax];lia),aax,lT,lR,acq];congr 1;lia
end
end Tim
namespace Tim
open PySem PyProof.Rows
structure SI (κ:SortKind) (lt:Keyed→Keyed→Bool) (a₀:Array Keyed) (st:SortSt) (lo:Nat):Prop where
  kind:kindOf st=κ
  fail:failedOf st=none
  perm:(arrOf st).Perm a₀
  runs:Runs lt (arrOf st) (pendingOf st).toList 0 lo
  le:lo≤a₀.size
theorem SI.size {κ:SortKind} {lt:Keyed→Keyed→Bool} {a₀:Array Keyed} {st:SortSt} {lo:Nat} (h:SI κ lt a₀ st lo):(arrOf st).size=a₀.size:=h.perm.size_eq
theorem nX {α:Type} (l1 l2:List α) (p q x:α):((l1++p :: q :: l2).set l1.length x).eraseIdx (l1.length+1)=l1++x :: l2:=by
  rw [List.set_append_right _ _ (aad _),Nat.sub_self,List.set_cons_zero,List.eraseIdx_append_of_length_le (by lia),show l1.length+1 - l1.length=1 by lia];rfl
theorem nV {α:Type} {l:List α} {i:Nat} (h:i+1 < l.length):∃ l1 p q l2,l=l1++p :: q :: l2∧l1.length=i:=by
  refine ⟨l.take i,l[i],l[i+1],l.drop (i+2),?_,by rw [aaV];lia⟩;have e1:=aa5 (l:=l) (i:=i) (by lia);have e2:=aa5 (l:=l) (i:=i+1) h;rw [← e2,← e1,aa2]
section
variable {M:Model} {A:Around} {E:Value→Shared→Prop} {s:Shared} {κ:SortKind} {P:Keyed→Prop} {lt:Keyed→Keyed→Bool} {a₀:Array Keyed}
theorem fN {σ α:Type} {c:Prop} [Decidable c] {x y:StateT σ Sem α} {Q:α→σ→Prop} {st:σ} (h1:c→wpS M A E s x Q st) (h2:¬ c→wpS M A E s y Q st):wpS M A E s (if c then x else y) Q st:=by
  by_cases h:c
  · rw [if_pos h];exact h1 h
  · rw [if_neg h];exact h2 h
theorem SI.all {st:SortSt} {lo:Nat} (h:SI κ lt a₀ st lo) (hP:∀ x∈a₀.toList,P x):∀ x∈(arrOf st).toList,P x:=fun x hx=>hP x ((Array.perm_iff_toList_perm.mp h.perm).mem_iff.mp hx)
theorem dX (O:Ord M A E s κ P lt) (hP:∀ x∈a₀.toList,P x) {st:SortSt} {lo i:Nat} {Q:Bool→SortSt→Prop} (h:SI κ lt a₀ st lo) (hi:i+1 < (pendingOf st).size)
    (q:∀ st',SI κ lt a₀ st' lo→(∀ k,lo≤k→(arrOf st')[k]?=(arrOf st)[k]?)→(pendingOf st').size+1=(pendingOf st).size→Q true st'):wpS M A E s (mergeAt' i) Q st:=by
  obtain ⟨l1,⟨sa,na,pw⟩,⟨sb,nb,pw2⟩,l2,el,hl1⟩:=nV (l:=(pendingOf st).toList) (i:=i) (by rw [aam];exact hi);have hr:=h.runs;rw [el] at hr;obtain ⟨m,hr1,⟨rfl,n1,u1,rfl,n2,u2,hr2⟩⟩:=Runs.app.mp hr;have g1:(pendingOf st)[i]?=some (sa,na,pw):=by
    rw [← aaS,el,abv (by lia),hl1,Nat.sub_self];rfl
  have g2:(pendingOf st)[i+1]?=some (sa+na,nb,pw2):=by
    rw [← aaS,el,abv (by lia),hl1,show i+1 - i=1 by lia];rfl
  have t1:=hr1.le;have t2:=hr2.le;have hsz:=h.size;have hle:=h.le;have hall:=h.all hP;refine j8 O h.kind h.fail hall g1 g2 rfl n1 n2 (by lia) ((jx (by lia)).mp u1) ((jx (by lia)).mp u2) fun st' k' f' p' mr=>?_;obtain ⟨pm,up,low⟩:=mr.use (L:=[]) (by lia);have ep:(pendingOf st').toList=l1++(sa,na+nb,pw) :: l2:=by
    rw [p',Array.toList_eraseIdxIfInBounds,Array.toList_setIfInBounds,el,← hl1];exact nX _ _ _ _ _
  refine q st' ⟨k',f',pm.trans h.perm,?_,hle⟩ (fun k hk=>low k (.inr (by lia))) ?_
  · rw [ep];refine Runs.app.mpr ⟨sa,hr1.keep fun k _ hk=>low k (.inl hk),rfl,by lia,up,?_⟩;rw [← Nat.add_assoc];exact hr2.keep fun k hk _=>low k (.inr (by lia))
  · rw [← aam,← aam,ep,el];simp
    lia
theorem iU (O:Ord M A E s κ P lt) (hP:∀ x∈a₀.toList,P x) {st:SortSt} {Q:Unit→SortSt→Prop} (hk:kindOf st=κ) (hf:failedOf st=none) (hp:pendingOf st=#[]) (ha:arrOf st=a₀) (h2:2≤a₀.size)
    (q:∀ st',(arrOf st').Perm a₀→failedOf st'=none→(arrOf st').toList.Pairwise (Le lt)→Q () st'):wpS M A E s sortRuns' Q st:=by
  have s0:SI κ lt a₀ st 0:=⟨hk,hf,by rw [ha],by rw [hp];exact rfl,aa1 _⟩
  refine wpS_bind (wpS_get ?_);dsimp only;have hsz0:(arrOf st).size=a₀.size:=by rw [ha]
  generalize hN:(arrOf st).size=N at hsz0;refine wpS_bind (wpS_mono (wpS_forRange (I:=fun x c st'=>∃ lo,c=(none,lo)∧SI κ lt a₀ st' lo∧x≤lo) (Q:=fun c st'=>∃ lo,c=(none,lo)∧SI κ lt a₀ st' lo∧N≤lo) ?step ?fin ⟨0,rfl,s0,aad _⟩) ?post)
  case fin =>
    rintro c st' ⟨lo,rfl,S,hx⟩;exact ⟨lo,rfl,S,by lia⟩
  case step =>
    rintro x c st1 _ hxn ⟨lo,rfl,S1,hx⟩;dsimp only;refine fN (fun ge=>wpS_pure ⟨lo,rfl,S1,ge⟩) fun ge=>?_;have hz1:=S1.size;refine wpS_bind (iV O S1.kind (S1.all hP) (by lia) (by lia) fun m st2 sA kp m1 m2 hU0=>?_);dsimp only;have S2:SI κ lt a₀ st2 lo:=⟨sA.kind.trans S1.kind,sA.fail.trans S1.fail,kp.perm.trans S1.perm,by rw [sA.pend];exact S1.runs.keep fun k _ hk=>kp.low k hk,S1.le⟩
    have hz2:=S2.size;refine fN (fun cm=>?_) fun cm=>?_
    · refine wpS_bind (wpS_lift (wpAny_rule ⟨rfl,?_⟩));refine wpS_bind (oS O S2.kind (S2.all hP) (by lia) (by lia) hU0 fun st3 sA3 kp3 hU3=>?_);simp only [acF,aaU,if_false];have S3:SI κ lt a₀ st3 lo:=⟨sA3.kind.trans S2.kind,sA3.fail.trans S2.fail,kp3.perm.trans S2.perm,by rw [sA3.pend];exact S2.runs.keep fun k _ hk=>kp3.low k hk,S2.le⟩
      clear S2 hU0;rename_i hS2;have S2:=S3;generalize hfo:min (N - lo) _=fo at hU3 ⊢;have hn1:1≤fo:=by lia
      have hn2:lo+fo≤N:=by lia
      have hU:=hU3;refine wpS_bind (wpS_get ?_);have push:∀ (st3:SortSt),SI κ lt a₀ st3 lo→Up lt (arrOf st3) lo (fo)→SI κ lt a₀ (SortSt.mk' (kindOf st3) (arrOf st3) ((pendingOf st3).push (lo,fo,0)) (gallopOf st3) (failedOf st3)) (lo+(fo)):=fun st3 h3 u3=>⟨h3.kind,h3.fail,h3.perm,by
        show Runs lt (arrOf st3) ((pendingOf st3).push (lo,fo,0)).toList 0 (lo+(fo));rw [aat];exact Runs.app.mpr ⟨lo,h3.runs,rfl,hn1,u3,rfl⟩,by lia⟩
      cases hb:(pendingOf st3).back? with
      | none =>
        dsimp only;exact wpS_bind (wpS_modify (wpS_pure ⟨_,rfl,push st3 S2 hU,by lia⟩))
      | some pb =>
        obtain ⟨s1,n1,p1⟩:=pb;dsimp only;refine wpS_bind (wpS_mono (wpS_forRange (I:=fun _ c st3=>c=(none,())∧SI κ lt a₀ st3 lo∧Up lt (arrOf st3) lo (fo)) (Q:=fun c st3=>c=(none,())∧SI κ lt a₀ st3 lo∧Up lt (arrOf st3) lo (fo)) ?ms ?mf ⟨rfl,S2,hU⟩) ?mp)
        case mf=>exact fun c st3 h=>h
        case ms =>
          rintro y c st3 _ _ ⟨rfl,S3,u3⟩;refine wpS_bind (wpS_get ?_);by_cases cs:(pendingOf st3).size > 1
          · have hv:(pendingOf st3)[(pendingOf st3).size - 2]?=some ((pendingOf st3)[(pendingOf st3).size - 2]'(by lia)):=getElem?_pos (pendingOf st3) ((pendingOf st3).size - 2) (by lia);rw [if_pos cs,hv];generalize (pendingOf st3)[(pendingOf st3).size - 2]'(by lia)=v;obtain ⟨x1,x2,older⟩:=v;dsimp only;refine fN (fun _=>wpS_pure ⟨rfl,S3,u3⟩) fun _=>wpS_bind (dX O hP S3 (i:=(pendingOf st3).size - 2) (by lia) fun st4 S4 low4 _=>?_);simp only [acF,aaU,if_false];exact wpS_pure ⟨rfl,S4,u3.keep fun k a b=>low4 k a⟩
          · rw [if_neg cs];exact wpS_pure ⟨rfl,S3,u3⟩
        case mp =>
          rintro c st3 ⟨rfl,S3,u3⟩;dsimp only;refine wpS_bind (wpS_modify (wpS_bind (wpS_modify (wpS_pure ⟨_,rfl,push _ ⟨S3.kind,S3.fail,S3.perm,?_,S3.le⟩ u3,by lia⟩))));show Runs lt (arrOf st3) (Array.modify (pendingOf st3) _ _).toList 0 lo;rw [Array.toList_modify];refine Runs.mod ?_ S3.runs;intro x;exact ⟨rfl,rfl⟩
    · have hU:=hU0;have hn1:=m1;have hn2:lo+m≤N:=by lia
      refine wpS_bind (wpS_get ?_);have push:∀ (st3:SortSt),SI κ lt a₀ st3 lo→Up lt (arrOf st3) lo (m)→SI κ lt a₀ (SortSt.mk' (kindOf st3) (arrOf st3) ((pendingOf st3).push (lo,m,0)) (gallopOf st3) (failedOf st3)) (lo+(m)):=fun st3 h3 u3=>⟨h3.kind,h3.fail,h3.perm,by
        show Runs lt (arrOf st3) ((pendingOf st3).push (lo,m,0)).toList 0 (lo+(m));rw [aat];exact Runs.app.mpr ⟨lo,h3.runs,rfl,hn1,u3,rfl⟩,by lia⟩
      cases hb:(pendingOf st2).back? with
      | none =>
        dsimp only;exact wpS_bind (wpS_modify (wpS_pure ⟨_,rfl,push st2 S2 hU,by lia⟩))
      | some pb =>
        obtain ⟨s1,n1,p1⟩:=pb;dsimp only;refine wpS_bind (wpS_mono (wpS_forRange (I:=fun _ c st3=>c=(none,())∧SI κ lt a₀ st3 lo∧Up lt (arrOf st3) lo (m)) (Q:=fun c st3=>c=(none,())∧SI κ lt a₀ st3 lo∧Up lt (arrOf st3) lo (m)) ?ms ?mf ⟨rfl,S2,hU⟩) ?mp)
        case mf=>exact fun c st3 h=>h
        case ms =>
          rintro y c st3 _ _ ⟨rfl,S3,u3⟩;refine wpS_bind (wpS_get ?_);by_cases cs:(pendingOf st3).size > 1
          · have hv:(pendingOf st3)[(pendingOf st3).size - 2]?=some ((pendingOf st3)[(pendingOf st3).size - 2]'(by lia)):=getElem?_pos (pendingOf st3) ((pendingOf st3).size - 2) (by lia);rw [if_pos cs,hv];generalize (pendingOf st3)[(pendingOf st3).size - 2]'(by lia)=v;obtain ⟨x1,x2,older⟩:=v;dsimp only;refine fN (fun _=>wpS_pure ⟨rfl,S3,u3⟩) fun _=>wpS_bind (dX O hP S3 (i:=(pendingOf st3).size - 2) (by lia) fun st4 S4 low4 _=>?_);simp only [acF,aaU,if_false];exact wpS_pure ⟨rfl,S4,u3.keep fun k a b=>low4 k a⟩
          · rw [if_neg cs];exact wpS_pure ⟨rfl,S3,u3⟩
        case mp =>
          rintro c st3 ⟨rfl,S3,u3⟩;dsimp only;refine wpS_bind (wpS_modify (wpS_bind (wpS_modify (wpS_pure ⟨_,rfl,push _ ⟨S3.kind,S3.fail,S3.perm,?_,S3.le⟩ u3,by lia⟩))));show Runs lt (arrOf st3) (Array.modify (pendingOf st3) _ _).toList 0 lo;rw [Array.toList_modify];refine Runs.mod ?_ S3.runs;intro x;exact ⟨rfl,rfl⟩
  case post =>
    rintro c st1 ⟨lo,rfl,S1,hlo⟩;dsimp only;have hle:=S1.le;obtain rfl:lo=N:=by lia
    have hrl:=S1.runs.le;rw [aam] at hrl;refine wpS_bind (wpS_mono (wpS_forRange (I:=fun x c st'=>c=(none,())∧SI κ lt a₀ st' lo∧(pendingOf st').size+x≤lo) (Q:=fun c st'=>c=(none,())∧SI κ lt a₀ st' lo∧(pendingOf st').size≤1) ?fs ?ff ⟨rfl,S1,by lia⟩) ?fp)
    case ff =>
      rintro c st' ⟨rfl,S,hx⟩;exact ⟨rfl,S,by lia⟩
    case fs =>
      rintro x c st' _ hx ⟨rfl,S,hx2⟩;refine wpS_bind (wpS_get ?_);refine fN (fun c=>wpS_pure ⟨rfl,S,c⟩) fun c=>?_;have c:¬ (pendingOf st').size≤1:=c;refine wpS_bind (dX O hP S ?_ fun st4 S4 low4 sz4=>?_)
      · have key:∀ (b:Prop) [Decidable b],(if b then (pendingOf st').size - 2 - 1 else (pendingOf st').size - 2)+1 < (pendingOf st').size:=fun b _=>by split <;> lia
        exact key _
      · simp only [acF,aaU,if_false];exact wpS_pure ⟨rfl,S4,by lia⟩
    case fp =>
      rintro c st' ⟨rfl,S,h1⟩;refine wpS_pure (q st' S.perm S.fail ?_);have hr:=S.runs;have hl:(pendingOf st').toList.length≤1:=by rw [aam];exact h1
      have hz:=S.size
      match hh:(pendingOf st').toList,hl,hr with
      | [],_,hr=>have : 0=lo:=hr;lia
      | [(s',n,p)],_,hr =>
        obtain ⟨rfl,_,hu,e⟩:=hr;have e:0+n=lo:=e;have hu:=(jx (by lia)).mp hu;have : seg (arrOf st').toList 0 n=(arrOf st').toList:=by
          unfold seg;rw [List.drop_zero,abh (by rw [aam];lia)]
        rw [this] at hu;exact hu
end
end Tim
namespace Tim
open PySem PyProof.Rows
def isI (x:Keyed):Prop:=∃ n t,x.1=.int n t
def ltI (x y:Keyed):Bool:=decide (numOf x.1 < numOf y.1)
theorem leI {x y:Keyed}:Le ltI x y↔numOf x.1≤numOf y.1:=by
  unfold Le ltI;rw [decide_eq_false_iff_not];lia
section
variable {prog:Program} {w:World} {A:Around} {E:Value→Shared→Prop} {s:Shared}
theorem uO:Ord (model prog w) A E s oneType' isI ltI where
  ask:=by
    rintro ⟨_,p⟩ ⟨_,q⟩ st Q ⟨a,t,rfl⟩ ⟨b,u,rfl⟩ hk h;rw [lt'_eq];refine wpS_bind (wpS_get ?_);rw [hk,keyLt'_oneType];exact wpS_bind (wpS_lift (wpAny_attempt (oneLt_int ⟨rfl,wpS_pure h⟩)))
  asym:=fun {x y} _ _ h=>by
    unfold ltI at *;rw [decide_eq_true_eq] at h;rw [decide_eq_false_iff_not];lia
  trans:=fun {x y z} _ _ _ h1 h2=>by
    unfold ltI at *;rw [decide_eq_false_iff_not] at *;lia
theorem sort_ints_any {a:Addr} {vs:List Value} {ns:List Int} {n:Nat} {P:PySem.Fin→Shared→Prop} (ho:s.heap.get? a=some (seqObj "list" vs.toArray n)) (hI:IntsAre vs ns) (hz:vs.length≤sizeLine)
    (h:∀ (out:Array Value) (ns':List Int),IntsAre out.toList ns'→ns'.Perm ns→ns'.Pairwise (·≤·)→P (.done (.ret .none)) { s with heap:=sortedHeap s.heap a vs out }) :
    wpAny (model prog w) A (Builtin.«list.sort» ⟨[.ref a],[]⟩) P E s:=by
  by_cases h64:vs.length < 64
  · exact list_sort_tree ho hI h64 h
  obtain ⟨v1,v2,bx,ev⟩:∃ v1 v2 bx,vs=v1 :: v2 :: bx:=by
    cases vs with
    | nil=>simp at h64
    | cons v1 t =>
      cases t with
      | nil=>simp at h64
      | cons v2 bx=>exact ⟨v1,v2,bx,rfl⟩
  have la:a < s.heap.objs.size:=aag ho;have sz:vs.toArray.size=vs.length:=by simp
  rw [list_sort_plain];refine wpAny_bind (listItems_at ho rfl (wpAny_bind (listUpdate_at ho rfl ?_ (by rw [sz];exact hz) (by show (#[]:Array Value).size≤_;simp))));obtain ⟨ep,h1⟩:∃ ep,(s.heap.update a (aaR fun _=>#[])).get? a=some (seqObj "list" #[] ep):=⟨_,get?_update_seq ho fun _=>#[]⟩
  refine wpAny_bind (seqEpoch_at h1 rfl (wpAny_bind (wpAny_newTuple ?_ (by simpa using hz))));refine wpAny_bind (wpAny_newList (wpAny_holding ?_) (aa1 _));have h2:(((s.heap.update a (aaR fun _=>#[])).push (seqObj "tuple" vs.toArray 0)).push (seqObj "list" #[] 0)).get? a=some (seqObj "list" #[] ep):=by
    rw [Heap.get?_push_ne _ _ _ (by rw [size_push',Heap.size_update];exact aas (abL la)),Heap.get?_push_ne _ _ _ (by rw [Heap.size_update];exact aas la)];exact h1
  have two:¬ vs.toArray.size < 2:=by rw [sz];lia
  rw [if_neg two,if_neg two];have ek:keyKind' vs.toArray=pure oneType':=by subst ev;exact keyKind_ints hI
  rw [ek];refine wpAny_bind (wpAny_pure ?_);have pool:∀ x∈(pairsOf vs).toList,isI x:=fun x hx=>hI.intKeys x hx;refine wpAny_bind (wpAny_mono (iU (a₀:=pairsOf vs) uO pool (st:=SortSt.mk' oneType' (vs.toArray.zip vs.toArray) #[] 7 none) (Q:=fun _ st'=>(arrOf st').Perm (pairsOf vs)∧failedOf st'=none∧(arrOf st').toList.Pairwise (Le ltI)) rfl rfl rfl rfl (by rw [pairsOf_size];lia) fun st' b1 b2 b3=>⟨b1,b2,b3⟩) ?_ fun _ _ e=>e);rintro ⟨⟨⟩,st'⟩ s' ⟨rfl,hp,hf,hs⟩;have szp:(arrOf st').size=vs.length:=hp.size_eq.trans (pairsOf_size _);refine wpAny_bind (seqEpoch_at h2 rfl (wpAny_bind (listUpdate_at h2 rfl ?_ (aa1 _) (by show (Array.map _ (arrOf st')).size≤_;rw [Array.size_map,szp];lia))));dsimp only;rw [hf];simp only [bne_self_eq_false,aaU,if_false];have st2:SortedTo (arrOf st') (pairsOf vs).size:=fun i j hij hj=>by
    rw [pairsOf_size] at hj;by_cases e:i=j
    · subst e;exact aa7 _
    · have h1:i < (arrOf st').toList.length:=by rw [aam];lia
      have h2:j < (arrOf st').toList.length:=by rw [aam];lia
      have:=leI.mp (abk.mp hs i j h1 h2 (by lia));have e1:∀ k (hk:k < (arrOf st').toList.length),K (arrOf st') k=numOf ((arrOf st').toList[k]).1:=fun k hk=>by
        unfold K;rw [← aaS,aaf hk]
      rw [e1 i h1,e1 j h2];exact this
  obtain ⟨ns',g1,g2,g3⟩:=sorted_out hI hp st2;exact wpAny_pure (h _ ns' g1 g2 g3)
end
end Tim
namespace L2
open PySem PySem.Spec PyProof.Rows
theorem dU:∀ {ws:List Value} {ns:List Int},IntsAre ws ns→Vals (ns.map V.int) ws
  | _,_,.nil=>.nil
  | _,_,.cons n t h=>.cons ⟨t,rfl⟩ (dU h)
theorem ke {X:Cx} (hx:X.ex=[]) (hc:X.calm=true) {pins:List (Addr × Obj)} {s:Shared} {σ:St} {H:Hp} {Q:VK} (I:Inv X pins σ H s) {T:String} {r d:Addr} {n:Nat} {P:Nat→Value→Prop} {OK:Heap→Prop} (K:PySem.W.KdlSrc X.prog X.w T r d n P OK) (hok:OK s.heap) (hn:n≤sizeLine) {ns:List Int}
    (hP:∀ ws:List Value,ws.length=n→(∀ (j:Nat) (v:Value),ws[j]?=some v→P j v)→IntsAre ws ns)
    (q:∀ (D:Addr) (ms:List Int),H D=none→ms.Perm ns→ms.Pairwise (·≤·)→Q (.ref D) (upd H D (.lst (ms.map V.int)))):wpAny (model X.prog X.w) X.A (call (.builtin "sorted") [.ref r]) (EP X pins σ Q) X.xe s:=by
  obtain ⟨m,F⟩:=I.fr;refine PySem.W.kdu_sorted K (I.ok.hd hc) F (news:=eE X.base s.heap X.env.locals) pW hok hn ?_;intro D h1 tk0 ws F1 N1 hD hwl hwP;have hI:=hP ws hwl hwP;have nD0:=N1 (D,_) aaH;have keptG:∀ {g:Heap} {o1:Obj},Fr X.base X.env.locals g m→News X.base X.env.locals g ((D,o1) :: eE X.base s.heap X.env.locals)→∀ b o,b≠X.env.locals→s.heap.get? b=some o→g.get? b=some o:=fun {g o1} Fg Ng b o hb q=>by
    cases w:X.base.get? b with
    | some u =>
      have:=F.keep b u w;rw [q] at this;cases this;exact Fg.keep b _ w
    | none=>exact (Ng (b,o) (aaw _ (gG hb w q))).1
  have fresh:s.heap.get? D=none:=by
    cases g:s.heap.get? D with
    | none=>rfl
    | some o=>exact absurd (hD (D,o) (gG nD0.2.1 nD0.2.2 g)) (abm _)
  have neL:∀ b o,H b=some o→b≠X.env.locals:=fun b o e z=>by rw [z,I.free] at e;cases e
  have gD0:h1.get? D=some (seqObj "list" ws.toArray 0):=nD0.1;refine wpAny_call_entry slot_list_sort ⟨_,gD0,rfl⟩ entry_list_sort (Tim.sort_ints_any (s:={ s with heap:=h1,toks:=tk0 }) gD0 hI (by lia) fun out ms o1 o2 o3=>⟨_,rfl,?_⟩) (args_list_sort _);obtain ⟨c,hc'⟩:=sortedHeap_at (out:=out) gD0;have old:∀ b o,b≠D→h1.get? b=some o→(sortedHeap h1 D ws out).get? b=some o:=fun b o hb q=>(sortedHeap_old hb (aag q)).trans q;show EP X pins σ Q (.ref D) { s with heap:=sortedHeap h1 D ws out,toks:=tk0 };have F'':Fr X.base X.env.locals (sortedHeap h1 D ws out) m:=by
    obtain ⟨⟨oL,es',ep',g1,r1⟩,kb,ab⟩:=F1;exact ⟨⟨oL,es',ep',old _ _ (aa3 nD0.2.1) g1,r1⟩,fun b o e=>old _ _ (fun z=>by rw [z,nD0.2.2] at e;cases e) (kb b o e),ab⟩
  have N'':News X.base X.env.locals (sortedHeap h1 D ws out) ((D,seqObj "list" out c) :: eE X.base s.heap X.env.locals):=by
    intro p hp;rcases aay.mp hp with e|hp
    · subst e;exact ⟨hc',nD0.2.1,nD0.2.2⟩
    · have:=N1 p (aaw _ hp);exact ⟨old _ _ (aas (hD p hp)) this.1,this.2⟩
  generalize sortedHeap h1 D ws out=h'' at hc' F'' N'' ⊢;have kp:=keptG F'' N'';have I1:Inv X pins σ H { s with heap:=h'',toks:=tk0 }:=by
    refine I.step (g':=s.gens) (d':=s.drawn) (t':=tk0) (ch:=[]) (fun _ z=>nomatch z) (fun b o hb _ _ e _=>kp b o hb e) (fun b o hb _ _ e _=>⟨o.slots,kp b o hb e⟩) (fun _ _ _ _ n=>n) (fun b o _ e=>?_) (fun _ _ e=>e) (fun _ _ _ e=>e) (fun b ps e=>⟨#[],by rw [e];simp⟩) (fun m' hm=>?_) (fun b u e=>?_) I.bare
    · by_cases hb:b=X.env.locals
      · obtain ⟨o',_,_,g,_⟩:=F''.ns;exact ⟨o',by rw [hb];exact g⟩
      · exact ⟨o,kp b o hb e⟩
    · have : m'=m:=by
        obtain ⟨o1,es1,ep1,g1,d1,_,f1⟩:=hm;obtain ⟨o2,es2,ep2,g2,d2,_,f2⟩:=F.ns;rw [g1] at g2;cases g2;rw [d1] at d2;cases d2;funext x;rw [← f1 x,← f2 x]
      rw [this];exact F''.ns
    · refine (I.hok b u e).stay (fun c' v hc q=>kp c' v ?_ q) (fun _ q=>q) fun _ _ q=>q;rcases hc with rfl|hc
      · exact neL _ _ e
      · exact neL _ _ hc
  have hnD:H D=none:=by
    cases g:H D with
    | none=>rfl
    | some o =>
      obtain ⟨u,hu⟩:=(I.hok D o g).get;rw [fresh] at hu;cases hu
  have vv:=dU o1;have lm:ms.length≤sizeLine:=by
    have e1:=o2.length_eq;have e2:=(dU hI).length;rw [aak] at e2;lia
  have I2:=I1.adopt2 (o:=.lst (ms.map V.int)) hnD (fun u hu=>by
      obtain ⟨o',q⟩:=I.base.there D u hu (by rw [hx];simp);rw [fresh] at q;cases q) nD0.2.1 (fun x c e z=>by
      obtain ⟨v,o,ho,_⟩:=I.cell x c e;rw [z,fresh] at ho;cases ho) (fun p hp z=>by
      have:=(I.pin p hp).1;rw [z,fresh] at this;cases this) ⟨(by rw [aak];exact lm),_,c,vv,(by rw [Array.toArray_toList];exact hc')⟩
  exact ⟨.ref D,_,I2,rfl,q D ms hnD o2 o3⟩
theorem iB {prog:Program} {w:World}:∀ {es:List DictEntry} {vs:List (Key × Value)},Pairs (aG prog w) es vs→∀ {ns:List Int},vs.map (·.1)=ns.map Sum.inl→IntsAre (es.map (·.key)) ns
  | _,_,.nil,ns,h=>by
    cases ns with
    | nil=>exact .nil
    | cons _ _=>simp at h
  | _,_,.cons (e:=e) (kv:=kv) h1 h2 t,ns,h=>by
    cases ns with
    | nil=>simp at h
    | cons n ns =>
      simp only [aaG,List.cons.injEq] at h;rcases aK h1 with ⟨i,u,e1,e2⟩|⟨x,u,e1,e2⟩
      · rw [e1] at h;have e3:i=n:=Sum.inl.inj h.1;rw [aaG,e2,e3];exact .cons n u (iB t h.2)
      · rw [e1] at h;cases h.1
theorem ni {κ:Type} {kvs:List (κ × V)} {vs:List (κ × Value)} (r:KV kvs vs):kvs.map (·.1)=vs.map (·.1):=by
  induction r with
  | nil=>rfl
  | cons h _ ih=>rw [aaG,aaG,h.1,ih]
theorem jc {X:Cx} (hx:X.ex=[]) (hc:X.calm=true):cW X (.builtin "sorted") (fun xs H Q=>∃ (dd:Addr) (kvs:List (Key × V)) (ns:List Int),xs=[.ref dd]∧H dd=some (.dK kvs)∧kvs.map (·.1)=ns.map Sum.inl ∧
    ∀ (D:Addr) (ms:List Int),H D=none→ms.Perm ns→ms.Pairwise (·≤·)→Q (.ref D) (upd H D (.lst (ms.map V.int)))):=by
  intro pins s σ H xs us Q I r h;obtain ⟨dd,kvs,ns,rfl,hH,hks,q⟩:=h;obtain ⟨u,rfl,ru⟩:=dl r;cases ru;obtain ⟨zz,hsys,vs,rel,o,es,ep,ho,cx,dat,_,pr,nd⟩:=(show ObjOk X.prog X.w H s.heap dd (.dK kvs) from I.hok dd _ hH)
  have hsz:es.size=kvs.length:=by
    have e1:=pr.length;have e2:=aa9 rel;rw [aam] at e1;lia
  refine ke hx hc I (jg hsys cx dat) ho (by lia) (ns:=ns) (fun ws hl hw=>?_) q;have hk:vs.map (·.1)=ns.map Sum.inl:=by rw [← ni rel];exact hks
  have e:ws=es.toList.map (·.key):=by
    refine List.ext_getElem? fun i=>?_;by_cases hi:i < es.size
    · have hi':i < ws.length:=by lia
      obtain ⟨en,e2,e3⟩:=hw i _ (aaf hi');have e4:es.toList[i]?=some en:=by rw [← e2];exact aaS
      rw [aaF,e4,aaf hi',e3];rfl
    · rw [abN (by lia),abN (by rw [aak,aam];lia)]
  rw [e];exact iB pr hk
open PySem PySem.Spec PyProof.Rows
theorem sW {prog:Program} {w:World} {es:Array DictEntry} {ws:List Value} (hl:ws.length=es.size) (hw:∀ (j:Nat) (v:Value),ws[j]?=some v→∃ e,es[j]?=some e∧v=e.key):ws=es.toList.map (·.key):=by
  refine List.ext_getElem? fun i=>?_;by_cases hi:i < es.size
  · have hi':i < ws.length:=by lia
    obtain ⟨en,e2,e3⟩:=hw i _ (aaf hi');have e4:es.toList[i]?=some en:=by rw [← e2];exact aaS
    rw [aaF,e4,aaf hi',e3];rfl
  · rw [abN (by lia),abN (by rw [aak,aam];lia)]
theorem lD {X:Cx} (hc:X.calm=true):cW X (.type "list") (fun xs H Q=>∃ (dd:Addr) (kvs:List (Key × V)) (ns:List Int),xs=[.ref dd]∧H dd=some (.dK kvs)∧kvs.map (·.1)=ns.map Sum.inl ∧
    ∀ l:Addr,H l=none→Q (.ref l) (upd H l (.lst (ns.map V.int)))):=by
  intro pins s σ H xs us Q I r h;obtain ⟨dd,kvs,ns,rfl,hH,hks,q⟩:=h;obtain ⟨u,rfl,ru⟩:=dl r;cases ru;obtain ⟨zz,hsys,vs,rel,o,es,ep,ho,cx,dat,_,pr,nd⟩:=(show ObjOk X.prog X.w H s.heap dd (.dK kvs) from I.hok dd _ hH)
  have hsz:es.size=kvs.length:=by
    have e1:=pr.length;have e2:=aa9 rel;rw [aam] at e1;lia
  have hk:vs.map (·.1)=ns.map Sum.inl:=by rw [← ni rel];exact hks
  have ln:ns.length=kvs.length:=by have:=congrArg List.length hks;simpa using this.symm
  refine PySem.W.kdl_call (jg hsys cx dat) (I.ok.hd hc) ho (by lia) fun h' tk acc' c' kp e hi=>?_;have ea:acc'.toList=es.toList.map (·.key):=sW (prog:=X.prog) (w:=X.w) (by rw [aam];exact hi.1) fun j v hv=>hi.2 j v (by rw [← aaS];exact hv);have hI:IntsAre acc'.toList ns:=by rw [ea];exact iB pr hk
  exact ⟨.ref s.heap.objs.size,_,I.laid (t':=tk) kp (aad _) (show ObjOk X.prog X.w _ h' _ (.lst (ns.map V.int)) from ⟨by rw [aak];lia,acc'.toList,c',dU hI,by simpa using e⟩),rfl,q _ (I.hok.fresh (aad _))⟩
open PySem PySem.Spec PyProof.Rows
theorem g6:∀ {ns:List Int} {its:List Value},Vals (ns.map V.int) its→IntsAre its ns
  | [],_,h=>by cases h;exact .nil
  | n :: ns,_,h=>by
    cases h with
    | cons r t =>
      obtain ⟨u,rfl⟩:=r;exact .cons n u (g6 t)
section
variable {prog:Program} {w:World} {A:Around} {E:Value→Shared→Prop} {s:Shared}
theorem jD {l:Addr} {vs:List Value} {ns:List Int} {Q:Value→Shared→Prop} (hl:s.heap.IsList l vs.toArray) (hI:IntsAre vs ns) (hz:vs.length≤sizeLine)
    (h:∀ (out:Array Value) (ms:List Int),IntsAre out.toList ms→ms.Perm ns→ms.Pairwise (·≤·)→Q (.ref (s.heap.objs.size+1)) { s with heap:=sortedAll s.heap vs out }):wpAny (model prog w) A (call (.builtin "sorted") [.ref l]) Q E s:=by
  apply Calls.call_function_entry kind_sorted plain_sorted entry_sorted (args_sorted1 _);unfold Builtin.«sorted»;refine wpAny_bind (m:=checkCount "sorted" 1 1 _) (wpAny_pure (wpAny_bind (collect_list hl (wpAny_bind (wpAny_newList ?_ hz)) hz)));have e0:((s.heap.push (seqObj "list" #[] 0)).update s.heap.objs.size (aaR (·++vs.toArray))).objs.size=s.heap.objs.size+1:=by rw [Heap.size_update,size_push']
  have hoL:(((s.heap.push (seqObj "list" #[] 0)).update s.heap.objs.size (aaR (·++vs.toArray))).push (seqObj "list" vs.toArray 0)).get? (s.heap.objs.size+1)=some (seqObj "list" vs.toArray 0):=by rw [← e0];exact aap _ rfl
  show wpAny _ _ _ _ _ { s with heap:=(((s.heap.push (seqObj "list" #[] 0)).update s.heap.objs.size (aaR (·++vs.toArray))).push (seqObj "list" vs.toArray 0)) };rw [e0];exact wpAny_bind (wpAny_holding (wpAny_call_entry slot_list_sort ⟨_,hoL,rfl⟩ entry_list_sort (Tim.sort_ints_any hoL hI hz fun out ms o1 o2 o3=>⟨_,rfl,wpAny_pure ⟨_,rfl,h out ms o1 o2 o3⟩⟩) (args_list_sort _)))
end
theorem jb {X:Cx}:cW X (.builtin "sorted") (fun xs H Q=>∃ (p:Addr) (ns:List Int),xs=[.ref p]∧H p=some (.lst (ns.map V.int)) ∧
    ∀ (q:Addr) (ms:List Int),H q=none→ms.Perm ns→ms.Pairwise (·≤·)→Q (.ref q) (upd H q (.lst (ms.map V.int)))):=by
  intro pins s σ H xs us Q I r h;obtain ⟨p,ns,rfl,hH,q⟩:=h;obtain ⟨u,rfl,ru⟩:=dl r;cases ru;obtain ⟨z,its,n,rv,hl,e⟩:=I.lstM hH;refine jD (vs:=its) ⟨_,e,rfl,_,rfl⟩ (g6 rv) (by lia) fun out ms o1 o2 o3=>?_;obtain ⟨c,hc⟩:=sortedAll_at s.heap its out;have lm:(ms.map V.int).length≤sizeLine:=by
    have e1:=o2.length_eq;rw [aak] at z ⊢;lia
  have I1:=I.laid (a:=s.heap.objs.size+1) (o:=.lst (ms.map V.int)) (t':=s.toks) (fun b o q=>sortedAll_old (vs:=its) (out:=out) q) (acx _) ⟨lm,out.toList,c,dU o1,(by rw [Array.toArray_toList];exact hc)⟩;exact ⟨.ref _,_,I1,rfl,q _ ms (I.hok.fresh (acx _)) o2 o3⟩
end L2
namespace L2
open PySem
def ut (xs:Array Nat):Prop:=xs.toList.Pairwise (· < ·)
def Okm (m:Nat):Prop:=m=7∨m=15∨m=31∨m=63∨m=127∨m=255∨m=511∨m=1023
end L2
namespace L2
open PySem
end L2
namespace L2
open PySem
structure GT (n:Nat) (b:Bool) (t:SetTable):Prop where
  okm:Okm t.mask
  dum:t.dummies=#[]
  pl:t.plain=true
  rise:ut t.place
  size:t.place.size=n
  led:t.led=b
  room:n * 5 < t.mask * 3
structure GT1 (n:Nat) (b:Bool) (t:SetTable):Prop where
  okm:Okm t.mask
  dum:t.dummies=#[]
  pl:t.plain=true
  rise:ut t.place
  size:t.place.size=n
  led:t.led=b
  room:(n - 1) * 5 < t.mask * 3
open PySem PySem.Spec PyProof.Rows
section
variable {prog:Program} {w:World} {A:Around} {E:Value→Shared→Prop} {s:Shared}
end
end L2
set_option maxHeartbeats 3200000
namespace L2
open PySem PySem.Spec PyProof.Rows
section
variable {prog:Program} {w:World} {A:Around} {E:Value→Shared→Prop} {s:Shared}
variable {R:Result→Shared→Prop} {I:Addr} {fp wr:List Addr} {G:Array GenState→Array GenState→Prop} {n:Nat} {P:Nat→Value→Prop} {St:Nat→Shared→Prop}
end
section
variable {prog:Program} {w:World} {A:Around} {E:Value→Shared→Prop} {s:Shared}
end
open PySem PySem.Spec PyProof.Rows
section
variable {prog:Program} {w:World} {A:Around} {E:Value→Shared→Prop} {s:Shared}
end
end L2
namespace PySem.F
end PySem.F
namespace L2
open PySem PySem.Spec PyProof.Rows
section
variable {prog:Program} {w:World} {A:Around} {E:Value→Shared→Prop} {s:Shared}
end
open PySem PySem.Spec PyProof.Rows
section
variable {prog:Program} {w:World} {A:Around} {E:Value→Shared→Prop} {s:Shared}
end
open PySem PySem.Spec PyProof.Rows
end L2
namespace PySem.F
end PySem.F
namespace L2
open PySem PySem.Spec PyProof.Rows
structure SI (prog:Program) (w:World) (h:Heap) (a:Addr) (o:Obj) (es:Array (Int × Value)) (ep:Nat) (t:SetTable):Prop where
  at':h.get? a=some o
  ex:o.ExactSet
  dat:o.data=.set es ep t
  fit:t.fits es.size=true
  els:ElemsOf (intKind prog w) es.toList
  few:es.size < scanBound
section
variable {prog:Program} {w:World} {A:Around} {E:Value→Shared→Prop} {s:Shared}
end
open PySem PySem.Spec PyProof.Rows
section
variable {prog:Program} {w:World} {A:Around} {E:Value→Shared→Prop} {s:Shared}
end
open PySem PySem.Spec PyProof.Rows
section
variable {prog:Program} {w:World} {A:Around} {E:Value→Shared→Prop} {s:Shared}
end
open PySem PySem.Spec PyProof.Rows
def iF (f0 f1:Value) (d:Addr) (i n ep:Nat) (ok ov:Value):Obj:={ cls:=.type "dict_itemiterator",data:=.fields #[f0,f1,.ref d,.int i 0,.int n 0,.int ep 0,ok,ov] }
def ItG (h:Heap) (it d:Addr) (i n ep:Nat):Prop:=∃ f0 f1 ok ov,h.get? it=some (iF f0 f1 d i n ep ok ov)∧((f0=.none∧f1=.bool false)∨∃ (a:Nat) (o:Obj),f0=.int a 0∧h.get? a=some o∧a≠it)
section
variable {prog:Program} {w:World} {A:Around} {E:Value→Shared→Prop} {s:Shared}
theorem qH {M:Model} {a:Addr} {Q:Option Obj→Shared→Prop} (h:Q (s.heap.get? a) s):wpAny M A (loadIfAlive a) Q E s:=fun Γ p hΓ=>by
  unfold loadIfAlive;rw [Sem.wp_loadIfAlive];exact wpAny_pure h Γ p hΓ
theorem mh {it d:Addr} {i n ep:Nat} {od:Obj} {es:Array DictEntry} {e:DictEntry} {a:Nat} {oa:Obj} {f1 ok ov:Value} {Q:Option Value→Shared→Prop} (hit:s.heap.get? it=some (iF (.int a 0) f1 d i n ep ok ov)) (ha:s.heap.get? a=some oa) (hne:a≠it) (hod:s.heap.get? d=some od) (hdd:od.data=.dict es ep) (hsz:es.size=n) (hx:es[i]?=some e)
    (hQ:∀ h' f1',h'.get? it=some (iF (.int a 0) f1' d (i+1) n ep ok ov) →
      h'.get? s.heap.objs.size=some { cls:=.type "tuple",data:=.seq #[e.key,e.val] } →
      (∀ b o,b≠it→s.heap.get? b=some o→h'.get? b=some o)→Q (some (.ref s.heap.objs.size)) { s with heap:=h' }) :
    wpAny (model prog w) A (pyNext (.ref it)) Q E s:=by
  obtain ⟨hp,g,dr,tk,os⟩:=s;have hT:Shared.TypeIs ⟨hp,g,dr,tk,os⟩ (.ref it) "dict_itemiterator":=⟨_,hit,rfl⟩
  unfold pyNext;refine wpAny_bind (wpAny_attempt (wpAny_callSpecial?_slot (name:=abJ "__next__") hT aaQ (wpAny_call_entry aaQ hT abB ?_ (abx _))));refine wpAny_bind (wpAny_pure (wpAny_bind (wpAny_bind ?_)))
  first|refine wpAny_bind (wpAny_typeNameOfWhole_itemiter hT (wpAny_pure ?_))|refine wpAny_bind (wpAny_typeNameOf_itemiter hT (wpAny_pure ?_))
  refine wpAny_bind (wpAny_fieldsOf hit rfl ?_);have hown:aaY "dict_itemiterator" = true:=by decide
  simp only [hown,if_true];show wpAny _ _ (if (Value.ref d == Value.none)=true then _ else _) _ _ _;rw [if_neg (show ¬ ((Value.ref d == Value.none)=true) from aah)];refine wpAny_bind (wpAny_pure (wpAny_bind (wpAny_dictEntries hod hdd ?_)));rw [if_neg (by rw [hsz];simp)];refine wpAny_bind (wpAny_pure (wpAny_bind (wpAny_dictEpoch hod hdd ?_)));rw [if_neg (by simp)];refine wpAny_pure ?_;simp only [show ¬ ((i:Int) < 0) from by lia,if_false,abK,hx];refine wpAny_bind ?_
  first|refine wpAny_bind (wpAny_typeNameOfWhole_itemiter hT (wpAny_pure ?_))|refine wpAny_bind (wpAny_typeNameOf_itemiter hT (wpAny_pure ?_))
  refine wpAny_bind (wpAny_isOneOf_itemiter hT ?_);refine wpAny_bind (m:=setField (.ref it) 3 (rawInt ((i:Int)+1))) (wpAny_setField_rec (cls:=.type "dict_itemiterator") hit (by simp) fun h₁ he₁ hs₁=>?_)
  replace hs₁:abt it hp h₁:=hs₁
  replace he₁:h₁.get? it=some (iF (.int a 0) f1 d (i+1) n ep ok ov):=by
    have e:((i+1:Nat):Int)=(i:Int)+1:=by lia
    unfold iF;rw [e];simpa [rawInt] using he₁
  have hT₁:Shared.TypeIs ⟨h₁,g,dr,tk,os⟩ (.ref it) "dict_itemiterator":=⟨_,he₁,rfl⟩
  refine wpAny_bind (wpAny_holding (wpAny_bind (wpAny_isOneOf_itemiter hT₁ (wpAny_bind (wpAny_isOneOf_itemiter hT₁ ?_)))));show wpAny _ _ (abu (.ref it) 6 e.key e.val) _ _ ⟨h₁,g,dr,tk,os⟩;unfold abu;refine wpAny_bind (wpAny_newTuple ?_);have hz₁:h₁.objs.size=hp.objs.size:=hs₁.1;have hil:it < hp.objs.size:=aag hit;have he₂:(h₁.push { cls:=.type "tuple",data:=.seq #[e.key,e.val] }).get? it=some (iF (.int a 0) f1 d (i+1) n ep ok ov):=aac _ he₁;have ht₂:(h₁.push { cls:=.type "tuple",data:=.seq #[e.key,e.val] }).get? hp.objs.size=some { cls:=.type "tuple",data:=.seq #[e.key,e.val] }:=by rw [← hz₁];exact aap _ rfl
  have hk₂:∀ b o,b≠it→hp.get? b=some o→(h₁.push { cls:=.type "tuple",data:=.seq #[e.key,e.val] }).get? b=some o:=fun b o hb e=>aac _ (hs₁.extBut b o hb e);generalize h₁.push { cls:=.type "tuple",data:=.seq #[e.key,e.val] }=h₂ at he₂ ht₂ hk₂;refine wpAny_bind (m:=abn (.ref it)) ?_;unfold abn;refine wpAny_bind (wpAny_field he₂ rfl (x:=.int a 0) rfl ?_);dsimp only;refine wpAny_bind (qH ?_);have e3:(⟨h₂,g,dr,tk,os⟩:Shared).heap.get? (a:Int).toNat=some oa:=by
    rw [abK];exact hk₂ _ _ hne ha
  rw [e3];simp only [Option.isNone_some,aaU,if_false];refine wpAny_bind (wpAny_field he₂ rfl (x:=f1) rfl ?_);rw [hz₁];split
  · refine wpAny_bind (wpAny_setField_rec (cls:=.type "dict_itemiterator") (s:=⟨h₂,g,dr,tk,os⟩) he₂ (by simp) fun h₃ he₃ hs₃=>wpAny_pure ?_)
    replace hs₃:abt it h₂ h₃:=hs₃
    replace he₃:h₃.get? it=some (iF (.int a 0) (.bool true) d (i+1) n ep ok ov):=he₃
    simp only [aaU,if_false];exact wpAny_pure (wpAny_pure ⟨_,rfl,wpAny_pure (hQ h₃ _ he₃ (hs₃.extBut _ _ (aaT hil) ht₂) fun b o hb e=>hs₃.extBut b o hb (hk₂ b o hb e))⟩)
  · refine wpAny_pure ?_;simp only [aaU,if_false];exact wpAny_pure (wpAny_pure ⟨_,rfl,wpAny_pure (hQ h₂ _ he₂ ht₂ hk₂)⟩)
theorem mi {it d:Addr} {i n ep:Nat} {od:Obj} {es:Array DictEntry} {e:DictEntry} {Q:Option Value→Shared→Prop} (hit:ItG s.heap it d i n ep) (hod:s.heap.get? d=some od) (hdd:od.data=.dict es ep) (hsz:es.size=n) (hx:es[i]?=some e)
    (hQ:∀ h',ItG h' it d (i+1) n ep→h'.get? s.heap.objs.size=some { cls:=.type "tuple",data:=.seq #[e.key,e.val] } →
      (∀ b o,b≠it→s.heap.get? b=some o→h'.get? b=some o)→Q (some (.ref s.heap.objs.size)) { s with heap:=h' }) :
    wpAny (model prog w) A (pyNext (.ref it)) Q E s:=by
  obtain ⟨f0,f1,ok,ov,hi,⟨rfl,rfl⟩|⟨a,oa,rfl,ha,hne⟩⟩:=hit
  · have hil:it < s.heap.objs.size:=aag hi;refine jk (ok:=ok) (ov:=ov) hi hod hdd hsz hx fun h' he ht _ hk=>hQ h' ⟨_,_,_,_,he,.inr ⟨s.heap.objs.size,_,rfl,ht,aaT hil⟩⟩ ht hk
  · exact mh hi ha hne hod hdd hsz hx fun h' f1' he ht hk=>hQ h' ⟨_,_,_,_,he,.inr ⟨a,oa,rfl,hk _ _ hne ha,hne⟩⟩ ht hk
end
open PySem PySem.Spec PyProof.Rows
section
variable {prog:Program} {w:World} {A:Around} {E:Value→Shared→Prop} {s:Shared}
theorem oj {it d:Addr} {i n ep:Nat} {od:Obj} {es:Array DictEntry} {Q:Option Value→Shared→Prop} (hh:A.handled=none) (hit:ItG s.heap it d i n ep) (hod:s.heap.get? d=some od) (hdd:od.data=.dict es ep) (hsz:es.size=n) (hge:es.size≤i)
    (hQ:∀ h',Heap.ExtBut it s.heap h'→Q none { s with heap:=h' }):wpAny (model prog w) A (pyNext (.ref it)) Q E s:=by
  obtain ⟨f0,f1,ok,ov,hi,_⟩:=hit;have hT:s.TypeIs (.ref it) "dict_itemiterator":=⟨_,hi,rfl⟩
  unfold pyNext;refine wpAny_bind (wpAny_attempt (wpAny_callSpecial?_slot (name:=abJ "__next__") hT aaQ (wpAny_call_entry aaQ hT abB ?_ (abx _))));refine wpAny_bind (wpAny_pure (wpAny_bind (wpAny_bind ?_)))
  first|refine wpAny_bind (wpAny_typeNameOfWhole_itemiter hT (wpAny_pure ?_))|refine wpAny_bind (wpAny_typeNameOf_itemiter hT (wpAny_pure ?_))
  refine wpAny_bind (wpAny_fieldsOf hi rfl ?_);have hown:aaY "dict_itemiterator" = true:=by decide
  simp only [hown,if_true];show wpAny _ _ (if (Value.ref d == Value.none)=true then _ else _) _ _ s;rw [if_neg (show ¬ ((Value.ref d == Value.none)=true) from aah)];refine wpAny_bind (wpAny_pure (wpAny_bind (wpAny_dictEntries hod hdd ?_)));rw [if_neg (by rw [hsz];simp)];refine wpAny_bind (wpAny_pure (wpAny_bind (wpAny_dictEpoch hod hdd ?_)));rw [if_neg (by simp)];refine wpAny_pure ?_;simp only [show ¬ ((i:Int) < 0) from by lia,if_false,abK,ab2 hge];refine wpAny_bind ?_
  first|refine wpAny_bind (wpAny_typeNameOfWhole_itemiter hT (wpAny_pure ?_))|refine wpAny_bind (wpAny_typeNameOf_itemiter hT (wpAny_pure ?_))
  refine wpAny_bind (m:=setField (.ref it) 2 .none) (wpAny_setField hi rfl (by simp) ?_);refine wpAny_bind (m:=newExc (.type "StopIteration") []) ?_;simp only [newExc,newTuple];refine wpAny_bind (wpAny_newObj_type ?_ (by size_fits));refine wpAny_bind (m:=firstArgMember _ _) (wpAny_of_eq (a:=Value.none) (by first|rfl|(simp only [firstArgMember];rfl)) ?_);refine wpAny_newObj_type ?_ (by size_fits);simp only [raiseNew];refine wpAny_bind (wpAny_handled ?_);rw [show A.in1.handled=none from hh];refine wpAny_bind (wpAny_pure (wpAny_throw ?_));refine wpAny_bind (wpAny_isInstance (T:="StopIteration") (b:=true) ⟨_,aap _ rfl,rfl⟩ isSubtype_stop ?_);exact wpAny_pure (hQ _ (((aaX ..).extBut.push _).push _))
def uy (e:DictEntry):Obj:={ cls:=.type "tuple",data:=.seq #[e.key,e.val] }
def Told (h:Heap) (base:Nat) (es:Array DictEntry) (as:List Nat):Prop:=as.Pairwise (· < ·)∧(∀ a∈as,base≤a)∧∀ (j:Nat) (a:Nat),as[j]?=some a→∃ e,es[j]?=some e∧h.get? a=some (uy e)
theorem Told.keep {h h':Heap} {base:Nat} {es:Array DictEntry} {as:List Nat} (t:Told h base es as) (k:∀ a∈as,∀ o,h.get? a=some o→h'.get? a=some o):Told h' base es as :=
  ⟨t.1,t.2.1,fun j a e=>by obtain ⟨en,e1,e2⟩:=t.2.2 j a e;exact ⟨en,e1,k a (aan e) _ e2⟩⟩
theorem mC {S it d:Addr} {n ep base:Nat} {od:Obj} {es:Array DictEntry} {R:Result→Shared→Prop} {res:Value} (hh:A.in1.handled=none) (hdd:od.data=.dict es ep) (hsz:es.size=n) (hSi:S≠it) (hSd:S≠d) (hdi:d≠it) (hSb:S < base) (hib:it < base) (hn:n≤sizeLine) :
    ∀ (k i:Nat) (s:Shared) (as:List Nat) (c:Nat),n - i=k→i≤n→ItG s.heap it d i n ep→s.heap.get? d=some od→s.heap.get? S=some { cls:=.type "list",dict:=none,data:=.seq (as.map Value.ref).toArray c,slots:=#[] }→as.length=i→Told s.heap base es as→base≤s.heap.objs.size →
      (∀ h' as' c',(∀ b o,b≠S→b≠it→s.heap.get? b=some o→h'.get? b=some o)→h'.get? S=some { cls:=.type "list",dict:=none,data:=.seq (as'.map Value.ref).toArray c',slots:=#[] }→as'.length=n→Told h' base es as'→R (.ok (.ret res)) { s with heap:=h' }) →
      codeAny (model prog w) A (.builtin "list.extend.loop" ⟨[.ref S,.ref it,res],[]⟩) R s:=by
  intro k
  induction k with
  | zero =>
    intro i s as c hk hi hit hod hS hl ht hb hR;obtain rfl:i=n:=by lia
    refine codeAny_builtin F.entry_extend_loop ?_;rw [abQ F.plain_extend_loop _];refine wpAny_bind (m:=pyNext (.ref it)) (oj hh hit hod hdd hsz (by lia) fun h' he=>wpAny_pure (hR h' as c (fun b o _ hb e=>he b o hb e) (he S _ hSi hS) hl (ht.keep fun a ha o e=>he a o ?_ e)));have:=ht.2.1 a ha;exact fun z=>by rw [z] at this;exact absurd this (acK.mpr hib)
  | succ k ih =>
    intro i s as c hk hi hit hod hS hl ht hb hR;have hlt:i < es.size:=by lia
    refine codeAny_builtin F.entry_extend_loop ?_;rw [abQ F.plain_extend_loop _];refine wpAny_bind (m:=pyNext (.ref it)) (mi hit hod hdd hsz (abO hlt) fun h1 hit1 ht1 hk1=>?_);have hS1:=hk1 S _ hSi hS;have hz1:s.heap.objs.size < h1.objs.size:=aag ht1;refine wpAny_bind (m:=updateSeq S (·.push (.ref s.heap.objs.size))) ?_;refine wpAny_updateSeq (s:={ s with heap:=h1 }) hS1 rfl (wpAny_pure ⟨plainId_quiet F.plain_extend_loop _,?_⟩) (by simp only [aal,aak];lia) (by
      show ((as.map Value.ref).toArray.push _).size≤sizeLine+1;simp only [Array.size_push,aal,aak];lia)
    have oth:∀ b o,b≠S→h1.get? b=some o→(h1.update S (aaR (·.push (.ref s.heap.objs.size)))).get? b=some o:=fun b o hb e=>(abw _ _ (aa3 hb)).trans e;have hS2:=abC (aaR (·.push (.ref s.heap.objs.size))) hS1 rfl;have hz2:(h1.update S (aaR (·.push (.ref s.heap.objs.size)))).objs.size=h1.objs.size:=(aaX h1 S _).1;generalize h1.update S (aaR (·.push (.ref s.heap.objs.size)))=h2 at oth hS2 hz2;obtain ⟨c2,hS3⟩:∃ c2,h2.get? S=some { cls:=.type "list",dict:=none,data:=.seq ((as.map Value.ref).toArray.push (.ref s.heap.objs.size)) c2,slots:=#[] }:=⟨_,hS2⟩
    rw [show (as.map Value.ref).toArray.push (.ref s.heap.objs.size)=((as++[s.heap.objs.size]).map Value.ref).toArray by simp] at hS3;have asne:∀ a∈as,a≠it∧a≠S:=fun a ha=>by
      have:=ht.2.1 a ha;exact ⟨fun z=>by rw [z] at this;exact absurd this (acK.mpr hib),fun z=>by rw [z] at this;exact absurd this (acK.mpr hSb)⟩
    refine ih (i+1) { s with heap:=h2 } (as++[s.heap.objs.size]) _ (by lia) (by lia) ?_ (oth _ _ (aa3 hSd) (hk1 _ _ hdi hod)) hS3 (by rw [aax,hl];rfl) ?_ (by show base≤h2.objs.size;lia) fun h' as' c' kp e1 e2 e3=>hR h' as' c' (fun b o b1 b2 e=>kp b o b1 b2 (oth b o b1 (hk1 b o b2 e))) e1 e2 e3
    · obtain ⟨f0,f1,ok,ov,g1,g2⟩:=hit1;refine ⟨f0,f1,ok,ov,oth _ _ (aa3 hSi) g1,?_⟩;rcases g2 with g2|⟨a,o,g2,g3,g4⟩
      · exact .inl g2
      · by_cases ca:a=S
        · subst ca;exact .inr ⟨a,_,g2,hS2,g4⟩
        · exact .inr ⟨a,o,g2,oth _ _ ca g3,g4⟩
    · refine ⟨?_,fun a ha=>?_,fun j a hj=>?_⟩
      · rw [abr];refine ⟨ht.1,by simp,fun a ha b hb'=>?_⟩;rw [aar.mp hb'];obtain ⟨j,hj,rfl⟩:=abz ha;obtain ⟨en,_,e2⟩:=ht.2.2 j _ (aaf hj);exact aag e2
      · rcases aao.mp ha with z|z
        · exact ht.2.1 a z
        · rw [aar.mp z];exact hb
      · by_cases cj:j < as.length
        · rw [acf cj] at hj;obtain ⟨en,e1,e2⟩:=ht.2.2 j a hj;have:=asne a (aan hj);exact ⟨en,e1,oth _ _ this.2 (hk1 _ _ this.1 e2)⟩
        · rw [abv (by lia)] at hj;have hj0:j - as.length=0:=by
            cases h:j - as.length with
            | zero=>rfl
            | succ m=>rw [h] at hj;simp at hj
          rw [hj0] at hj;have ea:s.heap.objs.size=a:=by simpa using hj
          have ej:j=i:=by lia
          subst ej;rw [← ea];refine ⟨_,abO hlt,oth _ _ ?_ ht1⟩;exact fun z=>by rw [z] at hb;exact absurd hb (acK.mpr hSb)
end
open PySem PySem.Spec PyProof.Rows
section
variable {prog:Program} {w:World} {A:Around} {E:Value→Shared→Prop} {s:Shared}
theorem mB {r:Addr} {Q:Bool→Shared→Prop} (hT:s.TypeIs (.ref r) "dict_items") (h:Q false s):wpAny (model prog w) A (Builtin.List.listLengthHint (.ref r)) Q E s:=by
  unfold Builtin.List.listLengthHint;refine wpAny_bind (wpAny_specialOf hT PySem.F.slot_dict_items_len.lookup ?_);generalize hid:("dict_items.__len__":String)=id0
  wp_delta
  rw [show splitId id0=some ("dict_items","__len__") from by subst hid;decide +kernel];subst hid;refine wpAny_bind (wpAny_isInstance (T:="dict_items") (b:=true) hT (by rw [isSubtype_type];kernel_rfl) ?_);refine wpAny_ite_split (fun hab=>absurd hab (by decide)) (fun _=>?_);refine wpAny_ite_split (fun _=>?_) (fun hab=>absurd (by decide +kernel) hab);exact wpAny_bind (wpAny_typeOf hT (wpAny_pure h))
theorem jS {S v d:Addr} {od:Obj} {es:Array DictEntry} {ep c₀:Nat} {R:Result→Shared→Prop} (hh:A.in1.handled=none) (hv:s.heap.IsItemsView v d) (hod:s.heap.get? d=some od) (hdd:od.data=.dict es ep) (hn:es.size≤sizeLine) (hSv:S≠v) (hSd:S≠d) (hS:s.heap.get? S=some { cls:=.type "list",data:=.seq #[] c₀ })
    (hR:∀ h' as' c',(∀ b o,b≠S→s.heap.get? b=some o→h'.get? b=some o)→h'.get? S=some { cls:=.type "list",dict:=none,data:=.seq (as'.map Value.ref).toArray c',slots:=#[] }→as'.length=es.size→Told h' (s.heap.objs.size+1) es as'→R (.ok (.ret .none)) { s with heap:=h' }) :
    wpAny (model prog w) A.in1 (ab6 (.ref S) (.ref v) .none)
      (fun fin s'=>match fin with|.done f=>R (.ok f) s'|.again c'=>c'.quiet=true∧codeAny (model prog w) A c' R s') (fun e s'=>R (.error e) s') s:=by
  have hSl:S < s.heap.objs.size:=aag hS;have hdl:d < s.heap.objs.size:=aag hod;unfold ab6;refine wpAny_bind (wpAny_typeOf hv.typeIs ?_);have h1:Builtin.List.listSameRef (.ref S) (.ref v)=false:=by simp [Builtin.List.listSameRef,hSv]
  simp only [h1,show (Value.type "dict_items" == Value.type "list")=false by decide,show (Value.type "dict_items" == Value.type "tuple")=false by decide,Bool.or_false,aaU,if_false];refine wpAny_bind (iD hv hod hdd ?_);have hv1:(s.heap.push { cls:=.type "dict_itemiterator",data:=.fields #[.none,.bool false,.ref d,.int 0 0,.int es.size 0,.int ep 0,.none,.none] }).IsItemsView v d:=by
    obtain ⟨o,e,r⟩:=hv;exact ⟨o,aac _ e,r⟩
  have hit:ItG (s.heap.push { cls:=.type "dict_itemiterator",data:=.fields #[.none,.bool false,.ref d,.int 0 0,.int es.size 0,.int ep 0,.none,.none] }) s.heap.objs.size d 0 es.size ep:=⟨_,_,_,_,aap _ rfl,.inl ⟨rfl,rfl⟩⟩
  have up:∀ b o,s.heap.get? b=some o→(s.heap.push { cls:=.type "dict_itemiterator",data:=.fields #[.none,.bool false,.ref d,.int 0 0,.int es.size 0,.int ep 0,.none,.none] }).get? b=some o:=fun b o e=>aac _ e;have hz:(s.heap.push { cls:=.type "dict_itemiterator",data:=.fields #[.none,.bool false,.ref d,.int 0 0,.int es.size 0,.int ep 0,.none,.none] }).objs.size=s.heap.objs.size+1:=acd ..;generalize s.heap.push { cls:=.type "dict_itemiterator",data:=.fields #[.none,.bool false,.ref d,.int 0 0,.int es.size 0,.int ep 0,.none,.none] }=h0 at hv1 hit up hz;have key:∀ (h:Heap) (c₁:Nat),ItG h s.heap.objs.size d 0 es.size ep→(∀ b o,b≠S→h0.get? b=some o→h.get? b=some o)→h.objs.size=h0.objs.size→h.get? S=some { cls:=.type "list",data:=.seq #[] c₁ }→codeAny (model prog w) A (.builtin "list.extend.loop" ⟨[.ref S,.ref s.heap.objs.size,.none],[]⟩) R { s with heap:=h }:=fun h c₁ g1 g2 g3 g4=>by
    refine mC (base:=s.heap.objs.size+1) hh hdd rfl (aas hSl) hSd (aas hdl) (abL hSl) (acE _) hn es.size 0 { s with heap:=h } [] c₁ rfl (aa1 _) g1 (g2 _ _ (aa3 hSd) (up _ _ hod)) g4 rfl ⟨List.Pairwise.nil,fun a ha=>(by simp at ha),fun j a hj=>(by simp at hj)⟩ (by show s.heap.objs.size+1≤h.objs.size;lia) fun h' as' c' kp e1 e2 e3=>?_;exact hR h' as' c' (fun b o hb e=>kp b o hb (aas (aag e)) (g2 b o hb (up b o e))) e1 e2 e3
  refine wpAny_bind (wpAny_holding (mB (s:={ s with heap:=h0 }) hv1.typeIs ?_));refine wpAny_ite_split (fun hab=>?_) (fun _=>wpAny_pure ⟨plainId_quiet PySem.F.plain_extend_loop _,key _ c₀ hit (fun b o _ e=>e) rfl (up _ _ hS)⟩);have hS0:=up _ _ hS;refine wpAny_bind (wpAny_rule (wpAny_bind ?_));show wpAny _ _ (updateSeq S (·.push .none) >>= fun _=>updateSeq S (·.pop)) _ _ _;refine wpAny_bind (wpAny_updateSeq hS0 rfl ?_);have hS2:=abC (aaR (·.push Value.none)) hS0 rfl;refine wpAny_updateSeq (hz:=by seq_fits) hS2 rfl ?_;have hS3:=abC (aaR (·.pop)) hS2 rfl;have o2:∀ b o,b≠S→h0.get? b=some o→((h0.update S (aaR (·.push Value.none))).update S (aaR (·.pop))).get? b=some o:=fun b o hb e=>(abw _ _ (aa3 hb)).trans ((abw _ _ (aa3 hb)).trans e);refine wpAny_pure ⟨plainId_quiet PySem.F.plain_extend_loop _,key _ _ ?_ o2 (((aaX _ S _).1).trans (aaX h0 S _).1) hS3⟩;obtain ⟨f0,f1,ok,ov,g1,g2⟩:=hit;refine ⟨f0,f1,ok,ov,o2 _ _ (aaT hSl) g1,?_⟩;rcases g2 with g2|⟨a,o,g2,g3,g4⟩
  · exact .inl g2
  · by_cases ca:a=S
    · subst ca;exact .inr ⟨a,_,g2,hS3,g4⟩
    · exact .inr ⟨a,o,g2,o2 _ _ ca g3,g4⟩
theorem mv {v d:Addr} {od:Obj} {es:Array DictEntry} {ep:Nat} {Q:Value→Shared→Prop} (hh:A.handled=none) (hv:s.heap.IsItemsView v d) (hod:s.heap.get? d=some od) (hdd:od.data=.dict es ep) (hn:es.size≤sizeLine)
    (hQ:∀ h' as' c',(∀ b o,s.heap.get? b=some o→h'.get? b=some o)→h'.get? s.heap.objs.size=some { cls:=.type "list",dict:=none,data:=.seq (as'.map Value.ref).toArray c',slots:=#[] }→as'.length=es.size→Told h' (s.heap.objs.size+2) es as'→Q (.ref s.heap.objs.size) { s with heap:=h' }) :
    wpAny (model prog w) A (call (.type "list") [.ref v]) Q E s:=by
  refine callType_codes (Q₁:=fun obj s₁=>obj=.ref s.heap.objs.size∧s₁={ s with heap:=s.heap.push { cls:=.type "list",data:=.seq #[] } }) PySem.F.called_list (PySem.F.typeCall_list_1 _) PySem.F.entry_list_init (code_list_new _ ⟨rfl,rfl⟩) fun obj s₁ h₁=>?_;obtain ⟨rfl,rfl⟩:=h₁;have hS:(s.heap.push { cls:=.type "list",data:=.seq #[] }).get? s.heap.objs.size=some { cls:=.type "list",data:=.seq #[] }:=aap _ rfl;have hvl:v < s.heap.objs.size:=by obtain ⟨o,e,_⟩:=hv;exact aag e
  have hdl:d < s.heap.objs.size:=aag hod;refine ⟨⟨_,hS,rfl⟩,PySem.F.args_list_init_2 _ _,?_⟩;show wpAny _ _ (do let old ← Builtin.List.listItems (.ref s.heap.objs.size);Builtin.List.listUpdate (.ref s.heap.objs.size) (fun _=>#[]);letGo old.toList.reverse;ab6 (.ref s.heap.objs.size) (.ref v) .none) _ _ _;refine wpAny_bind ?_;unfold Builtin.List.listItems;refine wpAny_bind (wpAny_seqItems hS rfl (wpAny_pure ?_));refine wpAny_bind (m:=updateSeq s.heap.objs.size (fun _=>#[])) (wpAny_updateSeq hS rfl ?_);have hS2:=abC (aaR (fun _=>(#[]:Array Value))) hS rfl;have oth:∀ b o,b≠s.heap.objs.size→s.heap.get? b=some o→((s.heap.push { cls:=.type "list",data:=.seq #[] }).update s.heap.objs.size (aaR (fun _=>(#[]:Array Value)))).get? b=some o:=fun b o hb e=>(abw _ _ (aa3 hb)).trans (aac _ e);have hz:((s.heap.push { cls:=.type "list",data:=.seq #[] }).update s.heap.objs.size (aaR (fun _=>(#[]:Array Value)))).objs.size=s.heap.objs.size+1:=((aaX _ _ _).1).trans (acd ..);refine wpAny_bind (wpAny_letGo ?_);refine jS (A:=A.in1) (by simp [hh]) ?_ (oth _ _ (aas hdl) hod) hdd hn (aaT hvl) (aaT hdl) hS2 fun h' as' c' kp e1 e2 e3=>?_
  · obtain ⟨o,e,r⟩:=hv;exact ⟨o,oth _ _ (aas hvl) e,r⟩
  · refine ⟨rfl,hQ h' as' c' (fun b o e=>kp b o (aas (aag e)) (oth b o (aas (aag e)) e)) e1 e2 ?_⟩;have e3':=e3;rw [show ∀ x:Heap,x.objs.size=s.heap.objs.size+1→x.objs.size+1=s.heap.objs.size+2 from fun x hx=>by lia] at e3'
    · exact e3'
    · exact hz
end
open PySem PySem.Spec PyProof.Rows
def j9 (p d:Addr):HO:=.ext fun h=>h.get? p=some { cls:=.type "dict_items",data:=.fields #[.ref d] }
theorem on {X:Cx}:MtM X "dict.items" (fun x xs H Q=>∃ a kvs,x=.ref a∧xs=[]∧H a=some (.dK kvs)∧∀ p,H p=none→Q (.ref p) (upd H p (j9 p a))):=by
  intro pins s σ H x vs v us Q I rx rv h;obtain ⟨a,kvs,rfl,rfl,e,q⟩:=h;cases rx;have hus:=rv.zero;subst hus;obtain ⟨z,hd,xs,rel,dd⟩:=nE I.hok e;refine call_meetsIn abY dd.typeIs PySem.F.entry_dict_items (PySem.F.args_dict_items_1 _) (fU a hd) ⟨dd.typeIs,?_⟩;refine ⟨.ref s.heap.objs.size,_,I.laid (a:=s.heap.objs.size) (o:=j9 s.heap.objs.size a) (t':=s.toks) (fun _ _ q=>aac _ q) (aad _) ?_,rfl,q _ (I.hok.fresh (aad _))⟩;exact ⟨aap _ rfl,⟨_,aap _ rfl⟩,fun h1 h2 e k=>k _ e⟩
theorem iR {X:Cx} {pins:List (Addr × Obj)} {σ:St} {s:Shared} {base:Nat} (hs0:X.s₀.heap.objs.size≤base) (hL:X.env.locals < base) (hC:∀ x c,X.env.cells.lookup x=some c→c < base) (hp:∀ p∈X.pn++pins,p.1 < base) :
    ∀ (as:List Nat) (rs:List (V × V)) (H:Hp),Inv X pins σ H s→(∀ a∈as,H a=none)→as.Pairwise (· < ·)→(∀ a∈as,base≤a)→as.length=rs.length →
      (∀ (j:Nat) a r,as[j]?=some a→rs[j]?=some r→∃ k v:Value,RelV r.1 k∧RelV r.2 v∧s.heap.get? a=some { cls:=.type "tuple",data:=.seq #[k,v] }) →
      ∃ H',Inv X pins σ H' s∧Same H H'∧(∀ (j:Nat) a r,as[j]?=some a→rs[j]?=some r→H' a=some (.tup [r.1,r.2]))∧∀ b,b∉as→H' b=H b
  | [],rs,H,I,_,_,_,_,_=>⟨H,I,Same.refl _,fun j a r h=>by simp at h,fun b _=>rfl⟩
  | a :: as,[],H,_,_,_,_,h,_=>by simp at h
  | a :: as,r :: rs,H,I,hn,hpw,hb,hl,ht=>by
    obtain ⟨p1,p2⟩:=List.pairwise_cons.mp hpw;have hba:=hb a aaH;obtain ⟨k,v,r1,r2,g⟩:=ht 0 a r rfl rfl;have I1:=I.adopt (a:=a) (o:=.tup [r.1,r.2]) (hn a aaH) (aaL hs0 hba) (aaT (aaq hL hba)) (fun x c e=>aas (aaq (hC x c e) hba)) (fun q hq=>aas (aaq (hp q hq) hba))
      ⟨by show 2≤sizeLine;decide,[k,v],.cons r1 (.cons r2 .nil),⟨_,g,rfl,_,rfl⟩⟩
    have na:a∉as:=fun z=>abm _ (p1 a z);obtain ⟨H',I',S',t',o'⟩:=iR hs0 hL hC hp as rs (upd H a (.tup [r.1,r.2])) I1 (fun b hb'=>by
        rw [aj (fun z=>na (by rw [← z];exact hb'))];exact hn b (aaw _ hb')) p2 (fun b hb'=>hb b (aaw _ hb')) (by simpa using hl) fun j b q h1 h2=>ht (j+1) b q (by simpa using h1) (by simpa using h2)
    refine ⟨H',I',(Same.new (hn a aaH) _).trans S',fun j b q h1 h2=>?_,fun b hb'=>?_⟩
    · cases j with
      | zero =>
        simp at h1 h2;subst h1 h2;rw [o' a na];exact ad
      | succ j=>exact t' j b q (by simpa using h1) (by simpa using h2)
    · simp only [aay,not_or] at hb';rw [o' b hb'.2,aj hb'.1]
theorem iQ {X:Cx} (hc:X.calm=true):cW X (.type "list") (fun xs H Q=>∃ (p d:Addr) (ps:List (Int × Int)),xs=[.ref p]∧H p=some (j9 p d)∧H d=some (.dK (ps.map fun q=>(Sum.inl q.1,V.int q.2))) ∧
    ∀ (l:Addr) (us:List V) (H':Hp),Same H H'→H l=none→H' l=some (.lst us)→PairsIn H' ps us→Q (.ref l) H'):=by
  intro pins s σ H xs us Q I r h;obtain ⟨p,d,ps,rfl,hp,hd,q⟩:=h;obtain ⟨u,rfl,rx⟩:=dl r;cases rx;obtain ⟨hv,_,_⟩:=(show ObjOk X.prog X.w H s.heap p (j9 p d) from I.hok p _ hp)
  obtain ⟨zz,hsys,vs,rel,o,es,ep,ho,cx,dat,ko,pr,nd⟩:=(show ObjOk X.prog X.w H s.heap d (.dK (ps.map fun q=>(Sum.inl q.1,V.int q.2))) from I.hok d _ hd)
  have lv:=aa9 rel;rw [aak] at lv zz;have hsz:es.size=vs.length:=by rw [← aam,pr.length]
  refine mv (I.ok.hd hc) ⟨_,hv,rfl,rfl⟩ ho dat (by lia) fun h' as c' kp e1 e2 ht=>?_;have I1:Inv X pins σ H { s with heap:=h',toks:=s.toks }:=I.kept (t':=s.toks) kp;have fresh:∀ a,s.heap.objs.size≤a→H a=none:=fun a ha=>I.hok.fresh ha;have side:∀ (j:Nat) (a:Nat) (r:V × V),as[j]?=some a→(ps.map fun q=>(V.int q.1,V.int q.2))[j]?=some r→∃ k v:Value,RelV r.1 k∧RelV r.2 v∧({ s with heap:=h',toks:=s.toks }:Shared).heap.get? a=some { cls:=.type "tuple",data:=.seq #[k,v] }:=fun j a r h1 h2=>by
    obtain ⟨en,h3,h4⟩:=ht.2.2 j a h1;rw [aaF] at h2;obtain ⟨q,hq,rfl⟩:=abi.mp h2;obtain ⟨kv,k1,k2,k3⟩:=gm pr (i:=j) (e:=en) (by simpa using h3);have rr:=Paired.nth rel j _ _ (by rw [aaF,hq];rfl) k1;refine ⟨en.key,en.val,?_,by rw [k3];exact rr.2,h4⟩;have r1:(Sum.inl q.1:Key)=kv.1:=rr.1;rcases aK k2 with ⟨i,t,q1,q2⟩|⟨x,t,q1,q2⟩
    · rw [q2];have : q.1=i:=Sum.inl.inj (r1.trans q1);rw [this];exact ⟨t,rfl⟩
    · cases r1.trans q1
  obtain ⟨H2,I2,S2,t2,o2⟩:=iR (base:=s.heap.objs.size+2) (aaL I.sz (abM _ _)) (aaq I.lt (abM _ _)) (fun x c e=>by
      obtain ⟨v,q⟩:=I.cell x c e;exact aaq q.lt (abM _ _)) (fun q hq=>aaq (aag (I.pin q hq).1) (abM _ _)) as (ps.map fun q=>(V.int q.1,V.int q.2)) H I1 (fun a ha=>fresh a (aaL (abM _ _) (ht.2.1 a ha))) ht.1 ht.2.1 (by rw [aak];lia) side
  · have na:s.heap.objs.size∉as:=fun z=>by have:=ht.2.1 _ z;lia
    have hl2:H2 s.heap.objs.size=none:=by rw [o2 _ na];exact fresh _ (aad _)
    have rel2:∀ (l:List Nat),Vals (l.map V.ref) (l.map Value.ref):=fun l=>by
      induction l with
      | nil=>exact .nil
      | cons a l ih=>exact .cons rfl ih
    have I3:=I2.adopt (a:=s.heap.objs.size) (o:=.lst (as.map V.ref)) hl2 I.sz (aaT I.lt) (fun y c e1=>by
        obtain ⟨v,q⟩:=I.cell y c e1;exact aas q.lt) (fun q hq=>aas (aag (I.pin q hq).1)) ⟨by rw [aak];lia,as.map Value.ref,c',rel2 as,e1⟩
    refine ⟨.ref s.heap.objs.size,_,I3,rfl,q _ (as.map V.ref) _ (S2.trans (Same.new hl2 _)) (fresh _ (aad _)) ad ?_⟩;have main:∀ (l:List Nat) (qs:List (Int × Int)),l.length=qs.length→(∀ (j:Nat) a q,l[j]?=some a→qs[j]?=some q→upd H2 s.heap.objs.size (.lst (as.map V.ref)) a=some (.tup [.int q.1,.int q.2]))→PairsIn (upd H2 s.heap.objs.size (.lst (as.map V.ref))) qs (l.map V.ref):=fun l=>by
      induction l with
      | nil =>
        intro qs h1 _;have : qs=[]:=List.length_eq_zero_iff.mp h1.symm;rw [this];exact .nil
      | cons a l ih =>
        intro qs h1 h2;cases qs with
        | nil=>simp at h1
        | cons q qs =>
          exact .cons ⟨a,rfl,h2 0 a q rfl rfl⟩ (ih qs (by simpa using h1) fun j b r g1 g2=>h2 (j+1) b r (by simpa using g1) (by simpa using g2))
    refine main as ps (by lia) fun j a q h1 h2=>?_;rw [aj (fun z=>na (by rw [← z];exact aan h1))];exact t2 j a _ h1 (by rw [aaF,h2];rfl)
open PySem PySem.Spec PyProof.Rows
open PySem PySem.Spec PyProof.Rows
open PySem PySem.Spec PyProof.Rows
open PySem PySem.Spec PyProof.Rows
section
variable {X:Cx}
end
open PySem PySem.Spec PyProof.Rows
open PySem PySem.Spec PyProof.Rows
section
open PySem.SeqAt
open PySem.AutoSeq1 (wpAny_loadPart')
open PySem.MeetsSeq PySem.MeetsSeq2 PySem.MeetsSeq3
end
inductive LtQ (K:aab) (H:Hp):Nat→V→V→Bool→Prop
  | int {n:Nat} {a b:Int}:LtQ K H n (.int a) (.int b) (decide (a < b))
  | lst {n:Nat} {a b:Addr} {xs ys:List V} {e l:Nat→Bool} (ha:SqL K H a xs) (hb:SqL K H b ys) (h:∀ (j:Nat) x y,xs[j]?=some x→ys[j]?=some y→EqR K H n x y (e j)) (hl:∀ (j:Nat) x y,xs[j]?=some x→ys[j]?=some y→e j=false→LtQ K H n x y (l j)) :
      LtQ K H (n+1) (.ref a) (.ref b) (sQ e l xs.length ys.length 0 (min xs.length ys.length))
section
variable {X:Cx} {pins:List (Addr × Obj)} {σ:St} {H:Hp} {s:Shared}
end
end L2
namespace Tim
open PySem PyProof.Rows
section
variable {prog:Program} {w:World} {A:Around} {E:Value→Shared→Prop} {s:Shared}
end
end Tim
namespace L2
open PySem PySem.Spec PyProof.Rows
section
variable {prog:Program} {w:World} {A:Around} {E:Value→Shared→Prop} {s:Shared}
end
structure Rnk (K:aab) (H:Hp) (n:Nat) (us:List V) (kf:V→Int):Prop where
  two:∀ x∈us,∃ t k wv ks,x=.ref t∧H t=some (.tup [.ref k,wv])∧H k=some (.lst ks)
  cmp:∀ t t' k k' wv wv',V.ref t∈us→V.ref t'∈us→H t=some (.tup [.ref k,wv])→H t'=some (.tup [.ref k',wv']) →
    EqR K H n (.ref k) (.ref k') (decide (kf (.ref t)=kf (.ref t')))∧(kf (.ref t)≠kf (.ref t')→LtQ K H n (.ref k) (.ref k') (decide (kf (.ref t) < kf (.ref t'))))∧(kf (.ref t)=kf (.ref t')→EqR K H n wv wv' true)
open PySem PySem.Spec PyProof.Rows
section
variable {X:Cx} {tg:Expr}
end
section
variable {X:Cx}
end
open PySem PySem.Spec PyProof.Rows
open PySem PySem.Spec PyProof.Rows
def CauT (K:aab) (H:Hp) (x:V) (t:Value):Prop:=(x=.non∧t=.type "NoneType")∨∃ ea C,x=.ref ea∧H ea=some (cB ea C)∧ExC K C∧t=.ref C
theorem CauT.mono {K:aab} {H H':Hp} {x:V} {t:Value} (s:∀ b o,H b=some o→H' b=some o) (h:CauT K H x t):CauT K H' x t:=by
  rcases h with h|⟨ea,C,e1,e2,e3,e4⟩
  · exact .inl h
  · exact .inr ⟨ea,C,e1,s _ _ e2,e3,e4⟩
theorem bn {X:Cx}:cW X (.builtin "isinstance") (fun xs H Q=>∃ x c t u b,xs=[x,c]∧CauT X.K H x t∧(∀ u',RelV c u'→u'=u)∧aaI X.K t u=some b∧Q (.bl b) H):=by
  intro pins s σ H xs us Q I r h;obtain ⟨x,c,t,u,b,rfl,hx,hu,hk,q⟩:=h;obtain ⟨u1,u2,rfl,r1,r2⟩:=oV r;obtain rfl:=hu _ r2;rcases hx with ⟨rfl,rfl⟩|⟨ea,C,rfl,he,x,rfl⟩
  · cases (show u1=Value.none from r1);exact aa4 PySem.W.kitx_none I.kIn True.intro hk (fun z=>nomatch z) fun tk=>⟨.bl b,H,I.tok tk,rfl,q⟩
  · cases r1;obtain ⟨⟨o,vs,h1,h2,_⟩,_⟩:=(show ObjOk X.prog X.w H s.heap ea (cB ea C) from I.hok ea _ he)
    exact aa4 (lh x) I.kIn ⟨o,h1,h2⟩ hk (fun z=>nomatch z) fun tk=>⟨.bl b,H,I.tok tk,rfl,q⟩
theorem jd {X:Cx}:cW X (.builtin "isinstance") (fun xs H Q=>∃ x tp cs t us b,xs=[x,.ref tp]∧CauT X.K H x t∧H tp=some (.tup cs)∧(∀ us',Vals cs us'→us'=us)∧PySem.W.kitAny X.K t us=some b∧Q (.bl b) H):=by
  intro pins s σ H xs us Q I r h;obtain ⟨x,tp,cs,t,us,b,rfl,hx,ht,hu,hk,q⟩:=h;obtain ⟨u1,u2,rfl,r1,r2⟩:=oV r;cases r2;obtain ⟨_,its,rv,ot,g1,g2,k,g3⟩:=(show ObjOk X.prog X.w H s.heap tp (.tup cs) from I.hok tp _ ht)
  obtain rfl:=hu _ rv;obtain ⟨oc,od,dat,sl⟩:=ot;cases (show oc=_ from g2);cases (show dat=_ from g3);rcases hx with ⟨rfl,rfl⟩|⟨ea,C,rfl,he,x,rfl⟩
  · cases (show u1=Value.none from r1);exact PySem.W.kia_tup PySem.W.kitx_none I.kIn True.intro g1 hk (fun z=>nomatch z) fun tk=>⟨.bl b,H,I.tok tk,rfl,q⟩
  · cases r1;obtain ⟨⟨o,vs,h1,h2,_⟩,_⟩:=(show ObjOk X.prog X.w H s.heap ea (cB ea C) from I.hok ea _ he)
    exact PySem.W.kia_tup (lh x) I.kIn ⟨o,h1,h2⟩ g1 hk (fun z=>nomatch z) fun tk=>⟨.bl b,H,I.tok tk,rfl,q⟩
section
variable {X:Cx} {pos:Pos}
end
end L2
namespace L2
open PySem PySem.Spec PyProof.Rows PySem.W
section
variable {X:Cx} {pins pl:List (Addr × Obj)} {σ:St} {H:Hp} {s:Shared}
end
section
variable {X:Cx}
end
end L2
namespace L2
open PySem PySem.Spec PyProof.Rows PySem.W
section
variable {X:Cx} {pins pl:List (Addr × Obj)} {σ:St} {H:Hp} {s:Shared}
end
section
variable {X:Cx}
end
open PySem PySem.Spec PyProof.Rows
inductive Thw (H:Hp):Hp→Hp→Prop
  | refl (H1:Hp):Thw H H1 H1
  | step {H1 H2:Hp} {d:Addr} {o:Obj} {u:HO} (h:Thw H H1 H2) (nf:eI H d) (e:H2 d=some (.frz o u)):Thw H H1 (upd H2 d u)
open PySem PySem.Spec PyProof.Rows
open PySem PySem.Spec PyProof.Rows
section
variable {X:Cx} {tg:Expr}
end
open PySem PySem.Spec PyProof.Rows
section
variable {prog:Program} {w:World} {A:Around} {E:Value→Shared→Prop} {R:Result→Shared→Prop} {s:Shared}
end
section
variable {prog:Program} {w:World}
end
section
variable {X:Cx}
end
open PySem PySem.Spec PyProof.Rows
section
variable {M:Model} {A:Around} {E:Value→Shared→Prop} {s:Shared}
end
section
variable {X:Cx}
end
open PySem PySem.Spec PyProof.Rows
open PySem PySem.Spec PyProof.Rows
section
variable {X:Cx} {pins:List (Addr × Obj)} {σ:St} {H:Hp} {s:Shared}
end
end L2
namespace L2
open PySem
variable {X:Cx}
theorem qV {x:Str} {k k':Nat} {ps:List Str} {sp:Sp} {p pos:Pos} (C:Cal X.prog X.w X.K X.mg X.base x k ps sp) (hr:Room k' X.A) (hk:k≤k') (hg:Gl X x) (hdb:(x == ("__debug__":Str))=false:=by decide) :
    PE X (.Call (.Name x p) [] [] pos) (kc sp [] E0 rX):=by
  obtain ⟨f,fd,F,b,kp,m⟩:=C;exact pK F (hr.mono hk) hg m kp b .nil rG hdb
end L2
namespace L2
open PySem PyProof.Rows PySem.W
theorem FunC.ok1 {P:Program} {w:World} {K:aab} {mg:Str→Option Value} {base:Heap} {x qual:Str} {st:Stmt} {f:Addr} {fd:FuncData} {N ps:List Str} {k:Nat} {sp:Sp} {c:Addr} (F:FunC K x qual st f fd c) (S:FnScope N ps (am st)) (len:∀ vs H Q E,sp vs H Q E→vs.length=ps.length)
    (hbody:∀ (A:Around) (outer:List Env) (s:Shared) (H:Hp) (vs:List V) (Q:VK) (E:XK),Room k (A.deeper (envOfC qual (am st) s.heap.objs.size f (.ref c)))→sp vs H Q E →
      ∃ t,PSs (fM (CX1 P w) P w K mg base N qual (am st) f (.ref c) A outer s H E) (bi st) t∧t { nx:=fun _ H'=>Q .non H',rt:=Q } (dI N vs) H):FnOk P w K mg base (CX1 P w) (k+1) f fd ps sp:=by
  obtain ⟨oc,od,kV,doc,pm,an,ct,osl,rfl,lk,hcd⟩:=F.ex;exact qp lk hcd S len fun A outer s H vs Q E hr hsp=>hbody A outer s H vs Q E hr hsp
open PySem PySem.Spec PyProof.Rows
theorem Same.upd {H H1:Hp} {p:Addr} {o:HO} (a:Same H H1) (h:H p=none):Same H (L2.upd H1 p o):=fun b u q=>by
  rw [aj (ah q h)];exact a b u q
end L2
namespace Put
open PySem L2
def top (i:Nat):Stmt:=PySem.Challenge.pw_putsigns_k20_refused_of_all_worths.main.body.getD i (.Pass ⟨0,0,0,0⟩)
inductive Sg where
  | plus|minus|times
  deriving DecidableEq
def Sg.str:Sg→Str
  | .plus=>"+"
  | .minus=>"-"
  | .times=>"*"
inductive Wy where
  | num (i:Int)
  | node (g:Sg) (l r:Wy)
  deriving DecidableEq
def Wy.size:Wy→Nat
  | .num _=>1
  | .node _ l r=>l.size+r.size
def Tups (H H':Hp):Prop:=∀ b xs,H b=some (.tup xs)→H' b=some (.tup xs)
theorem Tups.of {H H':Hp} (a:Same H H'):Tups H H':=fun b xs h=>a b _ h
structure Bu (K:aab) (mg:Str→Option Value):Prop where
  ilen:mg "len" = none
  iisinstance : mg "isinstance" = none
  iint:mg "int" = none
  ibool:mg "bool" = none
  istr:mg "str" = none
  ituple:mg "tuple" = none
  ilist:mg "list" = none
  isorted:mg "sorted" = none
  irange:mg "range" = none
  irepr:mg "repr" = none
  ienumerate:mg "enumerate" = none
  isum:mg "sum" = none
  iall:mg "all" = none
  imin:mg "min" = none
  imax:mg "max" = none
  iabs:mg "abs" = none
  idivmod:mg "divmod" = none
  idict:mg "dict" = none
  iset:mg "set" = none
  ireversed:mg "reversed" = none
  iany:mg "any" = none
  izip:mg "zip" = none
structure Co (K:aab) (mg:Str→Option Value) (tk:Tok) (aS:Addr):Prop where
  gMOST_NUMBERS:mg "MOST_NUMBERS" = some (.int 9 tk)
  gSIGNS:mg "SIGNS" = some (.ref aS)
  sSIGNS:∀ H,SqT K H aS [.str "+",.str "-",.str "*"]
section
variable {P:Program} {w:World} {K:aab} {mg:Str→Option Value} {base:Heap} {f:Addr} {fd:FuncData}
def gQ (K:aab):Sp:=fun vs H Q _=>∃ x n,vs=[x]∧TyOf K H x (.type n)∧Q (.bl (decide (n = "int"))) H
abbrev fF:Stmt:=top 16
theorem kw:FnScope ["thing"] ["thing"] (am fF):=⟨rfl,rfl,rfl,by decide +kernel,rfl,by decide +kernel,by decide +kernel⟩
theorem kW (F:Fun K "is_whole" "is_whole" fF f fd) (B:Bu K mg):FnOk P w K mg base CX0 1 f fd ["thing"] (gQ K):=by
  refine F.ok kw (fun vs H Q E h=>?_) (fun cdv A outer s H vs Q E hr h=>?_)
  · obtain ⟨x,n,rfl,_⟩:=h;rfl
  obtain ⟨x,n,rfl,ty,q⟩:=h;refine ⟨_,(@ai _ _ _ (@az _ _ _ _ (@pM _ _ _ _ _ _ _ (@aC _ _ _ _ _ _ _ _ _ (@dF _ ("int")) rfl B.iisinstance aaA (@aa _ _ _ _ _ (pv 0) (@aa _ _ _ _ _ (@fR _ _ (.ty "int") _ _ rfl B.iint PyProof.Rows.boot_int rfl (by decide) (by decide)) ae (by rfl)) (by rfl)) (by decide) (by decide) (by rfl) (by rfl)) (@pI _ _ _ _ _ (@sB _ _ _ _ (@aC _ _ _ _ _ _ _ _ _ (@dF _ ("bool")) rfl B.iisinstance aaA (@aa _ _ _ _ _ (pv 0) (@aa _ _ _ _ _ (@fR _ _ (.ty "bool") _ _ rfl B.ibool PyProof.Rows.boot_bool rfl (by decide) (by decide)) ae (by rfl)) (by rfl)) (by decide) (by decide) (by rfl) (by rfl))))))),?_⟩;cases ty with
  | non=>exact ⟨_,rfl,_,_,false,rfl,.non,rfl,false,rfl,bh q⟩
  | bl y=>exact ⟨_,rfl,_,_,true,rfl,.bl y,rfl,true,rfl,dR ⟨_,rfl,_,_,true,rfl,.bl y,rfl,true,rfl,q⟩⟩
  | int i=>exact ⟨_,rfl,_,_,true,rfl,.int i,rfl,true,rfl,dR ⟨_,rfl,_,_,false,rfl,.int i,rfl,false,rfl,q⟩⟩
  | str y=>exact ⟨_,rfl,_,_,false,rfl,.str y,rfl,false,rfl,bh q⟩
  | flt y=>exact ⟨_,rfl,_,_,false,rfl,.flt y,rfl,false,rfl,bh q⟩
  | lst e=>exact ⟨_,rfl,_,_,false,rfl,.lst e,rfl,false,rfl,bh q⟩
  | frz e=>exact ⟨_,rfl,_,_,false,rfl,.frz e,rfl,false,rfl,bh q⟩
  | tup e=>exact ⟨_,rfl,_,_,false,rfl,.tup e,rfl,false,rfl,bh q⟩
  | dK e=>exact ⟨_,rfl,_,_,false,rfl,.dK e,rfl,false,rfl,bh q⟩
  | dT e=>exact ⟨_,rfl,_,_,false,rfl,.dT e,rfl,false,rfl,bh q⟩
open PySem L2
theorem dh {n:Nat} (h:n≤1000):n≤sizeLine:=Nat.le_of_lt (cN h)
def av:List Sg→Str
  | []=>""
  | g :: r=>g.str++av r
end
open PySem L2
def Wel (H:Hp) (w:Addr) (_M:Int):Prop:=∃ a b,H w=some (.lst [.int a,.int b])∧0≤b∧b < 2147483629
theorem Wel.keep {H H':Hp} {w:Addr} {M M':Int} (h:Wel H w M) (s:Same H H') (m:M≤M'):Wel H' w M':=by
  obtain ⟨a,b,e,h0,h1⟩:=h;exact ⟨a,b,s _ _ e,h0,h1⟩
theorem Wel.more {H:Hp} {w:Addr} {M M':Int} (h:Wel H w M) (m:M≤M'):Wel H w M':=h.keep (Same.refl H) m
theorem But.free {w p:Addr} {H H':Hp} {M:Int} (b:But w H H') (h:Wel H' w M) (n:H' p=none):H p=none:=by
  cases q:H p with
  | none=>rfl
  | some o =>
    by_cases e:p=w
    · subst e;obtain ⟨_,_,z,_⟩:=h;rw [z] at n;cases n
    · rw [b p o e q] at n;cases n
theorem Wel.ne {w p:Addr} {H:Hp} {M:Int} (h:Wel H w M) (n:H p=none):p≠w:=fun e=>by
  subst e;obtain ⟨_,_,z,_⟩:=h;rw [z] at n;cases n
section
variable {P:Program} {w:World} {K:aab} {mg:Str→Option Value} {base:Heap} {f:Addr} {fd:FuncData}
theorem kY (x m:Int) (h:0 < m):0≤x % m∧x % m < m:=⟨Int.emod_nonneg x (by lia),Int.emod_lt_of_pos x h⟩
def lU:Sp:=fun vs H Q _=>∃ cell,vs=[.int cell]∧∀ p H',Same H H'→H p=none→Wel H' p 0→Q (.ref p) H'
abbrev eM:Stmt:=top 42
theorem jK:FnScope ["cell"] ["cell"] (am eM):=⟨rfl,rfl,rfl,by decide +kernel,rfl,by decide +kernel,by decide +kernel⟩
theorem qX (F:Fun K "_law_well" "_law_well" eM f fd) (B:Bu K mg):FnOk P w K mg base CX0 1 f fd ["cell"] lU:=by
  refine F.ok jK (fun vs H Q E h=>?_) (fun cdv A outer s H vs Q E hr h=>?_)
  · obtain ⟨x,rfl,_⟩:=h;rfl
  obtain ⟨cell,rfl,q⟩:=h;refine ⟨_,(@ag _ _ _ _ _ (@bO _ _ _ _ _ _ _ _ (@a9 _ _ _ _ _ _ _ _ uc (pv 0) (@ap _ _ _ _ _ _ _ _ dy af af) (bv _)) (@ai _ _ _ (@az _ _ _ _ (@aw _ _ _ _ (@aa _ _ _ _ _ (pv 0) (@aa _ _ _ _ _ (@ap _ _ _ _ _ _ _ _ eV (pv 0) af) ae (by rfl)) (by rfl))))) aQ) (@ai _ _ _ (@az _ _ _ _ (@aw _ _ _ _ (@aa _ _ _ _ _ af (@aa _ _ _ _ _ (@ap _ _ _ _ _ _ _ _ eV (pv 0) af) ae (by rfl)) (by rfl)))))),?_⟩;have z:=kY cell 2147483629 (by decide);refine ⟨_,rfl,_,_,rfl,rfl,⟨by decide,by decide,by decide⟩,_,_,rfl,rfl,_,rfl,gz (fun _=>?_) (fun _=>?_)⟩
  · exact ⟨_,rfl,_,rfl,_,_,rfl,rfl,(show (0:Int) < 2147483629 by decide),(by show 2≤sizeLine;decide),fun p hp=>q p _ (Same.new hp _) hp ⟨_,_,ad,z.1,z.2⟩⟩
  · exact ⟨_,rfl,_,_,rfl,rfl,(show (0:Int) < 2147483629 by decide),(by show 2≤sizeLine;decide),fun p hp=>q p _ (Same.new hp _) hp ⟨_,_,ad,z.1,z.2⟩⟩
def gb:Sp:=fun vs H Q _=>∃ w m M,vs=[.ref w,.int m]∧0 < m∧m < 2 ^ 63∧Wel H w M∧M < 1000000000∧∀ r H',0≤r→r < m→But w H H'→Wel H' w (M+1)→Q (.int r) H'
abbrev eR:Stmt:=top 43
theorem dg:FnScope ["well","many","got","stirred"] ["well","many"] (am eR):=⟨rfl,rfl,rfl,by decide +kernel,rfl,by decide +kernel,by decide +kernel⟩
theorem qZ (F:Fun K "_law_draw" "_law_draw" eR f fd):FnOk P w K mg base CX0 2 f fd ["well","many"] gb:=by
  refine F.ok dg (fun vs H Q E h=>?_) (fun cdv A outer s H vs Q E hr h=>?_)
  · obtain ⟨x,m,M,rfl,_⟩:=h;rfl
  obtain ⟨wl,m,M,rfl,h0,h1,⟨a,b,e,c0,c1⟩,hM,q⟩:=h;refine ⟨_,(@ag _ _ _ _ _ (@bO _ _ _ _ _ _ _ _ (@a9 _ _ _ _ _ _ _ _ rJ (@cU _ _ _ _ _ _ _ bH (pv 0) af (fun _ _=>rfl)) af (bv _)) (@ag _ _ _ _ _ (@aI _ _ (2) _ _ _ _ (dg).nd rfl (Or.inl rfl) (@ap _ _ _ _ _ _ _ _ eV (@cU _ _ _ _ _ _ _ bH (pv 0) af (fun _ _=>rfl)) (pv 1)) (by rfl) (by first|exact .inl rfl|exact .inr rfl|assumption)) (@ag _ _ _ _ _ (@jM _ _ _ _ _ _ (@ap _ _ _ _ _ _ _ _ kS (@cU _ _ _ _ _ _ _ bH (pv 0) af (fun _ _=>rfl)) (pv 1)) (@pH _ _ _ _ _ _ _ (pv 0) af ki (by intro _;rfl)) (by rfl) (by rfl) (by rfl)) (@ai _ _ _ (@az _ _ _ _ (pv 2))))) aQ) (@ag _ _ _ _ _ (@aI _ _ (3) _ _ _ _ (dg).nd rfl (Or.inl rfl) (@ap _ _ _ _ _ _ _ _ eV (@ap _ _ _ _ _ _ _ _ dH (@ap _ _ _ _ _ _ _ _ gn (@cU _ _ _ _ _ _ _ bH (pv 0) af (fun _ _=>rfl)) af) af) af) (by rfl) (by first|exact .inl rfl|exact .inr rfl|assumption)) (@ag _ _ _ _ _ (@aI _ _ (3) _ _ _ _ (dg).nd rfl (Or.inl rfl) (@ap _ _ _ _ _ _ _ _ eV (@ap _ _ _ _ _ _ _ _ gn (pv 3) (pv 3)) af) (by rfl) (by first|exact .inl rfl|exact .inr rfl|assumption)) (@ag _ _ _ _ _ (@jM _ _ _ _ _ _ (@ap _ _ _ _ _ _ _ _ eV (@ap _ _ _ _ _ _ _ _ dH (@ap _ _ _ _ _ _ _ _ gn (pv 3) af) af) af) (@pH _ _ _ _ _ _ _ (pv 0) af ki (by intro _;rfl)) (by rfl) (by rfl) (by rfl)) (@ai _ _ _ (@az _ _ _ _ (@ap _ _ _ _ _ _ _ _ eV (@ap _ _ _ _ _ _ _ _ kS (@cU _ _ _ _ _ _ _ bH (pv 0) af (fun _ _=>rfl)) af) (pv 1)))))))),?_⟩;refine ⟨_,rfl,wl,_,_,_,rfl,rfl,SqL.of e,rfl,_,_,rfl,rfl,_,rfl,gz (fun _=>?_) (fun _=>?_)⟩
  · refine ⟨_,rfl,wl,_,_,_,rfl,rfl,SqL.of e,rfl,_,rfl,_,_,rfl,rfl,h0,?_⟩;refine ⟨_,rfl,wl,_,_,_,rfl,rfl,SqL.of e,rfl,_,rfl,_,_,rfl,rfl,⟨h0,by lia⟩,_,rfl,wl,_,_,0,rfl,rfl,e,rfl,?_⟩;refine ⟨_,rfl,?_⟩;have z:=kY a m h0;exact q _ _ z.1 z.2 But.put ⟨_,_,ad,c0,c1⟩
  · refine ⟨_,rfl,wl,_,_,_,rfl,rfl,SqL.of e,rfl,_,_,rfl,rfl,.inr ⟨by decide,by decide⟩,_,_,rfl,rfl,_,_,rfl,rfl,(show (0:Int) < 2147483647 by decide),?_⟩;refine ⟨_,rfl,_,rfl,_,_,rfl,rfl,.inl ⟨by lia,by lia⟩,_,_,rfl,rfl,(show (0:Int) < 2147483587 by decide),?_⟩;refine ⟨_,rfl,_,_,rfl,rfl,.inr ⟨by decide,by decide⟩,_,_,rfl,rfl,_,_,rfl,rfl,(show (0:Int) < 2147483629 by decide),_,rfl,wl,_,_,1,rfl,rfl,e,rfl,?_⟩;have hd:=kY ((b * 48271+11) % 2147483647 * ((b * 48271+11) % 2147483647) % 2147483587 * 69621+40692) 2147483629 (by decide);refine ⟨_,rfl,wl,_,_,_,rfl,rfl,SqL.of ad,rfl,_,_,rfl,rfl,⟨by decide,by decide⟩,_,rfl,_,_,rfl,rfl,h0,?_⟩;have z:=kY (((b * 48271+11) % 2147483647 * ((b * 48271+11) % 2147483647) % 2147483587 * 69621+40692) % 2147483629 / 8) m h0;exact q _ _ z.1 z.2 But.put ⟨_,_,ad,hd.1,hd.2⟩
open PySem L2
def Small (ns:List Int):Prop:=∀ i∈ns,-1000000000000 < i∧i < 1000000000000
def o8:Sp:=fun vs H Q _=>∃ w n M,vs=[.ref w,.int n]∧0≤n∧n≤20∧Wel H w M∧M < 999990000 ∧
  ∀ p ns H',But w H H'→Wel H' w (M+400)→H p=none→H' p=some (.lst (ns.map V.int))→(ns.length:Int)=n→Small ns→Q (.ref p) H'
theorem kJ {xs:List Int} {r:Int} (h0:0≤r) (h1:r < xs.length):∃ u:Int,atI (xs.map V.int) r=some (.int u)∧u∈xs:=by
  obtain ⟨j,rfl⟩:∃ j:Nat,r=(j:Int):=⟨r.toNat,by lia⟩
  have hj:j < xs.length:=by lia
  exact ⟨xs[j],gY (by rw [aaF,aaf hj];rfl),List.getElem_mem hj⟩
theorem pm {k:Int} (h0:0≤k) (h1:k < 2):∃ z:Int,atI [V.int 1,.int (-1)] k=some (.int z)∧(z=1∨z=-1):=by
  have : k=0∨k=1:=by lia
  rcases this with rfl|rfl
  · exact ⟨1,rfl,.inl rfl⟩
  · exact ⟨-1,rfl,.inr rfl⟩
theorem p4 {k:Int} (h0:0≤k) (h1:k < 4):∃ z:Int,atI [V.int (10 ^ (4:Int).toNat),.int (10 ^ (6:Int).toNat),.int (10 ^ (9:Int).toNat),.int (10 ^ (12:Int).toNat)] k=some (.int z)∧0 < z∧z≤1000000000000:=by
  have : k=0∨k=1∨k=2∨k=3:=by lia
  rcases this with rfl|rfl|rfl|rfl <;> exact ⟨_,rfl,by decide,by decide⟩
abbrev fH:Stmt:=top 44
theorem bg:FnScope ["well","many","kind","found","k","some","wide","own"] ["well","many"] (am fH):=⟨rfl,rfl,rfl,by decide +kernel,rfl,by decide +kernel,by decide +kernel⟩
theorem sL (F:Fun K "_law_row" "_law_row" fH f fd) (B:Bu K mg) (C__law_draw:Cal P w K mg base "_law_draw" 2 ["well","many"] gb):FnOk P w K mg base CX0 3 f fd ["well","many"] o8:=by
  refine F.ok bg (fun vs H Q E h=>?_) (fun cdv A outer s H vs Q E hr h=>?_)
  · obtain ⟨x,m,M,rfl,_⟩:=h;rfl
  obtain ⟨wl,n,M,rfl,h0,h1,hw,hM,q⟩:=h;refine ⟨_,(@ag _ _ _ _ _ (@aI _ _ (2) _ _ _ _ (bg).nd rfl (Or.inl rfl) (@aB _ _ _ _ _ _ _ _ _ _ _ C__law_draw hr (by lia) rfl (@aa _ _ _ _ _ (pv 0) (@aa _ _ _ _ _ af ae (by rfl)) (by rfl)) (by decide) (by rfl) (by rfl)) (by rfl) (by first|exact .inl rfl|exact .inr rfl|assumption)) (@ag _ _ _ _ _ (@aI _ _ (3) _ _ _ _ (bg).nd rfl (Or.inl rfl) (@aw _ _ _ _ ae) (by rfl) (by first|exact .inl rfl|exact .inr rfl|assumption)) (@ag _ _ _ _ _ (@cA _ _ _ _ _ _ _ _ aaW rfl (@fg _ _ _ _ _ _ rfl B.irange (@aa _ _ _ _ _ (pv 1) ae (by rfl)) (by rfl)) (@aD _ _ (4) _ (bg).nd rfl (Or.inl rfl) (.inl rfl)) (@ag _ _ _ _ _ (@aI _ _ (5) _ _ _ _ (bg).nd rfl (Or.inl rfl) (@aw _ _ _ _ (@aa _ _ _ _ _ (@aB _ _ _ _ _ _ _ _ _ _ _ C__law_draw hr (by lia) rfl (@aa _ _ _ _ _ (pv 0) (@aa _ _ _ _ _ af ae (by rfl)) (by rfl)) (by decide) (by rfl) (by rfl)) (@aa _ _ _ _ _ (@ap _ _ _ _ _ _ _ _ dw (@aB _ _ _ _ _ _ _ _ _ _ _ C__law_draw hr (by lia) rfl (@aa _ _ _ _ _ (pv 0) (@aa _ _ _ _ _ af ae (by rfl)) (by rfl)) (by decide) (by rfl) (by rfl)) af) (@aa _ _ _ _ _ (@ap _ _ _ _ _ _ _ _ dw (@aB _ _ _ _ _ _ _ _ _ _ _ C__law_draw hr (by lia) rfl (@aa _ _ _ _ _ (pv 0) (@aa _ _ _ _ _ af ae (by rfl)) (by rfl)) (by decide) (by rfl) (by rfl)) af) (@aa _ _ _ _ _ (@ap _ _ _ _ _ _ _ _ dw (@aB _ _ _ _ _ _ _ _ _ _ _ C__law_draw hr (by lia) rfl (@aa _ _ _ _ _ (pv 0) (@aa _ _ _ _ _ af ae (by rfl)) (by rfl)) (by decide) (by rfl) (by rfl)) af) ae (by rfl)) (by rfl)) (by rfl)) (by rfl))) (by rfl) (by first|exact .inl rfl|exact .inr rfl|assumption)) (@ag _ _ _ _ _ (@aI _ _ (5) _ _ _ _ (bg).nd rfl (Or.inl rfl) (@ap _ _ _ _ _ _ _ _ dz (pv 5) (@aw _ _ _ _ (@aa _ _ _ _ _ (@ap _ _ _ _ _ _ _ _ gn (@ap _ _ _ _ _ _ _ _ dw (@ap _ _ _ _ _ _ _ _ dw (@ap _ _ _ _ _ _ _ _ dy af af) af) (@aB _ _ _ _ _ _ _ _ _ _ _ C__law_draw hr (by lia) rfl (@aa _ _ _ _ _ (pv 0) (@aa _ _ _ _ _ af ae (by rfl)) (by rfl)) (by decide) (by rfl) (by rfl))) (@cU _ _ _ _ _ _ _ bH (@aw _ _ _ _ (@aa _ _ _ _ _ af (@aa _ _ _ _ _ (@mX _ _ _ _ _ _ jy af) ae (by rfl)) (by rfl))) (@aB _ _ _ _ _ _ _ _ _ _ _ C__law_draw hr (by lia) rfl (@aa _ _ _ _ _ (pv 0) (@aa _ _ _ _ _ af ae (by rfl)) (by rfl)) (by decide) (by rfl) (by rfl)) (fun _ _=>rfl))) (@aa _ _ _ _ _ (@ap _ _ _ _ _ _ _ _ dH af (@aB _ _ _ _ _ _ _ _ _ _ _ C__law_draw hr (by lia) rfl (@aa _ _ _ _ _ (pv 0) (@aa _ _ _ _ _ af ae (by rfl)) (by rfl)) (by decide) (by rfl) (by rfl))) ae (by rfl)) (by rfl)))) (by rfl) (by first|exact .inl rfl|exact .inr rfl|assumption)) (@ag _ _ _ _ _ (@aI _ _ (6) _ _ _ _ (bg).nd rfl (Or.inl rfl) (@ap _ _ _ _ _ _ _ _ dH (@ap _ _ _ _ _ _ _ _ gn (@aB _ _ _ _ _ _ _ _ _ _ _ C__law_draw hr (by lia) rfl (@aa _ _ _ _ _ (pv 0) (@aa _ _ _ _ _ (@ap _ _ _ _ _ _ _ _ dy af af) ae (by rfl)) (by rfl)) (by decide) (by rfl) (by rfl)) (@ap _ _ _ _ _ _ _ _ dy af af)) (@aB _ _ _ _ _ _ _ _ _ _ _ C__law_draw hr (by lia) rfl (@aa _ _ _ _ _ (pv 0) (@aa _ _ _ _ _ (@ap _ _ _ _ _ _ _ _ dy af af) ae (by rfl)) (by rfl)) (by decide) (by rfl) (by rfl))) (by rfl) (by first|exact .inl rfl|exact .inr rfl|assumption)) (@ag _ _ _ _ _ (@aI _ _ (6) _ _ _ _ (bg).nd rfl (Or.inl rfl) (@ap _ _ _ _ _ _ _ _ gn (@ap _ _ _ _ _ _ _ _ eV (pv 6) (@cU _ _ _ _ _ _ _ bH (@aw _ _ _ _ (@aa _ _ _ _ _ (@ap _ _ _ _ _ _ _ _ dy af af) (@aa _ _ _ _ _ (@ap _ _ _ _ _ _ _ _ dy af af) (@aa _ _ _ _ _ (@ap _ _ _ _ _ _ _ _ dy af af) (@aa _ _ _ _ _ (@ap _ _ _ _ _ _ _ _ dy af af) ae (by rfl)) (by rfl)) (by rfl)) (by rfl))) (@aB _ _ _ _ _ _ _ _ _ _ _ C__law_draw hr (by lia) rfl (@aa _ _ _ _ _ (pv 0) (@aa _ _ _ _ _ af ae (by rfl)) (by rfl)) (by decide) (by rfl) (by rfl)) (fun _ _=>rfl))) (@cU _ _ _ _ _ _ _ bH (@aw _ _ _ _ (@aa _ _ _ _ _ af (@aa _ _ _ _ _ (@mX _ _ _ _ _ _ jy af) ae (by rfl)) (by rfl))) (@aB _ _ _ _ _ _ _ _ _ _ _ C__law_draw hr (by lia) rfl (@aa _ _ _ _ _ (pv 0) (@aa _ _ _ _ _ af ae (by rfl)) (by rfl)) (by decide) (by rfl) (by rfl)) (fun _ _=>rfl))) (by rfl) (by first|exact .inl rfl|exact .inr rfl|assumption)) (@ag _ _ _ _ _ (@aI _ _ (7) _ _ _ _ (bg).nd rfl (Or.inl rfl) (@aB _ _ _ _ _ _ _ _ _ _ _ C__law_draw hr (by lia) rfl (@aa _ _ _ _ _ (pv 0) (@aa _ _ _ _ _ af ae (by rfl)) (by rfl)) (by decide) (by rfl) (by rfl)) (by rfl) (by first|exact .inl rfl|exact .inr rfl|assumption)) (@ai _ _ _ (@bA _ _ _ _ (@kP _ _ _ _ _ _ _ _ _ _ _ _ abH acn aco gv (pv 3) (@aa _ _ _ _ _ (@cU _ _ _ _ _ _ _ bH (@ap _ _ _ _ _ _ _ _ dz (pv 5) (@aw _ _ _ _ (@aa _ _ _ _ _ (@cU _ _ _ _ _ _ _ bH (@ap _ _ _ _ _ _ _ _ dz (pv 3) (pv 5)) af (fun _ _=>rfl)) (@aa _ _ _ _ _ (pv 6) ae (by rfl)) (by rfl)))) (@cU _ _ _ _ _ _ _ bH (@aw _ _ _ _ (@aa _ _ _ _ _ (pv 2) (@aa _ _ _ _ _ (pv 7) ae (by rfl)) (by rfl))) (@fi _ _ _ _ _ _ _ _ _ oQ rfl B.iint PyProof.Rows.boot_int (@aa _ _ _ _ _ (@jO _ _ _ _ _ _ _ _ fu (pv 2) af (bv _)) ae (by rfl)) (by decide) (by decide) (by rfl) (by rfl)) (fun _ _=>rfl)) (fun _ _=>rfl)) ae (by rfl)) (by rfl) (by rfl) (by rfl) (by rfl) (by rfl)) (by rfl)))))))) (by intro _;rfl)) (@ai _ _ _ (@az _ _ _ _ (pv 3)))))),?_⟩;have t1:(1:Nat)≤sizeLine:=by decide
  have t2:(2:Nat)≤sizeLine:=by decide
  have t4:(4:Nat)≤sizeLine:=by decide
  refine ⟨_,rfl,wl,9,_,rfl,by decide,by decide,hw,by lia,fun kd H1 kd0 kd1 g1 w1=>?_⟩;refine ⟨(by show 0≤sizeLine;decide),fun pf nf=>?_⟩;have nfw:=w1.ne nf;have hfree:H pf=none:=But.free g1 w1 nf;refine ⟨_,rfl,n,rfl,by lia,by lia,oF (n:=n.toNat) (fun j σ H'=>∃ (ns:List Int) (c4 c5 c6 c7:Option V),σ=[some (.ref wl),some (.int n),some (.int kd),some (.ref pf),c4,c5,c6,c7]∧H' pf=some (.lst (ns.map V.int))∧ns.length=j∧Small ns∧But wl H1 H'∧Wel H' wl (M+1+15 * j)) ⟨[],_,_,_,_,rfl,ad,rfl,(fun _ z=>nomatch z),But.new nf _,(w1.keep (Same.new nf _) (aa7 _)).more (by lia)⟩ ?_ ?_⟩
  · rintro j σ K0 hj ⟨ns,c4,c5,c6,c7,rfl,ef,hl,hs,bb,u0⟩;refine ⟨_,rfl,wl,10,_,rfl,by decide,by decide,u0,by lia,fun r1 K1 r1a r1b b0 u1=>?_⟩;refine ⟨_,rfl,wl,3,_,rfl,by decide,by decide,u1,by lia,fun r2 K2 r2a r2b b1 u2=>⟨_,_,rfl,rfl,?_⟩⟩;refine ⟨_,rfl,wl,13,_,rfl,by decide,by decide,u2,by lia,fun r3 K3 r3a r3b b2 u3=>⟨_,_,rfl,rfl,?_⟩⟩;refine ⟨_,rfl,wl,1999,_,rfl,by decide,by decide,u3,by lia,fun r4 K4 r4a r4b b3 u4=>⟨_,_,rfl,rfl,?_⟩⟩;refine ⟨t4,fun q1 m1=>?_⟩;have y4:=Same.new m1 (.lst [V.int r1,.int (r2 - 1),.int (r3 - 6),.int (r4 - 999)]);have nq_q1:=u4.ne m1;have u5:=u4.keep y4 (aa7 _);have e_q1:=ad (H:=K4) (a:=q1) (o:=.lst [V.int r1,.int (r2 - 1),.int (r3 - 6),.int (r4 - 999)]);revert y4 u5 e_q1;generalize upd K4 q1 (.lst [V.int r1,.int (r2 - 1),.int (r3 - 6),.int (r4 - 999)])=K5;intro y4 u5 e_q1;have b4:But wl K4 K5:=But.of y4;refine ⟨_,rfl,10,12,rfl,rfl,⟨by decide,by decide,by decide⟩,_,_,rfl,rfl,?_⟩;refine ⟨_,rfl,wl,99,_,rfl,by decide,by decide,u5,by lia,fun r5 K6 r5a r5b b5 u6=>⟨_,_,rfl,rfl,?_⟩⟩;refine ⟨_,rfl,t2,fun q2 m2=>?_⟩;have y6:=Same.new m2 (.lst [V.int 1,.int (-1)]);have nq_q2:=u6.ne m2;have u7:=u6.keep y6 (aa7 _);have e_q2:=ad (H:=K6) (a:=q2) (o:=.lst [V.int 1,.int (-1)]);revert y6 u7 e_q2;generalize upd K6 q2 (.lst [V.int 1,.int (-1)])=K7;intro y6 u7 e_q2;have b6:But wl K6 K7:=But.of y6;refine ⟨_,rfl,wl,2,_,rfl,by decide,by decide,u7,by lia,fun r6 K8 r6a r6b b7 u8=>?_⟩;obtain ⟨s1,hs1,vs1⟩:=pm r6a r6b;have p12:(10:Int) ^ (12:Int).toNat=1000000000000:=by decide
    rw [p12];refine ⟨q2,_,_,_,rfl,rfl,SqL.of (b7 _ _ nq_q2 e_q2),hs1,_,_,rfl,rfl,.inr ⟨by lia,by lia⟩,?_⟩;refine ⟨_,rfl,wl,9,_,rfl,by decide,by decide,u8,by lia,fun r7 K9 r7a r7b b8 u9=>⟨_,_,rfl,rfl,?_⟩⟩;refine ⟨t2,fun q3 m3=>?_⟩;have y9:=Same.new m3 (.lst [V.int ((1000000000000 - 1 - r5) * s1),.int (1+r7)]);have nq_q3:=u9.ne m3;have u10:=u9.keep y9 (aa7 _);have e_q3:=ad (H:=K9) (a:=q3) (o:=.lst [V.int ((1000000000000 - 1 - r5) * s1),.int (1+r7)]);revert y9 u10 e_q3;generalize upd K9 q3 (.lst [V.int ((1000000000000 - 1 - r5) * s1),.int (1+r7)])=K10;intro y9 u10 e_q3;have b9:But wl K9 K10:=But.of y9;refine ⟨q1,q3,_,_,rfl,rfl,((b5.trans (b6.trans (b7.trans (b8.trans b9)))) _ _ nq_q1 e_q1),e_q3,dh (by show 4+2≤1000;decide),fun q4 m4=>?_⟩;have y10:=Same.new m4 (.lst ([V.int r1,.int (r2 - 1),.int (r3 - 6),.int (r4 - 999)]++[V.int ((1000000000000 - 1 - r5) * s1),.int (1+r7)]));have nq_q4:=u10.ne m4;have u11:=u10.keep y10 (aa7 _);have e_q4:=ad (H:=K10) (a:=q4) (o:=.lst ([V.int r1,.int (r2 - 1),.int (r3 - 6),.int (r4 - 999)]++[V.int ((1000000000000 - 1 - r5) * s1),.int (1+r7)]));revert y10 u11 e_q4;generalize upd K10 q4 (.lst ([V.int r1,.int (r2 - 1),.int (r3 - 6),.int (r4 - 999)]++[V.int ((1000000000000 - 1 - r5) * s1),.int (1+r7)]))=K11;intro y10 u11 e_q4;have b10:But wl K10 K11:=But.of y10;have p6:(10:Int) ^ (6:Int).toNat=1000000:=by decide
    refine ⟨_,rfl,10,6,rfl,rfl,⟨by decide,by decide,by decide⟩,wl,_,_,rfl,(by decide),(by decide),u11,by lia,fun r8 K12 r8a r8b b11 u12=>⟨10,6,rfl,rfl,⟨by decide,by decide,by decide⟩,_,_,rfl,rfl,.inr ⟨by decide,by decide⟩,?_⟩⟩;refine ⟨_,rfl,10,6,rfl,rfl,⟨by decide,by decide,by decide⟩,wl,_,_,rfl,(by decide),(by decide),u12,by lia,fun r9 K13 r9a r9b b12 u13=>⟨_,_,rfl,rfl,?_⟩⟩;refine ⟨_,rfl,10,4,rfl,rfl,⟨by decide,by decide,by decide⟩,10,6,rfl,rfl,⟨by decide,by decide,by decide⟩,10,9,rfl,rfl,⟨by decide,by decide,by decide⟩,10,12,rfl,rfl,⟨by decide,by decide,by decide⟩,t4,fun q5 m5=>?_⟩;have y13:=Same.new m5 (.lst [V.int (10 ^ (4:Int).toNat),.int (10 ^ (6:Int).toNat),.int (10 ^ (9:Int).toNat),.int (10 ^ (12:Int).toNat)]);have nq_q5:=u13.ne m5;have u14:=u13.keep y13 (aa7 _);have e_q5:=ad (H:=K13) (a:=q5) (o:=.lst [V.int (10 ^ (4:Int).toNat),.int (10 ^ (6:Int).toNat),.int (10 ^ (9:Int).toNat),.int (10 ^ (12:Int).toNat)]);revert y13 u14 e_q5;generalize upd K13 q5 (.lst [V.int (10 ^ (4:Int).toNat),.int (10 ^ (6:Int).toNat),.int (10 ^ (9:Int).toNat),.int (10 ^ (12:Int).toNat)])=K14;intro y13 u14 e_q5;have b13:But wl K13 K14:=But.of y13;refine ⟨_,rfl,wl,4,_,rfl,by decide,by decide,u14,by lia,fun r10 K15 r10a r10b b14 u15=>?_⟩;obtain ⟨md,hmd,md0,md1⟩:=p4 r10a r10b;refine ⟨q5,_,_,_,rfl,rfl,SqL.of (b14 _ _ nq_q5 e_q5),hmd,_,_,rfl,rfl,md0,_,rfl,t2,fun q6 m6=>?_⟩;have y15:=Same.new m6 (.lst [V.int 1,.int (-1)]);have nq_q6:=u15.ne m6;have u16:=u15.keep y15 (aa7 _);have e_q6:=ad (H:=K15) (a:=q6) (o:=.lst [V.int 1,.int (-1)]);revert y15 u16 e_q6;generalize upd K15 q6 (.lst [V.int 1,.int (-1)])=K16;intro y15 u16 e_q6;have b15:But wl K15 K16:=But.of y15;refine ⟨_,rfl,wl,2,_,rfl,by decide,by decide,u16,by lia,fun r11 K17 r11a r11b b16 u17=>?_⟩;obtain ⟨s2,hs2,vs2⟩:=pm r11a r11b;have hwd:=kY (r8 * 10 ^ (6:Int).toNat+r9) md md0;refine ⟨q6,_,_,_,rfl,rfl,SqL.of (b16 _ _ nq_q6 e_q6),hs2,_,_,rfl,rfl,.inr ⟨by lia,by lia⟩,?_⟩;refine ⟨_,rfl,wl,8,_,rfl,by decide,by decide,u17,by lia,fun r12 K18 r12a r12b b17 u18=>?_⟩;refine ⟨_,rfl,.inl ⟨rfl,_,SqL.of ((b0.trans (b1.trans (b2.trans (b3.trans (b4.trans (b5.trans (b6.trans (b7.trans (b8.trans (b9.trans (b10.trans (b11.trans (b12.trans (b13.trans (b14.trans (b15.trans (b16.trans b17))))))))))))))))) _ _ nfw ef)⟩,_,rfl,_,rfl,_,rfl,?_⟩;refine ⟨pf,q4,_,_,rfl,rfl,((b0.trans (b1.trans (b2.trans (b3.trans (b4.trans (b5.trans (b6.trans (b7.trans (b8.trans (b9.trans (b10.trans (b11.trans (b12.trans (b13.trans (b14.trans (b15.trans (b16.trans b17))))))))))))))))) _ _ nfw ef),((b11.trans (b12.trans (b13.trans (b14.trans (b15.trans (b16.trans b17)))))) _ _ nq_q4 e_q4),dh (by rw [aak];show _+6≤1000;lia),fun q7 m7=>?_⟩;have eall:ns.map V.int++([V.int r1,.int (r2 - 1),.int (r3 - 6),.int (r4 - 999)]++[V.int ((1000000000000 - 1 - r5) * s1),.int (1+r7)])=(ns++[r1,r2 - 1,r3 - 6,r4 - 999,(1000000000000 - 1 - r5) * s1,1+r7]).map V.int:=by rw [abb];rfl
    rw [eall];have y18:=Same.new m7 (.lst ((ns++[r1,r2 - 1,r3 - 6,r4 - 999,(1000000000000 - 1 - r5) * s1,1+r7]).map V.int));have nq_q7:=u18.ne m7;have u19:=u18.keep y18 (aa7 _);have e_q7:=ad (H:=K18) (a:=q7) (o:=.lst ((ns++[r1,r2 - 1,r3 - 6,r4 - 999,(1000000000000 - 1 - r5) * s1,1+r7]).map V.int));revert y18 u19 e_q7;generalize upd K18 q7 (.lst ((ns++[r1,r2 - 1,r3 - 6,r4 - 999,(1000000000000 - 1 - r5) * s1,1+r7]).map V.int))=K19;intro y18 u19 e_q7;have b18:But wl K18 K19:=But.of y18;obtain ⟨x0,hx0,mx0⟩:=kJ (xs:=(ns++[r1,r2 - 1,r3 - 6,r4 - 999,(1000000000000 - 1 - r5) * s1,1+r7])) (r:=0) (by decide) (by rw [aax];simp only [aaO,aba];lia);refine ⟨q7,_,_,_,rfl,rfl,SqL.of e_q7,hx0,_,rfl,t2,fun q8 m8=>?_⟩;have y19:=Same.new m8 (.lst [V.int x0,.int ((r8 * 10 ^ (6:Int).toNat+r9) % md * s2)]);have nq_q8:=u19.ne m8;have u20:=u19.keep y19 (aa7 _);have e_q8:=ad (H:=K19) (a:=q8) (o:=.lst [V.int x0,.int ((r8 * 10 ^ (6:Int).toNat+r9) % md * s2)]);revert y19 u20 e_q8;generalize upd K19 q8 (.lst [V.int x0,.int ((r8 * 10 ^ (6:Int).toNat+r9) % md * s2)])=K20;intro y19 u20 e_q8;have b19:But wl K19 K20:=But.of y19;refine ⟨q4,q8,_,_,rfl,rfl,((b11.trans (b12.trans (b13.trans (b14.trans (b15.trans (b16.trans (b17.trans (b18.trans b19)))))))) _ _ nq_q4 e_q4),e_q8,dh (by show 6+2≤1000;decide),fun q9 m9=>?_⟩;have e8:[V.int r1,.int (r2 - 1),.int (r3 - 6),.int (r4 - 999)]++[V.int ((1000000000000 - 1 - r5) * s1),.int (1+r7)]++[V.int x0,.int ((r8 * 10 ^ (6:Int).toNat+r9) % md * s2)]=([r1,r2 - 1,r3 - 6,r4 - 999,(1000000000000 - 1 - r5) * s1,1+r7,x0,(r8 * 10 ^ (6:Int).toNat+r9) % md * s2]:List Int).map V.int:=rfl;rw [e8];have y20:=Same.new m9 (.lst (([r1,r2 - 1,r3 - 6,r4 - 999,(1000000000000 - 1 - r5) * s1,1+r7,x0,(r8 * 10 ^ (6:Int).toNat+r9) % md * s2]:List Int).map V.int));have nq_q9:=u20.ne m9;have u21:=u20.keep y20 (aa7 _);have e_q9:=ad (H:=K20) (a:=q9) (o:=.lst (([r1,r2 - 1,r3 - 6,r4 - 999,(1000000000000 - 1 - r5) * s1,1+r7,x0,(r8 * 10 ^ (6:Int).toNat+r9) % md * s2]:List Int).map V.int));revert y20 u21 e_q9;generalize upd K20 q9 (.lst (([r1,r2 - 1,r3 - 6,r4 - 999,(1000000000000 - 1 - r5) * s1,1+r7,x0,(r8 * 10 ^ (6:Int).toNat+r9) % md * s2]:List Int).map V.int))=K21;intro y20 u21 e_q9;have b20:But wl K20 K21:=But.of y20;refine ⟨_,rfl,_,rfl,t2,fun qa ma=>?_⟩;have y21:=Same.new ma (.lst [V.int kd,.int r12]);have nq_qa:=u21.ne ma;have u22:=u21.keep y21 (aa7 _);have e_qa:=ad (H:=K21) (a:=qa) (o:=.lst [V.int kd,.int r12]);revert y21 u22 e_qa;generalize upd K21 qa (.lst [V.int kd,.int r12])=K22;intro y21 u22 e_qa;have b21:But wl K21 K22:=But.of y21;have ix:∃ z:Int,atI [V.int kd,.int r12] (if decide (V.int kd=V.int 8)=true then 1 else 0)=some (.int z)∧0≤z∧z < 8:=by
      by_cases c:kd=8
      · exact ⟨r12,by rw [decide_eq_true (by rw [c])];rfl,r12a,r12b⟩
      · exact ⟨kd,by rw [decide_eq_false (fun e=>c (by injection e))];rfl,kd0,by lia⟩
    obtain ⟨zi,hzi,zi0,zi1⟩:=ix;obtain ⟨el,hel,mel⟩:=kJ (xs:=[r1,r2 - 1,r3 - 6,r4 - 999,(1000000000000 - 1 - r5) * s1,1+r7,x0,(r8 * 10 ^ (6:Int).toNat+r9) % md * s2]) zi0 zi1;refine ⟨_,rfl,rfl,.inr ⟨_,rfl,qa,_,_,_,rfl,rfl,SqL.of e_qa,hzi,q9,_,_,_,rfl,rfl,SqL.of (b21 _ _ nq_q9 e_q9),hel,pf,_,_,rfl,rfl,((b0.trans (b1.trans (b2.trans (b3.trans (b4.trans (b5.trans (b6.trans (b7.trans (b8.trans (b9.trans (b10.trans (b11.trans (b12.trans (b13.trans (b14.trans (b15.trans (b16.trans (b17.trans (b18.trans (b19.trans (b20.trans b21))))))))))))))))))))) _ _ nfw ef),cN (by rw [aak];lia),?_⟩⟩;have sm5:-1000000000000 < (1000000000000 - 1 - r5) * s1∧(1000000000000 - 1 - r5) * s1 < 1000000000000:=by rcases vs1 with rfl|rfl <;> lia
    have smw:-1000000000000 < (r8 * 10 ^ (6:Int).toNat+r9) % md * s2∧(r8 * 10 ^ (6:Int).toNat+r9) % md * s2 < 1000000000000:=by rcases vs2 with rfl|rfl <;> lia
    have sm1:∀ x∈[r1,r2 - 1,r3 - 6,r4 - 999,(1000000000000 - 1 - r5) * s1,1+r7],-1000000000000 < x∧x < 1000000000000:=fun x hx=>by
      simp only [aay,abe,or_false] at hx;rcases hx with rfl|rfl|rfl|rfl|rfl|rfl <;> first|exact sm5|lia
    have sx0:-1000000000000 < x0∧x0 < 1000000000000:=(aao.mp mx0).elim (hs x0) (sm1 x0);have sel:-1000000000000 < el∧el < 1000000000000:=by
      simp only [aay,abe,or_false] at mel;rcases mel with rfl|rfl|rfl|rfl|rfl|rfl|rfl|rfl <;> first|exact sm5|exact sx0|exact smw|lia
    refine ⟨ns++[el],_,_,_,_,rfl,by rw [ad,abb];rfl,by rw [aax,hl];rfl,fun x hx=>(aao.mp hx).elim (hs x) fun z=>by rw [aar.mp z];exact sel,?_,?_⟩
    · exact fun c o nc hc=>by
        by_cases z:c=pf
        · subst z;rw [nf] at hc;cases hc
        · rw [aj z];exact (bb.trans (b0.trans (b1.trans (b2.trans (b3.trans (b4.trans (b5.trans (b6.trans (b7.trans (b8.trans (b9.trans (b10.trans (b11.trans (b12.trans (b13.trans (b14.trans (b15.trans (b16.trans (b17.trans (b18.trans (b19.trans (b20.trans b21)))))))))))))))))))))) c o nc hc
    · obtain ⟨wa,wb,we,wf,wg⟩:=u22;exact ⟨wa,wb,by rw [aj (aa3 nfw)];exact we,wf,wg⟩
  · rintro σ K1 ⟨ns,c4,c5,c6,c7,rfl,ef,hl,hs,bb,u0⟩;exact ⟨_,rfl,q pf ns K1 (g1.trans bb) (u0.more (by lia)) hfree ef (by lia) hs⟩
def gc:List V:=[.str "+",.str "-",.str "*",.str "+-",.str "+*",.str "-*",.str "+-*"]
def db (gs:List Sg):Prop:=inV (.str (av gs)) gc=true
def fA:Sp:=fun vs H Q _=>∃ w M,vs=[.ref w]∧Wel H w M∧M < 999990000∧∀ gs H',1≤gs.length→gs.length≤3→db gs→But w H H'→Wel H' w (M+1)→Q (.str (av gs)) H'
theorem uY {k:Int} (h0:0≤k) (h1:k < 8):∃ gs:List Sg,atI [V.str "+",.str "-",.str "*",.str "+-",.str "+*",.str "-*",.str "+-*",.str "+-*"] k=some (.str (av gs))∧1≤gs.length∧gs.length≤3∧db gs:=by
  have : k=0∨k=1∨k=2∨k=3∨k=4∨k=5∨k=6∨k=7:=by lia
  rcases this with rfl|rfl|rfl|rfl|rfl|rfl|rfl|rfl
  · exact ⟨[.plus],by rfl,by decide,by decide,by unfold db;decide +kernel⟩
  · exact ⟨[.minus],by rfl,by decide,by decide,by unfold db;decide +kernel⟩
  · exact ⟨[.times],by rfl,by decide,by decide,by unfold db;decide +kernel⟩
  · exact ⟨[.plus,.minus],by rfl,by decide,by decide,by unfold db;decide +kernel⟩
  · exact ⟨[.plus,.times],by rfl,by decide,by decide,by unfold db;decide +kernel⟩
  · exact ⟨[.minus,.times],by rfl,by decide,by decide,by unfold db;decide +kernel⟩
  · exact ⟨[.plus,.minus,.times],by rfl,by decide,by decide,by unfold db;decide +kernel⟩
  · exact ⟨[.plus,.minus,.times],by rfl,by decide,by decide,by unfold db;decide +kernel⟩
abbrev eg:Stmt:=top 45
theorem i4:FnScope ["well"] ["well"] (am eg):=⟨rfl,rfl,rfl,by decide +kernel,rfl,by decide +kernel,by decide +kernel⟩
theorem jQ (F:Fun K "_law_signs" "_law_signs" eg f fd) (C__law_draw:Cal P w K mg base "_law_draw" 2 ["well","many"] gb):FnOk P w K mg base CX0 3 f fd ["well"] fA:=by
  refine F.ok i4 (fun vs H Q E h=>?_) (fun cdv A outer s H vs Q E hr h=>?_)
  · obtain ⟨x,M,rfl,_⟩:=h;rfl
  obtain ⟨wl,M,rfl,hw,hM,q⟩:=h;refine ⟨_,(@ai _ _ _ (@az _ _ _ _ (@cU _ _ _ _ _ _ _ bH (@aw _ _ _ _ (@aa _ _ _ _ _ aq (@aa _ _ _ _ _ aq (@aa _ _ _ _ _ aq (@aa _ _ _ _ _ aq (@aa _ _ _ _ _ aq (@aa _ _ _ _ _ aq (@aa _ _ _ _ _ aq (@aa _ _ _ _ _ aq ae (by rfl)) (by rfl)) (by rfl)) (by rfl)) (by rfl)) (by rfl)) (by rfl)) (by rfl))) (@aB _ _ _ _ _ _ _ _ _ _ _ C__law_draw hr (by lia) rfl (@aa _ _ _ _ _ (pv 0) (@aa _ _ _ _ _ af ae (by rfl)) (by rfl)) (by decide) (by rfl) (by rfl)) (fun _ _=>rfl)))),?_⟩;refine ⟨(by show 8≤sizeLine;decide),fun p1 n1=>?_⟩;have w1:=hw.keep (Same.new n1 (.lst [.str "+",.str "-",.str "*",.str "+-",.str "+*",.str "-*",.str "+-*",.str "+-*"])) (aa7 _);refine ⟨_,rfl,wl,8,_,rfl,by decide,by decide,w1,by lia,fun r1 H1 a1 b1 g1 w2=>?_⟩;obtain ⟨gs,hg,l1,l2,l3⟩:=uY a1 b1;exact ⟨p1,_,_,_,rfl,rfl,SqL.of (g1 _ _ (hw.ne n1) ad),hg,q gs H1 l1 l2 l3 ((But.new n1 _).trans g1) w2⟩
end
open PySem L2
structure Cp (K:aab) (mg:Str→Option Value) (tk:Tok) (aP:Addr):Prop where
  gMOST_NUMBERS:mg "MOST_NUMBERS" = some (.int 9 tk)
  gSIGNS_TO_PUT:mg "SIGNS_TO_PUT" = some (.ref aP)
  sSIGNS_TO_PUT:∀ H,SqT K H aP gc
theorem PairsIn.mono {H H':Hp} (t:Tups H H'):∀ {ps:List (Int × Int)} {vs:List V},PairsIn H ps vs→PairsIn H' ps vs
  | _,_,.nil=>.nil
  | _,_,.cons ⟨a,e,h⟩ b=>.cons ⟨a,e,t _ _ h⟩ (PairsIn.mono t b)
theorem PairsIn.app {H:Hp} {ps qs:List (Int × Int)} {vs us:List V} (a:PairsIn H ps vs) (b:PairsIn H qs us):PairsIn H (ps++qs) (vs++us):=by
  induction a with
  | nil=>exact b
  | cons x _ ih=>exact .cons x ih
theorem PairsIn.snoc {H:Hp} {ps:List (Int × Int)} {vs:List V} {p:Int × Int} {v:V} (h:PairsIn H ps vs) (x:PairIn H p v):PairsIn H (ps++[p]) (vs++[v]):=PairsIn.app h (.cons x .nil)
def sfR (n m:Nat):List (Int × Int):=(ab0 (n - m)).map fun (f:Nat)=>((f:Int),((f+m:Nat):Int))
def sfl (n i:Nat):List (Int × Int):=(ab0 i).flatMap fun m=>sfR n m
theorem kh (n i:Nat):sfl n (i+1)=sfl n i++sfR n i:=by
  unfold sfl;rw [List.range_succ,List.flatMap_append];simp
theorem mQ (n i:Nat):(sfl n i).length≤i * n:=by
  induction i with
  | zero=>simp [sfl]
  | succ i ih =>
    rw [kh,aax];have : (sfR n i).length≤n:=by simp [sfR]
    rw [abX];lia
theorem mP (n:Nat) (a b:Nat) (h1:a≤b) (h2:b < n):((a:Int),(b:Int))∈sfl n n:=by
  unfold sfl sfR;rw [List.mem_flatMap];refine ⟨b - a,acy.mpr (by lia),?_⟩;rw [List.mem_map];refine ⟨a,acy.mpr (by lia),?_⟩;have : a+(b - a)=b:=by lia
  rw [this]
def aY:PyData→Bool
  | .int _=>true
  | _=>false
def aU:PyData→Bool
  | .list ds=>decide (1≤ds.length) && decide (ds.length≤9) && ds.all aY
  | _=>false
def ba:PyData→Bool
  | .str z=>inV (.str z) gc
  | _=>false
theorem qz {H:Hp}:∀ {ds:List PyData} {vs:List V},DatAll H ds vs→∀ {i:Nat} {x:V},vs[i]?=some x→∃ d,ds[i]?=some d∧Dat H d x
  | [],vs,h,i,x,e=>by simp only [DatAll] at h;subst h;simp at e
  | d :: ds,vs,h,i,x,e=>by
    simp only [DatAll] at h;obtain ⟨v,r,rfl,h1,h2⟩:=h;cases i with
    | zero=>simp at e;subst e;exact ⟨d,rfl,h1⟩
    | succ i=>exact qz h2 (by simpa using e)
theorem qi (d:PyData):decide (lJ d = "int")=aY d:=by cases d <;> rfl
section
variable {P:Program} {w:World} {K:aab} {mg:Str→Option Value} {base:Heap} {f:Addr} {fd:FuncData}
def sg:Sp:=fun vs H Q _=>∃ n:Nat,vs=[.int n]∧n≤9∧∀ p us H',Same H H'→H p=none→H' p=some (.lst us)→PairsIn H' (sfl n n) us→Q (.ref p) H'
abbrev cX:Stmt:=top 23
theorem gg:FnScope ["many"] ["many"] (am cX):=⟨rfl,rfl,rfl,by decide +kernel,rfl,by decide +kernel,by decide +kernel⟩
theorem gp (F:Fun K "shorter_first" "shorter_first" cX f fd) (B:Bu K mg):FnOk P w K mg base CX0 1 f fd ["many"] sg:=by
  refine F.ok gg (fun vs H Q E h=>?_) (fun cdv A outer s H vs Q E hr h=>?_)
  · obtain ⟨l,rfl,_⟩:=h;rfl
  obtain ⟨n,rfl,h9,q⟩:=h;refine ⟨_,(@ai _ _ _ (@az _ _ _ _ (@sD _ _ _ _ _ _ _ _ _ _ _ (["more","first","many"]) ([none,none,some 0]) _ _ _ _ _ _ _ rfl (@fg _ _ _ _ _ _ rfl B.irange (@aa _ _ _ _ _ (pv 0) ae (by rfl)) (by rfl)) rfl ⟨rfl,trivial⟩ ⟨⟨rfl,Or.inl rfl,Or.inl rfl⟩,trivial⟩ (fun _ _ _ _=>⟨(@aD _ _ (0) _ (show acw (["more","first","many"]:List Str) by decide +kernel) rfl (Or.inl rfl) (.inr rfl)),dP,(@fg _ _ _ _ _ _ rfl B.irange (@aa _ _ _ _ _ (@ap _ _ _ _ _ _ _ _ dw (pv 2) (pv 0)) ae (by rfl)) (by rfl)),(@aD _ _ (1) _ (show acw (["more","first","many"]:List Str) by decide +kernel) rfl (Or.inl rfl) (.inr rfl)),dP,(@bV _ _ _ _ _ (@aa _ _ _ _ _ (pv 1) (@aa _ _ _ _ _ (@ap _ _ _ _ _ _ _ _ dH (pv 1) (pv 0)) ae (by rfl)) (by rfl)))⟩) (by rfl) (by rfl) (by rfl) (by rfl) (by intro _;rfl) (by intro _ _;rfl)))),?_⟩;refine ⟨_,rfl,n,rfl,by lia,by lia,?_⟩;refine sR (Trn.range (lo:=0) (n:=(n:Int).toNat)) (fun i ys H'=>Same H H'∧PairsIn H' (sfl n i) ys) ⟨Same.refl _,.nil⟩ (fun i ys H' hi p=>trivial) (fun i x ys H1 H' hi hx p Nx nx=>?_) (fun ys H' p p5 n5=>?_)
  · obtain ⟨rfl,rfl⟩:=hx;obtain ⟨S,hp⟩:=p;have hl:=hp.length;have hb:=mQ n i;have hn:(n:Int).toNat=n:=by lia
    have hin:i < n:=by lia
    have hb2:i * n≤9 * 9:=abP (by lia) h9;have en:((n:Int) - (0+(i:Int))).toNat=n - i:=by lia
    refine ⟨_,rfl,_,rfl,_,_,rfl,rfl,(n:Int) - (0+(i:Int)),rfl,by lia,by lia,?_⟩;refine sO (Trn.range (lo:=0) (n:=((n:Int) - (0+(i:Int))).toNat)) (fun j zs σ H2=>Same H H2∧(∃ c,σ=[some (.int (0+(i:Int))),c,some (.int n)])∧PairsIn H2 (sfl n i++(sfR n i).take j) zs) ⟨S,⟨_,rfl⟩,by simpa using hp⟩ (fun j zs σ H2 hj p=>⟨trivial,cN (by have:=p.2.2.length;rw [← this,aax,aaV];lia)⟩) (fun j x zs σ H2 H3 hj hx p Ny ny=>?_) (fun zs σ H2 p=>?_)
    · obtain ⟨rfl,rfl⟩:=hx;obtain ⟨S2,⟨c,rfl⟩,hp2⟩:=p;refine ⟨_,rfl,_,rfl,_,rfl,_,_,rfl,rfl,(by show 2≤sizeLine;decide),fun t ht=>ny _ _ _ ⟨S2.trans (Same.new ht _),⟨_,rfl⟩,?_⟩⟩;have s3:=Same.new ht (.tup [.int (0+(j:Int)),.int (0+(j:Int)+(0+(i:Int)))]);have e:(sfR n i).take (j+1)=(sfR n i).take j++[(((j:Nat):Int),((j+i:Nat):Int))]:=by
        rw [aaJ];have : (sfR n i)[j]?=some (((j:Nat):Int),((j+i:Nat):Int)):=by
          unfold sfR;rw [aaF,List.getElem?_range (by lia)];rfl
        rw [this];rfl
      rw [e,← aaB];refine PairsIn.snoc (PairsIn.mono (Tups.of s3) hp2) ⟨t,rfl,?_⟩;rw [ad];have e1:(0:Int)+(j:Int)=((j:Nat):Int):=by lia
      have e2:(0:Int)+(j:Int)+(0+(i:Int))=((j+i:Nat):Int):=by lia
      show some (HO.tup [V.int (0+(j:Int)),V.int (0+(j:Int)+(0+(i:Int)))])=some (HO.tup [V.int ((j:Nat):Int),V.int ((j+i:Nat):Int)]);rw [e2,e1]
    · obtain ⟨S2,⟨c,rfl⟩,hp2⟩:=p;refine nx _ _ ⟨S2,?_⟩;rw [en,abh (by simp [sfR]),← kh] at hp2;exact hp2
  · obtain ⟨S,hp⟩:=p;have hn:(n:Int).toNat=n:=by lia
    rw [hn] at hp;have s5:=Same.new n5 (.lst ys);exact q p5 ys _ (S.trans s5) (S.free n5) ad (PairsIn.mono (Tups.of s5) hp)
def fk:PyData→Bool
  | .list _=>true
  | _=>false
theorem ue {d:PyData} (h:fk d=false):aU d=false:=by cases d <;> first|rfl|simp [fk] at h
theorem qd {d:PyData} {K:aab}:aaI K (.type (lJ d)) (.type "list")=some (fk d):=by cases d <;> rfl
def jA:Sp:=fun vs H Q _=>∃ d v,vs=[v]∧Dat H d v∧∀ H',Same H H'→Q (.bl (aU d)) H'
abbrev h_:Stmt:=top 17
theorem nZ:FnScope ["thing"] ["thing"] (am h_):=⟨rfl,rfl,rfl,by decide +kernel,rfl,by decide +kernel,by decide +kernel⟩
theorem og {tk:Tok} {aP:Addr} (F:Fun K "is_row" "is_row" h_ f fd) (B:Bu K mg) (B3:Cp K mg tk aP) (C_is_whole:Cal P w K mg base "is_whole" 1 ["thing"] (gQ K)):FnOk P w K mg base CX0 2 f fd ["thing"] jA:=by
  refine F.ok nZ (fun vs H Q E h=>?_) (fun cdv A outer s H vs Q E hr h=>?_)
  · obtain ⟨x,v,rfl,_⟩:=h;rfl
  obtain ⟨d,v,rfl,hd,q⟩:=h;refine ⟨_,(@ag _ _ _ _ _ (@bO _ _ _ _ _ _ _ _ (@PW.pt _ _ _ (@pE _ _ _ _ _ _ _ (@da _ _ _ _ (@dv _ _ _ (@aC _ _ _ _ _ _ _ _ _ (@dF _ ("list")) rfl B.iisinstance aaA (@aa _ _ _ _ _ (pv 0) (@aa _ _ _ _ _ (@fR _ _ (.ty "list") _ _ rfl B.ilist act rfl (by decide) (by decide)) ae (by rfl)) (by rfl)) (by decide) (by decide) (by rfl) (by rfl)) (by intro _;rfl))) (@pC _ _ _ _ (@da _ _ _ _ (@pG _ _ _ _ _ _ _ _ _ _ _ _ rH rH af (@aC _ _ _ _ _ _ _ _ _ cf rfl B.ilen ab1 (@aa _ _ _ _ _ (pv 0) ae (by rfl)) (by decide) (by decide) (by rfl) (by rfl)) (@bp _ _ (.int 9) _ _ rfl B3.gMOST_NUMBERS ⟨_,rfl⟩ (by decide)) (by with_unfolding_all rfl)))))) (@ai _ _ _ (@az _ _ _ _ cI)) aQ) (@ai _ _ _ (@az _ _ _ _ (@aC _ _ _ _ _ _ _ _ _ (@qG _ rfl) rfl B.iall PyProof.Rows.boot_all (@aa _ _ _ _ _ (@jj _ _ _ _ _ _ _ _ (["number"]) ([none]) _ _ _ _ rfl (@ce _ _ _ _ (pv 0)) rfl trivial trivial (fun _ _ _ _=>⟨(@aD _ _ (0) _ (show acw (["number"]:List Str) by decide +kernel) rfl (Or.inl rfl) (.inr rfl)),dP,(@aB _ _ _ _ _ _ _ _ _ _ _ C_is_whole hr (by lia) rfl (@aa _ _ _ _ _ (pv 0) ae (by rfl)) (by decide) (by rfl) (by rfl))⟩) (by rfl) (by rfl) (by rfl) (by rfl) (by intro _;rfl)) ae (by rfl)) (by decide) (by decide) (by rfl) (by rfl))))),?_⟩;by_cases hl:fk d=true
  · cases d with
    | list ds =>
      have hd0:=hd;simp only [Dat] at hd;obtain ⟨a,xs,rfl,ea,hall⟩:=hd;have hlen:=hall.len;refine ⟨_,rfl,_,_,true,rfl,.lst ea,rfl,true,rfl,bh ?_⟩;by_cases c1:1≤xs.length
      · refine ⟨_,rfl,a,_,rfl,.inl (SqL.of ea),_,_,rfl,rfl,true,congrArg V.bl (decide_eq_true (by lia)),dR ?_⟩;by_cases c2:xs.length≤9
        · refine ⟨_,_,rfl,rfl,true,congrArg V.bl (decide_eq_true (by lia)),bh ?_⟩;refine ⟨_,rfl,a,rfl,⟨_,SqL.of ea⟩,?_⟩;refine rg (xs:=xs) (fun i ys H'=>H'=H∧ys=((ds.take i).map aY).map V.bl) ⟨rfl,rfl⟩ (fun i ys H' hi p=>⟨by rw [p.1];exact SqL.of ea,by rw [p.2,aak,aak,aaV];exact cN (by lia)⟩) (fun i x ys H' hx p nx=>?_) (fun ys H' p p5 n5=>?_)
          · obtain ⟨rfl,rfl⟩:=p;obtain ⟨dd,h1,h2⟩:=qz hall hx;refine ⟨_,rfl,x,_,rfl,h2.ty,nx ⟨rfl,?_⟩⟩;rw [qi,aaJ,h1,abb,abb];rfl
          obtain ⟨rfl,rfl⟩:=p;rw [abh (by lia)];refine ⟨p5,_,rfl,SqL.of ad,?_⟩;have e:((ds.map aY).all id)=aU (.list ds):=by
            show _=(decide (1≤ds.length) && decide (ds.length≤9) && ds.all aY)
            rw [decide_eq_true (show 1≤ds.length by lia),decide_eq_true (show ds.length≤9 by lia),List.all_map];rfl
          rw [e];exact q _ (Same.new n5 _)
        · refine ⟨_,_,rfl,rfl,false,congrArg V.bl (decide_eq_false (by lia)),dR ?_⟩;have z:=q H (Same.refl _);rw [show aU (.list ds)=false by
            show (decide (1≤ds.length) && decide (ds.length≤9) && ds.all aY)=false;rw [decide_eq_false (show ¬ ds.length≤9 by lia)];simp] at z
          exact z
      · refine ⟨_,rfl,a,_,rfl,.inl (SqL.of ea),_,_,rfl,rfl,false,congrArg V.bl (decide_eq_false (by lia)),bh ⟨false,rfl,dR ?_⟩⟩;have z:=q H (Same.refl _);rw [show aU (.list ds)=false by
          show (decide (1≤ds.length) && decide (ds.length≤9) && ds.all aY)=false;rw [decide_eq_false (show ¬ 1≤ds.length by lia)];simp] at z
        exact z
    | _=>simp [fk] at hl
  · have hl':fk d=false:=by simpa using hl
    refine ⟨_,rfl,_,_,false,rfl,hd.ty,by rw [qd,hl'],false,rfl,dR ?_⟩;have z:=q H (Same.refl _);rw [ue hl'] at z;exact z
def f_:Sp:=fun vs H Q _=>∃ d v,vs=[v]∧Dat H d v∧Q (.bl (ba d)) H
abbrev fG:Stmt:=top 18
theorem kz:FnScope ["thing"] ["thing"] (am fG):=⟨rfl,rfl,rfl,by decide +kernel,rfl,by decide +kernel,by decide +kernel⟩
theorem kX {tk:Tok} {aP:Addr} (F:Fun K "is_signs" "is_signs" fG f fd) (B:Bu K mg) (B3:Cp K mg tk aP):FnOk P w K mg base CX0 1 f fd ["thing"] f_:=by
  refine F.ok kz (fun vs H Q E h=>?_) (fun cdv A outer s H vs Q E hr h=>?_)
  · obtain ⟨x,v,rfl,_⟩:=h;rfl
  obtain ⟨d,v,rfl,hd,q⟩:=h;refine ⟨_,(@ai _ _ _ (@az _ _ _ _ (@pM _ _ _ _ _ _ _ (@aC _ _ _ _ _ _ _ _ _ (@dF _ ("str")) rfl B.iisinstance aaA (@aa _ _ _ _ _ (pv 0) (@aa _ _ _ _ _ (@fR _ _ (.ty "str") _ _ rfl B.istr PyProof.Rows.boot_str rfl (by decide) (by decide)) ae (by rfl)) (by rfl)) (by decide) (by decide) (by rfl) (by rfl)) (@pI _ _ _ _ _ (@jO _ _ _ _ _ _ _ _ n_ (pv 0) (@bp _ _ (.ref aP) _ _ rfl B3.gSIGNS_TO_PUT rfl (by decide)) (by with_unfolding_all rfl)))))),?_⟩;cases d with
  | str z =>
    have e:v=.str z:=by simpa only [Dat] using hd
    subst e;exact ⟨_,rfl,_,_,true,rfl,.str z,rfl,true,rfl,dR ⟨_,rfl,aP,_,rfl,.inr (B3.sSIGNS_TO_PUT H),rfl,rfl,q⟩⟩
  | none=>exact ⟨_,rfl,_,_,false,rfl,hd.ty,rfl,false,rfl,bh q⟩
  | bool b=>exact ⟨_,rfl,_,_,false,rfl,hd.ty,rfl,false,rfl,bh q⟩
  | int b=>exact ⟨_,rfl,_,_,false,rfl,hd.ty,rfl,false,rfl,bh q⟩
  | list b=>exact ⟨_,rfl,_,_,false,rfl,hd.ty,rfl,false,rfl,bh q⟩
  | tuple b=>exact ⟨_,rfl,_,_,false,rfl,hd.ty,rfl,false,rfl,bh q⟩
  | dict b=>exact ⟨_,rfl,_,_,false,rfl,hd.ty,rfl,false,rfl,bh q⟩
end
open PySem L2
def wl (s:Nat) (L:List Int) (n l:Nat):Int:=(s:Int) * L.getD l 0 * L.getD (n - l) 0
def cl (s:Nat):Nat→List Int
  | 0=>[0,1]
  | k+1=>cl s k++[((ab0 (k+1)).map fun j=>wl s (cl s k) (k+2) (1+j)).sum]
def cn (s n:Nat):Int:=(cl s 8).getD n 0
section
variable {P:Program} {w:World} {K:aab} {mg:Str→Option Value} {base:Heap} {f:Addr} {fd:FuncData}
end
open PySem L2
def ky (p:Int × Int):List Key:=[Sum.inl p.1,Sum.inl p.2]
theorem qc {p q:Int × Int} (h:ky p=ky q):p=q:=by
  obtain ⟨a,b⟩:=p;obtain ⟨c,d⟩:=q;simp [ky] at h;rw [h.1,h.2]
def CutIn (H:Hp) (p:Int × Int) (c:Int) (v:V):Prop:=∃ a x y,v=.ref a∧H a=some (.tup [x,y])∧PairIn H (p.1,c) x∧PairIn H (c+1,p.2) y
theorem PairIn.mono {H H':Hp} {p:Int × Int} {v:V} (t:Tups H H') (h:PairIn H p v):PairIn H' p v:=by
  obtain ⟨a,e,h⟩:=h;exact ⟨a,e,t _ _ h⟩
theorem CutIn.mono {H H':Hp} {p:Int × Int} {c:Int} {v:V} (t:Tups H H') (h:CutIn H p c v):CutIn H' p c v:=by
  obtain ⟨a,x,y,e,h1,h2,h3⟩:=h;exact ⟨a,x,y,e,t _ _ h1,PairIn.mono t h2,PairIn.mono t h3⟩
def i8 (p:Int × Int):List Int:=(ab0 (p.2 - p.1).toNat).map fun (k:Nat)=>p.1+(k:Int)
theorem Paired.snoc {α β:Type} {F:α→β→Prop} {as:List α} {us:List β} {a:α} {u:β} (h:Paired F as us) (x:F a u):Paired F (as++[a]) (us++[u]):=by
  induction h with
  | nil=>exact .cons x .nil
  | cons y _ ih=>exact .cons y ih
theorem Paired.at {α β:Type} {F:α→β→Prop}:∀ {as:List α} {us:List β},Paired F as us→∀ {j:Nat} {x:β},us[j]?=some x→∃ a,as[j]?=some a∧F a x
  | _,_,.nil,j,x,h=>by simp at h
  | _,_,.cons a _,0,x,h=>by simp at h;subst h;exact ⟨_,rfl,a⟩
  | _,_,.cons _ b,j+1,x,h=>by
    obtain ⟨p,h1,h2⟩:=Paired.at b (j:=j) (x:=x) (by simpa using h);exact ⟨p,by simpa using h1,h2⟩
def Sg.op:Sg→Int→Int→Int
  | .plus,a,b=>a+b
  | .minus,a,b=>a - b
  | .times,a,b=>a * b
theorem lQ (x y:Str):(x++y).cps.toList=x.cps.toList++y.cps.toList:=by
  obtain ⟨a⟩:=x;obtain ⟨b⟩:=y;show (a++b).toList=_;rw [aau]
def Sg.code:Sg→Nat
  | .plus=>43
  | .minus=>45
  | .times=>42
theorem gD (g:Sg):g.str=⟨#[g.code]⟩:=by cases g <;> rfl
theorem de:∀ gs:List Sg,(av gs).cps.toList=gs.map Sg.code
  | []=>rfl
  | g :: r=>by
    show (g.str++av r).cps.toList=g.code :: r.map Sg.code;rw [lQ,de r,gD];rfl
theorem lZ (gs:List Sg):(av gs).cps.all (· < 128)=true:=by
  rw [← Array.all_toList,de,aa0];intro c hc;obtain ⟨g,_,rfl⟩:=acC.mp hc;cases g <;> decide
theorem tZ {gs:List Sg} {i c:Nat} (h:(av gs).cps[i]?=some c):∃ g,gs[i]?=some g∧c=g.code:=by
  have h2:(av gs).cps.toList[i]?=some c:=by simpa using h
  rw [de,aaF] at h2;obtain ⟨g,hg,e⟩:=abi.mp h2;exact ⟨g,hg,e.symm⟩
theorem qP (gs:List Sg):(av gs).cps.size=gs.length:=by
  have:=congrArg List.length (de gs);simpa using this
section
variable {P:Program} {w:World} {K:aab} {mg:Str→Option Value} {base:Heap} {f:Addr} {fd:FuncData}
def lX:Sp:=fun vs H Q _=>∃ p v,vs=[v]∧PairIn H p v∧0≤p.1∧p.1≤p.2∧p.2 < 100∧∀ a us H',Same H H'→H a=none→H' a=some (.lst us)→Paired (CutIn H' p) (i8 p) us→Q (.ref a) H'
abbrev gi:Stmt:=top 24
theorem fC:FnScope ["stretch","first","last"] ["stretch"] (am gi):=⟨rfl,rfl,rfl,by decide +kernel,rfl,by decide +kernel,by decide +kernel⟩
theorem l7 (F:Fun K "cuts_of" "cuts_of" gi f fd) (B:Bu K mg):FnOk P w K mg base CX0 1 f fd ["stretch"] lX:=by
  refine F.ok fC (fun vs H Q E h=>?_) (fun cdv A outer s H vs Q E hr h=>?_)
  · obtain ⟨p,v,rfl,_⟩:=h;rfl
  obtain ⟨p,v,rfl,⟨a,rfl,ha⟩,h1,h2,h3,q⟩:=h;refine ⟨_,(@ag _ _ _ _ _ (@jM _ _ _ _ _ _ (pv 0) (@gk _ _ _ _ _ _ rfl (@bM _ _ _ _ _ (@aD _ _ (1) _ (fC).nd rfl (Or.inr rfl) (.inl rfl)) (@bM _ _ _ _ _ (@aD _ _ (2) _ (fC).nd rfl (Or.inr rfl) (.inl rfl)) fh (by rfl)) (by rfl)) (by rfl) (by rfl)) (by rfl) (by rfl) (by rfl)) (@ai _ _ _ (@az _ _ _ _ (@jj _ _ _ _ _ _ _ _ (["cut","first","last"]) ([none,some 1,some 2]) _ _ _ _ rfl (@ji _ _ _ _ _ _ _ rfl B.irange (@aa _ _ _ _ _ (pv 1) (@aa _ _ _ _ _ (pv 2) ae (by rfl)) (by rfl)) (by rfl) (by rfl)) rfl ⟨rfl,⟨rfl,trivial⟩⟩ ⟨⟨rfl,Or.inl rfl,Or.inl rfl⟩,⟨⟨rfl,Or.inl rfl,Or.inl rfl⟩,trivial⟩⟩ (fun _ _ _ _=>⟨(@aD _ _ (0) _ (show acw (["cut","first","last"]:List Str) by decide +kernel) rfl (Or.inl rfl) (.inr rfl)),dP,(@bV _ _ _ _ _ (@aa _ _ _ _ _ (@bV _ _ _ _ _ (@aa _ _ _ _ _ (pv 1) (@aa _ _ _ _ _ (pv 0) ae (by rfl)) (by rfl))) (@aa _ _ _ _ _ (@bV _ _ _ _ _ (@aa _ _ _ _ _ (@ap _ _ _ _ _ _ _ _ dH (pv 0) af) (@aa _ _ _ _ _ (pv 2) ae (by rfl)) (by rfl))) ae (by rfl)) (by rfl)))⟩) (by rfl) (by rfl) (by rfl) (by rfl) (by intro _;rfl))))),?_⟩;refine ⟨_,rfl,a,_,rfl,SqT.of ha,rfl,_,_,rfl,_,_,rfl,rfl,?_⟩;refine ⟨_,rfl,_,rfl,p.1,p.2,rfl,⟨by lia,by lia,by lia,by lia⟩,?_⟩;refine lg (Trn.range (lo:=p.1) (n:=(p.2 - p.1).toNat)) (fun i ys H'=>Same H H'∧Paired (CutIn H' p) ((i8 p).take i) ys) ⟨Same.refl _,.nil⟩ (fun i ys H' hi z=>⟨trivial,cN (by have:=z.2.length;rw [← this,aaV];lia)⟩) (fun i x ys H0 H' hi hx z Nx nx=>?_) (fun ys H' z p5 n5=>?_)
  · obtain ⟨rfl,rfl⟩:=hx;obtain ⟨S,hp⟩:=z;have t2:(2:Nat)≤sizeLine:=by decide
    refine ⟨_,rfl,_,rfl,t2,fun t ht=>?_⟩;have st:=Same.new ht (.tup [.int p.1,.int (p.1+(i:Int))]);refine ⟨_,rfl,_,_,rfl,rfl,_,rfl,t2,fun u hu=>⟨t2,fun v hv=>nx _ _ ?_⟩⟩;have su:=Same.new hu (.tup [.int (p.1+(i:Int)+1),.int p.2]);have sv:=Same.new hv (.tup [.ref t,.ref u]);have S3:=(st.trans su).trans sv;refine ⟨S.trans S3,?_⟩;have e:(i8 p).take (i+1)=(i8 p).take i++[p.1+(i:Int)]:=by
      rw [aaJ];have : (i8 p)[i]?=some (p.1+(i:Int)):=by
        unfold i8;rw [aaF,List.getElem?_range hi];rfl
      rw [this];rfl
    rw [e];exact Paired.snoc (Paired.mapP hp fun _ _ h=>CutIn.mono (Tups.of S3) h) ⟨v,_,_,rfl,ad,⟨t,rfl,sv _ _ (su _ _ ad)⟩,⟨u,rfl,sv _ _ ad⟩⟩
  · obtain ⟨S,hp⟩:=z;rw [abh (by simp [i8])] at hp;have s5:=Same.new n5 (.lst ys);exact q p5 ys _ (S.trans s5) (S.free n5) ad (Paired.mapP hp fun _ _ h=>CutIn.mono (Tups.of s5) h)
def fZ:Sp:=fun vs H Q _=>∃ a g b,vs=[.int a,.str (Sg.str g),.int b]∧a.natAbs < 2 ^ 4000∧b.natAbs < 2 ^ 4000∧Q (.int (g.op a b)) H
abbrev fD:Stmt:=top 26
theorem kn:FnScope ["left","sign","right"] ["left","sign","right"] (am fD):=⟨rfl,rfl,rfl,by decide +kernel,rfl,by decide +kernel,by decide +kernel⟩
theorem kT (F:Fun K "put_sign" "put_sign" fD f fd):FnOk P w K mg base CX0 1 f fd ["left","sign","right"] fZ:=by
  refine F.ok kn (fun vs H Q E h=>?_) (fun cdv A outer s H vs Q E hr h=>?_)
  · obtain ⟨a,g,b,rfl,_⟩:=h;rfl
  obtain ⟨a,g,b,rfl,ha,hb,q⟩:=h;refine ⟨_,(@ag _ _ _ _ _ (@bO _ _ _ _ _ _ _ _ (@a9 _ _ _ _ _ _ _ _ fu (pv 1) aq (bv _)) (@ai _ _ _ (@az _ _ _ _ (@ap _ _ _ _ _ _ _ _ dH (pv 0) (pv 2)))) aQ) (@ag _ _ _ _ _ (@bO _ _ _ _ _ _ _ _ (@a9 _ _ _ _ _ _ _ _ fu (pv 1) aq (bv _)) (@ai _ _ _ (@az _ _ _ _ (@ap _ _ _ _ _ _ _ _ dw (pv 0) (pv 2)))) aQ) (@ai _ _ _ (@az _ _ _ _ (@ap _ _ _ _ _ _ _ _ m_ (pv 0) (pv 2)))))),?_⟩;cases g with
  | plus=>exact ⟨_,rfl,rfl,_,rfl,qh rfl ⟨_,rfl,_,rfl,_,_,rfl,rfl,q⟩⟩
  | minus=>exact ⟨_,rfl,rfl,_,rfl,iG (by decide +kernel) ⟨_,rfl,rfl,_,rfl,qh rfl ⟨_,rfl,_,rfl,_,_,rfl,rfl,q⟩⟩⟩
  | times=>exact ⟨_,rfl,rfl,_,rfl,iG (by decide +kernel) ⟨_,rfl,rfl,_,rfl,iG (by decide +kernel) ⟨_,rfl,_,rfl,_,_,rfl,rfl,⟨ha,hb⟩,q⟩⟩⟩
end
open PySem L2
def cnv (ms:List (Int × Int)):List (Key × V):=ms.map fun p=>(Sum.inl p.1,V.int p.2)
theorem lA (ms:List (Int × Int)):(cnv ms).map (·.1)=(ms.map (·.1)).map Sum.inl:=by
  unfold cnv;rw [acB,acB];rfl
theorem gX (ms:List (Int × Int)):(cnv ms).length=ms.length:=aak _
theorem qC {ms:List (Int × Int)} {i:Nat} {kv:Key × V} (h:(cnv ms)[i]?=some kv):∃ p,ms[i]?=some p∧kv=(Sum.inl p.1,V.int p.2):=by
  unfold cnv at h;rw [aaF] at h;obtain ⟨p,e1,e2⟩:=abi.mp h;exact ⟨p,e1,e2.symm⟩
theorem rp (ms:List (Int × Int)) (k:Int):(dm (cnv ms) (Sum.inl k)=none∧k∉ms.map (·.1))∨∃ v,dm (cnv ms) (Sum.inl k)=some (.int v)∧(k,v)∈ms:=by
  induction ms with
  | nil=>exact .inl ⟨rfl,by simp⟩
  | cons p ms ih =>
    by_cases e:p.1=k
    · refine .inr ⟨p.2,?_,?_⟩
      · unfold dm cnv;rw [aaG,List.find?_cons_of_pos (by simp [e])];rfl
      · rw [← e];exact aaH
    · have e2:dm (cnv (p :: ms)) (Sum.inl k)=dm (cnv ms) (Sum.inl k):=by
        unfold dm cnv;rw [aaG,List.find?_cons_of_neg (by simp [e])]
      rw [e2];rcases ih with ⟨h1,h2⟩|⟨v,h1,h2⟩
      · exact .inl ⟨h1,by simp only [aaG,aay];exact fun z=>z.elim (fun z=>e z.symm) h2⟩
      · exact .inr ⟨v,h1,aaw _ h2⟩
theorem rq (ms:List (Int × Int)) (k v:Int) (nd:(ms.map (·.1)).Nodup):∃ ms',dO (cnv ms) (Sum.inl k) (.int v)=cnv ms'∧(ms'.map (·.1)).Nodup∧(∀ n,n∈ms'.map (·.1)↔n=k∨n∈ms.map (·.1))∧ms'.length≤ms.length+1∧∀ p∈ms',p∈ms∨p=(k,v):=by
  have ea:((cnv ms).any fun kv=>decide (kv.1=Sum.inl k))=true↔k∈ms.map (·.1):=by
    rw [List.any_eq_true];unfold cnv;simp only [List.mem_map,decide_eq_true_eq];constructor
    · rintro ⟨_,⟨p,hp,rfl⟩,e⟩;exact ⟨p,hp,Sum.inl.inj e⟩
    · rintro ⟨p,hp,e⟩;exact ⟨_,⟨p,hp,rfl⟩,by rw [e]⟩
  unfold dO;by_cases h:k∈ms.map (·.1)
  · rw [if_pos (ea.mpr h)];have kf:(fun (p:Int × Int)=>(if p.1=k then (p.1,v) else p).1)=fun p=>p.1:=by
      funext p;by_cases e:p.1=k
      · rw [if_pos e]
      · rw [if_neg e]
    have em:(ms.map fun p=>if p.1=k then (p.1,v) else p).map (·.1)=ms.map (·.1):=by
      rw [acB];exact congrArg (fun f=>ms.map f) kf
    refine ⟨ms.map fun p=>if p.1=k then (p.1,v) else p,?_,by rw [em];exact nd,fun n=>?_,by rw [aak];lia,fun p hp=>?_⟩
    · unfold cnv;rw [acB,acB];refine List.map_congr_left fun p _=>?_;simp only [Function.comp];by_cases e:p.1=k
      · rw [if_pos e,if_pos (by rw [e])]
      · rw [if_neg e,if_neg (fun z=>e (Sum.inl.inj z))]
    · rw [em];exact ⟨.inr,fun z=>z.elim (fun z=>by rw [z];exact h) id⟩
    · obtain ⟨q,hq,rfl⟩:=acC.mp hp;by_cases e:q.1=k
      · rw [if_pos e,e];exact .inr rfl
      · rw [if_neg e];exact .inl hq
  · rw [if_neg (fun z=>h (ea.mp z))];refine ⟨ms++[(k,v)],by unfold cnv;rw [abb];rfl,?_,fun n=>?_,by simp,fun p hp=>?_⟩
    · rw [abb,List.nodup_append];refine ⟨nd,by simp,fun a ha b hb e=>?_⟩;have : b=k:=by simpa using hb
      rw [e,this] at ha;exact h ha
    · rw [abb,List.mem_append];simp [or_comm]
    · rcases aao.mp hp with z|z
      · exact .inl z
      · exact .inr (aar.mp z)
def JS (ms:List (Int × Int)) (bm B c:Nat) (S:Int→Prop) (ms':List (Int × Int)):Prop:=(ms'.map (·.1)).Nodup∧(∀ p∈ms',p.2.natAbs≤bm+c * B)∧ms'.length≤ms.length+c∧∀ n,n∈ms'.map (·.1)↔n∈ms.map (·.1)∨S n
theorem JS.to {ms ms':List (Int × Int)} {bm B c c':Nat} {S S':Int→Prop} (h:JS ms bm B c S ms') (e:c=c') (hS:∀ n,S n↔S' n):JS ms bm B c' S' ms':=by
  subst e;exact ⟨h.1,h.2.1,h.2.2.1,fun n=>(h.2.2.2 n).trans (or_congr_right (hS n))⟩
theorem JS.put {ms ms':List (Int × Int)} {bm B c:Nat} {S:Int→Prop} (h:JS ms bm B c S ms') {k v:Int} (hv:v.natAbs≤bm+(c+1) * B):∃ ms2,dO (cnv ms') (Sum.inl k) (.int v)=cnv ms2∧JS ms bm B (c+1) (fun n=>S n∨n=k) ms2:=by
  obtain ⟨h1,h2,h3,h4⟩:=h;obtain ⟨ms2,e1,e2,e3,e4,e5⟩:=rq ms' k v h1;refine ⟨ms2,e1,e2,fun p hp=>?_,by lia,fun n=>?_⟩
  · rcases e5 p hp with z|z
    · have:=h2 p z;rw [abX];lia
    · rw [z];exact hv
  · rw [e3,h4];constructor
    · rintro (z|z|z)
      · exact .inr (.inr z)
      · exact .inl z
      · exact .inr (.inl z)
    · rintro (z|z|z)
      · exact .inr (.inl z)
      · exact .inr (.inr z)
      · exact .inl z
def JP (g:Sg) (as bs:List Int) (n:Int):Prop:=∃ a∈as,∃ b∈bs,n=g.op a b
theorem JP.snoc {g:Sg} {as bs:List Int} {a n:Int}:(JP g as bs n∨∃ b∈bs,n=g.op a b)↔JP g (as++[a]) bs n:=by
  constructor
  · rintro (⟨x,hx,z⟩|z)
    · exact ⟨x,aaC _ hx,z⟩
    · exact ⟨a,by simp,z⟩
  · rintro ⟨x,hx,z⟩;rcases aao.mp hx with y|y
    · exact .inl ⟨x,y,z⟩
    · rw [aar.mp y] at z;exact .inr z
section
variable {P:Program} {w:World} {K:aab} {mg:Str→Option Value} {base:Heap} {f:Addr} {fd:FuncData}
def hX:Sp:=fun vs H Q _=>∃ (m l r:Addr) (g:Sg) (ms ls rs:List (Int × Int)) (bm bl br:Nat),vs=[.ref m,.ref l,.str (Sg.str g),.ref r]∧m≠l∧m≠r∧l≠r ∧
  H m=some (.dK (cnv ms))∧H l=some (.dK (cnv ls))∧H r=some (.dK (cnv rs))∧(ms.map (·.1)).Nodup ∧
  (∀ p∈ms,p.2.natAbs≤bm)∧(∀ p∈ls,p.1.natAbs < 2 ^ 4000∧p.2.natAbs≤bl)∧(∀ p∈rs,p.1.natAbs < 2 ^ 4000∧p.2.natAbs≤br)∧bl < 2 ^ 4000∧br < 2 ^ 4000∧ms.length+ls.length * rs.length < sizeLine ∧
  ∀ ms' H',But m H H'→H' m=some (.dK (cnv ms'))→(ms'.map (·.1)).Nodup→(∀ p∈ms',p.2.natAbs≤bm+ls.length * rs.length * (bl * br))→ms'.length≤ms.length+ls.length * rs.length →
    (∀ n,n∈ms'.map (·.1)↔n∈ms.map (·.1)∨∃ a∈ls.map (·.1),∃ b∈rs.map (·.1),n=g.op a b)→Q .non H'
abbrev dt:Stmt:=top 40
theorem bd:FnScope ["many","lefts","sign","rights","left","many_left","right","many_right","worth"] ["many","lefts","sign","rights"] (am dt):=⟨rfl,rfl,rfl,by decide +kernel,rfl,by decide +kernel,by decide +kernel⟩
theorem gL (F:Fun K "count_joined" "count_joined" dt f fd) (C_put_sign:Cal P w K mg base "put_sign" 1 ["left","sign","right"] fZ):FnOk P w K mg base CX0 2 f fd ["many","lefts","sign","rights"] hX:=by
  refine F.ok bd (fun vs H Q E h=>?_) (fun cdv A outer s H vs Q E hr h=>?_)
  · obtain ⟨m,l,r,g,ms,ls,rs,bm,bl,br,rfl,_⟩:=h;rfl
  obtain ⟨m,l,r,g,ms,ls,rs,bm,bl,br,rfl,nml,nmr,nlr,em,el,er,nd,hm,hl,hr',hbl,hbr,hz,q⟩:=h;refine ⟨_,(@ai _ _ _ (@mU _ _ _ (@cA _ _ _ _ _ _ _ _ aaW rfl (@kK _ _ _ _ _ _ _ _ (pv 1) (by rfl) (by rfl)) (@gk _ _ _ _ _ _ rfl (@bM _ _ _ _ _ (@aD _ _ (4) _ (bd).nd rfl (Or.inl rfl) (.inl rfl)) (@bM _ _ _ _ _ (@aD _ _ (5) _ (bd).nd rfl (Or.inl rfl) (.inl rfl)) fh (by rfl)) (by rfl)) (by rfl) (by rfl)) (@ai _ _ _ (@mU _ _ _ (@cA _ _ _ _ _ _ _ _ aaW rfl (@kK _ _ _ _ _ _ _ _ (pv 3) (by rfl) (by rfl)) (@gk _ _ _ _ _ _ rfl (@bM _ _ _ _ _ (@aD _ _ (6) _ (bd).nd rfl (Or.inl rfl) (.inl rfl)) (@bM _ _ _ _ _ (@aD _ _ (7) _ (bd).nd rfl (Or.inl rfl) (.inl rfl)) fh (by rfl)) (by rfl)) (by rfl) (by rfl)) (@ag _ _ _ _ _ (@aI _ _ (8) _ _ _ _ (bd).nd rfl (Or.inl rfl) (@aB _ _ _ _ _ _ _ _ _ _ _ C_put_sign hr (by lia) rfl (@aa _ _ _ _ _ (pv 4) (@aa _ _ _ _ _ (pv 2) (@aa _ _ _ _ _ (pv 6) ae (by rfl)) (by rfl)) (by rfl)) (by decide) (by rfl) (by rfl)) (by rfl) (by first|exact .inl rfl|exact .inr rfl|assumption)) (@ai _ _ _ (@mV _ _ _ _ _ _ _ _ _ (u1 hr.units) (pv 0) (pv 8) (@ap _ _ _ _ _ _ _ _ dH (@kO _ _ _ _ _ _ _ _ _ (u1 hr.units) (pv 0) (pv 8) af ⟨rfl,rfl,rfl,rfl⟩) (@ap _ _ _ _ _ _ _ _ m_ (pv 5) (pv 7))) rfl))) (by intro _;rfl)))) (by intro _;rfl)))),?_⟩;obtain ⟨ka,hka⟩:∃ ka,ka=ls.map (·.1):=⟨_,rfl⟩
  obtain ⟨kb,hkb⟩:∃ kb,kb=rs.map (·.1):=⟨_,rfl⟩
  have lka:ka.length=ls.length:=by rw [hka,aak]
  have lkb:kb.length=rs.length:=by rw [hkb,aak]
  refine ⟨_,rfl,l,rfl,.inr (.inl ⟨_,el,fun o=>?_⟩)⟩;have S1:∀ c ob,c≠l→H c=some ob→upd H l (.frz o (.dK (cnv ls))) c=some ob:=fun c ob hc e=>by rw [aj hc];exact e
  have el1:upd H l (.frz o (.dK (cnv ls))) l=some (.frz o (.dK (cnv ls))):=ad;have em1:=S1 _ _ nml em;have er1:=S1 _ _ (aa3 nlr) er;have fl:eI H l:=fun _ _ z=>by rw [el] at z;cases z
  have fr:eI (upd H l (.frz o (.dK (cnv ls)))) r:=fun _ _ z=>by rw [er1] at z;cases z
  generalize upd H l (.frz o (.dK (cnv ls)))=H1 at S1 el1 em1 er1 fr ⊢;refine cJ Trn.items (fun i σ H'=>∃ (ms':List (Int × Int)) (c4 c5 c6 c7 c8:Option V),σ=[some (.ref m),some (.ref l),some (.str (Sg.str g)),some (.ref r),c4,c5,c6,c7,c8]∧But m H1 H'∧H' m=some (.dK (cnv ms'))∧JS ms bm (bl * br) (i * rs.length) (JP g (ka.take i) kb) ms') ⟨ms,_,_,_,_,_,rfl,But.refl,em1,nd,fun p hp=>aaL (hm p hp) (abM _ _),by lia,fun n=>⟨.inl,fun z=>z.elim id fun ⟨_,z,_⟩=>by simp at z⟩⟩ (fun i σ H' hi z=>?_) (fun i x σ H2 H' hi it z=>?_) (fun σ H' z=>?_)
  · obtain ⟨ms',c4,c5,c6,c7,c8,rfl,b2,_⟩:=z;exact b2 _ _ (aa3 nml) el1
  · obtain ⟨ms2,c4,c5,c6,c7,c8,rfl,b2,em2,js2⟩:=z;obtain ⟨pp,k,y,npp,rfl,rfl,kv,hkv,rfl,rfl⟩:=it;obtain ⟨⟨a,va⟩,hpa,rfl⟩:=qC hkv;have st:=Same.new npp (.tup [kV (Sum.inl a),.int va]);have b3:=b2.trans (But.of st);have em3:=st _ _ em2;refine ⟨pp,_,rfl,SqT.of ad,rfl,_,_,rfl,_,_,rfl,rfl,?_⟩;generalize upd H2 pp (.tup [kV (Sum.inl a),.int va])=H3 at b3 em3 ⊢;have er3:=b3 _ _ (aa3 nmr) er1;have hka':ka[i]?=some a:=by rw [hka,aaF,hpa];rfl
    obtain ⟨ba1,ba2⟩:=hl _ (aan hpa);have hil:i < ls.length:=(aai.mp hpa).1;refine ⟨_,rfl,r,rfl,.inr (.inl ⟨_,er3,fun o2=>?_⟩)⟩;have S4:∀ c ob,c≠r→H3 c=some ob→upd H3 r (.frz o2 (.dK (cnv rs))) c=some ob:=fun c ob hc e=>by rw [aj hc];exact e
    have er4:upd H3 r (.frz o2 (.dK (cnv rs))) r=some (.frz o2 (.dK (cnv rs))):=ad;have em4:=S4 _ _ nmr em3;have fr3:eI H3 r:=fun _ _ z=>by rw [er3] at z;cases z
    generalize upd H3 r (.frz o2 (.dK (cnv rs)))=H4 at S4 er4 em4 ⊢;refine cJ Trn.items (fun j σ H'=>∃ (ms':List (Int × Int)) (c6 c7 c8:Option V),σ=[some (.ref m),some (.ref l),some (.str (Sg.str g)),some (.ref r),some (.int a),some (.int va),c6,c7,c8]∧But m H4 H'∧H' m=some (.dK (cnv ms'))∧JS ms bm (bl * br) (i * rs.length+j) (fun n=>JP g (ka.take i) kb n∨∃ b∈kb.take j,n=g.op a b) ms') ⟨ms2,_,_,_,rfl,But.refl,em4,js2.to rfl fun n=>⟨.inl,fun z=>z.elim id fun ⟨_,z,_⟩=>by simp at z⟩⟩ (fun j σ H' hj z=>?_) (fun j x σ H5 H' hj it z=>?_) (fun σ H' z=>?_)
    · obtain ⟨ms',c6,c7,c8,rfl,b5,_⟩:=z;exact b5 _ _ (aa3 nmr) er4
    · obtain ⟨ms5,d6,d7,d8,rfl,b5,em5,js5⟩:=z;obtain ⟨p2,k2,y2,np2,rfl,rfl,kv2,hkv2,rfl,rfl⟩:=it;obtain ⟨⟨b,vb⟩,hpb,rfl⟩:=qC hkv2;have st2:=Same.new np2 (.tup [kV (Sum.inl b),.int vb]);have b6:=b5.trans (But.of st2);have em6:=st2 _ _ em5;refine ⟨p2,_,rfl,SqT.of ad,rfl,_,_,rfl,_,_,rfl,rfl,?_⟩;generalize upd H5 p2 (.tup [kV (Sum.inl b),.int vb])=H6 at b6 em6 ⊢;have hkb':kb[j]?=some b:=by rw [hkb,aaF,hpb];rfl
      obtain ⟨bb1,bb2⟩:=hr' _ (aan hpb);have hjl:j < rs.length:=(aai.mp hpb).1;have hsz:ms5.length < sizeLine:=by
        have e1:=js5.2.2.1;have e2:i * rs.length+j < ls.length * rs.length:=by
          have:=abT rs.length (Nat.succ_le_of_lt hil);rw [abX] at this;lia
        lia
      have hvv:(va * vb).natAbs≤bl * br:=by rw [Int.natAbs_mul];exact abP ba2 bb2
      refine ⟨_,rfl,_,rfl,_,rfl,a,g,b,rfl,ba1,bb1,?_⟩;obtain ⟨ov,hov,hol⟩:∃ ov:Int,(dm (cnv ms5) (Sum.inl (g.op a b))).getD (.int 0)=.int ov∧ov.natAbs≤bm+(i * rs.length+j) * (bl * br):=by
        rcases rp ms5 (g.op a b) with ⟨e,_⟩|⟨v,e,hv⟩
        · exact ⟨0,by rw [e];rfl,aa1 _⟩
        · exact ⟨v,by rw [e];rfl,js5.2.1 _ hv⟩
      refine ⟨_,rfl,m,rfl,.inl ⟨_,.inl em6⟩,_,rfl,_,DGet.k (k:=Sum.inl (g.op a b)) em6,?_⟩;rw [hov];obtain ⟨ms7,e7,js7⟩:=js5.put (k:=g.op a b) (v:=ov+va * vb) (by
        have:=Int.natAbs_add_le ov (va * vb);rw [abX];lia)
      refine ⟨_,rfl,_,rfl,_,_,rfl,rfl,⟨by lia,by lia⟩,_,_,rfl,rfl,_,rfl,_,rfl,m,_,rfl,DPut.k (k:=Sum.inl (g.op a b)) em6 (by rw [gX];exact hsz),?_⟩;rw [e7];refine ⟨ms7,_,_,_,rfl,b6.trans But.put,ad,js7.to (by lia) fun n=>?_⟩;rw [aaJ,hkb'];simp only [Option.toList,List.mem_append,List.mem_singleton];constructor
      · rintro ((z|⟨x,hx,z⟩)|z)
        · exact .inl z
        · exact .inr ⟨x,.inl hx,z⟩
        · exact .inr ⟨b,.inr rfl,z⟩
      · rintro (z|⟨x,hx|hx,z⟩)
        · exact .inl (.inl z)
        · exact .inl (.inr ⟨x,hx,z⟩)
        · rw [hx] at z;exact .inr z
    · obtain ⟨ms5,d6,d7,d8,rfl,b5,em5,js5⟩:=z;refine ⟨r,o2,.dK (cnv rs),fr3,b5 _ _ (aa3 nmr) er4,ms5,_,_,_,_,_,rfl,fun c ob hc e=>?_,by rw [aj nmr];exact em5,js5.to (by rw [gX,abX]) fun n=>?_⟩
      · by_cases hcr:c=r
        · subst hcr;rw [er1] at e;cases e;exact ad
        · rw [aj hcr];exact b5 _ _ hc (S4 _ _ hcr (b3 _ _ hc e))
      · rw [gX,← lkb,abE,aaJ,hka'];exact JP.snoc
  · obtain ⟨ms2,c4,c5,c6,c7,c8,rfl,b2,em2,js2⟩:=z;rw [gX] at js2;refine ⟨l,o,.dK (cnv ls),fl,b2 _ _ (aa3 nml) el1,q ms2 _ (fun c ob hc e=>?_) (by rw [aj nml];exact em2) js2.1 js2.2.1 js2.2.2.1 fun n=>?_⟩
    · by_cases hcl:c=l
      · subst hcl;rw [el] at e;cases e;exact ad
      · rw [aj hcl];exact b2 _ _ hc (S1 _ _ hcl e)
    · rw [js2.2.2.2 n,← lka,abE,hka,hkb];exact Iff.rfl
end
open PySem L2
inductive Wo (gs:List Sg):List Int→Int→Prop
  | one (n:Int):Wo gs [n] n
  | join {g:Sg} {as bs:List Int} {a b:Int}:g∈gs→Wo gs as a→Wo gs bs b→Wo gs (as++bs) (g.op a b)
theorem Wo.pos {gs:List Sg} {as:List Int} {a:Int} (h:Wo gs as a):1≤as.length:=by
  induction h with
  | one n=>exact aad _
  | join _ _ _ h1 h2=>rw [aax];lia
theorem Wo.single {gs:List Sg} {n m:Int}:Wo gs [n] m↔m=n:=by
  constructor
  · intro h;generalize e:[n]=as at h;cases h with
    | one k=>cases e;rfl
    | join _ h1 h2 =>
      have e1:=h1.pos;have e2:=h2.pos;have:=congrArg List.length e;rw [aax] at this;simp at this;lia
  · rintro rfl;exact .one _
theorem Wo.cut {gs:List Sg} {as:List Int} {n:Int} (h2:2≤as.length):Wo gs as n↔∃ c,c+1 < as.length∧∃ g∈gs,∃ a b,Wo gs (as.take (c+1)) a∧Wo gs (as.drop (c+1)) b∧n=g.op a b:=by
  constructor
  · intro h;cases h with
    | one k=>simp at h2
    | @join g xs ys a b hg h3 h4 =>
      have e1:=h3.pos;have e2:=h4.pos;refine ⟨xs.length - 1,by rw [aax];lia,g,hg,a,b,?_,?_,rfl⟩
      · rw [show xs.length - 1+1=xs.length by lia,List.take_left];exact h3
      · rw [show xs.length - 1+1=xs.length by lia,List.drop_left];exact h4
  · rintro ⟨c,hc,g,hg,a,b,h3,h4,rfl⟩;have:=Wo.join hg h3 h4
    rwa [aa2] at this
theorem Wo.some {gs:List Sg} (hg:gs≠[]):∀ (as:List Int),as≠[]→∃ n,Wo gs as n
  | [],h=>absurd rfl h
  | [n],_=>⟨n,.one n⟩
  | n :: m :: as,_=>by
    obtain ⟨k,hk⟩:=Wo.some hg (m :: as) (by simp);obtain ⟨g,hg'⟩:=List.exists_mem_of_ne_nil _ hg;exact ⟨_,Wo.join (as:=[n]) hg' (.one n) hk⟩
theorem Wo.lt {gs:List Sg} {as:List Int} {n:Int} (h:Wo gs as n) (hs:∀ x∈as,x.natAbs < 2 ^ 50):n.natAbs < 2 ^ (50 * as.length):=by
  induction h with
  | one n=>exact hs n (by simp)
  | @join g xs ys a b _ h1 h2 i1 i2 =>
    have j1:=i1 fun x hx=>hs x (aaC _ hx);have j2:=i2 fun x hx=>hs x (aaa _ hx);have p1:=h1.pos;have p2:=h2.pos;rw [aax,Nat.mul_add,Nat.pow_add];have t1:2≤2 ^ (50 * xs.length):=Nat.pow_le_pow_right (n:=2) (by decide) (show 1≤50 * xs.length by lia);have t2:2≤2 ^ (50 * ys.length):=Nat.pow_le_pow_right (n:=2) (by decide) (show 1≤50 * ys.length by lia);generalize 2 ^ (50 * xs.length)=A at *;generalize 2 ^ (50 * ys.length)=B at *;have m1:A * 2≤A * B:=Nat.mul_le_mul_left _ t2;have m2:2 * B≤A * B:=abT _ t1;cases g with
    | plus=>show (a+b).natAbs < _;lia
    | minus=>show (a - b).natAbs < _;lia
    | times =>
      show (a * b).natAbs < _;rw [Int.natAbs_mul];exact Nat.mul_lt_mul'' j1 j2
def seg (ns:List Int) (i k:Nat):List Int:=(ns.drop i).take k
theorem seg_len {ns:List Int} {i k:Nat} (h:i+k≤ns.length):(seg ns i k).length=k:=by
  unfold seg;rw [aaV,abl];lia
theorem kj {ns:List Int} {i k c:Nat} (h:c≤k):(seg ns i k).take c=seg ns i c:=by
  unfold seg;rw [List.take_take,Nat.min_eq_left h]
theorem km {ns:List Int} {i k c:Nat}:(seg ns i k).drop c=seg ns (i+c) (k - c):=by
  unfold seg;rw [List.drop_take,ace]
theorem mR (ns:List Int):seg ns 0 ns.length=ns:=by
  unfold seg;simp
theorem qQ {ns:List Int} {i:Nat} {n:Int} (h:ns[i]?=some n):seg ns i 1=[n]:=by
  unfold seg;obtain ⟨hi,rfl⟩:=aai.mp h;rw [aa5 hi];rfl
theorem si {gs:List Sg} {ns:List Int} {i k:Nat} (h2:2≤k) (h:i+k≤ns.length) {n:Int}:Wo gs (seg ns i k) n↔∃ c,c < k - 1∧∃ g∈gs,∃ a b,Wo gs (seg ns i (c+1)) a∧Wo gs (seg ns (i+(c+1)) (k - (c+1))) b∧n=g.op a b:=by
  have l:=seg_len h;rw [Wo.cut (by lia),l];constructor
  · rintro ⟨c,hc,g,hg,a,b,h3,h4,e⟩;rw [kj (by lia)] at h3;rw [km] at h4;exact ⟨c,by lia,g,hg,a,b,h3,h4,e⟩
  · rintro ⟨c,hc,g,hg,a,b,h3,h4,e⟩;refine ⟨c,by lia,g,hg,a,b,?_,?_,e⟩
    · rw [kj (by lia)];exact h3
    · rw [km];exact h4
def Lb:Nat→Nat
  | 1=>1|2=>3|3=>18|4=>135|5=>1134|6=>10206|7=>96228|_=>0
def Ls (n:Nat):Nat→Nat
  | 0=>0
  | c+1=>Ls n c+3 * (Lb (c+1) * Lb (n - 1 - c))
theorem qI {n:Nat} (h1:2≤n) (h2:n≤7):Ls n (n - 1)=Lb n:=by
  have : n=2∨n=3∨n=4∨n=5∨n=6∨n=7:=by lia
  rcases this with rfl|rfl|rfl|rfl|rfl|rfl <;> decide
theorem nN (n:Nat):Lb n≤96228:=by
  unfold Lb;split <;> decide
theorem rD {n c d:Nat} (h:c≤d):Ls n c≤Ls n d:=by
  induction d with
  | zero=>rw [Nat.le_zero.mp h];exact aad _
  | succ d ih =>
    by_cases e:c=d+1
    · rw [e];exact aad _
    · exact aaL (ih (by lia)) (abM _ _)
def Vb (n:Nat):Nat:=2 ^ (200 * n - 100)
theorem tH {a b:Nat} (ha:1≤a) (hb:1≤b):Vb a * Vb b=2 ^ (200 * (a+b) - 200):=by
  unfold Vb;rw [← Nat.pow_add];congr 1;lia
def GoodD (ns:List Int) (gs:List Sg) (i k:Nat) (ms:List (Int × Int)):Prop:=(ms.map (·.1)).Nodup∧(∀ n,n∈ms.map (·.1)↔Wo gs (seg ns i k) n)∧ms.length≤Lb k∧∀ p∈ms,p.2.natAbs≤Vb k
theorem GoodD.one {ns:List Int} {gs:List Sg} {i:Nat} {n:Int} (h:ns[i]?=some n):GoodD ns gs i 1 [(n,1)]:=by
  refine ⟨by simp,fun m=>?_,aad 1,fun p hp=>?_⟩
  · rw [qQ h,Wo.single];simp
  · rw [aar.mp hp];unfold Vb;exact Nat.one_le_two_pow
open PySem L2
def hV (T:Int × Int→Addr) (qs:List (Int × Int)):List (List Key × V):=qs.map fun q=>(ky q,.ref (T q))
theorem hJ {T:Int × Int→Addr} {qs:List (Int × Int)} {q:Int × Int} (h:q∈qs):dm (hV T qs) (ky q)=some (.ref (T q)):=by
  induction qs with
  | nil=>simp at h
  | cons p qs ih =>
    unfold dm hV;by_cases e:p=q
    · rw [aaG,List.find?_cons_of_pos (by rw [e];simp),e];rfl
    · rw [aaG,List.find?_cons_of_neg (by simp only [decide_eq_true_eq];exact fun z=>e (qc z))];exact ih (by
        rcases aay.mp h with z|z
        · exact absurd z.symm e
        · exact z)
def tI (ns:List Int) (gs:List Sg) (H:Hp) (c:Addr) (T:Int × Int→Addr) (qs:List (Int × Int)):Prop:=H c=some (.dT (hV T qs))∧(∀ q∈qs,∀ q'∈qs,T q=T q'→q=q')∧∀ q∈qs,∃ ms,H (T q)=some (.dK (cnv ms))∧GoodD ns gs q.1.toNat (q.2 - q.1+1).toNat ms
theorem qL {k c:Nat} (hk:2≤k) (h:c≤6):3 * c * 2 ^ (200 * k - 160)≤Vb k:=by
  unfold Vb;rw [show 200 * k - 100=60+(200 * k - 160) by lia,Nat.pow_add];exact abT _ (aaL (Nat.mul_le_mul_left 3 h) (by decide))
theorem oW {k a b la lb:Nat} (ha:1≤a) (hb:1≤b) (e:a+b=k) (h1:la≤Lb a) (h2:lb≤Lb b):la * lb * (Vb a * Vb b)≤2 ^ (200 * k - 160):=by
  rw [tH ha hb,e,show 200 * k - 160=40+(200 * k - 200) by lia,Nat.pow_add];exact abT _ (aaL (abP (aaL h1 (nN _)) (aaL h2 (nN _))) (by decide))
theorem rQ {k:Nat} (h:k≤7):Vb k < 2 ^ 4000:=Nat.pow_lt_pow_right (by decide) (by lia)
def ux (gs:List Sg) (ns:List Int) (i k c:Nat) (n:Int):Prop:=∃ c' < c,∃ g∈gs,∃ a b,Wo gs (seg ns i (c'+1)) a∧Wo gs (seg ns (i+(c'+1)) (k - (c'+1))) b∧n=g.op a b
section
variable {P:Program} {w:World} {K:aab} {mg:Str→Option Value} {base:Heap} {f:Addr} {fd:FuncData}
def fY:Sp:=fun vs H Q _=>∃ (c:Addr) (ns:List Int) (gs:List Sg) (q:Int × Int) (v:V) (T:Int × Int→Addr) (qs:List (Int × Int)),vs=[.ref c,.str (av gs),v]∧PairIn H q v∧0≤q.1∧q.1 < q.2∧q.2 < ns.length∧ns.length≤7∧gs.length≤3∧(∀ x∈ns,x.natAbs < 2 ^ 50)∧tI ns gs H c T qs ∧
  (∀ q':Int × Int,0≤q'.1→q'.1≤q'.2→q'.2 < ns.length→q'.2 - q'.1 < q.2 - q.1→q'∈qs) ∧
  ∀ p ms H',Same H H'→H p=none→H' p=some (.dK (cnv ms))→GoodD ns gs q.1.toNat (q.2 - q.1+1).toNat ms→Q (.ref p) H'
abbrev cZ:Stmt:=top 39
theorem bq:FnScope ["counted","signs","stretch","many","before","behind","sign"] ["counted","signs","stretch"] (am cZ):=⟨rfl,rfl,rfl,by decide +kernel,rfl,by decide +kernel,by decide +kernel⟩
theorem gu (F:Fun K "count_stretch" "count_stretch" cZ f fd) (C_cuts_of:Cal P w K mg base "cuts_of" 1 ["stretch"] lX) (C_count_joined:Cal P w K mg base "count_joined" 2 ["many","lefts","sign","rights"] hX):FnOk P w K mg base CX0 3 f fd ["counted","signs","stretch"] fY:=by
  refine F.ok bq (fun vs H Q E h=>?_) (fun cdv A outer s H vs Q E hr h=>?_)
  · obtain ⟨c,ns,gs,q,v,T,qs,rfl,_⟩:=h;rfl
  obtain ⟨c,ns,gs,q,v,T,qs,rfl,hv,q0,q1,q2,h7,g3,sm,⟨ec,inj,tab⟩,sub,qq⟩:=h;refine ⟨_,(@ag _ _ _ _ _ (@aI _ _ (3) _ _ _ _ (bq).nd rfl (Or.inl rfl) eU (by rfl) (by first|exact .inl rfl|exact .inr rfl|assumption)) (@ag _ _ _ _ _ (@cA _ _ _ _ _ _ _ _ aaW rfl (@ce _ _ _ _ (@aB _ _ _ _ _ _ _ _ _ _ _ C_cuts_of hr (by lia) rfl (@aa _ _ _ _ _ (pv 2) ae (by rfl)) (by decide) (by rfl) (by rfl))) (@gk _ _ _ _ _ _ rfl (@bM _ _ _ _ _ (@aD _ _ (4) _ (bq).nd rfl (Or.inl rfl) (.inl rfl)) (@bM _ _ _ _ _ (@aD _ _ (5) _ (bq).nd rfl (Or.inl rfl) (.inl rfl)) fh (by rfl)) (by rfl)) (by rfl) (by rfl)) (@ai _ _ _ (@cA _ _ _ _ _ _ _ _ aaW rfl (@sx _ _ _ _ (pv 1)) (@aD _ _ (6) _ (bq).nd rfl (Or.inl rfl) (.inl rfl)) (@ai _ _ _ (@bA _ _ _ _ (@aB _ _ _ _ _ _ _ _ _ _ _ C_count_joined hr (by lia) rfl (@aa _ _ _ _ _ (pv 3) (@aa _ _ _ _ _ (@jN _ _ _ _ _ _ (u1 hr.units) (pv 0) (pv 4) (fun _ _=>rfl)) (@aa _ _ _ _ _ (pv 6) (@aa _ _ _ _ _ (@jN _ _ _ _ _ _ (u1 hr.units) (pv 0) (pv 5) (fun _ _=>rfl)) ae (by rfl)) (by rfl)) (by rfl)) (by rfl)) (by decide) (by rfl) (by rfl)) (by rfl))) (by intro _;rfl))) (by intro _;rfl)) (@ai _ _ _ (@az _ _ _ _ (pv 3))))),?_⟩;obtain ⟨i0,hi0⟩:∃ i0:Nat,(i0:Int)=q.1:=⟨q.1.toNat,by lia⟩
  obtain ⟨k,hk⟩:∃ k:Nat,(k:Int)=q.2 - q.1+1:=⟨(q.2 - q.1+1).toNat,by lia⟩
  have ei0:q.1.toNat=i0:=by lia
  have ek0:(q.2 - q.1+1).toNat=k:=by lia
  have k2:2≤k:=by lia
  have k7:k≤7:=by lia
  have ik:i0+k≤ns.length:=by lia
  rw [ei0,ek0] at qq;refine fun pm npm=>?_;have s1:=Same.new npm (.dK []);have em1:upd H pm (.dK []) pm=some (.dK (cnv [])):=ad;generalize upd H pm (.dK [])=H1 at s1 em1 ⊢;refine ⟨_,rfl,q,v,rfl,PairIn.mono (Tups.of s1) hv,q0,by lia,by lia,fun a us H2 s2 na ea hp=>?_⟩;have em2:=s2 _ _ em1;have npma:pm≠a:=ah em1 na;have lu:=aa9 hp;have lc:(i8 q).length=k - 1:=by
    unfold i8;rw [aak,List.length_range];lia
  refine ⟨a,rfl,⟨_,SqL.of ea⟩,?_⟩;refine cJ (Trn.list (xs:=us)) (fun i σ H'=>∃ (ms':List (Int × Int)) (c4 c5 c6:Option V),σ=[some (.ref c),some (.str (av gs)),some v,some (.ref pm),c4,c5,c6]∧But pm H2 H'∧H' pm=some (.dK (cnv ms'))∧(ms'.map (·.1)).Nodup∧(∀ n,n∈ms'.map (·.1)↔ux gs ns i0 k i n)∧ms'.length≤Ls k i∧∀ p∈ms',p.2.natAbs≤3 * i * 2 ^ (200 * k - 160)) ⟨[],_,_,_,rfl,But.refl,em2,by simp,fun n=>⟨fun z=>by simp at z,fun ⟨_,z,_⟩=>absurd z (Nat.not_lt_zero _)⟩,aa1 _,fun p hp=>by simp at hp⟩ (fun i σ H' hi z=>?_) (fun i x σ H3 H' hi it z=>?_) (fun σ H' z=>?_)
  · obtain ⟨ms',c4,c5,c6,rfl,b3,_⟩:=z;exact SqL.of (b3 _ _ (aa3 npma) ea)
  · obtain ⟨ms3,c4,c5,c6,rfl,b3,em3,nd3,ks3,l3,v3⟩:=z;obtain ⟨rfl,hx⟩:=it;obtain ⟨cu,hcu,a3,x1,y1,rfl,ea3,hx1,hy1⟩:=Paired.at hp hx;have hik:i < k - 1:=by lia
    have ecu:cu=q.1+(i:Int):=by
      unfold i8 at hcu;rw [aaF,List.getElem?_range (by lia)] at hcu;exact (aaN hcu).symm
    have t3:Tups H2 H':=fun b xs e=>b3 _ _ (fun z=>by rw [z,em2] at e;cases e) e;obtain ⟨ax,rfl,eax⟩:=PairIn.mono t3 hx1;obtain ⟨ay,rfl,eay⟩:=PairIn.mono t3 hy1;have ma:((q.1,cu):Int × Int)∈qs:=sub _ (by simp only;lia) (by simp only;lia) (by simp only;lia) (by simp only;lia);have mb:((cu+1,q.2):Int × Int)∈qs:=sub _ (by simp only;lia) (by simp only;lia) (by simp only;lia) (by simp only;lia);obtain ⟨ls,el,gl⟩:=tab _ ma;obtain ⟨rs,er,gr⟩:=tab _ mb;have nml:=ah el npm;have nmr:=ah er npm;have nlr:T (q.1,cu)≠T (cu+1,q.2):=fun z=>by
      have:=congrArg Prod.fst (inj _ ma _ mb z);simp only at this;lia
    simp only at gl gr;rw [ei0,show (cu - q.1+1).toNat=i+1 by lia] at gl;rw [show (cu+1).toNat=i0+(i+1) by lia,show (q.2 - (cu+1)+1).toNat=k - (i+1) by lia] at gr;have ncm:c≠pm:=ah ec npm;have bigs:∀ (j z:Nat) (ms:List (Int × Int)),j+z≤ns.length→GoodD ns gs j z ms→∀ p∈ms,p.1.natAbs < 2 ^ 4000∧p.2.natAbs≤Vb z:=fun j z ms hj gd p hp=>by
      have hw:=(gd.2.1 p.1).mp (List.mem_map_of_mem hp);have hlt:=hw.lt fun x hx=>sm x (abS (abF hx));rw [seg_len hj] at hlt;exact ⟨aaq hlt (Nat.pow_le_pow_right (by decide) (by lia)),gd.2.2.2 p hp⟩
    refine ⟨a3,_,rfl,SqT.of (t3 _ _ ea3),rfl,_,_,rfl,_,_,rfl,rfl,?_⟩;refine ⟨_,rfl,_,rfl,lZ gs,?_⟩;refine cJ (Trn.str (z:=av gs)) (fun j σ H''=>∃ (ms':List (Int × Int)) (c6:Option V),σ=[some (.ref c),some (.str (av gs)),some v,some (.ref pm),some (.ref ax),some (.ref ay),c6]∧But pm H' H''∧H'' pm=some (.dK (cnv ms'))∧(ms'.map (·.1)).Nodup∧(∀ n,n∈ms'.map (·.1)↔ux gs ns i0 k i n∨∃ g∈gs.take j,∃ a∈ls.map (·.1),∃ b∈rs.map (·.1),n=g.op a b)∧ms'.length≤Ls k i+j * (ls.length * rs.length)∧∀ p∈ms',p.2.natAbs≤(3 * i+j) * 2 ^ (200 * k - 160)) ⟨ms3,_,rfl,But.refl,em3,nd3,fun n=>(ks3 n).trans ⟨.inl,fun z=>z.elim id fun ⟨_,z,_⟩=>by simp at z⟩,by lia,v3⟩ (fun j σ H'' hj z=>trivial) (fun j x σ H4 H'' hj it z=>?_) (fun σ H'' z=>?_)
    · obtain ⟨ms4,d6,rfl,b4,em4,nd4,ks4,l4,v4⟩:=z;obtain ⟨rfl,cc,hcc,rfl⟩:=it;obtain ⟨g,hg,rfl⟩:=tZ hcc;have hjl:j < gs.length:=(aai.mp hg).1;have up:∀ {b:Addr} {o:HO},b≠pm→H b=some o→H'' b=some o:=fun {b o} hb e=>b4 _ _ hb (b3 _ _ hb (s2 _ _ (s1 _ _ e)));have D1:DGet H'' c (.ref ax) (some (.ref (T (q.1,cu)))):=by
        rw [← hJ ma];exact DGet.t (k:=ky (q.1,cu)) (up ncm ec) (b4 _ _ (fun z=>by rw [z,em3] at eax;cases eax) eax)
      have D2:DGet H'' c (.ref ay) (some (.ref (T (cu+1,q.2)))):=by
        rw [← hJ mb];exact DGet.t (k:=ky (cu+1,q.2)) (up ncm ec) (b4 _ _ (fun z=>by rw [z,em3] at eay;cases eay) eay)
      have hLL:ls.length * rs.length≤Lb (i+1) * Lb (k - 1 - i):=by
        rw [show k - 1 - i=k - (i+1) by lia];exact abP gl.2.2.1 gr.2.2.1
      have hsz:ms4.length+ls.length * rs.length < sizeLine:=by
        have e1:Ls k (i+1)≤Ls k (k - 1):=rD (by lia);rw [qI k2 k7] at e1;have e2:=nN k;have e3:Ls k (i+1)=Ls k i+3 * (Lb (i+1) * Lb (k - 1 - i)):=rfl;have e4:(j+1) * (ls.length * rs.length)≤3 * (Lb (i+1) * Lb (k - 1 - i)):=abP (by lia) hLL;rw [abX] at e4;have e5:100000 < sizeLine:=by decide
        lia
      have hvs:=oW (k:=k) (a:=i+1) (b:=k - (i+1)) (by lia) (by lia) (by lia) gl.2.2.1 gr.2.2.1;refine ⟨_,rfl,_,rfl,_,rfl,c,_,rfl,D1,_,rfl,_,rfl,_,rfl,c,_,rfl,D2,pm,T (q.1,cu),T (cu+1,q.2),g,ms4,ls,rs,(3 * i+j) * 2 ^ (200 * k - 160),Vb (i+1),Vb (k - (i+1)),(by rw [gD];rfl),aa3 nml,aa3 nmr,nlr,em4,up nml el,up nmr er,nd4,v4,bigs _ _ _ (by lia) gl,bigs _ _ _ (by lia) gr,rQ (by lia),rQ (by lia),hsz,fun ms5 H5 b5 em5 nd5 v5 l5 ks5=>?_⟩;refine ⟨ms5,_,rfl,b4.trans b5,em5,nd5,fun n=>?_,by rw [abX];lia,fun p hp=>?_⟩
      · rw [ks5,ks4,aaJ,hg];simp only [Option.toList,List.mem_append,List.mem_singleton];constructor
        · rintro ((z|⟨x,hx,z⟩)|z)
          · exact .inl z
          · exact .inr ⟨x,.inl hx,z⟩
          · exact .inr ⟨g,.inr rfl,z⟩
        · rintro (z|⟨x,hx|hx,z⟩)
          · exact .inl (.inl z)
          · exact .inl (.inr ⟨x,hx,z⟩)
          · rw [hx] at z;exact .inr z
      · have:=v5 p hp;rw [← Nat.add_assoc,abX];lia
    · obtain ⟨ms4,d6,rfl,b4,em4,nd4,ks4,l4,v4⟩:=z;rw [qP] at ks4 l4 v4;rw [abE] at ks4;refine ⟨ms4,_,_,_,rfl,b3.trans b4,em4,nd4,fun n=>?_,?_,fun p hp=>?_⟩
      · rw [ks4];constructor
        · rintro (⟨c',h',z⟩|⟨g,hg,a,ha,b,hb,z⟩)
          · exact ⟨c',by lia,z⟩
          · exact ⟨i,by lia,g,hg,a,b,(gl.2.1 a).mp ha,(gr.2.1 b).mp hb,z⟩
        · rintro ⟨c',h',g,hg,a,b,ha,hb,z⟩;by_cases e:c'=i
          · subst e;exact .inr ⟨g,hg,a,(gl.2.1 a).mpr ha,b,(gr.2.1 b).mpr hb,z⟩
          · exact .inl ⟨c',by lia,g,hg,a,b,ha,hb,z⟩
      · have hLL:ls.length * rs.length≤Lb (i+1) * Lb (k - 1 - i):=by
          rw [show k - 1 - i=k - (i+1) by lia];exact abP gl.2.2.1 gr.2.2.1
        have e3:Ls k (i+1)=Ls k i+3 * (Lb (i+1) * Lb (k - 1 - i)):=rfl;have e4:gs.length * (ls.length * rs.length)≤3 * (Lb (i+1) * Lb (k - 1 - i)):=abP g3 hLL;lia
      · exact aaL (v4 p hp) (abT _ (by lia))
  · obtain ⟨ms3,c4,c5,c6,rfl,b3,em3,nd3,ks3,l3,v3⟩:=z;rw [← lu,lc] at ks3 l3 v3;rw [qI k2 k7] at l3;refine ⟨_,rfl,qq pm ms3 H' (fun b o e=>b3 _ _ (ah e npm) (s2 _ _ (s1 _ _ e))) npm em3 ⟨nd3,fun n=>?_,l3,fun p hp=>aaL (v3 p hp) (qL k2 (by lia))⟩⟩;rw [ks3,si k2 ik];exact Iff.rfl
end
open PySem L2
theorem ph:∀ n,n≤9→(sfl n n).Pairwise (fun p q=>p.2 - p.1≤q.2 - q.1):=by decide +kernel
theorem l0 {n i:Nat} (hn:n≤9) {p q:Int × Int} (hi:(sfl n n)[i]?=some p) (hq:0≤q.1∧q.1≤q.2∧q.2 < n) (hl:q.2 - q.1 < p.2 - p.1):q∈(sfl n n).take i:=by
  have hm:q∈sfl n n:=by
    have z:=mP n q.1.toNat q.2.toNat (by lia) (by lia);have e:((q.1.toNat:Int),(q.2.toNat:Int))=q:=by
      obtain ⟨a,b⟩:=q;simp only at *;rw [show (a.toNat:Int)=a by lia,show (b.toNat:Int)=b by lia]
    rw [e] at z;exact z
  obtain ⟨j,hj,e⟩:=abz hm;obtain ⟨hi1,hi2⟩:=aai.mp hi;by_cases c:j < i
  · rw [List.mem_iff_getElem?];exact ⟨j,by rw [List.getElem?_take];rw [if_pos c,aaf hj,e]⟩
  · have hr:=abk.mp (ph n hn);by_cases c2:i=j
    · subst c2;rw [hi2] at e;rw [e] at hl;lia
    · have:=hr i j hi1 hj (by lia);rw [hi2,e] at this;lia
theorem pi (n:Nat):∀ p∈sfl n n,0≤p.1∧p.1≤p.2∧p.2 < n:=fun p hp=>by
  unfold sfl sfR at hp;rw [List.mem_flatMap] at hp;obtain ⟨m,hm,hp⟩:=hp;rw [List.mem_map] at hp;obtain ⟨f,hf,rfl⟩:=hp;rw [List.mem_range] at hf;simp only;lia
theorem nW:∀ n,n≤9→(sfl n n).Nodup:=by decide +kernel
theorem oZ {T:Int × Int→Addr} {qs:List (Int × Int)} {q:Int × Int} {p:Addr} (h:q∉qs):dO (hV T qs) (ky q) (.ref p)=hV (fun x=>if x=q then p else T x) (qs++[q]):=by
  have ne:¬ ((hV T qs).any fun kv=>decide (kv.1=ky q))=true:=by
    rw [List.any_eq_true];rintro ⟨x,hx,e⟩;unfold hV at hx;obtain ⟨y,hy,rfl⟩:=acC.mp hx;exact h (qc (of_decide_eq_true e) ▸ hy)
  unfold dO;rw [if_neg ne];unfold hV;rw [abb];congr 1
  · refine List.map_congr_left fun x hx=>?_;show (ky x,V.ref (T x))=(ky x,V.ref (if x=q then p else T x))
    rw [if_neg (fun e=>h (by rw [← e];exact hx))]
  · simp
section
variable {P:Program} {w:World} {K:aab} {mg:Str→Option Value} {base:Heap} {f:Addr} {fd:FuncData}
def dJ:Sp:=fun vs H Q _=>∃ (r:Addr) (ns:List Int) (gs:List Sg),vs=[.ref r,.str (av gs)]∧H r=some (.lst (ns.map V.int))∧1≤ns.length∧ns.length≤7∧gs.length≤3∧(∀ x∈ns,x.natAbs < 2 ^ 50) ∧
  ∀ p ms H',Same H H'→H p=none→H' p=some (.dK (cnv ms))→GoodD ns gs 0 ns.length ms→Q (.ref p) H'
abbrev cO:Stmt:=top 38
theorem bf:FnScope ["row","signs","counted","stretch","first","last"] ["row","signs"] (am cO):=⟨rfl,rfl,rfl,by decide +kernel,rfl,by decide +kernel,by decide +kernel⟩
theorem fT (F:Fun K "count_by_worth" "count_by_worth" cO f fd) (B:Bu K mg) (C_shorter_first:Cal P w K mg base "shorter_first" 1 ["many"] sg) (C_count_stretch:Cal P w K mg base "count_stretch" 3 ["counted","signs","stretch"] fY):FnOk P w K mg base CX0 4 f fd ["row","signs"] dJ:=by
  refine F.ok bf (fun vs H Q E h=>?_) (fun cdv A outer s H vs Q E hr h=>?_)
  · obtain ⟨r,ns,gs,rfl,_⟩:=h;rfl
  obtain ⟨r,ns,gs,rfl,er,h1,h7,g3,sm,qq⟩:=h;refine ⟨_,(@ag _ _ _ _ _ (@aI _ _ (2) _ _ _ _ (bf).nd rfl (Or.inl rfl) pJ (by rfl) (by first|exact .inl rfl|exact .inr rfl|assumption)) (@ag _ _ _ _ _ (@cA _ _ _ _ _ _ _ _ aaW rfl (@ce _ _ _ _ (@aB _ _ _ _ _ _ _ _ _ _ _ C_shorter_first hr (by lia) rfl (@aa _ _ _ _ _ (@aC _ _ _ _ _ _ _ _ _ cf rfl B.ilen ab1 (@aa _ _ _ _ _ (pv 0) ae (by rfl)) (by decide) (by decide) (by rfl) (by rfl)) ae (by rfl)) (by decide) (by rfl) (by rfl))) (@aD _ _ (3) _ (bf).nd rfl (Or.inl rfl) (.inl rfl)) (@ag _ _ _ _ _ (@jM _ _ _ _ _ _ (pv 3) (@gk _ _ _ _ _ _ rfl (@bM _ _ _ _ _ (@aD _ _ (4) _ (bf).nd rfl (Or.inl rfl) (.inl rfl)) (@bM _ _ _ _ _ (@aD _ _ (5) _ (bf).nd rfl (Or.inl rfl) (.inl rfl)) fh (by rfl)) (by rfl)) (by rfl) (by rfl)) (by rfl) (by rfl) (by rfl)) (@ai _ _ _ (@mV _ _ _ _ _ _ _ _ _ (u1 hr.units) (pv 2) (pv 3) (@kN _ _ _ _ _ _ _ _ (@a9 _ _ _ _ _ _ _ _ fu (pv 4) (pv 5) (bv _)) (@mY _ _ _ _ _ (@kG _ _ _ _ _ _ _ _ _ (@cU _ _ _ _ _ _ _ bH (pv 0) (pv 4) (fun _ _=>rfl)) af mW) rfl rfl (by simp) (by decide)) (@aB _ _ _ _ _ _ _ _ _ _ _ C_count_stretch hr (by lia) rfl (@aa _ _ _ _ _ (pv 2) (@aa _ _ _ _ _ (pv 1) (@aa _ _ _ _ _ (pv 3) ae (by rfl)) (by rfl)) (by rfl)) (by decide) (by rfl) (by rfl))) rfl))) (by intro _;rfl)) (@ai _ _ _ (@az _ _ _ _ (@jN _ _ _ _ _ _ (u1 hr.units) (pv 2) (@bV _ _ _ _ _ (@aa _ _ _ _ _ af (@aa _ _ _ _ _ (@ap _ _ _ _ _ _ _ _ dw (@aC _ _ _ _ _ _ _ _ _ cf rfl B.ilen ab1 (@aa _ _ _ _ _ (pv 0) ae (by rfl)) (by decide) (by decide) (by rfl) (by rfl)) af) ae (by rfl)) (by rfl))) (fun _ _=>rfl)))))),?_⟩;have hl:(ns.map V.int).length=ns.length:=aak _;have nd:=nW ns.length (by lia);refine fun d nD=>?_;have s1:=Same.new nD (.dT []);have ed1:upd H d (.dT []) d=some (.dT []):=ad;generalize upd H d (.dT [])=H1 at s1 ed1 ⊢;refine ⟨_,rfl,r,_,rfl,.inl (SqL.of (s1 _ _ er)),ns.length,by rw [hl];rfl,by lia,fun a us H2 s2 na ea hp=>?_⟩;have ed2:=s2 _ _ ed1;have nda:d≠a:=ah ed1 na;have ndr:r≠d:=ah er nD;have lu:=aa9 hp;refine ⟨a,rfl,⟨_,SqL.of ea⟩,?_⟩;refine cJ (Trn.list (xs:=us)) (fun j σ H'=>∃ (T:Int × Int→Addr) (c3 c4 c5:Option V),σ=[some (.ref r),some (.str (av gs)),some (.ref d),c3,c4,c5]∧But d H2 H'∧tI ns gs H' d T ((sfl ns.length ns.length).take j)∧∀ q∈(sfl ns.length ns.length).take j,H (T q)=none) ⟨fun _=>0,_,_,_,rfl,But.refl,⟨ed2,fun q hq=>by simp at hq,fun q hq=>by simp at hq⟩,fun q hq=>by simp at hq⟩ (fun j σ H' hj z=>?_) (fun j x σ H3 H' hj it z=>?_) (fun σ H' z=>?_)
  · obtain ⟨T,c3,c4,c5,rfl,b3,_⟩:=z;exact SqL.of (b3 _ _ (aa3 nda) ea)
  · obtain ⟨T,c3,c4,c5,rfl,b3,tb,fr⟩:=z;obtain ⟨rfl,hx⟩:=it;obtain ⟨q,hq,hpx⟩:=ig hp hx;have t3:Tups H2 H':=fun b xs e=>b3 _ _ (fun z=>by rw [z,ed2] at e;cases e) e;have hpx':=PairIn.mono t3 hpx;have hpx0:=hpx';obtain ⟨b,rfl,eb⟩:=hpx';obtain ⟨q0,q1,q2⟩:=pi _ q (aan hq);have nq:q∉(sfl ns.length ns.length).take j:=fun z=>by
      have:=List.Nodup.sublist (List.take_sublist (j+1) _) nd;rw [aaJ,hq] at this;exact (List.nodup_append.mp this).2.2 _ z q (by simp) rfl
    have er':=b3 _ _ ndr (s2 _ _ (s1 _ _ er));have hlen:((sfl ns.length ns.length).take j).length < sizeLine:=by
      have e1:=mQ ns.length ns.length;have e2:ns.length * ns.length≤7 * 7:=abP h7 h7;have e3:1000 < sizeLine:=by decide
      have e4:=List.length_take_le j (sfl ns.length ns.length);have e5:((sfl ns.length ns.length).take j).length≤(sfl ns.length ns.length).length:=List.length_take_le' _ _;lia
    have put:∀ (p:Addr) (ms:List (Int × Int)) (H8:Hp),Same H' H8→H' p=none→H8 p=some (.dK (cnv ms))→GoodD ns gs q.1.toNat (q.2 - q.1+1).toNat ms →
        ∃ T',DPut H8 d (.ref b) (.ref p) (upd H8 d (.dT (hV T' ((sfl ns.length ns.length).take j++[q]))))∧tI ns gs (upd H8 d (.dT (hV T' ((sfl ns.length ns.length).take j++[q])))) d T' ((sfl ns.length ns.length).take j++[q])∧∀ q'∈(sfl ns.length ns.length).take j++[q],H (T' q')=none:=fun p ms H8 s8 np ep gd=>by
      have hnew:∀ q'∈(sfl ns.length ns.length).take j,T q'≠p:=fun q' hq'=>by
        obtain ⟨ms',e',_⟩:=tb.2.2 q' hq';exact ah e' np
      refine ⟨fun x=>if x=q then p else T x,?_,⟨ad,fun x hx y hy e=>?_,fun x hx=>?_⟩,fun x hx=>?_⟩
      · rw [← oZ nq];exact .inr ⟨_,ky q,b,s8 _ _ tb.1,rfl,s8 _ _ eb,by unfold hV;rw [aak];exact hlen,rfl⟩
      · by_cases ex:x=q
        · by_cases ey:y=q
          · rw [ex,ey]
          · simp only [if_pos ex,if_neg ey] at e;rcases aao.mp hy with z|z
            · exact absurd e.symm (hnew y z)
            · exact absurd (aar.mp z) ey
        · have hx':x∈(sfl ns.length ns.length).take j:=by
            rcases aao.mp hx with z|z
            · exact z
            · exact absurd (aar.mp z) ex
          by_cases ey:y=q
          · simp only [if_neg ex,if_pos ey] at e;exact absurd e (hnew x hx')
          · simp only [if_neg ex,if_neg ey] at e;rcases aao.mp hy with z|z
            · exact tb.2.1 x hx' y z e
            · exact absurd (aar.mp z) ey
      · by_cases ex:x=q
        · simp only [if_pos ex];rw [ex];refine ⟨ms,?_,gd⟩;rw [aj (aa3 (ah tb.1 np))];exact ep
        · simp only [if_neg ex];have hx':x∈(sfl ns.length ns.length).take j:=by
            rcases aao.mp hx with z|z
            · exact z
            · exact absurd (aar.mp z) ex
          obtain ⟨ms',e',g'⟩:=tb.2.2 x hx';refine ⟨ms',?_,g'⟩;rw [aj (fun z=>by rw [z,tb.1] at e';cases e')];exact s8 _ _ e'
      · by_cases ex:x=q
        · simp only [if_pos ex];cases g:H p with
          | none=>rfl
          | some o =>
            have:=b3 _ _ (ah g nD) (s2 _ _ (s1 _ _ g));rw [np] at this;cases this
        · simp only [if_neg ex];rcases aao.mp hx with z|z
          · exact fr x z
          · exact absurd (aar.mp z) ex
    have etk:(sfl ns.length ns.length).take (j+1)=(sfl ns.length ns.length).take j++[q]:=by rw [aaJ,hq];rfl
    refine ⟨_,rfl,b,_,rfl,SqT.of eb,rfl,_,_,rfl,_,_,rfl,rfl,?_⟩;refine ⟨_,rfl,_,rfl,rfl,_,rfl,gz (fun dd=>?_) (fun dd=>?_)⟩
    · have e12:q.1=q.2:=by have:=of_decide_eq_true dd;injection this
      obtain ⟨i0,hi0⟩:∃ i0:Nat,(i0:Int)=q.1:=⟨q.1.toNat,by lia⟩
      have hi:i0 < ns.length:=by lia
      have hn:ns[i0]?=some ns[i0]:=aaf hi;refine fun pd npd=>?_;have sd:=Same.new npd (.dK []);have hat:atI (ns.map V.int) q.1=some (.int ns[i0]):=by
        rw [← hi0];exact gY (by rw [aaF,hn];rfl)
      refine ⟨_,rfl,_,rfl,r,_,_,_,rfl,rfl,SqL.of (sd _ _ er'),hat,ad,[(Sum.inl ns[i0],.int 1)],rfl,(show 1≤15 by decide),?_⟩;have gd:GoodD ns gs q.1.toNat (q.2 - q.1+1).toNat [(ns[i0],1)]:=by
        rw [show q.1.toNat=i0 by lia,show (q.2 - q.1+1).toNat=1 by lia];exact GoodD.one hn
      obtain ⟨T',dp,td,fr'⟩:=put pd [(ns[i0],1)] (upd (upd H' pd (.dK [])) pd (.dK (fL [] [(Sum.inl ns[i0],V.int 1)]))) (fun c o e=>by rw [aj (ah e npd)];exact sd _ _ e) npd ad gd;refine ⟨_,rfl,_,rfl,d,_,rfl,dp,T',_,_,_,rfl,fun c o hc e=>?_,by rw [etk];exact td,by rw [etk];exact fr'⟩;rw [aj hc,aj (ah (b3 _ _ hc e) npd)];exact sd _ _ (b3 _ _ hc e)
    · have e12:q.1≠q.2:=fun e=>dd (by rw [e];simp);refine ⟨_,rfl,_,rfl,_,rfl,d,ns,gs,q,.ref b,T,_,rfl,hpx0,q0,by lia,q2,h7,g3,sm,tb,fun q' a1 a2 a3 a4=>l0 (by lia) hq ⟨a1,a2,a3⟩ a4,fun p ms H8 s8 np ep gd=>?_⟩;obtain ⟨T',dp,td,fr'⟩:=put p ms H8 s8 np ep gd;refine ⟨_,rfl,_,rfl,d,_,rfl,dp,T',_,_,_,rfl,fun c o hc e=>?_,by rw [etk];exact td,by rw [etk];exact fr'⟩;rw [aj hc];exact s8 _ _ (b3 _ _ hc e)
  · obtain ⟨T,c3,c4,c5,rfl,b3,tb,fr⟩:=z;rw [← lu,abE] at tb fr;have mq:((0,(ns.length:Int) - 1):Int × Int)∈sfl ns.length ns.length:=by
      have:=mP ns.length 0 (ns.length - 1) (by lia) (by lia);rw [show ((ns.length - 1:Nat):Int)=(ns.length:Int) - 1 by lia] at this;exact this
    have er':=b3 _ _ ndr (s2 _ _ (s1 _ _ er));refine ⟨_,rfl,_,rfl,r,_,rfl,.inl (SqL.of er'),_,_,rfl,rfl,(show (2:Nat)≤sizeLine by decide),fun kk nk=>?_⟩;have sk:=Same.new nk (.tup [.int 0,.int ((ns.length:Int) - 1)]);obtain ⟨ms,e',g'⟩:=tb.2.2 _ mq;have D:DGet (upd H' kk (.tup [.int 0,.int ((ns.length:Int) - 1)])) d (.ref kk) (some (.ref (T (0,(ns.length:Int) - 1)))):=by
      rw [← hJ mq];exact DGet.t (k:=ky (0,(ns.length:Int) - 1)) (sk _ _ tb.1) ad
    rw [hl];refine ⟨d,_,rfl,D,qq _ ms _ (fun c o e=>sk _ _ (b3 _ _ (ah e nD) (s2 _ _ (s1 _ _ e)))) (fr _ mq) (sk _ _ e') ?_⟩;simp only at g';rw [show ((ns.length:Int) - 1 - 0+1).toNat=ns.length by lia] at g';exact g'
end
open PySem L2
mutual
def szD:PyData→Nat
  | .list ds=>szAll ds+1
  | .tuple ds=>szAll ds+1
  | .none=>1
  | .bool _=>1
  | .int _=>1
  | .str _=>1
  | .dict _=>1
def szAll:List PyData→Nat
  | []=>0
  | d :: ds=>szD d+szAll ds
end
mutual
def OkD:PyData→Prop
  | .none=>True
  | .bool _=>True
  | .int i=>i.natAbs < 10 ^ 13
  | .str x=>(reprText x).length≤20
  | .list ds=>OkAll ds
  | .tuple ds=>OkAll ds
  | .dict kvs=>kvs=[]
def OkAll:List PyData→Prop
  | []=>True
  | d :: ds=>OkD d∧OkAll ds
end
mutual
theorem ng : ∀ d:PyData,OkD d→d.showable=true
  | .none,h=>by simp [abq]
  | .bool _,h=>by simp [abq]
  | .int i,h=>by
    simp only [OkD] at h;have z:(10:Nat) ^ 13 < 2 ^ 60:=by decide
    have : i.natAbs.log2 < 60:=by
      by_cases c:i.natAbs=0
      · rw [c];decide
      · exact (Nat.log2_lt c).mpr (by lia)
    simp only [abq];exact decide_eq_true (by lia)
  | .str _,h=>by simp [abq]
  | .list ds,h=>by simp only [OkD] at h;simp only [abq];exact ok_showAll ds h
  | .tuple ds,h=>by simp only [OkD] at h;simp only [abq];exact ok_showAll ds h
  | .dict kvs,h=>by simp only [OkD] at h;subst h;simp [abq,PyData.showableKv]
theorem ok_showAll:∀ ds:List PyData,OkAll ds→acr ds=true
  | [],h=>by simp [acr]
  | d :: ds,h=>by
    simp only [OkAll] at h;simp only [acr,ng d h.1,ok_showAll ds h.2,Bool.and_self]
end
mutual
theorem pO:∀ d:PyData,OkD d→d.shown.length+5≤40 * szD d
  | .none,h=>by show 4+5≤40 * szD .none;simp [szD]
  | .bool b,h=>by cases b <;> (simp only [szD];decide)
  | .int i,h=>by
    simp only [OkD] at h;have e:=int_text_length_le10 (a:=i) (k:=13) (by decide) h;simp only [szD];show (abJ (toString i)).length+5≤40;rw [ofString_length];lia
  | .str x,h=>by
    simp only [OkD] at h;simp only [szD,PyData.shown];lia
  | .list ds,h=>by
    simp only [OkD] at h;have a:=ok_lenAll ds h;have b:=listText_len_le (abW ds);have c:=PyData.shownAll_length ds;simp only [szD,PyData.shown];lia
  | .tuple ds,h=>by
    simp only [OkD] at h;have a:=ok_lenAll ds h;have b:=tupleText_len_le (abW ds);have c:=PyData.shownAll_length ds;simp only [szD,PyData.shown];lia
  | .dict kvs,h=>by
    simp only [OkD] at h;subst h;simp only [szD];show (PyData.shown (.dict [])).length+5≤40;decide +kernel
theorem ok_lenAll:∀ ds:List PyData,OkAll ds→((abW ds).map (·.length)).sum+5 * ds.length≤40 * szAll ds
  | [],h=>by simp [abW,szAll]
  | d :: ds,h=>by
    simp only [OkAll] at h;have a:=pO d h.1;have b:=ok_lenAll ds h.2;simp only [abW,szAll,aaG,List.sum_cons,aaO];lia
end
def ie:PyData→Nat
  | .list ds=>ds.length
  | _=>0
theorem lq {H:Hp}:∀ {ds:List PyData} {xs:List V},DatAll H ds xs→ds.all aY=true→∃ ns:List Int,xs=ns.map V.int
  | [],xs,h,_=>by simp only [DatAll] at h;subst h;exact ⟨[],rfl⟩
  | d :: ds,xs,h,a=>by
    simp only [DatAll] at h;obtain ⟨v,r,rfl,h1,h2⟩:=h;simp only [List.all_cons,acg] at a;obtain ⟨ns,rfl⟩:=lq h2 a.2;cases d with
    | int i =>
      have e:v=.int i:=by simpa only [Dat] using h1
      subst e;exact ⟨i :: ns,rfl⟩
    | _=>exact absurd a.1 (by simp [aY])
theorem gj {d:PyData} {H:Hp} {v:V} (h:aU d=true) (hd:Dat H d v):∃ (a:Addr) (ns:List Int),v=.ref a∧H a=some (.lst (ns.map V.int))∧1≤ns.length∧ns.length≤9∧ns.length=ie d:=by
  cases d with
  | list ds =>
    have h':(decide (1≤ds.length) && decide (ds.length≤9) && ds.all aY)=true:=h;simp only [acg,decide_eq_true_eq] at h';simp only [Dat] at hd;obtain ⟨a,xs,rfl,ha,hx⟩:=hd;obtain ⟨ns,rfl⟩:=lq hx h'.2;have:=hx.len;rw [aak] at this;exact ⟨a,ns,rfl,ha,by lia,by lia,this.symm⟩
  | _=>exact absurd h (by simp [aU])
theorem lY {d:PyData} {H:Hp} {v:V} (h:ba d=true) (hd:Dat H d v):∃ gs:List Sg,v=.str (av gs)∧db gs∧1≤gs.length∧gs.length≤3:=by
  cases d with
  | str z =>
    have e:v=.str z:=by simpa only [Dat] using hd
    subst e;have h':inV (.str z) gc=true:=h;have all:∀ y∈gc,∃ gs:List Sg,y=.str (av gs)∧db gs∧1≤gs.length∧gs.length≤3:=by
      intro y hy;simp only [gc,aay,abe,or_false] at hy;rcases hy with rfl|rfl|rfl|rfl|rfl|rfl|rfl
      · exact ⟨[.plus],by decide +kernel,by unfold db;decide +kernel,by decide,by decide⟩
      · exact ⟨[.minus],by decide +kernel,by unfold db;decide +kernel,by decide,by decide⟩
      · exact ⟨[.times],by decide +kernel,by unfold db;decide +kernel,by decide,by decide⟩
      · exact ⟨[.plus,.minus],by decide +kernel,by unfold db;decide +kernel,by decide,by decide⟩
      · exact ⟨[.plus,.times],by decide +kernel,by unfold db;decide +kernel,by decide,by decide⟩
      · exact ⟨[.minus,.times],by decide +kernel,by unfold db;decide +kernel,by decide,by decide⟩
      · exact ⟨[.plus,.minus,.times],by decide +kernel,by unfold db;decide +kernel,by decide,by decide⟩
    unfold inV at h';rw [List.any_eq_true] at h';obtain ⟨y,hy,e⟩:=h';obtain ⟨gs,rfl,g⟩:=all y hy;have e2:decide (av gs=z)=true:=by simpa [eqV] using e
    rw [← of_decide_eq_true e2];exact ⟨gs,rfl,g⟩
  | _=>exact absurd h (by simp [ba])
structure Xc (K:aab) (mg:Str→Option Value) (aP aR aS aN aM:Addr):Prop where
  mPutError:mg "PutError" = some (.ref aP)
  mNoRow:mg "NoRow" = some (.ref aR)
  mNoSigns:mg "NoSigns" = some (.ref aS)
  mNoNumber:mg "NoNumber" = some (.ref aN)
  mTooMany:mg "TooMany" = some (.ref aM)
  eNoRow:EC K aR
  eNoSigns:EC K aS
  eNoNumber:EC K aN
  eTooMany:EC K aM
  uNoRow:Und K aR aP
  uNoSigns:Und K aS aP
  uNoNumber:Und K aN aP
  uTooMany:Und K aM aP
section
variable {P:Program} {w:World} {K:aab} {mg:Str→Option Value} {base:Heap} {f:Addr} {fd:FuncData}
def dn (aR:Addr):Sp:=fun vs H Q E=>∃ d v,vs=[v]∧Dat H d v∧(aU d=true→∀ H',Same H H'→Q .non H')∧(aU d=false→∀ H',Same H H'→E (.ref aR) none H')
abbrev fE:Stmt:=top 19
theorem ku:FnScope ["thing"] ["thing"] (am fE):=⟨rfl,rfl,rfl,by decide +kernel,rfl,by decide +kernel,by decide +kernel⟩
theorem jP {aP aR aS aN aM:Addr} (F:Fun K "need_row" "need_row" fE f fd) (XC:Xc K mg aP aR aS aN aM) (C_is_row:Cal P w K mg base "is_row" 2 ["thing"] jA):FnOk P w K mg base (CX1 P w) 3 f fd ["thing"] (dn aR):=by
  refine Fun.ok1 F ku (fun vs H Q E h=>?_) (fun cdv A outer s H vs Q E hr h=>?_)
  · obtain ⟨d,v,rfl,_⟩:=h;rfl
  obtain ⟨d,v,rfl,hd,q1,q2⟩:=h;refine ⟨_,(@ai _ _ _ (@bO _ _ _ _ _ _ _ _ (@da _ _ _ _ (@dv _ _ _ (@aB _ _ _ _ _ _ _ _ _ _ _ C_is_row hr (by lia) rfl (@aa _ _ _ _ _ (pv 0) ae (by rfl)) (by decide) (by rfl) (by rfl)) (by intro _;rfl))) (@ai _ _ _ (@fP _ _ _ _ _ _ _ _ _ _ rz1 XC.eNoRow rfl rfl XC.mNoRow (by rfl) (by decide))) aQ)),?_⟩;refine ⟨_,rfl,d,v,rfl,hd,fun H1 g1=>?_⟩;cases c:aU d with
  | true=>exact ⟨true,rfl,bh (q1 c H1 g1)⟩
  | false=>exact ⟨false,rfl,dR (q2 c H1 g1)⟩
def cF (aS:Addr):Sp:=fun vs H Q E=>∃ d v,vs=[v]∧Dat H d v∧(ba d=true→Q .non H)∧(ba d=false→E (.ref aS) none H)
abbrev d_:Stmt:=top 20
theorem i3:FnScope ["thing"] ["thing"] (am d_):=⟨rfl,rfl,rfl,by decide +kernel,rfl,by decide +kernel,by decide +kernel⟩
theorem ij {aP aR aS aN aM:Addr} (F:Fun K "need_signs" "need_signs" d_ f fd) (XC:Xc K mg aP aR aS aN aM) (C_is_signs:Cal P w K mg base "is_signs" 1 ["thing"] f_):FnOk P w K mg base (CX1 P w) 2 f fd ["thing"] (cF aS):=by
  refine Fun.ok1 F i3 (fun vs H Q E h=>?_) (fun cdv A outer s H vs Q E hr h=>?_)
  · obtain ⟨d,v,rfl,_⟩:=h;rfl
  obtain ⟨d,v,rfl,hd,q1,q2⟩:=h;refine ⟨_,(@ai _ _ _ (@bO _ _ _ _ _ _ _ _ (@da _ _ _ _ (@dv _ _ _ (@aB _ _ _ _ _ _ _ _ _ _ _ C_is_signs hr (by lia) rfl (@aa _ _ _ _ _ (pv 0) ae (by rfl)) (by decide) (by rfl) (by rfl)) (by intro _;rfl))) (@ai _ _ _ (@fP _ _ _ _ _ _ _ _ _ _ rz1 XC.eNoSigns rfl rfl XC.mNoSigns (by rfl) (by decide))) aQ)),?_⟩;refine ⟨_,rfl,d,v,rfl,hd,?_⟩;cases c:ba d with
  | true=>exact ⟨true,rfl,bh (q1 c)⟩
  | false=>exact ⟨false,rfl,dR (q2 c)⟩
def dY (aN:Addr):Sp:=fun vs H Q E=>∃ d v,vs=[v]∧Dat H d v∧(aY d=true→Q .non H)∧(aY d=false→E (.ref aN) none H)
abbrev dZ:Stmt:=top 21
theorem iZ:FnScope ["thing"] ["thing"] (am dZ):=⟨rfl,rfl,rfl,by decide +kernel,rfl,by decide +kernel,by decide +kernel⟩
theorem ii {aP aR aS aN aM:Addr} (F:Fun K "need_whole" "need_whole" dZ f fd) (XC:Xc K mg aP aR aS aN aM) (C_is_whole:Cal P w K mg base "is_whole" 1 ["thing"] (gQ K)):FnOk P w K mg base (CX1 P w) 2 f fd ["thing"] (dY aN):=by
  refine Fun.ok1 F iZ (fun vs H Q E h=>?_) (fun cdv A outer s H vs Q E hr h=>?_)
  · obtain ⟨d,v,rfl,_⟩:=h;rfl
  obtain ⟨d,v,rfl,hd,q1,q2⟩:=h;refine ⟨_,(@ai _ _ _ (@bO _ _ _ _ _ _ _ _ (@da _ _ _ _ (@dv _ _ _ (@aB _ _ _ _ _ _ _ _ _ _ _ C_is_whole hr (by lia) rfl (@aa _ _ _ _ _ (pv 0) ae (by rfl)) (by decide) (by rfl) (by rfl)) (by intro _;rfl))) (@ai _ _ _ (@fP _ _ _ _ _ _ _ _ _ _ rz1 XC.eNoNumber rfl rfl XC.mNoNumber (by rfl) (by decide))) aQ)),?_⟩;refine ⟨_,rfl,v,_,rfl,hd.ty,?_⟩;cases d with
  | int i=>exact ⟨true,rfl,bh (q1 rfl)⟩
  | none=>exact ⟨false,rfl,dR (q2 rfl)⟩
  | bool b=>exact ⟨false,rfl,dR (q2 rfl)⟩
  | str b=>exact ⟨false,rfl,dR (q2 rfl)⟩
  | list b=>exact ⟨false,rfl,dR (q2 rfl)⟩
  | tuple b=>exact ⟨false,rfl,dR (q2 rfl)⟩
  | dict b=>exact ⟨false,rfl,dR (q2 rfl)⟩
def dL (aM:Addr):Sp:=fun vs H Q E=>∃ (r:Addr) (ns:List Int) (n:Int),vs=[.ref r,.int n]∧H r=some (.lst (ns.map V.int))∧((ns.length:Int)≤n→Q .non H)∧(n < (ns.length:Int)→E (.ref aM) none H)
abbrev dq:Stmt:=top 22
theorem gK:FnScope ["row","most"] ["row","most"] (am dq):=⟨rfl,rfl,rfl,by decide +kernel,rfl,by decide +kernel,by decide +kernel⟩
theorem gq {aP aR aS aN aM:Addr} (F:Fun K "need_at_most" "need_at_most" dq f fd) (B:Bu K mg) (XC:Xc K mg aP aR aS aN aM):FnOk P w K mg base (CX1 P w) 1 f fd ["row","most"] (dL aM):=by
  refine Fun.ok1 F gK (fun vs H Q E h=>?_) (fun cdv A outer s H vs Q E hr h=>?_)
  · obtain ⟨r,ns,n,rfl,_⟩:=h;rfl
  obtain ⟨r,ns,n,rfl,er,q1,q2⟩:=h;refine ⟨_,(@ai _ _ _ (@bO _ _ _ _ _ _ _ _ (@a9 _ _ _ _ _ _ _ _ rJ (@aC _ _ _ _ _ _ _ _ _ cf rfl B.ilen ab1 (@aa _ _ _ _ _ (pv 0) ae (by rfl)) (by decide) (by decide) (by rfl) (by rfl)) (pv 1) (bv _)) (@ai _ _ _ (@fP _ _ _ _ _ _ _ _ _ _ rz1 XC.eTooMany rfl rfl XC.mTooMany (by rfl) (by decide))) aQ)),?_⟩;refine ⟨_,rfl,r,_,rfl,.inl (SqL.of er),_,rfl,_,_,rfl,rfl,_,rfl,gz (fun z=>?_) (fun z=>?_)⟩
  · have:=of_decide_eq_true z;rw [aak] at this;exact q2 (by lia)
  · have z':¬ (n < ((ns.map V.int).length:Int)):=fun c=>z (decide_eq_true c);rw [aak] at z';exact q1 (by lia)
end
open PySem L2
structure Cl (mg:Str→Option Value) (t1 t2:Tok):Prop where
  gMOST_TO_LIST:mg "MOST_TO_LIST" = some (.int 6 t1)
  gMOST_TO_COUNT:mg "MOST_TO_COUNT" = some (.int 7 t2)
def far (m n:Int):Int:=if m - n < 0 then -(m - n) else m - n
def ug:Str:=("most_often":Str) ++ ".<locals>." ++ "<lambda>"
def sZ (p:Int × Int):List Int:=[-p.2,p.1]
def LT (T:Addr) (H:Hp):Prop:=∃ tp,LTab T ug H tp
theorem LT.mono {T:Addr} {H H':Hp} (h:LT T H) (s:Same H H'):LT T H':=by
  obtain ⟨tp,h⟩:=h;exact ⟨tp,s _ _ h.tab,h.tri,fun pos' cv hc=>by obtain ⟨d,e1,e2⟩:=h.cds pos' cv hc;exact ⟨d,e1,s _ _ e2⟩⟩
theorem LT.ne {T a:Addr} {H:Hp} {o:HO} (h:LT T H) (e:H a=some o) (n:∀ ps,o≠.tbl ps):a≠T:=fun z=>by
  obtain ⟨tp,h⟩:=h;rw [z,h.tab] at e;exact n _ (aaN e).symm
theorem jE {ns:List Int} (h:Small ns):∀ x∈ns,x.natAbs < 2 ^ 50:=fun x hx=>by
  have:=h x hx;have e:(2:Nat) ^ 50=1125899906842624:=by decide
  lia
def Sm1 (H:Hp) (d:PyData) (v:V):Prop:=aU d=true→∀ (r:Addr) (ns:List Int),v=.ref r→H r=some (.lst (ns.map V.int))→Small ns
def Rq (aR aS aN aM:Addr) (m:Nat) (b:Bool) (d e:PyData) (H:Hp) (E:XK):Prop:=(aU d=false→∀ H',Same H H'→E (.ref aR) none H')∧(aU d=true→ba e=false→∀ H',Same H H'→E (.ref aS) none H')∧(aU d=true→ba e=true→b=false→∀ H',Same H H'→E (.ref aN) none H')∧(aU d=true→ba e=true→b=true→m < ie d→∀ H',Same H H'→E (.ref aM) none H')
def jC (aR aS aN aM T:Addr) (m:Nat):Sp:=fun vs H Q E=>∃ d v e u,vs=[v,u]∧Dat H d v∧Dat H e u∧Sm1 H d v∧LT T H∧Rq aR aS aN aM m true d e H E∧(aU d=true→ba e=true→true=true→ie d≤m→∀ y H',But T H H'→LT T H'→Q y H')
def jB (aR aS aN aM T:Addr) (m:Nat):Sp:=fun vs H Q E=>∃ d v e u g x,vs=[v,u,x]∧Dat H d v∧Dat H e u∧Dat H g x∧Sm1 H d v∧LT T H∧Rq aR aS aN aM m (aY g) d e H E∧(aU d=true→ba e=true→aY g=true→ie d≤m→∀ y H',But T H H'→LT T H'→Q y H')
def qO (aR aS aN aM:Addr):Sp:=fun vs H Q E=>∃ d v e u,vs=[v,u]∧Dat H d v∧Dat H e u∧Sm1 H d v∧Rq aR aS aN aM 7 true d e H E∧(aU d=true→ba e=true→ie d≤7→∀ (r:Addr) (ns:List Int) (gs:List Sg),v=.ref r→u=.str (av gs)→H r=some (.lst (ns.map V.int))→1≤ns.length→1≤gs.length →
  ∀ p ms H',Same H H'→H p=none→H' p=some (.dK (cnv ms))→GoodD ns gs 0 ns.length ms→Q (.ref p) H')
def o9 (aR aS aN aM:Addr):Sp:=fun vs H Q E=>∃ d v e u g x,vs=[v,u,x]∧Dat H d v∧Dat H e u∧Dat H g x∧Sm1 H d v∧Rq aR aS aN aM 7 (aY g) d e H E∧(aU d=true→ba e=true→aY g=true→ie d≤7→∀ (r:Addr) (ns:List Int) (gs:List Sg) (n:Int),v=.ref r→u=.str (av gs)→x=.int n→H r=some (.lst (ns.map V.int))→1≤ns.length→1≤gs.length →
  ∀ p ms H',Same H H'→H p=none→H' p=some (.dK (cnv ms))→GoodD ns gs 0 ns.length ms→Q (.ref p) H')
theorem tj {g:PyData} {H:Hp} {x:V} (h:aY g=true) (hg:Dat H g x):∃ n,x=.int n:=by
  cases g with
  | int i=>exact ⟨i,by simpa only [Dat] using hg⟩
  | _=>exact absurd h (by simp [aY])
section
variable {P:Program} {w:World} {K:aab} {mg:Str→Option Value} {base:Heap} {f:Addr} {fd:FuncData}
abbrev bo:Stmt:=top 36
theorem dB:FnScope ["row","signs"] ["row","signs"] (am bo):=⟨rfl,rfl,rfl,by decide +kernel,rfl,by decide +kernel,by decide +kernel⟩
theorem dA {aP aR aS aN aM:Addr} {t1 t2:Tok} (F:Fun K "counted_without_number" "counted_without_number" bo f fd) (B2:Cl mg t1 t2) (C_need_row:bN P w K mg base "need_row" 3 ["thing"] (dn aR)) (C_need_signs:bN P w K mg base "need_signs" 2 ["thing"] (cF aS)) (C_need_at_most:bN P w K mg base "need_at_most" 1 ["row","most"] (dL aM)) (C_count_by_worth:Cal P w K mg base "count_by_worth" 4 ["row","signs"] dJ):FnOk P w K mg base (CX1 P w) 5 f fd ["row","signs"] (qO aR aS aN aM):=by
  refine Fun.ok1 F dB (fun vs H Q E h=>?_) (fun cdv A outer s H vs Q E hr h=>?_)
  · obtain ⟨d,v,e,u,rfl,_⟩:=h;rfl
  obtain ⟨d,v,e,u,rfl,hd,he,hsm,rf,q0⟩:=h;refine ⟨_,(@ag _ _ _ _ _ (@bA _ _ _ _ (@aZ _ _ _ _ _ _ _ _ _ _ _ _ C_need_row cw hr (by lia) rfl (@aa _ _ _ _ _ (pv 0) ae (by rfl)) (by decide) (by rfl) (by rfl)) (by rfl)) (@ag _ _ _ _ _ (@bA _ _ _ _ (@aZ _ _ _ _ _ _ _ _ _ _ _ _ C_need_signs cw hr (by lia) rfl (@aa _ _ _ _ _ (pv 1) ae (by rfl)) (by decide) (by rfl) (by rfl)) (by rfl)) (@ag _ _ _ _ _ (@bA _ _ _ _ (@aZ _ _ _ _ _ _ _ _ _ _ _ _ C_need_at_most cw hr (by lia) rfl (@aa _ _ _ _ _ (pv 0) (@aa _ _ _ _ _ (@bp _ _ (.int 7) _ _ rfl B2.gMOST_TO_COUNT ⟨_,rfl⟩ (by decide)) ae (by rfl)) (by rfl)) (by decide) (by rfl) (by rfl)) (by rfl)) (PSs.nox (ai (az (aB C_count_by_worth hr (by lia) rfl (aa (pv 0) (aa (pv 1) ae))))))))),?_⟩;refine ⟨_,rfl,d,v,rfl,hd,fun c H1 s1=>?_,rf.1⟩;refine ⟨_,rfl,e,u,rfl,Dat.mono s1 e u he,fun c2=>?_,fun c2=>rf.2.1 c c2 H1 s1⟩;obtain ⟨r,ns,rfl,er,h1,h9,hrl⟩:=gj c hd;obtain ⟨gs,rfl,hs,g1,g3⟩:=lY c2 he;have sm:=jE (hsm c r ns rfl er);refine ⟨_,rfl,r,ns,7,rfl,s1 _ _ er,fun le=>?_,fun gt=>rf.2.2.2 c c2 rfl (by lia) H1 s1⟩;exact ⟨_,rfl,_,rfl,r,ns,gs,rfl,s1 _ _ er,h1,by lia,g3,sm,fun p ms H2 s2 np ep gd=>q0 c c2 (by lia) r ns gs rfl rfl er h1 g1 p ms H2 (s1.trans s2) (s1.free np) ep gd⟩
abbrev bU:Stmt:=top 37
theorem eJ:FnScope ["row","signs","number"] ["row","signs","number"] (am bU):=⟨rfl,rfl,rfl,by decide +kernel,rfl,by decide +kernel,by decide +kernel⟩
theorem ez {aP aR aS aN aM:Addr} {t1 t2:Tok} (F:Fun K "counted_for_number" "counted_for_number" bU f fd) (B2:Cl mg t1 t2) (C_need_row:bN P w K mg base "need_row" 3 ["thing"] (dn aR)) (C_need_signs:bN P w K mg base "need_signs" 2 ["thing"] (cF aS)) (C_need_whole:bN P w K mg base "need_whole" 2 ["thing"] (dY aN)) (C_need_at_most:bN P w K mg base "need_at_most" 1 ["row","most"] (dL aM)) (C_count_by_worth:Cal P w K mg base "count_by_worth" 4 ["row","signs"] dJ):FnOk P w K mg base (CX1 P w) 5 f fd ["row","signs","number"] (o9 aR aS aN aM):=by
  refine Fun.ok1 F eJ (fun vs H Q E h=>?_) (fun cdv A outer s H vs Q E hr h=>?_)
  · obtain ⟨d,v,e,u,g,x,rfl,_⟩:=h;rfl
  obtain ⟨d,v,e,u,g,x,rfl,hd,he,hg,hsm,rf,q0⟩:=h;refine ⟨_,(@ag _ _ _ _ _ (@bA _ _ _ _ (@aZ _ _ _ _ _ _ _ _ _ _ _ _ C_need_row cw hr (by lia) rfl (@aa _ _ _ _ _ (pv 0) ae (by rfl)) (by decide) (by rfl) (by rfl)) (by rfl)) (@ag _ _ _ _ _ (@bA _ _ _ _ (@aZ _ _ _ _ _ _ _ _ _ _ _ _ C_need_signs cw hr (by lia) rfl (@aa _ _ _ _ _ (pv 1) ae (by rfl)) (by decide) (by rfl) (by rfl)) (by rfl)) (@ag _ _ _ _ _ (@bA _ _ _ _ (@aZ _ _ _ _ _ _ _ _ _ _ _ _ C_need_whole cw hr (by lia) rfl (@aa _ _ _ _ _ (pv 2) ae (by rfl)) (by decide) (by rfl) (by rfl)) (by rfl)) (@ag _ _ _ _ _ (@bA _ _ _ _ (@aZ _ _ _ _ _ _ _ _ _ _ _ _ C_need_at_most cw hr (by lia) rfl (@aa _ _ _ _ _ (pv 0) (@aa _ _ _ _ _ (@bp _ _ (.int 7) _ _ rfl B2.gMOST_TO_COUNT ⟨_,rfl⟩ (by decide)) ae (by rfl)) (by rfl)) (by decide) (by rfl) (by rfl)) (by rfl)) (PSs.nox (ai (az (aB C_count_by_worth hr (by lia) rfl (aa (pv 0) (aa (pv 1) ae)))))))))),?_⟩;refine ⟨_,rfl,d,v,rfl,hd,fun c H1 s1=>?_,rf.1⟩;refine ⟨_,rfl,e,u,rfl,Dat.mono s1 e u he,fun c2=>?_,fun c2=>rf.2.1 c c2 H1 s1⟩;refine ⟨_,rfl,g,x,rfl,Dat.mono s1 g x hg,fun cg=>?_,fun cg=>rf.2.2.1 c c2 cg H1 s1⟩;obtain ⟨r,ns,rfl,er,h1,h9,hrl⟩:=gj c hd;obtain ⟨gs,rfl,hs,g1,g3⟩:=lY c2 he;have sm:=jE (hsm c r ns rfl er);obtain ⟨n,rfl⟩:=tj cg hg;refine ⟨_,rfl,r,ns,7,rfl,s1 _ _ er,fun le=>?_,fun gt=>rf.2.2.2 c c2 cg (by lia) H1 s1⟩;exact ⟨_,rfl,_,rfl,r,ns,gs,rfl,s1 _ _ er,h1,by lia,g3,sm,fun p ms H2 s2 np ep gd=>q0 c c2 cg (by lia) r ns gs n rfl rfl rfl er h1 g1 p ms H2 (s1.trans s2) (s1.free np) ep gd⟩
abbrev eK:Stmt:=top 30
theorem jJ:FnScope ["row","signs"] ["row","signs"] (am eK):=⟨rfl,rfl,rfl,by decide +kernel,rfl,by decide +kernel,by decide +kernel⟩
theorem i6 {T aP aR aS aN aM:Addr} {t1 t2:Tok} (F:Fun K "worths_of" "worths_of" eK f fd) (B:Bu K mg) (B2:Cl mg t1 t2) (C_need_row:bN P w K mg base "need_row" 3 ["thing"] (dn aR)) (C_need_signs:bN P w K mg base "need_signs" 2 ["thing"] (cF aS)) (C_need_at_most:bN P w K mg base "need_at_most" 1 ["row","most"] (dL aM)) (C_count_by_worth:Cal P w K mg base "count_by_worth" 4 ["row","signs"] dJ):FnOk P w K mg base (CX1 P w) 5 f fd ["row","signs"] (jC aR aS aN aM T 6):=by
  refine Fun.ok1 F jJ (fun vs H Q E h=>?_) (fun cdv A outer s H vs Q E hr h=>?_)
  · obtain ⟨d,v,e,u,rfl,_⟩:=h;rfl
  obtain ⟨d,v,e,u,rfl,hd,he,hsm,hT,rf,q0⟩:=h;refine ⟨_,(@ag _ _ _ _ _ (@bA _ _ _ _ (@aZ _ _ _ _ _ _ _ _ _ _ _ _ C_need_row cw hr (by lia) rfl (@aa _ _ _ _ _ (pv 0) ae (by rfl)) (by decide) (by rfl) (by rfl)) (by rfl)) (@ag _ _ _ _ _ (@bA _ _ _ _ (@aZ _ _ _ _ _ _ _ _ _ _ _ _ C_need_signs cw hr (by lia) rfl (@aa _ _ _ _ _ (pv 1) ae (by rfl)) (by decide) (by rfl) (by rfl)) (by rfl)) (@ag _ _ _ _ _ (@bA _ _ _ _ (@aZ _ _ _ _ _ _ _ _ _ _ _ _ C_need_at_most cw hr (by lia) rfl (@aa _ _ _ _ _ (pv 0) (@aa _ _ _ _ _ (@bp _ _ (.int 6) _ _ rfl B2.gMOST_TO_LIST ⟨_,rfl⟩ (by decide)) ae (by rfl)) (by rfl)) (by decide) (by rfl) (by rfl)) (by rfl)) (PSs.nox (ai (az (aC (jc rfl rfl) rfl B.isorted PyProof.Rows.boot_sorted (aa (aB C_count_by_worth hr (by lia) rfl (aa (pv 0) (aa (pv 1) ae))) ae)))))))),?_⟩;refine ⟨_,rfl,d,v,rfl,hd,fun c H1 s1=>?_,rf.1⟩;refine ⟨_,rfl,e,u,rfl,Dat.mono s1 e u he,fun c2=>?_,fun c2=>rf.2.1 c c2 H1 s1⟩;obtain ⟨r,ns,rfl,er,h1,h9,hrl⟩:=gj c hd;obtain ⟨gs,rfl,hs,g1,g3⟩:=lY c2 he;have sm:=jE (hsm c r ns rfl er);refine ⟨_,rfl,r,ns,6,rfl,s1 _ _ er,fun le=>?_,fun gt=>rf.2.2.2 c c2 rfl (by lia) H1 s1⟩;refine ⟨_,rfl,_,rfl,r,ns,gs,rfl,s1 _ _ er,h1,by lia,g3,sm,fun p ms H2 s2 np ep gd=>?_⟩;refine ⟨p,_,ms.map (·.1),rfl,ep,lA ms,fun D ws nD perm srt=>?_⟩;exact q0 c c2 rfl (by lia) _ _ (But.of ((s1.trans s2).trans (Same.new nD _))) (hT.mono ((s1.trans s2).trans (Same.new nD _)))
abbrev cH:Stmt:=top 31
theorem fB:FnScope ["row","signs"] ["row","signs"] (am cH):=⟨rfl,rfl,rfl,by decide +kernel,rfl,by decide +kernel,by decide +kernel⟩
theorem ft {T aP aR aS aN aM:Addr} (F:Fun K "how_many_worths" "how_many_worths" cH f fd) (B:Bu K mg) (C_counted_without_number:bN P w K mg base "counted_without_number" 5 ["row","signs"] (qO aR aS aN aM)):FnOk P w K mg base (CX1 P w) 6 f fd ["row","signs"] (jC aR aS aN aM T 7):=by
  refine Fun.ok1 F fB (fun vs H Q E h=>?_) (fun cdv A outer s H vs Q E hr h=>?_)
  · obtain ⟨d,v,e,u,rfl,_⟩:=h;rfl
  obtain ⟨d,v,e,u,rfl,hd,he,hsm,hT,rf,q0⟩:=h;refine ⟨_,(@ai _ _ _ (@az _ _ _ _ (@aC _ _ _ _ _ _ _ _ _ oP rfl B.ilen ab1 (@aa _ _ _ _ _ (@aZ _ _ _ _ _ _ _ _ _ _ _ _ C_counted_without_number cw hr (by lia) rfl (@aa _ _ _ _ _ (pv 0) (@aa _ _ _ _ _ (pv 1) ae (by rfl)) (by rfl)) (by decide) (by rfl) (by rfl)) ae (by rfl)) (by decide) (by decide) (by rfl) (by rfl)))),?_⟩;refine ⟨_,rfl,_,rfl,d,v,e,u,rfl,hd,he,hsm,rf,fun c c2 cm r ns gs ev eu er h1 g1 p ms H1 s1 np ep gd=>?_⟩;exact ⟨p,_,rfl,ep,q0 c c2 rfl cm _ _ (But.of s1) (hT.mono s1)⟩
abbrev ic:Stmt:=top 32
theorem n0:FnScope ["row","signs","number"] ["row","signs","number"] (am ic):=⟨rfl,rfl,rfl,by decide +kernel,rfl,by decide +kernel,by decide +kernel⟩
theorem l8 {T aP aR aS aN aM:Addr} (F:Fun K "can_be" "can_be" ic f fd) (C_counted_for_number:bN P w K mg base "counted_for_number" 5 ["row","signs","number"] (o9 aR aS aN aM)):FnOk P w K mg base (CX1 P w) 6 f fd ["row","signs","number"] (jB aR aS aN aM T 7):=by
  refine Fun.ok1 F n0 (fun vs H Q E h=>?_) (fun cdv A outer s H vs Q E hr h=>?_)
  · obtain ⟨d,v,e,u,g,x,rfl,_⟩:=h;rfl
  obtain ⟨d,v,e,u,g,x,rfl,hd,he,hg,hsm,hT,rf,q0⟩:=h;refine ⟨_,(@ai _ _ _ (@az _ _ _ _ (@sE _ _ _ _ _ _ (u1 hr.units) (pv 2) (@aZ _ _ _ _ _ _ _ _ _ _ _ _ C_counted_for_number cw hr (by lia) rfl (@aa _ _ _ _ _ (pv 0) (@aa _ _ _ _ _ (pv 1) (@aa _ _ _ _ _ (pv 2) ae (by rfl)) (by rfl)) (by rfl)) (by decide) (by rfl) (by rfl)) (by with_unfolding_all rfl)))),?_⟩;refine ⟨_,rfl,_,rfl,_,rfl,_,rfl,d,v,e,u,g,x,rfl,hd,he,hg,hsm,rf,fun c c2 cg cm r ns gs n ev eu ex er h1 g1 p ms H1 s1 np ep gd=>?_⟩;subst ex;exact ⟨p,_,rfl,DGet.k (k:=Sum.inl n) ep,q0 c c2 cg cm _ _ (But.of s1) (hT.mono s1)⟩
abbrev cY:Stmt:=top 34
theorem gh:FnScope ["row","signs","number"] ["row","signs","number"] (am cY):=⟨rfl,rfl,rfl,by decide +kernel,rfl,by decide +kernel,by decide +kernel⟩
theorem fS {T aP aR aS aN aM:Addr} (F:Fun K "how_many_with" "how_many_with" cY f fd) (C_counted_for_number:bN P w K mg base "counted_for_number" 5 ["row","signs","number"] (o9 aR aS aN aM)):FnOk P w K mg base (CX1 P w) 6 f fd ["row","signs","number"] (jB aR aS aN aM T 7):=by
  refine Fun.ok1 F gh (fun vs H Q E h=>?_) (fun cdv A outer s H vs Q E hr h=>?_)
  · obtain ⟨d,v,e,u,g,x,rfl,_⟩:=h;rfl
  obtain ⟨d,v,e,u,g,x,rfl,hd,he,hg,hsm,hT,rf,q0⟩:=h;refine ⟨_,(@ai _ _ _ (@az _ _ _ _ (@kO _ _ _ _ _ _ _ _ _ (u1 hr.units) (@aZ _ _ _ _ _ _ _ _ _ _ _ _ C_counted_for_number cw hr (by lia) rfl (@aa _ _ _ _ _ (pv 0) (@aa _ _ _ _ _ (pv 1) (@aa _ _ _ _ _ (pv 2) ae (by rfl)) (by rfl)) (by rfl)) (by decide) (by rfl) (by rfl)) (pv 2) af ⟨rfl,rfl,rfl,rfl⟩))),?_⟩;refine ⟨_,rfl,_,rfl,_,rfl,d,v,e,u,g,x,rfl,hd,he,hg,hsm,rf,fun c c2 cg cm r ns gs n ev eu ex er h1 g1 p ms H1 s1 np ep gd=>?_⟩;subst ex;exact ⟨p,rfl,.inl ⟨_,.inl ep⟩,_,rfl,_,DGet.k (k:=Sum.inl n) ep,q0 c c2 cg cm _ _ (But.of s1) (hT.mono s1)⟩
abbrev ed:Stmt:=top 33
theorem dG:FnScope ["row","signs","number","worths","nearest"] ["row","signs","number"] (am ed):=⟨rfl,rfl,rfl,by decide +kernel,rfl,by decide +kernel,by decide +kernel⟩
theorem il {T aP aR aS aN aM:Addr} (F:Fun K "nearest_to" "nearest_to" ed f fd) (B:Bu K mg) (C_counted_for_number:bN P w K mg base "counted_for_number" 5 ["row","signs","number"] (o9 aR aS aN aM)):FnOk P w K mg base (CX1 P w) 6 f fd ["row","signs","number"] (jB aR aS aN aM T 7):=by
  refine Fun.ok1 F dG (fun vs H Q E h=>?_) (fun cdv A outer s H vs Q E hr h=>?_)
  · obtain ⟨d,v,e,u,g,x,rfl,_⟩:=h;rfl
  obtain ⟨d,v,e,u,g,x,rfl,hd,he,hg,hsm,hT,rf,q0⟩:=h;refine ⟨_,(@ag _ _ _ _ _ (@aI _ _ (3) _ _ _ _ (dG).nd rfl (Or.inl rfl) (@fi _ _ _ _ _ _ _ _ _ (@lD _ rfl) rfl B.ilist act (@aa _ _ _ _ _ (@aZ _ _ _ _ _ _ _ _ _ _ _ _ C_counted_for_number cw hr (by lia) rfl (@aa _ _ _ _ _ (pv 0) (@aa _ _ _ _ _ (pv 1) (@aa _ _ _ _ _ (pv 2) ae (by rfl)) (by rfl)) (by rfl)) (by decide) (by rfl) (by rfl)) ae (by rfl)) (by decide) (by decide) (by rfl) (by rfl)) (by rfl) (by first|exact .inl rfl|exact .inr rfl|assumption)) (PSs.nox (ag (aI (i:=4) (dG).nd rfl (Or.inr rfl) (aC (oO rfl) rfl B.imin PyProof.Rows.boot_min (aa (jj (NY:=["worth","number"]) (cap:=[none,some 2]) rfl (ce (pv 3)) rfl ⟨rfl,trivial⟩ ⟨⟨rfl,Or.inl rfl,Or.inl rfl⟩,trivial⟩ (fun _ _ _ _=>⟨(aD (i:=0) (hf:=.inr rfl) (show acw (["worth","number"]:List Str) by decide +kernel) rfl (Or.inl rfl)),dP,(aC lE rfl B.iabs PyProof.Rows.boot_abs (aa (ap dw (pv 0) (pv 1)) ae))⟩)) ae))) (ai (az (aC jb rfl B.isorted PyProof.Rows.boot_sorted (aa (jj (NY:=["worth","nearest","number"]) (cap:=[none,some 4,some 2]) rfl (ce (pv 3)) rfl ⟨rfl,⟨rfl,trivial⟩⟩ ⟨⟨rfl,Or.inl rfl,Or.inl rfl⟩,⟨⟨rfl,Or.inl rfl,Or.inl rfl⟩,trivial⟩⟩ (fun _ _ _ _=>⟨(aD (i:=0) (hf:=.inr rfl) (show acw (["worth","nearest","number"]:List Str) by decide +kernel) rfl (Or.inl rfl)),(kI (a9 fu (aC lE rfl B.iabs PyProof.Rows.boot_abs (aa (ap dw (pv 0) (pv 2)) ae)) (pv 1) (bv _))),(pv 0)⟩)) ae))))))),?_⟩;refine ⟨_,rfl,_,rfl,_,rfl,d,v,e,u,g,x,rfl,hd,he,hg,hsm,rf,fun c c2 cg cm r ns gs n ev eu ex er h1 g1 p ms H1 s1 np ep gd=>?_⟩;subst ex;have h7:ns.length≤7:=by
    obtain ⟨r',ns',e1,e2,_,_,e3⟩:=gj c hd;rw [ev] at e1;injection e1 with e1
    subst e1;rw [er] at e2;injection e2 with e2
    injection e2 with e2
    have:=congrArg List.length e2;rw [aak,aak] at this;lia
  obtain ⟨nd,ks,lm,_⟩:=gd;rw [mR] at ks;obtain ⟨kk,hkk⟩:∃ kk,kk=ms.map (·.1):=⟨_,rfl⟩
  have lk:kk.length < sizeLine:=by
    have e1:=nN ns.length;have e2:100000 < sizeLine:=by decide
    rw [hkk,aak];lia
  refine ⟨p,_,kk,rfl,ep,by rw [lA,hkk],fun l nl=>?_⟩;rw [← hkk] at nd ks;have s2:=Same.new nl (.lst (kk.map V.int));have el:upd H1 l (.lst (kk.map V.int)) l=some (.lst (kk.map V.int)):=ad;have S2:=s1.trans s2;generalize upd H1 l (.lst (kk.map V.int))=H2 at s2 S2 el ⊢;refine ⟨_,rfl,l,rfl,⟨_,SqL.of el⟩,?_⟩;refine lg (Trn.list (xs:=kk.map V.int)) (fun i ys H'=>H'=H2∧ys=(kk.take i).map fun k=>V.int (far k n)) ⟨rfl,rfl⟩ (fun i ys H' hi z=>?_) (fun i z ys H3 H' hi hz zz Nx nx=>?_) (fun ys H' zz p3 n3=>?_)
  · obtain ⟨rfl,rfl⟩:=z;exact ⟨SqL.of el,by rw [aak,aaV];exact Nat.lt_of_le_of_lt (Nat.min_le_right _ _) lk⟩
  · obtain ⟨rfl,rfl⟩:=zz;obtain ⟨rfl,hz⟩:=hz;rw [aaF] at hz;obtain ⟨k,hk,rfl⟩:=abi.mp hz;refine ⟨_,rfl,_,rfl,_,_,rfl,rfl,_,rfl,nx _ _ ⟨rfl,?_⟩⟩;rw [aaJ,hk,abb];rfl
  obtain ⟨rfl,rfl⟩:=zz;rw [aak,abE];have s3:=Same.new n3 (.lst (kk.map fun k=>V.int (far k n)));have e3:upd H' p3 (.lst (kk.map fun k=>V.int (far k n))) p3=some (.lst ((kk.map fun k=>far k n).map V.int)):=by rw [ad,acB];rfl
  have el3:=s3 _ _ el;have S3:=S2.trans s3;generalize upd H' p3 (.lst (kk.map fun k=>V.int (far k n)))=H3 at s3 e3 el3 S3 ⊢;obtain ⟨k0,hk0⟩:=Wo.some (gs:=gs) (by intro z;rw [z] at g1;simp at g1) ns (by intro z;rw [z] at h1;simp at h1);have hk0':=(ks k0).mpr hk0;refine ⟨p3,_,rfl,SqL.of e3,by intro z;rw [List.map_eq_nil_iff] at z;rw [z] at hk0';simp at hk0',fun m hm hmin=>?_⟩;refine ⟨_,rfl,l,rfl,⟨_,SqL.of el3⟩,?_⟩;refine lg (Trn.list (xs:=kk.map V.int)) (fun i ys H'=>H'=H3∧ys=((kk.take i).filter fun k=>decide (far k n=m)).map V.int) ⟨rfl,rfl⟩ (fun i ys H' hi z=>?_) (fun i z ys H4 H' hi hz zz Nx nx=>?_) (fun ys H' zz p5 n5=>?_)
  · obtain ⟨rfl,rfl⟩:=z;exact ⟨SqL.of el3,by rw [aak];exact Nat.lt_of_le_of_lt (aaL (List.length_filter_le _ _) (List.length_take_le' _ _)) lk⟩
  · obtain ⟨rfl,rfl⟩:=zz;obtain ⟨rfl,hz⟩:=hz;rw [aaF] at hz;obtain ⟨k,hk,rfl⟩:=abi.mp hz;refine ⟨_,rfl,_,rfl,_,_,rfl,rfl,_,rfl,_,rfl,rfl,_,rfl,gz (fun d=>?_) (fun d=>?_)⟩
    · have e:far k n=m:=by have:=of_decide_eq_true d;injection this
      refine ⟨_,rfl,nx _ _ ⟨rfl,?_⟩⟩;rw [aaJ,hk,List.filter_append,abb];simp [e]
    · have e:¬ far k n=m:=fun z=>d (by rw [← z];exact decide_eq_true rfl);refine nx _ _ ⟨rfl,?_⟩;rw [aaJ,hk,List.filter_append,abb];simp [e]
  obtain ⟨rfl,rfl⟩:=zz;rw [aak,abE];have s5:=Same.new n5 (.lst ((kk.filter fun k=>decide (far k n=m)).map V.int));refine ⟨p5,_,rfl,ad,fun p6 rs n6 pr so=>q0 c c2 cg cm _ _ (But.of ((S3.trans s5).trans (Same.new n6 _))) (hT.mono ((S3.trans s5).trans (Same.new n6 _)))⟩
abbrev a7:Stmt:=top 35
theorem sc_most_often:FnScope ["row","signs","counted"] ["row","signs"] (am a7):=⟨rfl,rfl,rfl,by decide +kernel,rfl,by decide +kernel,by decide +kernel⟩
theorem im {c T aP aR aS aN aM:Addr} (F:FunC K "most_often" "most_often" a7 f fd c) (C:PySem.W.CodeHd base c T) (hB:base.BuiltinsAt mg T) (B:Bu K mg) (hmin:mg "min" = none) (C_counted_without_number:bN P w K mg base "counted_without_number" 5 ["row","signs"] (qO aR aS aN aM)):FnOk P w K mg base (CX1 P w) 6 f fd ["row","signs"] (jC aR aS aN aM T 7):=by
  refine FunC.ok1 F sc_most_often (fun vs H Q E h=>?_) (fun A outer s H vs Q E hr h=>?_)
  · obtain ⟨d,v,e,u,rfl,_⟩:=h;rfl
  obtain ⟨d,v,e,u,rfl,hd,he,hsm,hT,rf,q0⟩:=h;have nd:=sc_most_often.nd;have S1:FnScope ["pair"] ["pair"] { kind:=.function,names:=[("pair",.local)],isGenerator:=false,isCoroutine:=false }:=⟨rfl,rfl,rfl,by decide,rfl,by decide,by decide⟩
  refine ⟨_,ag (aI (i:=2) nd rfl (Or.inl rfl) (aZ C_counted_without_number cw hr (by lia) rfl (aa (pv 0) (aa (pv 1) ae))))
    (PSs.nox (ai (az (n9 (key:=sZ) (kd:=true) (y:="pair") (c:=c) (P:=T) (hr.mono (by decide)) (by rfl) hmin PyProof.Rows.boot_min (aa (fi (iQ rfl) rfl B.ilist act (aa (sG acs abY PySem.F.type_dict_items on (pv 2)) ae)) ae) (by rfl) (by rfl) rfl C hB S1 (fun _ _ _ _=>rfl) (fun _ _ _ _ _=>bV (aa (mX jy (cU (nj (K:=K) rfl) (pv 0) af (fun _ _=>rfl))) (aa (cU (nj (K:=K) rfl) (pv 0) af (fun _ _=>rfl)) ae))) ?_)))),?_⟩
  · intro p x H Q ⟨a,e,ha⟩ q;subst e;exact ⟨_,rfl,a,_,_,_,rfl,rfl,SqT.of ha,rfl,_,rfl,_,rfl,a,_,_,_,rfl,rfl,SqT.of ha,rfl,(by show 2≤sizeLine;decide),fun t ht=>q (.ref t) _ ⟨t,rfl,ad⟩ (Same.new ht _)⟩
  · refine ⟨_,rfl,_,rfl,d,v,e,u,rfl,hd,he,hsm,rf,fun c c2 cm r ns gs ev eu er h1 g1 pd ms H1 s1 npd epd gd=>?_⟩;obtain ⟨gd1,gd2,gd3,gd4⟩:=gd;rw [mR] at gd2;have hne:ms≠[]:=fun z=>by
      obtain ⟨x,hx⟩:=Wo.some (gs:=gs) (fun z=>by rw [z] at g1;simp at g1) ns (fun z=>by rw [z] at h1;simp at h1);have:=(gd2 x).mpr hx;rw [z] at this;simp at this
    refine ⟨_,rfl,.inr (.inr (.inl ⟨rfl,.inl ⟨_,epd⟩⟩)),pd,_,rfl,rfl,epd,fun pv npv=>?_⟩;have sv:=Same.new npv (j9 pv pd);refine ⟨pv,pd,ms,rfl,ad,sv _ _ epd,fun l us H3 s3 nl el hps=>?_⟩;have S3:=s1.trans (sv.trans s3);have lu:=aa9 hps;have lm:0 < ms.length:=List.length_pos_iff.mpr hne;have hT3:LT T H3:=hT.mono S3;obtain ⟨p,hp⟩:∃ p,ms[cM (gJ sZ ms) (ms.length - 1)]?=some p:=⟨_,aaf (by have:=lF (gJ sZ ms) (ms.length - 1);lia)⟩
    refine ⟨l,us,ms,rfl,el,hps,by lia,hT3,fun x H4 hx b4 hT4=>?_⟩;exact q0 c c2 rfl cm _ H4 (fun b o hb e=>b4 _ _ hb (S3 _ _ e)) hT4
end
open PySem L2
structure Xk (mg:Str→Option Value) (aR aS aW aN aL aF aO aA aH aT aM:Addr):Prop where
  mNoRow:mg "NoRow" = some (.ref aR)
  mNoSigns:mg "NoSigns" = some (.ref aS)
  mNoWay:mg "NoWay" = some (.ref aW)
  mNoNumber:mg "NoNumber" = some (.ref aN)
  mNoPlace:mg "NoPlace" = some (.ref aL)
  mNoFit:mg "NoFit" = some (.ref aF)
  mNoForm:mg "NoForm" = some (.ref aO)
  mNoAsk:mg "NoAsk" = some (.ref aA)
  mNoHolds:mg "NoHolds" = some (.ref aH)
  mNoText:mg "NoText" = some (.ref aT)
  mTooMany:mg "TooMany" = some (.ref aM)
  iValueError:mg "ValueError" = none
structure Kx (K:aab) (C:Addr):Prop where
  ex:ExC K C
  kv:aaI K (.ref C) (.type "ValueError")=some true
structure Kg (K:aab) (aR aS aW aN aL aF aO aA aH aT aM:Addr) (t:Value) (j:Nat):Prop where
  k0:aaI K t (.ref aR)=some (decide (j=0))
  k1:aaI K t (.ref aS)=some (decide (j=1))
  k2:aaI K t (.ref aW)=some (decide (j=2))
  k3:aaI K t (.ref aN)=some (decide (j=3))
  k4:aaI K t (.ref aH)=some (decide (j=4))
  k5:aaI K t (.ref aM)=some (decide (j=5))
  k6:aaI K t (.ref aT)=some (decide (j=6))
  ko:PySem.W.kitAny K t [.ref aA,.ref aF,.ref aO,.ref aL]=some false
def mK:List V:=[.str "NoRow",.str "NoSigns",.str "NoWay",.str "NoNumber",.str "NoHolds",.str "TooMany",.str "NoText"]
def nO (j:Nat):List Bool:=[decide (j=0),decide (j=1),decide (j=2),decide (j=3),decide (j=4),decide (j=5),decide (j=6)]
theorem oU:∀ j,j < 7→(nO j).countP id=1:=by decide
theorem tM:∀ j,j < 7→(nO j)[j]?=some true∧∀ m,m < j→(nO j)[m]?=some false:=by decide
theorem rV {a b c d:Addr} {us:List Value} (r:Vals [.ref a,.ref b,.ref c,.ref d] us):us=[.ref a,.ref b,.ref c,.ref d]:=by
  cases r with
  | cons p r=>cases r with
    | cons p' r=>cases r with
      | cons p'' r=>cases r with
        | cons p3 r=>cases r;cases p;cases p';cases p'';cases p3;rfl
def o7 (K:aab) (aR aS aW aN aL aF aO aA aH aT aM:Addr):Sp:=fun vs H Q _=>∃ (x:V) (t:Value) (j:Nat) (nm:Str),vs=[x]∧CauT K H x t∧Kg K aR aS aW aN aL aF aO aA aH aT aM t j∧j < 7∧aaI K t (.type "ValueError")=some true∧mK[j]?=some (.str nm)∧∀ H',Same H H'→Q (.str nm) H'
theorem dC {T:Addr} {H H':Hp} (s:Same H H'):Same (off T H) (off T H'):=fun c o h=>by
  unfold off at h ⊢;by_cases e:c=T
  · rw [if_pos e] at h;cases h
  · rw [if_neg e] at h ⊢;exact s _ _ h
theorem io {T:Addr} {H H':Hp} (s:But T H H'):Same (off T H) (off T H'):=fun c o h=>by
  unfold off at h ⊢;by_cases e:c=T
  · rw [if_pos e] at h;cases h
  · rw [if_neg e] at h ⊢;exact s _ _ e h
theorem fK {T:Addr} {H:Hp}:Same (off T H) H:=fun c o h=>by
  unfold off at h;by_cases e:c=T
  · rw [if_pos e] at h;cases h
  · rw [if_neg e] at h;exact h
def PrD (d:PyData):Prop:=d.showable=true∧d.depth≤50∧d.shown.length≤100000
theorem gF {d:PyData} (h:OkD d) (hs:szD d≤900) (hd:d.depth≤50):PrD d:=by
  have:=pO d h;exact ⟨ng d h,hd,by lia⟩
theorem fJ {i:Int} (h:i.natAbs < 10 ^ 40):PrD (.int i):=by
  refine ⟨?_,by simp [aaD],?_⟩
  · have z:(10:Nat) ^ 40 < 2 ^ 140:=by decide
    have : i.natAbs.log2 < 140:=by
      by_cases c:i.natAbs=0
      · rw [c];decide
      · exact (Nat.log2_lt c).mpr (by lia)
    simp only [abq];exact decide_eq_true (by lia)
  · have e:=int_text_length_le10 (a:=i) (k:=40) (by decide) h;show (abJ (toString i)).length≤100000;rw [ofString_length];lia
theorem bj {H:Hp}:∀ ns:List Int,DatAll H (ns.map PyData.int) (ns.map V.int)
  | []=>by simp only [acl,DatAll]
  | i :: ns=>by
    simp only [aaG,DatAll];exact ⟨_,_,rfl,by simp only [Dat],bj ns⟩
theorem bz:∀ {ns:List Int},Small ns→OkAll (ns.map PyData.int)
  | [],_=>by simp only [acl,OkAll]
  | i :: ns,h=>by
    simp only [aaG,OkAll,OkD];have:=h i aaH;have z:(10:Nat) ^ 13=10000000000000:=by decide
    exact ⟨by lia,bz fun j hj=>h j (aaw _ hj)⟩
theorem bT:∀ ns:List Int,szAll (ns.map PyData.int)=ns.length
  | []=>rfl
  | i :: ns=>by simp only [aaG,szAll,szD,bT ns,aaO];lia
theorem b_:∀ ns:List Int,aaE (ns.map PyData.int)=0
  | []=>rfl
  | i :: ns=>by simp only [aaG,aaE,aaD,b_ ns];rfl
theorem l_:∀ {a b:List PyData},OkAll a→OkAll b→OkAll (a++b)
  | [],_,_,h=>h
  | x :: a,b,h,k=>by
    simp only [abZ,OkAll] at h ⊢;exact ⟨h.1,l_ h.2 k⟩
theorem lO:∀ a b:List PyData,szAll (a++b)=szAll a+szAll b
  | [],b=>by simp [szAll]
  | x :: a,b=>by simp only [abZ,szAll,lO a b];lia
theorem mG:∀ a b:List PyData,aaE (a++b)=max (aaE a) (aaE b)
  | [],b=>by simp [aaE]
  | x :: a,b=>by simp only [abZ,aaE,mG a b];lia
theorem Small.take {ns:List Int} (h:Small ns) (k:Nat):Small (ns.take k):=fun i hi=>h i (abF hi)
theorem Small.drop {ns:List Int} (h:Small ns) (k:Nat):Small (ns.drop k):=fun i hi=>h i (abS hi)
def Gq (p:PyData→Bool) (H:Hp) (u:V):Prop:=∃ d,Dat H d u∧PrD d∧p d=true
theorem Gq.mono {p:PyData→Bool} {H H':Hp} {u:V} (g:Same H H') (h:Gq p H u):Gq p H' u:=by obtain ⟨d,a,b⟩:=h;exact ⟨d,Dat.mono g d u a,b⟩
section
variable {p:PyData→Bool} {H:Hp}
theorem jo {d:PyData} {u:V} (hd:Dat H d u) (ok:OkD d) (hs:szD d≤900) (hp:d.depth≤50) (h:p d=true):Gq p H u:=⟨d,hd,gF ok hs hp,h⟩
theorem mF (h:p .none=true):Gq p H .non:=jo (d:=.none) (by simp only [Dat]) (by simp only [OkD]) (by simp [szD]) (by simp [aaD]) h
theorem nv (b:Bool) (h:p (.bool b)=true):Gq p H (.bl b):=jo (d:=.bool b) (by simp only [Dat]) (by simp only [OkD]) (by simp [szD]) (by simp [aaD]) h
theorem ql (i:Int) (hi:i.natAbs < 10 ^ 40) (h:p (.int i)=true):Gq p H (.int i):=⟨.int i,by simp only [Dat],fJ hi,h⟩
theorem bZ (x:Str) (hx:(reprText x).length≤20) (h:p (.str x)=true):Gq p H (.str x):=jo (d:=.str x) (by simp only [Dat]) (by simp only [OkD];exact hx) (by simp [szD]) (by simp [aaD]) h
theorem di {a:Addr} {xs:List V} {ds:List PyData} (e:H a=some (.lst xs)) (hd:DatAll H ds xs) (ok:OkAll ds) (sz:szAll ds≤800) (dp:aaE ds≤40) (h:p (.list ds)=true):Gq p H (.ref a) :=
  jo (d:=.list ds) (by simp only [Dat];exact ⟨a,xs,rfl,e,hd⟩) (by simp only [OkD];exact ok) (by simp only [szD];lia) (by simp only [aaD];lia) h
theorem iJ {a:Addr} {xs:List V} {ds:List PyData} (e:H a=some (.tup xs)) (hd:DatAll H ds xs) (ok:OkAll ds) (sz:szAll ds≤800) (dp:aaE ds≤40) (h:p (.tuple ds)=true):Gq p H (.ref a) :=
  jo (d:=.tuple ds) (by simp only [Dat];exact ⟨a,xs,rfl,e,hd⟩) (by simp only [OkD];exact ok) (by simp only [szD];lia) (by simp only [aaD];lia) h
theorem jT {a:Addr} (e:H a=some (.dK [])) (h:p (.dict [])=true):Gq p H (.ref a):=jo (d:=.dict []) (by simp only [Dat,DatKv];exact ⟨a,_,rfl,e,rfl⟩) (by simp only [OkD]) (by simp [szD]) (by simp [aaD,PyData.depthKv]) h
theorem nI (k:Int):DatAll H [.int k] [.int k]:=by simp only [DatAll,Dat];exact ⟨_,_,rfl,rfl,rfl⟩
theorem rP (k:Str):DatAll H [.str k] [.str k]:=by simp only [DatAll,Dat];exact ⟨_,_,rfl,rfl,rfl⟩
theorem nJ:DatAll H [] []:=by simp only [DatAll]
end
def uN (d:PyData):Bool:=!ba d
def pN (d:PyData):Bool:=!aU d
theorem cK {H H':Hp} {z p:Addr} {oz:HO} (e:H z=some oz) (s:Same H H') (n:H' p=none):p≠z:=aa3 (ah (s _ _ e) n)
theorem pr3 {a b c:PyData} (h1:PrD a) (h2:PrD b) (h3:PrD c):(PyData.list [a,b,c]).showable=true∧(PyData.list [a,b,c]).depth≤60∧(PyData.list [a,b,c]).shown.length≤sizeLine:=by
  obtain ⟨a1,a2,a3⟩:=h1;obtain ⟨b1,b2,b3⟩:=h2;obtain ⟨c1,c2,c3⟩:=h3;refine ⟨?_,?_,?_⟩
  · simp only [abq,acr,a1,b1,c1,Bool.and_self]
  · simp only [aaD,aaE];lia
  · have z:=listText_len_le (abW [a,b,c]);simp only [PyData.shown];simp only [abW,aaG,acl,List.sum_cons,List.sum_nil,aaO,aba] at z ⊢;exact aaL (show _≤700000 by lia) (by rw [sizeLine_eq];decide)
theorem neF {b:Bool} (h:b=true):¬ b=false:=fun z=>by rw [h] at z;cases z
def mOf:Nat→Nat
  | 0=>6
  | _=>7
def bOf:Nat→PyData→Bool
  | 0,_=>true
  | 1,_=>true
  | 2,_=>true
  | _,g=>aY g
def cT (k:Nat) (d e g:PyData):Str:=if aU d=false then "NoRow" else if ba e=false then "NoSigns" else if bOf k g=false then "NoNumber" else if mOf k < ie d then "TooMany" else "told"
theorem kE {k:Nat} {d e g:PyData} (c:aU d=false):cT k d e g = "NoRow":=by unfold cT;rw [if_pos c]
theorem hZ {k:Nat} {d e g:PyData} (c:aU d=true) (c2:ba e=false):cT k d e g = "NoSigns":=by unfold cT;rw [if_neg (neF c),if_pos c2]
theorem gE {k:Nat} {d e g:PyData} (c:aU d=true) (c2:ba e=true) (c3:bOf k g=false):cT k d e g = "NoNumber":=by unfold cT;rw [if_neg (neF c),if_neg (neF c2),if_pos c3]
theorem fe {k:Nat} {d e g:PyData} (c:aU d=true) (c2:ba e=true) (c3:bOf k g=true) (c4:mOf k < ie d):cT k d e g = "TooMany":=by unfold cT;rw [if_neg (neF c),if_neg (neF c2),if_neg (neF c3),if_pos c4]
theorem cD {k:Nat} {d e g:PyData} (c:aU d=true) (c2:ba e=true) (c3:bOf k g=true) (c4:ie d≤mOf k):cT k d e g = "told":=by unfold cT;rw [if_neg (neF c),if_neg (neF c2),if_neg (neF c3),if_neg (by lia)]
def jz (T:Addr):Sp:=fun vs H Q _=>∃ (k:Nat),∃ d v e u g x,vs=[.int (k:Int),v,u,x]∧k≤5∧Dat (off T H) d v∧Dat (off T H) e u∧Dat (off T H) g x∧PrD d∧PrD e∧PrD g∧Sm1 H d v∧LT T H∧∀ H',But T H H'→LT T H'→Q (.str (cT k d e g)) H'
def o_ (aR aS aN aM T:Addr):Sp:=fun vs H Q E=>∃ (k:Nat),∃ d v e u g x,vs=[.int (k:Int),v,u,x]∧k≤5∧Dat H d v∧Dat H e u∧Dat H g x∧Sm1 H d v∧LT T H∧Rq aR aS aN aM (mOf k) (bOf k g) d e H E∧(aU d=true→ba e=true→bOf k g=true→ie d≤mOf k→∀ y H',But T H H'→LT T H'→Q y H')
section
variable {P:Program} {w:World} {K:aab} {mg:Str→Option Value} {base:Heap} {f:Addr} {fd:FuncData}
abbrev eh:Stmt:=top 49
theorem i5:FnScope ["way","row","signs","number"] ["way","row","signs","number"] (am eh):=⟨rfl,rfl,rfl,by decide +kernel,rfl,by decide +kernel,by decide +kernel⟩
theorem pP {T aR aS aN aM:Addr} (F:Fun K "_law_asked" "_law_asked" eh f fd) (C_worths_of:bN P w K mg base "worths_of" 5 ["row","signs"] (jC aR aS aN aM T 6)) (C_how_many_worths:bN P w K mg base "how_many_worths" 6 ["row","signs"] (jC aR aS aN aM T 7)) (C_most_often:bN P w K mg base "most_often" 6 ["row","signs"] (jC aR aS aN aM T 7)) (C_can_be:bN P w K mg base "can_be" 6 ["row","signs","number"] (jB aR aS aN aM T 7)) (C_nearest_to:bN P w K mg base "nearest_to" 6 ["row","signs","number"] (jB aR aS aN aM T 7)) (C_how_many_with:bN P w K mg base "how_many_with" 6 ["row","signs","number"] (jB aR aS aN aM T 7)):FnOk P w K mg base (CX1 P w) 7 f fd ["way","row","signs","number"] (o_ aR aS aN aM T):=by
  refine Fun.ok1 F i5 (fun vs H Q E h=>?_) (fun cdv A outer s H vs Q E hr h=>?_)
  · obtain ⟨k,d,v,e,u,g,x,rfl,_⟩:=h;rfl
  obtain ⟨k,d,v,e,u,g,x,rfl,k5,hd,he,hg,hsm,hT,rf,q0⟩:=h;refine ⟨_,(@ag _ _ _ _ _ (@bO _ _ _ _ _ _ _ _ (@a9 _ _ _ _ _ _ _ _ fu (pv 0) af (bv _)) (@ai _ _ _ (@az _ _ _ _ (@aZ _ _ _ _ _ _ _ _ _ _ _ _ C_worths_of cw hr (by lia) rfl (@aa _ _ _ _ _ (pv 1) (@aa _ _ _ _ _ (pv 2) ae (by rfl)) (by rfl)) (by decide) (by rfl) (by rfl)))) aQ) (@ag _ _ _ _ _ (@bO _ _ _ _ _ _ _ _ (@a9 _ _ _ _ _ _ _ _ fu (pv 0) af (bv _)) (@ai _ _ _ (@az _ _ _ _ (@aZ _ _ _ _ _ _ _ _ _ _ _ _ C_how_many_worths cw hr (by lia) rfl (@aa _ _ _ _ _ (pv 1) (@aa _ _ _ _ _ (pv 2) ae (by rfl)) (by rfl)) (by decide) (by rfl) (by rfl)))) aQ) (@ag _ _ _ _ _ (@bO _ _ _ _ _ _ _ _ (@a9 _ _ _ _ _ _ _ _ fu (pv 0) af (bv _)) (@ai _ _ _ (@az _ _ _ _ (@aZ _ _ _ _ _ _ _ _ _ _ _ _ C_most_often cw hr (by lia) rfl (@aa _ _ _ _ _ (pv 1) (@aa _ _ _ _ _ (pv 2) ae (by rfl)) (by rfl)) (by decide) (by rfl) (by rfl)))) aQ) (@ag _ _ _ _ _ (@bO _ _ _ _ _ _ _ _ (@a9 _ _ _ _ _ _ _ _ fu (pv 0) af (bv _)) (@ai _ _ _ (@az _ _ _ _ (@aZ _ _ _ _ _ _ _ _ _ _ _ _ C_can_be cw hr (by lia) rfl (@aa _ _ _ _ _ (pv 1) (@aa _ _ _ _ _ (pv 2) (@aa _ _ _ _ _ (pv 3) ae (by rfl)) (by rfl)) (by rfl)) (by decide) (by rfl) (by rfl)))) aQ) (@ag _ _ _ _ _ (@bO _ _ _ _ _ _ _ _ (@a9 _ _ _ _ _ _ _ _ fu (pv 0) af (bv _)) (@ai _ _ _ (@az _ _ _ _ (@aZ _ _ _ _ _ _ _ _ _ _ _ _ C_nearest_to cw hr (by lia) rfl (@aa _ _ _ _ _ (pv 1) (@aa _ _ _ _ _ (pv 2) (@aa _ _ _ _ _ (pv 3) ae (by rfl)) (by rfl)) (by rfl)) (by decide) (by rfl) (by rfl)))) aQ) (@ai _ _ _ (@az _ _ _ _ (@aZ _ _ _ _ _ _ _ _ _ _ _ _ C_how_many_with cw hr (by lia) rfl (@aa _ _ _ _ _ (pv 1) (@aa _ _ _ _ _ (pv 2) (@aa _ _ _ _ _ (pv 3) ae (by rfl)) (by rfl)) (by rfl)) (by decide) (by rfl) (by rfl))))))))),?_⟩;have cases6:k=0∨k=1∨k=2∨k=3∨k=4∨k=5:=by lia
  rcases cases6 with rfl|rfl|rfl|rfl|rfl|rfl
  · exact ⟨_,rfl,rfl,true,rfl,dR ⟨_,rfl,_,rfl,d,v,e,u,rfl,hd,he,hsm,hT,rf,q0⟩⟩
  · exact ⟨_,rfl,rfl,false,rfl,bh ⟨_,rfl,rfl,true,rfl,dR ⟨_,rfl,_,rfl,d,v,e,u,rfl,hd,he,hsm,hT,rf,q0⟩⟩⟩
  · exact ⟨_,rfl,rfl,false,rfl,bh ⟨_,rfl,rfl,false,rfl,bh ⟨_,rfl,rfl,true,rfl,dR ⟨_,rfl,_,rfl,d,v,e,u,rfl,hd,he,hsm,hT,rf,q0⟩⟩⟩⟩
  · exact ⟨_,rfl,rfl,false,rfl,bh ⟨_,rfl,rfl,false,rfl,bh ⟨_,rfl,rfl,false,rfl,bh ⟨_,rfl,rfl,true,rfl,dR ⟨_,rfl,_,rfl,_,rfl,d,v,e,u,g,x,rfl,hd,he,hg,hsm,hT,rf,q0⟩⟩⟩⟩⟩
  · exact ⟨_,rfl,rfl,false,rfl,bh ⟨_,rfl,rfl,false,rfl,bh ⟨_,rfl,rfl,false,rfl,bh ⟨_,rfl,rfl,false,rfl,bh ⟨_,rfl,rfl,true,rfl,dR ⟨_,rfl,_,rfl,_,rfl,d,v,e,u,g,x,rfl,hd,he,hg,hsm,hT,rf,q0⟩⟩⟩⟩⟩⟩
  · exact ⟨_,rfl,rfl,false,rfl,bh ⟨_,rfl,rfl,false,rfl,bh ⟨_,rfl,rfl,false,rfl,bh ⟨_,rfl,rfl,false,rfl,bh ⟨_,rfl,rfl,false,rfl,bh ⟨_,rfl,_,rfl,_,rfl,d,v,e,u,g,x,rfl,hd,he,hg,hsm,hT,rf,q0⟩⟩⟩⟩⟩⟩
abbrev eL:Stmt:=top 46
theorem df:FnScope ["caught","kinds","odd"] ["caught"] (am eL):=⟨rfl,rfl,rfl,by decide +kernel,rfl,by decide +kernel,by decide +kernel⟩
theorem qW {aR aS aW aN aL aF aO aA aH aT aM:Addr} (F:Fun K "_law_word" "_law_word" eL f fd) (B:Bu K mg) (XK:Xk mg aR aS aW aN aL aF aO aA aH aT aM):FnOk P w K mg base CX0 1 f fd ["caught"] (o7 K aR aS aW aN aL aF aO aA aH aT aM):=by
  refine F.ok df (fun vs H Q E h=>?_) (fun cdv A outer s H vs Q E hr h=>?_)
  · obtain ⟨x,t,j,nm,rfl,_⟩:=h;rfl
  obtain ⟨x,t,j,nm,rfl,hx,kf,j7,kv,hn,q⟩:=h;refine ⟨_,(@ag _ _ _ _ _ (@aI _ _ (1) _ _ _ _ (df).nd rfl (Or.inl rfl) (@aw _ _ _ _ (@aa _ _ _ _ _ (@aC _ _ _ _ _ _ _ _ _ bn rfl B.iisinstance aaA (@aa _ _ _ _ _ (pv 0) (@aa _ _ _ _ _ (@bp _ _ (.ref aR) _ _ rfl XK.mNoRow rfl (by decide)) ae (by rfl)) (by rfl)) (by decide) (by decide) (by rfl) (by rfl)) (@aa _ _ _ _ _ (@aC _ _ _ _ _ _ _ _ _ bn rfl B.iisinstance aaA (@aa _ _ _ _ _ (pv 0) (@aa _ _ _ _ _ (@bp _ _ (.ref aS) _ _ rfl XK.mNoSigns rfl (by decide)) ae (by rfl)) (by rfl)) (by decide) (by decide) (by rfl) (by rfl)) (@aa _ _ _ _ _ (@aC _ _ _ _ _ _ _ _ _ bn rfl B.iisinstance aaA (@aa _ _ _ _ _ (pv 0) (@aa _ _ _ _ _ (@bp _ _ (.ref aW) _ _ rfl XK.mNoWay rfl (by decide)) ae (by rfl)) (by rfl)) (by decide) (by decide) (by rfl) (by rfl)) ae (by rfl)) (by rfl)) (by rfl))) (by rfl) (by first|exact .inl rfl|exact .inr rfl|assumption)) (@ag _ _ _ _ _ (@aI _ _ (1) _ _ _ _ (df).nd rfl (Or.inl rfl) (@ap _ _ _ _ _ _ _ _ dz (pv 1) (@aw _ _ _ _ (@aa _ _ _ _ _ (@aC _ _ _ _ _ _ _ _ _ bn rfl B.iisinstance aaA (@aa _ _ _ _ _ (pv 0) (@aa _ _ _ _ _ (@bp _ _ (.ref aN) _ _ rfl XK.mNoNumber rfl (by decide)) ae (by rfl)) (by rfl)) (by decide) (by decide) (by rfl) (by rfl)) (@aa _ _ _ _ _ (@aC _ _ _ _ _ _ _ _ _ bn rfl B.iisinstance aaA (@aa _ _ _ _ _ (pv 0) (@aa _ _ _ _ _ (@bp _ _ (.ref aH) _ _ rfl XK.mNoHolds rfl (by decide)) ae (by rfl)) (by rfl)) (by decide) (by decide) (by rfl) (by rfl)) (@aa _ _ _ _ _ (@aC _ _ _ _ _ _ _ _ _ bn rfl B.iisinstance aaA (@aa _ _ _ _ _ (pv 0) (@aa _ _ _ _ _ (@bp _ _ (.ref aM) _ _ rfl XK.mTooMany rfl (by decide)) ae (by rfl)) (by rfl)) (by decide) (by decide) (by rfl) (by rfl)) ae (by rfl)) (by rfl)) (by rfl)))) (by rfl) (by first|exact .inl rfl|exact .inr rfl|assumption)) (@ag _ _ _ _ _ (@bA _ _ _ _ (@kP _ _ _ _ _ _ _ _ _ _ _ _ abH acn aco gv (pv 1) (@aa _ _ _ _ _ (@aC _ _ _ _ _ _ _ _ _ bn rfl B.iisinstance aaA (@aa _ _ _ _ _ (pv 0) (@aa _ _ _ _ _ (@bp _ _ (.ref aT) _ _ rfl XK.mNoText rfl (by decide)) ae (by rfl)) (by rfl)) (by decide) (by decide) (by rfl) (by rfl)) ae (by rfl)) (by rfl) (by rfl) (by rfl) (by rfl) (by rfl)) (by rfl)) (@ag _ _ _ _ _ (@aI _ _ (2) _ _ _ _ (df).nd rfl (Or.inl rfl) (@aC _ _ _ _ _ _ _ _ _ jd rfl B.iisinstance aaA (@aa _ _ _ _ _ (pv 0) (@aa _ _ _ _ _ (@bV _ _ _ _ _ (@aa _ _ _ _ _ (@bp _ _ (.ref aA) _ _ rfl XK.mNoAsk rfl (by decide)) (@aa _ _ _ _ _ (@bp _ _ (.ref aF) _ _ rfl XK.mNoFit rfl (by decide)) (@aa _ _ _ _ _ (@bp _ _ (.ref aO) _ _ rfl XK.mNoForm rfl (by decide)) (@aa _ _ _ _ _ (@bp _ _ (.ref aL) _ _ rfl XK.mNoPlace rfl (by decide)) ae (by rfl)) (by rfl)) (by rfl)) (by rfl))) ae (by rfl)) (by rfl)) (by decide) (by decide) (by rfl) (by rfl)) (by rfl) (by first|exact .inl rfl|exact .inr rfl|assumption)) (@ag _ _ _ _ _ (@bO _ _ _ _ _ _ _ _ (@PW.pt _ _ _ (@pE _ _ _ _ _ _ _ (@pF _ _ _ (pv 2) (fun _=>rfl)) (@pE _ _ _ _ _ _ _ (@a9 _ _ _ _ _ _ _ _ kQ (@kP _ _ _ _ _ _ _ _ _ _ _ _ abH PySem.F.slot_list_count PySem.F.type_list_count (@oo _ hr.units) (pv 1) (@aa _ _ _ _ _ cI ae (by rfl)) (by rfl) (by rfl) (by rfl) (by rfl) (by rfl)) af (bv _)) (@pC _ _ _ _ (@da _ _ _ _ (@dv _ _ _ (@aC _ _ _ _ _ _ _ _ _ bn rfl B.iisinstance aaA (@aa _ _ _ _ _ (pv 0) (@aa _ _ _ _ _ (@fR _ _ (.ty "ValueError") _ _ rfl XK.iValueError (by decide +kernel) rfl (by decide) (by decide)) ae (by rfl)) (by rfl)) (by decide) (by decide) (by rfl) (by rfl)) (by intro _;rfl))))))) (@ai _ _ _ (@az _ _ _ _ aq)) aQ) (@ai _ _ _ (@az _ _ _ _ (@cU _ _ _ _ _ _ _ bH (@aw _ _ _ _ (@aa _ _ _ _ _ aq (@aa _ _ _ _ _ aq (@aa _ _ _ _ _ aq (@aa _ _ _ _ _ aq (@aa _ _ _ _ _ aq (@aa _ _ _ _ _ aq (@aa _ _ _ _ _ aq ae (by rfl)) (by rfl)) (by rfl)) (by rfl)) (by rfl)) (by rfl)) (by rfl))) (@kP _ _ _ _ _ _ _ _ _ _ _ _ abH PySem.F.slot_list_index PySem.F.type_list_index (@om _ hr.units) (pv 1) (@aa _ _ _ _ _ cI ae (by rfl)) (by rfl) (by rfl) (by rfl) (by rfl) (by rfl)) (fun _ _=>rfl))))))))),?_⟩;refine ⟨_,rfl,x,_,t,_,_,rfl,hx,fun _ z=>z,kf.k0,_,rfl,x,_,t,_,_,rfl,hx,fun _ z=>z,kf.k1,_,rfl,x,_,t,_,_,rfl,hx,fun _ z=>z,kf.k2,(by show 3≤sizeLine;decide),fun pk nk=>?_⟩;have g1:=Same.new nk (.lst [.bl (decide (j=0)),.bl (decide (j=1)),.bl (decide (j=2))]);have ek1:upd H pk (.lst [.bl (decide (j=0)),.bl (decide (j=1)),.bl (decide (j=2))]) pk=_:=ad;generalize upd H pk (.lst [.bl (decide (j=0)),.bl (decide (j=1)),.bl (decide (j=2))])=H1 at g1 ek1 ⊢;have hx1:=hx.mono g1;refine ⟨_,rfl,_,rfl,x,_,t,_,_,rfl,hx1,fun _ z=>z,kf.k3,_,rfl,x,_,t,_,_,rfl,hx1,fun _ z=>z,kf.k4,_,rfl,x,_,t,_,_,rfl,hx1,fun _ z=>z,kf.k5,(by show 3≤sizeLine;decide),fun pl nl=>?_⟩;have g2:=Same.new nl (.lst [.bl (decide (j=3)),.bl (decide (j=4)),.bl (decide (j=5))]);have ek2:upd H1 pl (.lst [.bl (decide (j=3)),.bl (decide (j=4)),.bl (decide (j=5))]) pl=_:=ad;have ek1':=g2 _ _ ek1;generalize upd H1 pl (.lst [.bl (decide (j=3)),.bl (decide (j=4)),.bl (decide (j=5))])=H2 at g2 ek2 ek1' ⊢;refine ⟨pk,pl,_,_,rfl,rfl,ek1',ek2,(by show 6≤sizeLine;decide),fun pm nm'=>?_⟩;have g3:=Same.new nm' (.lst ([.bl (decide (j=0)),.bl (decide (j=1)),.bl (decide (j=2))]++[.bl (decide (j=3)),.bl (decide (j=4)),.bl (decide (j=5))]));have ek:upd H2 pm (.lst ([.bl (decide (j=0)),.bl (decide (j=1)),.bl (decide (j=2))]++[.bl (decide (j=3)),.bl (decide (j=4)),.bl (decide (j=5))])) pm=some (.lst [.bl (decide (j=0)),.bl (decide (j=1)),.bl (decide (j=2)),.bl (decide (j=3)),.bl (decide (j=4)),.bl (decide (j=5))]):=ad;have G2:=g1.trans g2;have nm0:H pm=none:=G2.free nm';have G3:=G2.trans g3;generalize upd H2 pm (.lst ([.bl (decide (j=0)),.bl (decide (j=1)),.bl (decide (j=2))]++[.bl (decide (j=3)),.bl (decide (j=4)),.bl (decide (j=5))]))=H3 at g3 ek G3 ⊢;refine ⟨_,rfl,.inl ⟨rfl,_,SqL.of ek⟩,_,rfl,x,_,t,_,_,rfl,(hx.mono G3),fun _ z=>z,kf.k6,pm,_,_,rfl,rfl,ek,(by show 6 < sizeLine;decide),?_⟩;have G4:=G3.upd (o:=.lst ([.bl (decide (j=0)),.bl (decide (j=1)),.bl (decide (j=2)),.bl (decide (j=3)),.bl (decide (j=4)),.bl (decide (j=5))]++[.bl (decide (j=6))])) nm0;have ek4:upd H3 pm (.lst ([.bl (decide (j=0)),.bl (decide (j=1)),.bl (decide (j=2)),.bl (decide (j=3)),.bl (decide (j=4)),.bl (decide (j=5))]++[.bl (decide (j=6))])) pm=some (.lst ((nO j).map V.bl)):=ad;generalize upd H3 pm (.lst ([.bl (decide (j=0)),.bl (decide (j=1)),.bl (decide (j=2)),.bl (decide (j=3)),.bl (decide (j=4)),.bl (decide (j=5))]++[.bl (decide (j=6))]))=H4 at G4 ek4 ⊢;refine ⟨_,rfl,(by show 4≤sizeLine;decide),fun p1 n1=>⟨x,p1,_,t,_,false,rfl,(hx.mono G4).mono (Same.new n1 _),ad,fun _ r=>rV r,kf.ko,?_⟩⟩;have G5:=G4.trans (Same.new n1 (.tup [.ref aA,.ref aF,.ref aO,.ref aL]));have ek5:=(Same.new n1 (.tup [.ref aA,.ref aF,.ref aO,.ref aL])) _ _ ek4;generalize upd H4 p1 (.tup [.ref aA,.ref aF,.ref aO,.ref aL])=H5 at G5 ek5 ⊢;have hx5:=hx.mono G5;refine ⟨_,rfl,false,rfl,bh ?_⟩;refine ⟨_,rfl,.inl ⟨rfl,_,SqL.of ek5⟩,pm,nO j,rfl,rfl,SqL.of ek5,?_⟩;rw [oU j j7];refine ⟨rfl,_,rfl,ui rfl ?_⟩;refine ⟨_,rfl,x,_,t,_,_,rfl,hx5,fun _ z=>z,kv,true,rfl,bh ?_⟩;refine ⟨(by show 7≤sizeLine;decide),fun pn nn=>?_⟩;have g7:=Same.new nn (.lst mK);obtain ⟨k1,k2⟩:=tM j j7;refine ⟨_,rfl,.inl ⟨rfl,_,SqL.of (g7 _ _ ek5)⟩,pm,nO j,j,rfl,rfl,SqL.of (g7 _ _ ek5),k1,k2,(by show 7≤1000;decide),?_⟩;exact ⟨pn,_,_,_,rfl,rfl,SqL.of ad,gY hn,q _ (G5.trans g7)⟩
abbrev eQ:Stmt:=top 50
theorem cG:FnScope ["way","row","signs","number","caught","kept","e"] ["way","row","signs","number"] (am eQ):=⟨rfl,rfl,rfl,by decide +kernel,rfl,by decide +kernel,by decide +kernel⟩
theorem qY {T aP aR aS aW aN aL aF aO aA aH aT aM:Addr} (F:Fun K "_law_said" "_law_said" eQ f fd) (B:Bu K mg) (XC:Xc K mg aP aR aS aN aM) (E0:Kg K aR aS aW aN aL aF aO aA aH aT aM (.ref aR) 0) (E1:Kg K aR aS aW aN aL aF aO aA aH aT aM (.ref aS) 1) (E3:Kg K aR aS aW aN aL aF aO aA aH aT aM (.ref aN) 3) (E5:Kg K aR aS aW aN aL aF aO aA aH aT aM (.ref aM) 5) (X0:Kx K aR) (X1:Kx K aS) (X3:Kx K aN) (X5:Kx K aM)
    (C__law_asked:bN P w K mg base "_law_asked" 7 ["way","row","signs","number"] (o_ aR aS aN aM T)) (C__law_word:Cal P w K mg base "_law_word" 1 ["caught"] (o7 K aR aS aW aN aL aF aO aA aH aT aM)):FnOk P w K mg base CX0 8 f fd ["way","row","signs","number"] (jz T):=by
  refine F.ok cG (fun vs H Q E h=>?_) (fun cdv A outer s H vs Q E hr h=>?_)
  · obtain ⟨k,d,v,e,u,g,x,rfl,_⟩:=h;rfl
  obtain ⟨k,d,v,e,u,g,x,rfl,k5,hd,he,hg,pd,pe,pg,hsm,hT,q⟩:=h;refine ⟨_,(@ag _ _ _ _ _ (@aI _ _ (4) _ _ _ _ (cG).nd rfl (Or.inl rfl) eo (by rfl) (by first|exact .inl rfl|exact .inr rfl|assumption)) (@ag _ _ _ _ _ (@aI _ _ (5) _ _ _ _ (cG).nd rfl (Or.inl rfl) (@aC _ _ _ _ _ _ _ _ _ (@js _ hr.gd hr.units) rfl B.irepr PyProof.Rows.boot_repr (@aa _ _ _ _ _ (@aw _ _ _ _ (@aa _ _ _ _ _ (pv 1) (@aa _ _ _ _ _ (pv 2) (@aa _ _ _ _ _ (pv 3) ae (by rfl)) (by rfl)) (by rfl))) ae (by rfl)) (by decide) (by decide) (by rfl) (by rfl)) (by rfl) (by first|exact .inl rfl|exact .inr rfl|assumption)) (@ag _ _ _ _ _ (@sq _ _ _ _ (6) _ _ _ _ _ _ _ _ rfl rfl rfl rfl XC.mPutError (cG).nd rfl rfl (fun _ _=>(ai (bA (qU C__law_asked rfl hr (by lia) rfl (aa (pv 0) (aa (pv 1) (aa (pv 2) (aa (pv 3) ae)))))))) (fun _=>(ai (aI (i:=4) (cG).nd rfl (Or.inl rfl) (pv 6)))) (by decide)) (@ag _ _ _ _ _ (@bO _ _ _ _ _ _ _ _ (@a9 _ _ _ _ _ _ _ _ kQ (@aC _ _ _ _ _ _ _ _ _ (@js _ hr.gd hr.units) rfl B.irepr PyProof.Rows.boot_repr (@aa _ _ _ _ _ (@aw _ _ _ _ (@aa _ _ _ _ _ (pv 1) (@aa _ _ _ _ _ (pv 2) (@aa _ _ _ _ _ (pv 3) ae (by rfl)) (by rfl)) (by rfl))) ae (by rfl)) (by decide) (by decide) (by rfl) (by rfl)) (pv 5) (bv _)) (@ai _ _ _ (@az _ _ _ _ aq)) aQ) (@ai _ _ _ (@az _ _ _ _ (@kN _ _ _ _ _ _ _ _ (@a9 _ _ _ _ _ _ _ _ sI (pv 4) eo (bv _)) aq (@aB _ _ _ _ _ _ _ _ _ _ _ C__law_word hr (by lia) rfl (@aa _ _ _ _ _ (pv 4) ae (by rfl)) (by decide) (by rfl) (by rfl))))))))),?_⟩;obtain ⟨s1,s2,s3⟩:=pr3 pd pe pg;have DL:∀ {H':Hp} {p:Addr},Same (off T H) (off T H')→H' p=some (.lst [v,u,x])→Dat H' (.list [d,e,g]) (.ref p):=fun {H' p} S' e'=>by
    have S'':=S'.trans fK;simp only [Dat,DatAll];exact ⟨p,_,rfl,e',_,_,rfl,Dat.mono S'' _ _ hd,_,_,rfl,Dat.mono S'' _ _ he,_,_,rfl,Dat.mono S'' _ _ hg,rfl⟩
  obtain ⟨kt,hkt⟩:∃ kt,(PyData.list [d,e,g]).shown=kt:=⟨_,rfl⟩
  refine ⟨_,rfl,_,rfl,_,rfl,(by show 3≤sizeLine;decide),fun p1 n1=>⟨_,_,rfl,DL (dC (Same.new n1 _)) ad,s1,s2,s3,?_⟩⟩;rw [hkt];have g0:=Same.new n1 (.lst [v,u,x]);generalize upd H p1 (.lst [v,u,x])=H0 at g0 ⊢;have hT0:=hT.mono g0;have VV:=dC (T:=T) g0;have hd0:=Dat.mono (VV.trans fK) _ _ hd;have he0:=Dat.mono (VV.trans fK) _ _ he;have hg0:=Dat.mono (VV.trans fK) _ _ hg;have sm0:Sm1 H0 d v:=fun c r ns ev en=>by
    obtain ⟨r',ns',e1,e2,_⟩:=gj c (Dat.mono fK _ _ hd);have e3:=g0 _ _ e2;rw [ev] at e1;injection e1 with e1
    subst e1;rw [e3] at en;injection en with en
    injection en with en
    exact hsm c r ns ev (by rw [e2,en])
  refine ⟨_,rfl,_,rfl,_,rfl,_,rfl,k,d,v,e,u,g,x,rfl,k5,hd0,he0,hg0,sm0,hT0,⟨fun c H1 g1 C hC=>?_,fun c c2 H1 g1 C hC=>?_,fun c c2 c3 H1 g1 C hC=>?_,fun c c2 c3 c4 H1 g1 C hC=>?_⟩,fun c c2 c3 c4 y H1 b1 hT1=>?_⟩
  · cases hC;refine ⟨XC.uNoRow,fun ea ne=>?_⟩;refine ⟨_,rfl,?_⟩;have ee:upd H1 ea (cB ea aR) ea=some (cB ea aR):=ad;have g2:=g1.trans (Same.new ne (cB ea aR));generalize upd H1 ea (cB ea aR)=H2 at g2 ee ⊢;have V2:=VV.trans (dC (T:=T) g2);refine ⟨_,rfl,_,rfl,_,rfl,(by show 3≤sizeLine;decide),fun p2 n2=>⟨_,_,rfl,DL (V2.trans (dC (Same.new n2 _))) ad,s1,s2,s3,?_⟩⟩;rw [hkt];have g3:=Same.new n2 (.lst [v,u,x]);refine ⟨_,rfl,rfl,_,rfl,gz (fun zz=>absurd zz (by simp)) (fun _=>?_)⟩;have G:=(g0.trans g2).trans g3;refine ⟨_,rfl,rfl,_,rfl,iG (fun z=>nomatch z) ?_⟩;exact ⟨_,rfl,.ref ea,.ref aR,0,"NoRow",rfl,.inr ⟨ea,aR,rfl,g3 _ _ ee,X0.ex,rfl⟩,E0,by decide,X0.kv,rfl,fun H5 g5=>by rw [← (show cT k d e g=("NoRow":Str) from kE c)];exact q H5 (But.of (G.trans g5)) (hT.mono (G.trans g5))⟩
  · cases hC;refine ⟨XC.uNoSigns,fun ea ne=>?_⟩;refine ⟨_,rfl,?_⟩;have ee:upd H1 ea (cB ea aS) ea=some (cB ea aS):=ad;have g2:=g1.trans (Same.new ne (cB ea aS));generalize upd H1 ea (cB ea aS)=H2 at g2 ee ⊢;have V2:=VV.trans (dC (T:=T) g2);refine ⟨_,rfl,_,rfl,_,rfl,(by show 3≤sizeLine;decide),fun p2 n2=>⟨_,_,rfl,DL (V2.trans (dC (Same.new n2 _))) ad,s1,s2,s3,?_⟩⟩;rw [hkt];have g3:=Same.new n2 (.lst [v,u,x]);refine ⟨_,rfl,rfl,_,rfl,gz (fun zz=>absurd zz (by simp)) (fun _=>?_)⟩;have G:=(g0.trans g2).trans g3;refine ⟨_,rfl,rfl,_,rfl,iG (fun z=>nomatch z) ?_⟩;exact ⟨_,rfl,.ref ea,.ref aS,1,"NoSigns",rfl,.inr ⟨ea,aS,rfl,g3 _ _ ee,X1.ex,rfl⟩,E1,by decide,X1.kv,rfl,fun H5 g5=>by rw [← (show cT k d e g=("NoSigns":Str) from hZ c c2)];exact q H5 (But.of (G.trans g5)) (hT.mono (G.trans g5))⟩
  · cases hC;refine ⟨XC.uNoNumber,fun ea ne=>?_⟩;refine ⟨_,rfl,?_⟩;have ee:upd H1 ea (cB ea aN) ea=some (cB ea aN):=ad;have g2:=g1.trans (Same.new ne (cB ea aN));generalize upd H1 ea (cB ea aN)=H2 at g2 ee ⊢;have V2:=VV.trans (dC (T:=T) g2);refine ⟨_,rfl,_,rfl,_,rfl,(by show 3≤sizeLine;decide),fun p2 n2=>⟨_,_,rfl,DL (V2.trans (dC (Same.new n2 _))) ad,s1,s2,s3,?_⟩⟩;rw [hkt];have g3:=Same.new n2 (.lst [v,u,x]);refine ⟨_,rfl,rfl,_,rfl,gz (fun zz=>absurd zz (by simp)) (fun _=>?_)⟩;have G:=(g0.trans g2).trans g3;refine ⟨_,rfl,rfl,_,rfl,iG (fun z=>nomatch z) ?_⟩;exact ⟨_,rfl,.ref ea,.ref aN,3,"NoNumber",rfl,.inr ⟨ea,aN,rfl,g3 _ _ ee,X3.ex,rfl⟩,E3,by decide,X3.kv,rfl,fun H5 g5=>by rw [← (show cT k d e g=("NoNumber":Str) from gE c c2 c3)];exact q H5 (But.of (G.trans g5)) (hT.mono (G.trans g5))⟩
  · cases hC;refine ⟨XC.uTooMany,fun ea ne=>?_⟩;refine ⟨_,rfl,?_⟩;have ee:upd H1 ea (cB ea aM) ea=some (cB ea aM):=ad;have g2:=g1.trans (Same.new ne (cB ea aM));generalize upd H1 ea (cB ea aM)=H2 at g2 ee ⊢;have V2:=VV.trans (dC (T:=T) g2);refine ⟨_,rfl,_,rfl,_,rfl,(by show 3≤sizeLine;decide),fun p2 n2=>⟨_,_,rfl,DL (V2.trans (dC (Same.new n2 _))) ad,s1,s2,s3,?_⟩⟩;rw [hkt];have g3:=Same.new n2 (.lst [v,u,x]);refine ⟨_,rfl,rfl,_,rfl,gz (fun zz=>absurd zz (by simp)) (fun _=>?_)⟩;have G:=(g0.trans g2).trans g3;refine ⟨_,rfl,rfl,_,rfl,iG (fun z=>nomatch z) ?_⟩;exact ⟨_,rfl,.ref ea,.ref aM,5,"TooMany",rfl,.inr ⟨ea,aM,rfl,g3 _ _ ee,X5.ex,rfl⟩,E5,by decide,X5.kv,rfl,fun H5 g5=>by rw [← (show cT k d e g=("TooMany":Str) from fe c c2 c3 c4)];exact q H5 (But.of (G.trans g5)) (hT.mono (G.trans g5))⟩
  · have V2:=VV.trans (io b1);refine ⟨_,rfl,_,rfl,_,rfl,(by show 3≤sizeLine;decide),fun p2 n2=>⟨_,_,rfl,DL (V2.trans (dC (Same.new n2 _))) ad,s1,s2,s3,?_⟩⟩;rw [hkt];have g3:=Same.new n2 (.lst [v,u,x]);refine ⟨_,rfl,rfl,_,rfl,gz (fun zz=>absurd zz (by simp)) (fun _=>?_)⟩;refine ⟨_,rfl,rfl,_,rfl,qh rfl ?_⟩;rw [← (show cT k d e g=("told":Str) from cD c c2 c3 c4)];exact q _ ((But.of g0).trans (b1.trans (But.of g3))) (hT1.mono g3)
end
open PySem L2
theorem fq (xs:List V) (c:Nat) (h:c≤xs.length):dD xs none (some (c:Int))=xs.take c:=by
  have e0:HT.sIx xs.length 0 none=0:=by simp [HT.sIx]
  have e1:HT.sIx xs.length xs.length (some (c:Int))=c:=by
    simp only [HT.sIx];split <;> lia
  unfold dD;rw [e0,e1,List.drop_zero];rfl
theorem qB (xs:List V) (c:Nat):dD xs none (some (c:Int))=xs.take c:=by
  by_cases h:c≤xs.length
  · exact fq xs c h
  · have e0:HT.sIx xs.length 0 none=0:=by simp [HT.sIx]
    have e1:HT.sIx xs.length xs.length (some (c:Int))=xs.length:=by
      simp only [HT.sIx];split <;> lia
    unfold dD;rw [e0,e1,List.drop_zero,Nat.sub_zero,abE,abh (by lia)]
theorem gB (xs:List V) (c:Nat) (h:c≤xs.length):dD xs (some (c:Int)) none=xs.drop c:=by
  have e0:HT.sIx xs.length xs.length none=xs.length:=by simp [HT.sIx]
  have e1:HT.sIx xs.length 0 (some (c:Int))=c:=by
    simp only [HT.sIx];split <;> lia
  unfold dD;rw [e0,e1,abh (by rw [abl];exact aad _)]
theorem qS {A B:List PyData} {d:PyData} (h:aY d=false):pN (.list (A++[d]++B))=true:=by
  show (!(decide (1≤(A++[d]++B).length) && decide ((A++[d]++B).length≤9) && (A++[d]++B).all aY))=true;have : (A++[d]++B).all aY=false:=by
    rw [List.all_append,List.all_append];simp [h]
  rw [this];simp
def GsB (H:Hp) (u:V):Prop:=∃ d,Dat H d u∧OkD d∧szD d≤10∧d.depth≤3∧aY d=false
theorem LT.old {T:Addr} {H:Hp} (h:LT T H):∃ oT,H T=some oT:=by obtain ⟨tp,h⟩:=h;exact ⟨_,h.tab⟩
def lV (T:Addr):Sp:=fun vs H Q _=>∃ oT,vs=[]∧H T=some oT∧∀ p xs H',Same H H'→H p=none→H' p=some (.lst xs)→xs.length≤100→(∀ x∈xs,Gq uN (off T H') x)→Q (.ref p) H'
def lW (T:Addr):Sp:=fun vs H Q _=>∃ wl r ns M oT,vs=[.ref wl,.ref r]∧Wel H wl M∧M < 999990000∧H T=some oT∧T≠wl∧H r=some (.lst (ns.map V.int))∧r≠wl∧r≠T∧1≤ns.length∧ns.length≤9∧Small ns∧∀ p xs H',But wl H H'→Wel H' wl (M+1)→H p=none→H' p=some (.lst xs)→xs.length≤100→(∀ x∈xs,Gq pN (off T H') x)→Q (.ref p) H'
theorem a_ {H:Hp} {p:Addr} (n:H p=none) (o:HO):upd H p o p=some o:=ad
theorem ua:PrD (.dict [(.int 1,.int 2)]):=by unfold PrD;decide +kernel
theorem re {ds:List PyData} (h:ds.length=10):pN (.list ds)=true:=by
  show (!(decide (1≤ds.length) && decide (ds.length≤9) && ds.all aY))=true;rw [h];rfl
section
variable {P:Program} {w:World} {K:aab} {mg:Str→Option Value} {base:Heap} {f:Addr} {fd:FuncData}
abbrev c_:Stmt:=top 48
theorem dN:FnScope ["some"] [] (am c_):=⟨rfl,rfl,rfl,by decide +kernel,rfl,by decide +kernel,by decide +kernel⟩
theorem kU {T:Addr} (F:Fun K "_law_no_signs" "_law_no_signs" c_ f fd):FnOk P w K mg base CX0 1 f fd [] (lV T):=by
  refine F.ok dN (fun vs H Q E h=>?_) (fun cdv A outer s H vs Q E hr h=>?_)
  · obtain ⟨oT,rfl,_⟩:=h;rfl
  obtain ⟨oT,rfl,eT,q⟩:=h;refine ⟨_,(@ag _ _ _ _ _ (@aI _ _ (0) _ _ _ _ (dN).nd rfl (Or.inl rfl) (@aw _ _ _ _ (@aa _ _ _ _ _ eo (@aa _ _ _ _ _ af (@aa _ _ _ _ _ cI (@aa _ _ _ _ _ aq (@aa _ _ _ _ _ aq (@aa _ _ _ _ _ aq (@aa _ _ _ _ _ aq (@aa _ _ _ _ _ aq (@aa _ _ _ _ _ aq (@aa _ _ _ _ _ aq (@aa _ _ _ _ _ aq (@aa _ _ _ _ _ aq (@aa _ _ _ _ _ (@aw _ _ _ _ (@aa _ _ _ _ _ aq ae (by rfl))) (@aa _ _ _ _ _ (@bV _ _ _ _ _ (@aa _ _ _ _ _ aq ae (by rfl))) (@aa _ _ _ _ _ (@aw _ _ _ _ ae) (@aa _ _ _ _ _ eU ae (by rfl)) (by rfl)) (by rfl)) (by rfl)) (by rfl)) (by rfl)) (by rfl)) (by rfl)) (by rfl)) (by rfl)) (by rfl)) (by rfl)) (by rfl)) (by rfl)) (by rfl)) (by rfl))) (by rfl) (by first|exact .inl rfl|exact .inr rfl|assumption)) (@ai _ _ _ (@az _ _ _ _ (@ap _ _ _ _ _ _ _ _ dz (pv 0) (@aw _ _ _ _ (@aa _ _ _ _ _ aq (@aa _ _ _ _ _ aq (@aa _ _ _ _ _ aq ae (by rfl)) (by rfl)) (by rfl))))))),?_⟩;refine ⟨(by show 1≤sizeLine;decide),fun p1 n1=>⟨(by show 1≤sizeLine;decide),fun p2 n2=>⟨(by show 0≤sizeLine;decide),fun p3 n3=>fun p4 n4=>⟨(by show 16≤sizeLine;decide),fun p5 n5=>?_⟩⟩⟩⟩;have k1:=Same.new n1 (.lst [.str "+"]);have k2:=Same.new n2 (.tup [.str "+"]);have k3:=Same.new n3 (.lst []);have k4:=Same.new n4 (.dK []);have k5:=Same.new n5 (.lst [.non,.int 0,.bl true,.str "",.str "-+",.str "*+",.str "++",.str "+-*+",.str "/",.str "+ ",.str "+/",.str "a",.ref p1,.ref p2,.ref p3,.ref p4]);have K2:=k1.trans k2;have K3:=K2.trans k3;have K4:=K3.trans k4;have K5:=K4.trans k5;refine ⟨_,rfl,(by show 3≤sizeLine;decide),fun p6 n6=>⟨p5,p6,_,_,rfl,rfl,(Same.new n6 _) _ _ ad,ad,(by show 19≤sizeLine;decide),fun p7 n7=>?_⟩⟩;have k6:=Same.new n6 (.lst [.str "*-",.str "+*-",.str "+ -"]);have k7:=Same.new n7 (.lst ([.non,.int 0,.bl true,.str "",.str "-+",.str "*+",.str "++",.str "+-*+",.str "/",.str "+ ",.str "+/",.str "a",.ref p1,.ref p2,.ref p3,.ref p4]++[.str "*-",.str "+*-",.str "+ -"]));have K6:=K5.trans k6;have K7:=K6.trans k7;have f1:=(a8 (cK eT (Same.refl _) n1)).trans (k7 _ _ (k6 _ _ (k5 _ _ (k4 _ _ (k3 _ _ (k2 _ _ (ad (a:=p1))))))));have f2:=(a8 (cK eT k1 n2)).trans (k7 _ _ (k6 _ _ (k5 _ _ (k4 _ _ (k3 _ _ (ad (a:=p2)))))));have f3:=(a8 (cK eT K2 n3)).trans (k7 _ _ (k6 _ _ (k5 _ _ (k4 _ _ (ad (a:=p3))))));have f4:=(a8 (cK eT K3 n4)).trans (k7 _ _ (k6 _ _ (k5 _ _ (ad (a:=p4)))));refine q p7 _ _ K7 (K6.free n7) ad (by show 19≤100;decide) (fun x hm=>?_);simp only [abZ,abV,aay,abe,or_false] at hm;rcases hm with rfl|rfl|rfl|rfl|rfl|rfl|rfl|rfl|rfl|rfl|rfl|rfl|rfl|rfl|rfl|rfl|rfl|rfl|rfl
  · exact mF rfl
  · exact ql _ (by decide) rfl
  · exact nv _ rfl
  · exact bZ _ (by decide +kernel) (by decide +kernel)
  · exact bZ _ (by decide +kernel) (by decide +kernel)
  · exact bZ _ (by decide +kernel) (by decide +kernel)
  · exact bZ _ (by decide +kernel) (by decide +kernel)
  · exact bZ _ (by decide +kernel) (by decide +kernel)
  · exact bZ _ (by decide +kernel) (by decide +kernel)
  · exact bZ _ (by decide +kernel) (by decide +kernel)
  · exact bZ _ (by decide +kernel) (by decide +kernel)
  · exact bZ _ (by decide +kernel) (by decide +kernel)
  · exact di f1 (rP "+") (by simp only [OkAll,OkD];decide +kernel) (by simp [szAll,szD]) (by simp [aaD,aaE]) rfl
  · exact iJ f2 (rP "+") (by simp only [OkAll,OkD];decide +kernel) (by simp [szAll,szD]) (by simp [aaD,aaE]) rfl
  · exact di f3 nJ (by simp only [OkAll]) (by simp [szAll]) (by simp [aaE]) rfl
  · exact jT f4 rfl
  · exact bZ _ (by decide +kernel) (by decide +kernel)
  · exact bZ _ (by decide +kernel) (by decide +kernel)
  · exact bZ _ (by decide +kernel) (by decide +kernel)
abbrev du:Stmt:=top 47
theorem cz:FnScope ["well","row","at","odd","some"] ["well","row"] (am du):=⟨rfl,rfl,rfl,by decide +kernel,rfl,by decide +kernel,by decide +kernel⟩
theorem l6 {T:Addr} (F:Fun K "_law_no_rows" "_law_no_rows" du f fd) (B:Bu K mg) (C__law_draw:Cal P w K mg base "_law_draw" 2 ["well","many"] gb):FnOk P w K mg base CX0 3 f fd ["well","row"] (lW T):=by
  refine F.ok cz (fun vs H Q E h=>?_) (fun cdv A outer s H vs Q E hr h=>?_)
  · obtain ⟨wl,r,ns,M,oT,rfl,_⟩:=h;rfl
  obtain ⟨wl,r,ns,M,oT,rfl,hw,hM,eT,nTw,er,nrw,nrT,h1,h9,sm,q⟩:=h;refine ⟨_,(@ag _ _ _ _ _ (@aI _ _ (2) _ _ _ _ (cz).nd rfl (Or.inr rfl) (@aB _ _ _ _ _ _ _ _ _ _ _ C__law_draw hr (by lia) rfl (@aa _ _ _ _ _ (pv 0) (@aa _ _ _ _ _ (@aC _ _ _ _ _ _ _ _ _ cf rfl B.ilen ab1 (@aa _ _ _ _ _ (pv 1) ae (by rfl)) (by decide) (by decide) (by rfl) (by rfl)) ae (by rfl)) (by rfl)) (by decide) (by rfl) (by rfl)) (by rfl) (by first|exact .inl rfl|exact .inr rfl|assumption)) (@ag _ _ _ _ _ (@aI _ _ (3) _ _ _ _ (cz).nd rfl (Or.inl rfl) (@aw _ _ _ _ (@aa _ _ _ _ _ eo (@aa _ _ _ _ _ cI (@aa _ _ _ _ _ cI (@aa _ _ _ _ _ aq (@aa _ _ _ _ _ (@aw _ _ _ _ (@aa _ _ _ _ _ af ae (by rfl))) (@aa _ _ _ _ _ (@bV _ _ _ _ _ (@aa _ _ _ _ _ af ae (by rfl))) (@aa _ _ _ _ _ eU (@aa _ _ _ _ _ aq (@aa _ _ _ _ _ (@bV _ _ _ _ _ (@aa _ _ _ _ _ aq (@aa _ _ _ _ _ af (@aa _ _ _ _ _ af ae (by rfl)) (by rfl)) (by rfl))) (@aa _ _ _ _ _ aq ae (by rfl)) (by rfl)) (by rfl)) (by rfl)) (by rfl)) (by rfl)) (by rfl)) (by rfl)) (by rfl)) (by rfl))) (by rfl) (by first|exact .inl rfl|exact .inr rfl|assumption)) (@ag _ _ _ _ _ (@aI _ _ (4) _ _ _ _ (cz).nd rfl (Or.inl rfl) (@aw _ _ _ _ (@aa _ _ _ _ _ eo (@aa _ _ _ _ _ af (@aa _ _ _ _ _ cI (@aa _ _ _ _ _ aq (@aa _ _ _ _ _ aq (@aa _ _ _ _ _ (@bV _ _ _ _ _ ae) (@aa _ _ _ _ _ (@aw _ _ _ _ ae) (@aa _ _ _ _ _ eU (@aa _ _ _ _ _ (@fi _ _ _ _ _ _ _ _ _ ja rfl B.ituple PyProof.Rows.boot_tuple (@aa _ _ _ _ _ (pv 1) ae (by rfl)) (by decide) (by decide) (by rfl) (by rfl)) (@aa _ _ _ _ _ (@aw _ _ _ _ (@aa _ _ _ _ _ (pv 1) ae (by rfl))) (@aa _ _ _ _ _ (@ap _ _ _ _ _ _ _ _ cQ (@aw _ _ _ _ (@aa _ _ _ _ _ af ae (by rfl))) af) (@aa _ _ _ _ _ (@mY _ _ _ _ _ (@kG _ _ _ _ _ _ _ _ _ af af mW) rfl rfl (by simp) (by decide)) ae (by rfl)) (by rfl)) (by rfl)) (by rfl)) (by rfl)) (by rfl)) (by rfl)) (by rfl)) (by rfl)) (by rfl)) (by rfl)) (by rfl))) (by rfl) (by first|exact .inl rfl|exact .inr rfl|assumption)) (@ag _ _ _ _ _ (@bA _ _ _ _ (@kP _ _ _ _ _ _ _ _ _ _ _ _ abH acn aco gv (pv 4) (@aa _ _ _ _ _ (@ap _ _ _ _ _ _ _ _ dz (pv 1) (@ap _ _ _ _ _ _ _ _ cQ (@aw _ _ _ _ (@aa _ _ _ _ _ af ae (by rfl))) (@ap _ _ _ _ _ _ _ _ dw af (@aC _ _ _ _ _ _ _ _ _ cf rfl B.ilen ab1 (@aa _ _ _ _ _ (pv 1) ae (by rfl)) (by decide) (by decide) (by rfl) (by rfl))))) ae (by rfl)) (by rfl) (by rfl) (by rfl) (by rfl) (by rfl)) (by rfl)) (@ai _ _ _ (@az _ _ _ _ (@ap _ _ _ _ _ _ _ _ dz (pv 4) (@jj _ _ _ _ _ _ _ _ (["thing","row","at"]) ([none,some 1,some 2]) _ _ _ _ rfl (@ce _ _ _ _ (pv 3)) rfl ⟨rfl,⟨rfl,trivial⟩⟩ ⟨⟨rfl,Or.inl rfl,Or.inl rfl⟩,⟨⟨rfl,Or.inl rfl,Or.inl rfl⟩,trivial⟩⟩ (fun _ _ _ _=>⟨(@aD _ _ (0) _ (show acw (["thing","row","at"]:List Str) by decide +kernel) rfl (Or.inl rfl) (.inr rfl)),dP,(@ap _ _ _ _ _ _ _ _ dz (@ap _ _ _ _ _ _ _ _ dz (@fQ _ _ _ _ _ _ _ _ _ _ (@kg _ _ rfl) (pv 1) gU (@gR _ _ _ (pv 2))) (@aw _ _ _ _ (@aa _ _ _ _ _ (pv 0) ae (by rfl)))) (@fQ _ _ _ _ _ _ _ _ _ _ (@kg _ _ rfl) (pv 1) (@gR _ _ _ (@ap _ _ _ _ _ _ _ _ dH (pv 2) af)) gU))⟩) (by rfl) (by rfl) (by rfl) (by rfl) (by intro _;rfl))))))))),?_⟩;have hl:(ns.map V.int).length=ns.length:=aak _;have t1:(1:Nat)≤sizeLine:=by decide
  refine ⟨_,rfl,_,rfl,r,_,rfl,.inl (SqL.of er),wl,((ns.map V.int).length:Nat),M,rfl,by lia,by rw [hl];lia,hw,by lia,fun at' H1 a1 b1 g1 hw1=>?_⟩;rw [hl] at b1;have er1:=g1 _ _ nrw er;have eT1:=g1 _ _ nTw eT;have K_H1:=Same.refl H1;refine ⟨t1,fun p1 n_p1=>?_⟩;have k_p1:=Same.new n_p1 (.lst [.int 1]);have e_p1:upd H1 p1 (.lst [.int 1]) p1=some (.lst [.int 1]):=ad;generalize upd H1 p1 (.lst [.int 1])=h_p1 at k_p1 e_p1 ⊢;have z_p1:p1≠T:=cK eT1 K_H1 n_p1;have K_h_p1:=K_H1.trans k_p1;refine ⟨t1,fun p2 n_p2=>?_⟩;have k_p2:=Same.new n_p2 (.tup [.int 1]);have e_p2:upd h_p1 p2 (.tup [.int 1]) p2=some (.tup [.int 1]):=ad;generalize upd h_p1 p2 (.tup [.int 1])=h_p2 at k_p2 e_p2 ⊢;have z_p2:p2≠T:=cK eT1 K_h_p1 n_p2;have K_h_p2:=K_h_p1.trans k_p2;refine fun p3 n_p3=>?_;have k_p3:=Same.new n_p3 (.dK []);have e_p3:upd h_p2 p3 (.dK []) p3=some (.dK []):=ad;generalize upd h_p2 p3 (.dK [])=h_p3 at k_p3 e_p3 ⊢;have z_p3:p3≠T:=cK eT1 K_h_p2 n_p3;have K_h_p3:=K_h_p2.trans k_p3;refine ⟨(by show 3≤sizeLine;decide),fun p4 n_p4=>?_⟩;have k_p4:=Same.new n_p4 (.tup [.str "+",.int 1,.int 2]);have e_p4:upd h_p3 p4 (.tup [.str "+",.int 1,.int 2]) p4=some (.tup [.str "+",.int 1,.int 2]):=ad;generalize upd h_p3 p4 (.tup [.str "+",.int 1,.int 2])=h_p4 at k_p4 e_p4 ⊢;have z_p4:p4≠T:=cK eT1 K_h_p3 n_p4;have K_h_p4:=K_h_p3.trans k_p4;refine ⟨(by show 10≤sizeLine;decide),fun p5 n_p5=>?_⟩;have k_p5:=Same.new n_p5 (.lst [.non,.bl true,.bl false,.str "1",.ref p1,.ref p2,.ref p3,.str "",.ref p4,.str "a"]);have e_p5:upd h_p4 p5 (.lst [.non,.bl true,.bl false,.str "1",.ref p1,.ref p2,.ref p3,.str "",.ref p4,.str "a"]) p5=some (.lst [.non,.bl true,.bl false,.str "1",.ref p1,.ref p2,.ref p3,.str "",.ref p4,.str "a"]):=ad;generalize upd h_p4 p5 (.lst [.non,.bl true,.bl false,.str "1",.ref p1,.ref p2,.ref p3,.str "",.ref p4,.str "a"])=h_p5 at k_p5 e_p5 ⊢;have z_p5:p5≠T:=cK eT1 K_h_p4 n_p5;have K_h_p5:=K_h_p4.trans k_p5;refine ⟨(by show 0≤sizeLine;decide),fun q1 n_q1=>?_⟩;have k_q1:=Same.new n_q1 (.tup []);have e_q1:upd h_p5 q1 (.tup []) q1=some (.tup []):=ad;generalize upd h_p5 q1 (.tup [])=h_q1 at k_q1 e_q1 ⊢;have z_q1:q1≠T:=cK eT1 K_h_p5 n_q1;have K_h_q1:=K_h_p5.trans k_q1;refine ⟨(by show 0≤sizeLine;decide),fun q2 n_q2=>?_⟩;have k_q2:=Same.new n_q2 (.lst []);have e_q2:upd h_q1 q2 (.lst []) q2=some (.lst []):=ad;generalize upd h_q1 q2 (.lst [])=h_q2 at k_q2 e_q2 ⊢;have z_q2:q2≠T:=cK eT1 K_h_q1 n_q2;have K_h_q2:=K_h_q1.trans k_q2;refine fun q3 n_q3=>?_;have k_q3:=Same.new n_q3 (.dK []);have e_q3:upd h_q2 q3 (.dK []) q3=some (.dK []):=ad;generalize upd h_q2 q3 (.dK [])=h_q3 at k_q3 e_q3 ⊢;have z_q3:q3≠T:=cK eT1 K_h_q2 n_q3;have K_h_q3:=K_h_q2.trans k_q3;refine ⟨_,rfl,r,_,rfl,.inl ⟨SqL.of (K_h_q3 _ _ er1),fun q4 n_q4=>?_⟩⟩;have k_q4:=Same.new n_q4 (.tup (ns.map V.int));have e_q4:upd h_q3 q4 (.tup (ns.map V.int)) q4=some (.tup (ns.map V.int)):=ad;generalize upd h_q3 q4 (.tup (ns.map V.int))=h_q4 at k_q4 e_q4 ⊢;have z_q4:q4≠T:=cK eT1 K_h_q3 n_q4;have K_h_q4:=K_h_q3.trans k_q4;refine ⟨_,rfl,t1,fun q5 n_q5=>?_⟩;have k_q5:=Same.new n_q5 (.lst [.ref r]);have e_q5:upd h_q4 q5 (.lst [.ref r]) q5=some (.lst [.ref r]):=ad;generalize upd h_q4 q5 (.lst [.ref r])=h_q5 at k_q5 e_q5 ⊢;have z_q5:q5≠T:=cK eT1 K_h_q4 n_q5;have K_h_q5:=K_h_q4.trans k_q5;refine ⟨t1,fun q6 n_q6=>?_⟩;have k_q6:=Same.new n_q6 (.lst [.int 1]);have e_q6:upd h_q5 q6 (.lst [.int 1]) q6=some (.lst [.int 1]):=ad;generalize upd h_q5 q6 (.lst [.int 1])=h_q6 at k_q6 e_q6 ⊢;have z_q6:q6≠T:=cK eT1 K_h_q5 n_q6;have K_h_q6:=K_h_q5.trans k_q6;refine ⟨q6,10,_,rfl,rfl,e_q6,by decide,by decide,(by decide),fun q7 n_q7=>?_⟩;have k_q7:=Same.new n_q7 (.lst (aae (10:Int).toNat [V.int 1]).flatten);have e_q7:upd h_q6 q7 (.lst (aae (10:Int).toNat [V.int 1]).flatten) q7=some (.lst (aae (10:Int).toNat [V.int 1]).flatten):=ad;generalize upd h_q6 q7 (.lst (aae (10:Int).toNat [V.int 1]).flatten)=h_q7 at k_q7 e_q7 ⊢;have z_q7:q7≠T:=cK eT1 K_h_q6 n_q7;have K_h_q7:=K_h_q6.trans k_q7;refine fun q8 n_q8=>⟨ad,[(.inl 1,.int 2)],rfl,(by show 1≤15;decide),?_⟩
  have em:fL [] [((.inl 1:Key),V.int 2)]=[(.inl 1,.int 2)]:=rfl;rw [em];have k_q8:Same h_q7 (upd (upd h_q7 q8 (.dK [])) q8 (.dK [(.inl 1,.int 2)])):=(Same.new n_q8 _).upd n_q8;have e_q8:upd (upd h_q7 q8 (.dK [])) q8 (.dK [(.inl 1,.int 2)]) q8=some (.dK [(.inl 1,.int 2)]):=ad;generalize upd (upd h_q7 q8 (.dK [])) q8 (.dK [(.inl 1,.int 2)])=h_q8 at k_q8 e_q8 ⊢;have z_q8:q8≠T:=cK eT1 K_h_q7 n_q8;have K_h_q8:=K_h_q7.trans k_q8;refine ⟨(by show 12≤sizeLine;decide),fun q9 n_q9=>?_⟩;have k_q9:=Same.new n_q9 (.lst [.non,.int 0,.bl true,.str "",.str "1 2",.ref q1,.ref q2,.ref q3,.ref q4,.ref q5,.ref q7,.ref q8]);have e_q9:upd h_q8 q9 (.lst [.non,.int 0,.bl true,.str "",.str "1 2",.ref q1,.ref q2,.ref q3,.ref q4,.ref q5,.ref q7,.ref q8]) q9=some (.lst [.non,.int 0,.bl true,.str "",.str "1 2",.ref q1,.ref q2,.ref q3,.ref q4,.ref q5,.ref q7,.ref q8]):=ad;generalize upd h_q8 q9 (.lst [.non,.int 0,.bl true,.str "",.str "1 2",.ref q1,.ref q2,.ref q3,.ref q4,.ref q5,.ref q7,.ref q8])=h_q9 at k_q9 e_q9 ⊢;have z_q9:q9≠T:=cK eT1 K_h_q8 n_q9;have K_h_q9:=K_h_q8.trans k_q9;refine ⟨_,rfl,.inl ⟨rfl,_,SqL.of e_q9⟩,_,rfl,t1,fun s1 n_s1=>?_⟩;have k_s1:=Same.new n_s1 (.lst [.int 1]);have e_s1:upd h_q9 s1 (.lst [.int 1]) s1=some (.lst [.int 1]):=ad;generalize upd h_q9 s1 (.lst [.int 1])=h_s1 at k_s1 e_s1 ⊢;have z_s1:s1≠T:=cK eT1 K_h_q9 n_s1;have K_h_s1:=K_h_q9.trans k_s1;refine ⟨_,rfl,r,_,rfl,.inl (SqL.of (K_h_s1 _ _ er1)),_,_,rfl,rfl,s1,_,_,rfl,rfl,e_s1,by rw [hl];lia,by rw [hl];lia,dh (by simp only [aaO,aba];lia),fun s2 n_s2=>?_⟩;rw [hl];have k_s2:=Same.new n_s2 (.lst (aae (10 - (ns.length:Int)).toNat [V.int 1]).flatten);have e_s2:upd h_s1 s2 (.lst (aae (10 - (ns.length:Int)).toNat [V.int 1]).flatten) s2=some (.lst (aae (10 - (ns.length:Int)).toNat [V.int 1]).flatten):=ad;generalize upd h_s1 s2 (.lst (aae (10 - (ns.length:Int)).toNat [V.int 1]).flatten)=h_s2 at k_s2 e_s2 ⊢;have z_s2:s2≠T:=cK eT1 K_h_s1 n_s2;have K_h_s2:=K_h_s1.trans k_s2;refine ⟨r,s2,_,_,rfl,rfl,K_h_s2 _ _ er1,e_s2,dh (by rw [hl,nh];simp only [aaO,aba];lia),fun s3 n_s3=>?_⟩;have k_s3:=Same.new n_s3 (.lst (ns.map V.int++(aae (10 - (ns.length:Int)).toNat [V.int 1]).flatten));have e_s3:upd h_s2 s3 (.lst (ns.map V.int++(aae (10 - (ns.length:Int)).toNat [V.int 1]).flatten)) s3=some (.lst (ns.map V.int++(aae (10 - (ns.length:Int)).toNat [V.int 1]).flatten)):=ad;generalize upd h_s2 s3 (.lst (ns.map V.int++(aae (10 - (ns.length:Int)).toNat [V.int 1]).flatten))=h_s3 at k_s3 e_s3 ⊢;have z_s3:s3≠T:=cK eT1 K_h_s2 n_s3;have K_h_s3:=K_h_s2.trans k_s3;have e9:=k_s3 _ _ (k_s2 _ _ (k_s1 _ _ (e_q9)));refine ⟨q9,_,_,rfl,rfl,e9,(by show 12 < sizeLine;decide),?_⟩;have w_p1:p1≠q9:=ah (k_q8 _ _ (k_q7 _ _ (k_q6 _ _ (k_q5 _ _ (k_q4 _ _ (k_q3 _ _ (k_q2 _ _ (k_q1 _ _ (k_p5 _ _ (k_p4 _ _ (k_p3 _ _ (k_p2 _ _ (e_p1))))))))))))) n_q9;have f_p1:upd h_s3 q9 (.lst ([.non,.int 0,.bl true,.str "",.str "1 2",.ref q1,.ref q2,.ref q3,.ref q4,.ref q5,.ref q7,.ref q8]++[.ref s3])) p1=some (.lst [.int 1]):=by rw [aj w_p1];exact k_s3 _ _ (k_s2 _ _ (k_s1 _ _ (k_q9 _ _ (k_q8 _ _ (k_q7 _ _ (k_q6 _ _ (k_q5 _ _ (k_q4 _ _ (k_q3 _ _ (k_q2 _ _ (k_q1 _ _ (k_p5 _ _ (k_p4 _ _ (k_p3 _ _ (k_p2 _ _ (e_p1))))))))))))))))
  have w_p2:p2≠q9:=ah (k_q8 _ _ (k_q7 _ _ (k_q6 _ _ (k_q5 _ _ (k_q4 _ _ (k_q3 _ _ (k_q2 _ _ (k_q1 _ _ (k_p5 _ _ (k_p4 _ _ (k_p3 _ _ (e_p2)))))))))))) n_q9;have f_p2:upd h_s3 q9 (.lst ([.non,.int 0,.bl true,.str "",.str "1 2",.ref q1,.ref q2,.ref q3,.ref q4,.ref q5,.ref q7,.ref q8]++[.ref s3])) p2=some (.tup [.int 1]):=by rw [aj w_p2];exact k_s3 _ _ (k_s2 _ _ (k_s1 _ _ (k_q9 _ _ (k_q8 _ _ (k_q7 _ _ (k_q6 _ _ (k_q5 _ _ (k_q4 _ _ (k_q3 _ _ (k_q2 _ _ (k_q1 _ _ (k_p5 _ _ (k_p4 _ _ (k_p3 _ _ (e_p2)))))))))))))))
  have w_p3:p3≠q9:=ah (k_q8 _ _ (k_q7 _ _ (k_q6 _ _ (k_q5 _ _ (k_q4 _ _ (k_q3 _ _ (k_q2 _ _ (k_q1 _ _ (k_p5 _ _ (k_p4 _ _ (e_p3))))))))))) n_q9;have f_p3:upd h_s3 q9 (.lst ([.non,.int 0,.bl true,.str "",.str "1 2",.ref q1,.ref q2,.ref q3,.ref q4,.ref q5,.ref q7,.ref q8]++[.ref s3])) p3=some (.dK []):=by rw [aj w_p3];exact k_s3 _ _ (k_s2 _ _ (k_s1 _ _ (k_q9 _ _ (k_q8 _ _ (k_q7 _ _ (k_q6 _ _ (k_q5 _ _ (k_q4 _ _ (k_q3 _ _ (k_q2 _ _ (k_q1 _ _ (k_p5 _ _ (k_p4 _ _ (e_p3))))))))))))))
  have w_p4:p4≠q9:=ah (k_q8 _ _ (k_q7 _ _ (k_q6 _ _ (k_q5 _ _ (k_q4 _ _ (k_q3 _ _ (k_q2 _ _ (k_q1 _ _ (k_p5 _ _ (e_p4)))))))))) n_q9;have f_p4:upd h_s3 q9 (.lst ([.non,.int 0,.bl true,.str "",.str "1 2",.ref q1,.ref q2,.ref q3,.ref q4,.ref q5,.ref q7,.ref q8]++[.ref s3])) p4=some (.tup [.str "+",.int 1,.int 2]):=by rw [aj w_p4];exact k_s3 _ _ (k_s2 _ _ (k_s1 _ _ (k_q9 _ _ (k_q8 _ _ (k_q7 _ _ (k_q6 _ _ (k_q5 _ _ (k_q4 _ _ (k_q3 _ _ (k_q2 _ _ (k_q1 _ _ (k_p5 _ _ (e_p4)))))))))))))
  have w_q1:q1≠q9:=ah (k_q8 _ _ (k_q7 _ _ (k_q6 _ _ (k_q5 _ _ (k_q4 _ _ (k_q3 _ _ (k_q2 _ _ (e_q1)))))))) n_q9;have f_q1:upd h_s3 q9 (.lst ([.non,.int 0,.bl true,.str "",.str "1 2",.ref q1,.ref q2,.ref q3,.ref q4,.ref q5,.ref q7,.ref q8]++[.ref s3])) q1=some (.tup []):=by rw [aj w_q1];exact k_s3 _ _ (k_s2 _ _ (k_s1 _ _ (k_q9 _ _ (k_q8 _ _ (k_q7 _ _ (k_q6 _ _ (k_q5 _ _ (k_q4 _ _ (k_q3 _ _ (k_q2 _ _ (e_q1)))))))))))
  have w_q2:q2≠q9:=ah (k_q8 _ _ (k_q7 _ _ (k_q6 _ _ (k_q5 _ _ (k_q4 _ _ (k_q3 _ _ (e_q2))))))) n_q9;have f_q2:upd h_s3 q9 (.lst ([.non,.int 0,.bl true,.str "",.str "1 2",.ref q1,.ref q2,.ref q3,.ref q4,.ref q5,.ref q7,.ref q8]++[.ref s3])) q2=some (.lst []):=by rw [aj w_q2];exact k_s3 _ _ (k_s2 _ _ (k_s1 _ _ (k_q9 _ _ (k_q8 _ _ (k_q7 _ _ (k_q6 _ _ (k_q5 _ _ (k_q4 _ _ (k_q3 _ _ (e_q2))))))))))
  have w_q3:q3≠q9:=ah (k_q8 _ _ (k_q7 _ _ (k_q6 _ _ (k_q5 _ _ (k_q4 _ _ (e_q3)))))) n_q9;have f_q3:upd h_s3 q9 (.lst ([.non,.int 0,.bl true,.str "",.str "1 2",.ref q1,.ref q2,.ref q3,.ref q4,.ref q5,.ref q7,.ref q8]++[.ref s3])) q3=some (.dK []):=by rw [aj w_q3];exact k_s3 _ _ (k_s2 _ _ (k_s1 _ _ (k_q9 _ _ (k_q8 _ _ (k_q7 _ _ (k_q6 _ _ (k_q5 _ _ (k_q4 _ _ (e_q3)))))))))
  have w_q4:q4≠q9:=ah (k_q8 _ _ (k_q7 _ _ (k_q6 _ _ (k_q5 _ _ (e_q4))))) n_q9;have f_q4:upd h_s3 q9 (.lst ([.non,.int 0,.bl true,.str "",.str "1 2",.ref q1,.ref q2,.ref q3,.ref q4,.ref q5,.ref q7,.ref q8]++[.ref s3])) q4=some (.tup (ns.map V.int)):=by rw [aj w_q4];exact k_s3 _ _ (k_s2 _ _ (k_s1 _ _ (k_q9 _ _ (k_q8 _ _ (k_q7 _ _ (k_q6 _ _ (k_q5 _ _ (e_q4))))))))
  have w_q5:q5≠q9:=ah (k_q8 _ _ (k_q7 _ _ (k_q6 _ _ (e_q5)))) n_q9;have f_q5:upd h_s3 q9 (.lst ([.non,.int 0,.bl true,.str "",.str "1 2",.ref q1,.ref q2,.ref q3,.ref q4,.ref q5,.ref q7,.ref q8]++[.ref s3])) q5=some (.lst [.ref r]):=by rw [aj w_q5];exact k_s3 _ _ (k_s2 _ _ (k_s1 _ _ (k_q9 _ _ (k_q8 _ _ (k_q7 _ _ (k_q6 _ _ (e_q5)))))))
  have w_q7:q7≠q9:=ah (k_q8 _ _ (e_q7)) n_q9;have f_q7:upd h_s3 q9 (.lst ([.non,.int 0,.bl true,.str "",.str "1 2",.ref q1,.ref q2,.ref q3,.ref q4,.ref q5,.ref q7,.ref q8]++[.ref s3])) q7=some (.lst (aae (10:Int).toNat [V.int 1]).flatten):=by rw [aj w_q7];exact k_s3 _ _ (k_s2 _ _ (k_s1 _ _ (k_q9 _ _ (k_q8 _ _ (e_q7)))))
  have w_q8:q8≠q9:=ah (e_q8) n_q9;have f_q8:upd h_s3 q9 (.lst ([.non,.int 0,.bl true,.str "",.str "1 2",.ref q1,.ref q2,.ref q3,.ref q4,.ref q5,.ref q7,.ref q8]++[.ref s3])) q8=some (.dK [(.inl 1,.int 2)]):=by rw [aj w_q8];exact k_s3 _ _ (k_s2 _ _ (k_s1 _ _ (k_q9 _ _ (e_q8))))
  have w_s3:s3≠q9:=aa3 (ah (k_s2 _ _ (k_s1 _ _ (e_q9))) n_s3);have f_s3:upd h_s3 q9 (.lst ([.non,.int 0,.bl true,.str "",.str "1 2",.ref q1,.ref q2,.ref q3,.ref q4,.ref q5,.ref q7,.ref q8]++[.ref s3])) s3=some (.lst (ns.map V.int++(aae (10 - (ns.length:Int)).toNat [V.int 1]).flatten)):=by rw [aj w_s3];exact e_s3
  have w_p5:p5≠q9:=ah (k_q8 _ _ (k_q7 _ _ (k_q6 _ _ (k_q5 _ _ (k_q4 _ _ (k_q3 _ _ (k_q2 _ _ (k_q1 _ _ (e_p5))))))))) n_q9;have f_p5:upd h_s3 q9 (.lst ([.non,.int 0,.bl true,.str "",.str "1 2",.ref q1,.ref q2,.ref q3,.ref q4,.ref q5,.ref q7,.ref q8]++[.ref s3])) p5=some (.lst [.non,.bl true,.bl false,.str "1",.ref p1,.ref p2,.ref p3,.str "",.ref p4,.str "a"]):=by rw [aj w_p5];exact k_s3 _ _ (k_s2 _ _ (k_s1 _ _ (k_q9 _ _ (k_q8 _ _ (k_q7 _ _ (k_q6 _ _ (k_q5 _ _ (k_q4 _ _ (k_q3 _ _ (k_q2 _ _ (k_q1 _ _ (e_p5))))))))))))
  have wr:r≠q9:=ah (K_h_q8 _ _ er1) n_q9;have fr:upd h_s3 q9 (.lst ([.non,.int 0,.bl true,.str "",.str "1 2",.ref q1,.ref q2,.ref q3,.ref q4,.ref q5,.ref q7,.ref q8]++[.ref s3])) r=some (.lst (ns.map V.int)):=by rw [aj wr];exact K_h_s3 _ _ er1
  have f9:upd h_s3 q9 (.lst ([.non,.int 0,.bl true,.str "",.str "1 2",.ref q1,.ref q2,.ref q3,.ref q4,.ref q5,.ref q7,.ref q8]++[.ref s3])) q9=some (.lst ([.non,.int 0,.bl true,.str "",.str "1 2",.ref q1,.ref q2,.ref q3,.ref q4,.ref q5,.ref q7,.ref q8]++[.ref s3])):=ad;have nq9:H1 q9=none:=K_h_q8.free n_q9;have S1:Same H1 (upd h_s3 q9 (.lst ([.non,.int 0,.bl true,.str "",.str "1 2",.ref q1,.ref q2,.ref q3,.ref q4,.ref q5,.ref q7,.ref q8]++[.ref s3]))):=K_h_s3.upd nq9;generalize upd h_s3 q9 (.lst ([.non,.int 0,.bl true,.str "",.str "1 2",.ref q1,.ref q2,.ref q3,.ref q4,.ref q5,.ref q7,.ref q8]++[.ref s3]))=G at f_p1 f_p2 f_p3 f_p4 f_q1 f_q2 f_q3 f_q4 f_q5 f_q7 f_q8 f_s3 f_p5 fr f9 S1 ⊢;clear k_p1 e_p1 K_h_p1 k_p2 e_p2 K_h_p2 k_p3 e_p3 K_h_p3 k_p4 e_p4 K_h_p4 k_p5 e_p5 K_h_p5 k_q1 e_q1 K_h_q1 k_q2 e_q2 K_h_q2 k_q3 e_q3 K_h_q3 k_q4 e_q4 K_h_q4 k_q5 e_q5 K_h_q5 k_q6 e_q6 K_h_q6 k_q7 e_q7 K_h_q7 k_q8 e_q8 K_h_q8 k_q9 e_q9 K_h_q9 k_s1 e_s1 K_h_s1 k_s2 e_s2 K_h_s2 k_s3 e_s3 K_h_s3 e9;have f_p1:=(a8 z_p1).trans f_p1;have f_p2:=(a8 z_p2).trans f_p2;have f_p3:=(a8 z_p3).trans f_p3;have f_p4:=(a8 z_p4).trans f_p4;have f_q1:=(a8 z_q1).trans f_q1;have f_q2:=(a8 z_q2).trans f_q2;have f_q3:=(a8 z_q3).trans f_q3;have f_q4:=(a8 z_q4).trans f_q4;have f_q5:=(a8 z_q5).trans f_q5;have f_q7:=(a8 z_q7).trans f_q7;have f_q8:=(a8 z_q8).trans f_q8;have f_s3:=(a8 z_s3).trans f_s3;have fr':=(a8 (w:=T) nrT).trans fr;have l9:∀ a b,(dD (ns.map V.int) a b).length≤9:=fun a b=>by
    have:=List.length_take_le' (HT.sIx (ns.map V.int).length (ns.map V.int).length b - HT.sIx (ns.map V.int).length 0 a) ((ns.map V.int).drop (HT.sIx (ns.map V.int).length 0 a));unfold dD;rw [abl] at this;lia
  obtain ⟨j,rfl⟩:=Int.eq_ofNat_of_zero_le a1;have hj:j < ns.length:=by lia
  have gs:∀ x∈([.non,.bl true,.bl false,.str "1",.ref p1,.ref p2,.ref p3,.str "",.ref p4,.str "a"]:List V),GsB (off T G) x:=fun x hm=>by
    simp only [aay,abe,or_false] at hm;rcases hm with rfl|rfl|rfl|rfl|rfl|rfl|rfl|rfl|rfl|rfl
    · exact ⟨.none,by simp only [Dat],by simp only [OkD],by simp [szD],by simp [aaD],rfl⟩
    · exact ⟨.bool true,by simp only [Dat],by simp only [OkD],by simp [szD],by simp [aaD],rfl⟩
    · exact ⟨.bool false,by simp only [Dat],by simp only [OkD],by simp [szD],by simp [aaD],rfl⟩
    · exact ⟨.str "1",by simp only [Dat],by simp only [OkD];decide +kernel,by simp [szD],by simp [aaD],rfl⟩
    · exact ⟨.list [.int 1],by simp only [Dat];exact ⟨p1,_,rfl,f_p1,nI 1⟩,by simp only [OkD,OkAll];decide,by simp [szD,szAll],by simp [aaD,aaE],rfl⟩
    · exact ⟨.tuple [.int 1],by simp only [Dat];exact ⟨p2,_,rfl,f_p2,nI 1⟩,by simp only [OkD,OkAll];decide,by simp [szD,szAll],by simp [aaD,aaE],rfl⟩
    · exact ⟨.dict [],by simp only [Dat,DatKv];exact ⟨p3,_,rfl,f_p3,rfl⟩,by simp only [OkD],by simp [szD],by simp [aaD,PyData.depthKv],rfl⟩
    · exact ⟨.str "",by simp only [Dat],by simp only [OkD];decide +kernel,by simp [szD],by simp [aaD],rfl⟩
    · exact ⟨.tuple [.str "+",.int 1,.int 2],by simp only [Dat,DatAll];exact ⟨p4,_,rfl,f_p4,_,_,rfl,rfl,_,_,rfl,rfl,_,_,rfl,rfl,rfl⟩,by simp only [OkD,OkAll];decide +kernel,by simp [szD,szAll],by simp [aaD,aaE],rfl⟩
    · exact ⟨.str "a",by simp only [Dat],by simp only [OkD];decide +kernel,by simp [szD],by simp [aaD],rfl⟩
  have some13:∀ x∈([.non,.int 0,.bl true,.str "",.str "1 2",.ref q1,.ref q2,.ref q3,.ref q4,.ref q5,.ref q7,.ref q8]++[.ref s3]:List V),Gq pN (off T G) x:=fun x hm=>by
    simp only [abZ,abV,aay,abe,or_false] at hm;rcases hm with rfl|rfl|rfl|rfl|rfl|rfl|rfl|rfl|rfl|rfl|rfl|rfl|rfl
    · exact mF rfl
    · exact ql _ (by decide) rfl
    · exact nv _ rfl
    · exact bZ _ (by decide +kernel) rfl
    · exact bZ _ (by decide +kernel) rfl
    · exact iJ f_q1 nJ (by simp only [OkAll]) (by simp [szAll]) (by simp [aaE]) rfl
    · exact di f_q2 nJ (by simp only [OkAll]) (by simp [szAll]) (by simp [aaE]) rfl
    · exact jT f_q3 rfl
    · exact iJ f_q4 (bj ns) (bz sm) (by rw [bT];lia) (by rw [b_];lia) rfl
    · exact di (ds:=[.list (ns.map PyData.int)]) f_q5 (by simp only [DatAll,Dat];exact ⟨_,_,rfl,⟨r,_,rfl,fr',bj ns⟩,rfl⟩) (by simp only [OkAll,OkD];exact ⟨bz sm,trivial⟩) (by simp only [szAll,szD,bT];lia) (by simp only [aaE,aaD,b_];lia) rfl
    · exact di (ds:=(aae 10 (1:Int)).map PyData.int) f_q7 (bj (aae 10 1)) (bz (fun i hi=>by have:=acj hi;lia)) (by decide) (by decide) rfl
    · exact ⟨.dict [(.int 1,.int 2)],by simp only [Dat,DatKv];exact ⟨q8,_,rfl,f_q8,_,_,_,rfl,rfl,rfl,rfl⟩,ua,rfl⟩
    · have el:ns.map V.int++(aae (10 - (ns.length:Int)).toNat [V.int 1]).flatten=(ns++aae (10 - (ns.length:Int)).toNat 1).map V.int:=by
        rw [abb,List.map_replicate];congr 1;generalize (10 - (ns.length:Int)).toNat=k
        induction k with
        | zero=>rfl
        | succ k ih=>rw [abc,abc,abU,ih];rfl
      rw [el] at f_s3;have lz:(ns++aae (10 - (ns.length:Int)).toNat (1:Int)).length=10:=by rw [aax,aaK];lia
      have sm':Small (ns++aae (10 - (ns.length:Int)).toNat (1:Int)):=fun i hi=>by
        rcases aao.mp hi with z|z
        · exact sm i z
        · have:=acj z;lia
      exact di f_s3 (bj _) (bz sm') (by rw [bT,lz];decide) (by rw [b_];lia) (re (by rw [aak,lz]))
  refine ⟨_,rfl,_,rfl,p5,rfl,⟨_,SqL.of f_p5⟩,lg (Trn.list (xs:=[.non,.bl true,.bl false,.str "1",.ref p1,.ref p2,.ref p3,.str "",.ref p4,.str "a"])) (fun i ys H'=>Same G H'∧ys.length=i∧∀ y∈ys,Gq pN (off T H') y) ⟨Same.refl _,rfl,fun _ z=>nomatch z⟩ (fun i ys H' hi z=>⟨SqL.of (z.1 _ _ f_p5),cN (by rw [z.2.1];have : i≤10:=hi;lia)⟩) (fun i x ys H0' H' hi hx z Nx nx=>?_) (fun ys H2 z pL nL=>?_)⟩
  · obtain ⟨rfl,hx⟩:=hx;obtain ⟨S,ly,gy⟩:=z;obtain ⟨d0,d1,d2,d3,d4,d5⟩:=gs x (aan hx);have erS:=S _ _ fr;refine ⟨_,rfl,_,rfl,j,rfl,r,_,rfl,SqL.of erS,fun c1 m1=>⟨_,rfl,t1,fun c2 m2=>⟨c1,c2,_,_,rfl,rfl,(Same.new m2 _) _ _ ad,ad,dh (by have:=l9 none (some (j:Int));simp only [aaO,aba];lia),fun c3 m3=>?_⟩⟩⟩;have k1:=Same.new m1 (.lst (dD (ns.map V.int) none (some (j:Int))));have k2:=Same.new m2 (.lst [x]);have k3:=Same.new m3 (.lst (dD (ns.map V.int) none (some (j:Int))++[x]));have K3:=(k1.trans k2).trans k3;refine ⟨_,rfl,_,rfl,_,_,rfl,rfl,(j:Int)+1,rfl,r,_,rfl,SqL.of (K3 _ _ erS),fun c4 m4=>⟨c3,c4,_,_,rfl,rfl,(Same.new m4 _) _ _ ad,ad,dh (by have:=l9 none (some (j:Int));have:=l9 (some ((j:Int)+1)) none;simp only [aax,aaO,aba];lia),fun c5 m5=>?_⟩⟩;have k4:=Same.new m4 (.lst (dD (ns.map V.int) (some ((j:Int)+1)) none));have k5:=Same.new m5 (.lst (dD (ns.map V.int) none (some (j:Int))++[x]++dD (ns.map V.int) (some ((j:Int)+1)) none));have K5:=(K3.trans k4).trans k5;have z5:c5≠T:=cK eT1 (S1.trans (S.trans (K3.trans k4))) m5;have f5:=(a8 (w:=T) z5).trans (a_ m5 (.lst (dD (ns.map V.int) none (some (j:Int))++[x]++dD (ns.map V.int) (some ((j:Int)+1)) none)));rw [fq _ j (by rw [hl];lia),show (j:Int)+1=((j+1:Nat):Int) from rfl,gB _ (j+1) (by rw [hl];lia),← acH,← List.map_drop] at f5;refine nx _ _ ⟨S.trans K5,by rw [aax,ly];rfl,fun y hy=>?_⟩;rcases aao.mp hy with hy|hy
    · exact (gy y hy).mono (dC K5)
    · rw [aar.mp hy];have h1':=Dat.mono (dC (T:=T) (S.trans K5)) d0 x d1;rw [fq _ j (by rw [hl];lia),show (j:Int)+1=((j+1:Nat):Int) from rfl,gB _ (j+1) (by rw [hl];lia),← acH,← List.map_drop] at h1';rw [fq _ j (by rw [hl];lia),show (j:Int)+1=((j+1:Nat):Int) from rfl,gB _ (j+1) (by rw [hl];lia),← acH,← List.map_drop];refine di (ds:=(ns.take j).map PyData.int++[d0]++(ns.drop (j+1)).map PyData.int) f5 (((bj _).app (by simp only [DatAll];exact ⟨_,_,rfl,h1',rfl⟩)).app (bj _)) (l_ (l_ (bz (sm.take j)) (by simp only [OkAll];exact ⟨d2,trivial⟩)) (bz (sm.drop (j+1)))) ?_ ?_ (qS d5)
      · rw [lO,lO,bT,bT,aaV,abl];simp only [szAll];lia
      · rw [mG,mG,b_,b_];simp only [aaE];lia
  · obtain ⟨S,ly,gy⟩:=z;have kL:=Same.new nL (.lst ys);have SL:=S.trans kL;have ly10:ys.length=10:=ly;refine ⟨q9,pL,_,_,rfl,rfl,kL _ _ (S _ _ f9),ad,dh (by rw [ly10];show 13+10≤1000;decide),fun pR nR=>?_⟩;have kR:=Same.new nR (.lst (([.non,.int 0,.bl true,.str "",.str "1 2",.ref q1,.ref q2,.ref q3,.ref q4,.ref q5,.ref q7,.ref q8]++[.ref s3])++ys));refine q pR _ _ (g1.trans (But.of ((S1.trans SL).trans kR))) (hw1.keep ((S1.trans SL).trans kR) (aa7 _)) (But.free g1 hw1 ((S1.trans SL).free nR)) ad (by rw [aax,ly10];show 13+10≤100;decide) (fun x hx=>?_);rcases aao.mp hx with hx|hx
    · exact (some13 x hx).mono (dC (SL.trans kR))
    · exact (gy x hx).mono (dC (kL.trans kR))
end
open PySem L2
theorem qA (ns:List Int) (lo hi:Option Int):∃ ms:List Int,dD (ns.map V.int) lo hi=ms.map V.int∧ms.length≤ns.length:=by
  refine ⟨(ns.drop (HT.sIx ns.length 0 lo)).take (HT.sIx ns.length ns.length hi - HT.sIx ns.length 0 lo),?_,?_⟩
  · unfold dD;rw [aak,acH,List.map_drop]
  · rw [aaV,abl];lia
theorem LT.of_new {T p:Addr} {H:Hp} (h:LT T H) (n:H p=none):p≠T:=fun z=>by
  obtain ⟨tp,h⟩:=h;have e:=h.tab;rw [← z,n] at e;cases e
theorem LT.well {T wl:Addr} {M:Int} {H H':Hp} (h:LT T H) (w:Wel H wl M) (b:But wl H H'):LT T H':=by
  obtain ⟨x,y,e,_⟩:=w;obtain ⟨tp,h⟩:=h;refine ⟨tp,b _ _ (fun q=>by have z:=h.tab;rw [q,e] at z;cases z) h.tab,h.tri,fun pos' cv hc=>?_⟩;obtain ⟨d,e1,e2⟩:=h.cds pos' cv hc;exact ⟨d,e1,b _ _ (fun q=>by rw [q,e] at e2;cases e2) e2⟩
theorem tq {K:aab} {H:Hp}:∀ (j:Nat) x y,([]:List V)[j]?=some x→([]:List V)[j]?=some y→EqR K H 0 x y true:=fun j x y hx _=>by simp at hx
theorem gH:∀ {a b:List Int},a.map V.int=b.map V.int→a=b
  | [],[],_=>rfl
  | [],_ :: _,h=>by simp at h
  | _ :: _,[],h=>by simp at h
  | x :: a,y :: b,h=>by
    simp only [aaG,List.cons.injEq,V.int.injEq] at h;rw [h.1,gH h.2]
theorem lS:∀ gs:List Sg,gs.length≤3→db gs→gs=[.plus]∨gs=[.minus]∨gs=[.times]∨gs=[.plus,.minus]∨gs=[.plus,.times]∨gs=[.minus,.times]∨gs=[.plus,.minus,.times]
  | [],_,h=>absurd h (by unfold db;decide +kernel)
  | [a],_,_=>by cases a <;> simp
  | [a,b],_,h=>by
    cases a <;> cases b <;> first|decide|exact absurd h (by unfold db;decide +kernel)
  | [a,b,c],_,h=>by
    cases a <;> cases b <;> cases c <;> first|decide|exact absurd h (by unfold db;decide +kernel)
  | _ :: _ :: _ :: _ :: _,h,_=>by simp at h
theorem sr {gs:List Sg} (g3:gs.length≤3) (sp:db gs):PrD (.str (av gs)):=by
  refine gF ?_ (by simp [szD]) (by simp [aaD]);simp only [OkD];rcases lS gs g3 sp with rfl|rfl|rfl|rfl|rfl|rfl|rfl <;> decide +kernel
theorem ss {ns:List Int} (sm:Small ns) (h:ns.length≤9):PrD (.list (ns.map PyData.int)):=gF (by simp only [OkD];exact bz sm) (by simp only [szD,bT];lia) (by simp only [aaD,b_];lia)
theorem pQ {b:Bool} (h:(!b)=true):b=false:=by cases b <;> simp_all
theorem sh {gs:List Sg} (h:db gs):ba (.str (av gs))=true:=h
theorem qR {ns:List Int} (h1:1≤ns.length) (h9:ns.length≤9):aU (.list (ns.map PyData.int))=true:=by
  show (decide (1≤(ns.map PyData.int).length) && decide ((ns.map PyData.int).length≤9) && (ns.map PyData.int).all aY)=true;have : (ns.map PyData.int).all aY=true:=by
    rw [List.all_map,aa0];exact fun _ _=>rfl
  rw [this,aak,decide_eq_true h1,decide_eq_true h9];rfl
def ub (d:PyData):Bool:=!aY d
theorem pA (s:Str):∀ k,k < 6→(aae (6:Int).toNat [V.str s]).flatten[k]?=some (.str s)
  | 0,_=>rfl
  | 1,_=>rfl
  | 2,_=>rfl
  | 3,_=>rfl
  | 4,_=>rfl
  | 5,_=>rfl
  | _+6,h=>absurd h (by lia)
structure Rwh (T:Addr) (H:Hp) (p:Addr) (ns:List Int):Prop where
  e:H p=some (.lst (ns.map V.int))
  nT:p≠T
  l1:1≤ns.length
  l9:ns.length≤9
  sm:Small ns
section
variable {T:Addr} {H H':Hp} {p:Addr} {ns:List Int}
theorem Rwh.bt (h:Rwh T H p ns) (b:But T H H'):Rwh T H' p ns:=⟨b _ _ h.nT h.e,h.nT,h.l1,h.l9,h.sm⟩
theorem Rwh.bw {wl:Addr} (h:Rwh T H p ns) (n:p≠wl) (b:But wl H H'):Rwh T H' p ns:=⟨b _ _ n h.e,h.nT,h.l1,h.l9,h.sm⟩
theorem Rwh.dat (h:Rwh T H p ns):Dat (off T H) (.list (ns.map PyData.int)) (.ref p):=by
  simp only [Dat];exact ⟨p,_,rfl,(a8 h.nT).trans h.e,bj ns⟩
theorem Rwh.sm1 (h:Rwh T H p ns):Sm1 H (.list (ns.map PyData.int)) (.ref p):=fun _ r0 ns' er' en'=>by
  injection er' with er'
  subst er';rw [h.e] at en';injection en' with en'
  injection en' with en'
  rw [← gH en'];exact h.sm
theorem Rwh.row (h:Rwh T H p ns):aU (.list (ns.map PyData.int))=true:=qR h.l1 h.l9
theorem Rwh.pr (h:Rwh T H p ns):PrD (.list (ns.map PyData.int)):=ss h.sm h.l9
theorem cr:ie (.list (ns.map PyData.int))=ns.length:=by show (ns.map PyData.int).length=_;rw [aak]
end
theorem jh (n:Nat) (i:Int):(aae n [V.int i]).flatten=(aae n i).map V.int:=by
  rw [List.map_replicate]
  induction n with
  | zero=>rfl
  | succ k ih=>rw [abc,abc,abU,ih];rfl
theorem dM {n:Nat} {i:Int} (h:-1000000000000 < i∧i < 1000000000000):Small (aae n i):=fun j hj=>by rw [acj hj];exact h
def Bw (wl T:Addr) (H H':Hp):Prop:=∀ b o,b≠wl→b≠T→H b=some o→H' b=some o
theorem Bw.trans {wl T:Addr} {H H1 H2:Hp} (a:Bw wl T H H1) (b:Bw wl T H1 H2):Bw wl T H H2:=fun c o n m h=>b c o n m (a c o n m h)
theorem Bw.wl {wl T:Addr} {H H1:Hp} (a:But wl H H1):Bw wl T H H1:=fun c o n _ h=>a c o n h
theorem Bw.bt {wl T:Addr} {H H1:Hp} (a:But T H H1):Bw wl T H H1:=fun c o _ n h=>a c o n h
theorem Rwh.b2 {wl T:Addr} {H H':Hp} {p:Addr} {ns:List Int} (h:Rwh T H p ns) (n:p≠wl) (b:Bw wl T H H'):Rwh T H' p ns:=⟨b _ _ n h.nT h.e,h.nT,h.l1,h.l9,h.sm⟩
theorem Wel.any {wl:Addr} {H:Hp} {M M':Int} (h:Wel H wl M):Wel H wl M':=h
theorem Wel.bt {wl T:Addr} {H H':Hp} {M:Int} (h:Wel H wl M) (n:wl≠T) (b:But T H H'):Wel H' wl 0:=by
  obtain ⟨x,y,e,z⟩:=h;exact ⟨x,y,b _ _ n e,z⟩
theorem tG (g:PyData):∀ k,3≤k→bOf k g=aY g
  | 0,h=>absurd h (by lia)
  | 1,h=>absurd h (by lia)
  | 2,h=>absurd h (by lia)
  | _+3,_=>rfl
theorem sP:∀ k,mOf k≤7
  | 0=>by decide
  | _+1=>aad 7
theorem p9:∀ k,6≤mOf k
  | 0=>by decide
  | _+1=>by show 6≤7;decide
theorem cR (i:Int):∀ k,bOf k (.int i)=true
  | 0=>rfl
  | 1=>rfl
  | 2=>rfl
  | _+3=>rfl
def pc (T:Addr):Sp:=fun vs H Q _=>∃ d v e u g x D ws,vs=[v,u,x,.ref D]∧Dat (off T H) d v∧Dat (off T H) e u∧Dat (off T H) g x∧PrD d∧PrD e∧PrD g∧Sm1 H d v∧LT T H∧H D=some (.lst ws)∧D≠T∧(∀ k,k < 6→ws[k]?=some (.str (cT k d e g)))∧∀ H',But T H H'→LT T H'→Q (.bl true) H'
section
variable {P:Program} {w:World} {K:aab} {mg:Str→Option Value} {base:Heap} {f:Addr} {fd:FuncData}
abbrev fI:Stmt:=top 51
theorem kB:FnScope ["row","signs","number","due"] ["row","signs","number","due"] (am fI):=⟨rfl,rfl,rfl,by decide +kernel,rfl,by decide +kernel,by decide +kernel⟩
theorem sN {T:Addr} (F:Fun K "_law_all" "_law_all" fI f fd) (B:Bu K mg) (C__law_said:Cal P w K mg base "_law_said" 8 ["way","row","signs","number"] (jz T)):FnOk P w K mg base CX0 9 f fd ["row","signs","number","due"] (pc T):=by
  refine F.ok kB (fun vs H Q E h=>?_) (fun cdv A outer s H vs Q E hr h=>?_)
  · obtain ⟨d,v,e,u,g,x,D,ws,rfl,_⟩:=h;rfl
  obtain ⟨d,v,e,u,g,x,D,ws,rfl,hd,he,hg,pd,pe,pg,hsm,hT,eD,nD,hws,q⟩:=h;refine ⟨_,(@ai _ _ _ (@az _ _ _ _ (@jO _ _ _ _ _ _ _ _ (@sJ _ hr.units) (@jj _ _ _ _ _ _ _ _ (["way","row","signs","number","due"]) ([none,some 0,some 1,some 2,some 3]) _ _ _ _ rfl (@fg _ _ _ _ _ _ rfl B.irange (@aa _ _ _ _ _ af ae (by rfl)) (by rfl)) rfl ⟨rfl,⟨rfl,⟨rfl,⟨rfl,trivial⟩⟩⟩⟩ ⟨⟨rfl,Or.inl rfl,Or.inl rfl⟩,⟨⟨rfl,Or.inl rfl,Or.inl rfl⟩,⟨⟨rfl,Or.inl rfl,Or.inl rfl⟩,⟨⟨rfl,Or.inl rfl,Or.inl rfl⟩,trivial⟩⟩⟩⟩ (fun _ _ _ _=>⟨(@aD _ _ (0) _ (show acw (["way","row","signs","number","due"]:List Str) by decide +kernel) rfl (Or.inl rfl) (.inr rfl)),(@kI _ _ _ (@a9 _ _ _ _ _ _ _ _ kQ (@aB _ _ _ _ _ _ _ _ _ _ _ C__law_said hr (by lia) rfl (@aa _ _ _ _ _ (pv 0) (@aa _ _ _ _ _ (pv 1) (@aa _ _ _ _ _ (pv 2) (@aa _ _ _ _ _ (pv 3) ae (by rfl)) (by rfl)) (by rfl)) (by rfl)) (by decide) (by rfl) (by rfl)) (@cU _ _ _ _ _ _ _ (@qf _ _ rfl) (pv 4) (pv 0) (fun _ _=>rfl)) (bv _))),(pv 0)⟩) (by rfl) (by rfl) (by rfl) (by rfl) (by intro _;rfl)) (@aw _ _ _ _ ae) (bv _)))),?_⟩;have smI:∀ {H':Hp},But T H H'→Sm1 H' d v:=fun {H'} b c r ns ev en=>by
    obtain ⟨r',ns',e1,e2,_⟩:=gj c hd;have e3:=fK _ _ ((io b) _ _ e2);rw [ev] at e1;injection e1 with e1
    subst e1;rw [e3] at en;injection en with en
    injection en with en
    exact hsm c r ns ev (by rw [fK _ _ e2,en])
  refine ⟨6,rfl,by decide,by decide,lg (Trn.range (lo:=0) (n:=(6:Int).toNat)) (fun i zs H'=>(But T H H'∧LT T H')∧zs=[]) ⟨⟨But.refl,hT⟩,rfl⟩ (fun i zs H' hi p=>by rw [p.2];exact ⟨trivial,cN (by decide)⟩) (fun i y zs HI' HI hi hx p Nx nx=>?_) (fun zs HI p p5 n5=>?_)⟩
  · obtain ⟨rfl,rfl⟩:=hx;obtain ⟨⟨bI,hTI⟩,rfl⟩:=p;have hi6:i < 6:=hi;have ei:(0:Int)+(i:Int)=((i:Nat):Int):=by lia
    rw [ei];refine ⟨_,rfl,_,rfl,_,rfl,_,rfl,i,d,v,e,u,g,x,rfl,by lia,Dat.mono (io bI) _ _ hd,Dat.mono (io bI) _ _ he,Dat.mono (io bI) _ _ hg,pd,pe,pg,smI bI,hTI,fun HJ bJ hTJ=>?_⟩;refine ⟨_,rfl,_,rfl,D,_,_,_,rfl,rfl,SqL.of (bJ _ _ nD (bI _ _ nD eD)),gY (hws i hi6),?_⟩;exact ⟨rfl,_,rfl,gz (fun zz=>absurd zz (by simp)) (fun _=>nx _ _ ⟨⟨bI.trans bJ,hTJ⟩,rfl⟩)⟩
  · obtain ⟨⟨bI,hTI⟩,rfl⟩:=p;refine ⟨(by show 0≤sizeLine;decide),fun pq nq=>⟨0,p5,pq,[],[],by decide,rfl,rfl,SqL.of ((Same.new nq _) _ _ ad),SqL.of ad,.inr ⟨fun _=>true,rfl,tq,?_⟩⟩⟩;have kq:=(Same.new n5 (.lst [])).trans (Same.new nq (.lst []));exact q _ (bI.trans (But.of kq)) (hTI.mono kq)
def mO (K:aab) (T:Addr):Sp:=fun vs H Q _=>∃ (a:Addr) (ns:List Int),vs=[.ref a]∧SqL K H a (ns.map V.int)∧ns.length≤63∧LT T H∧∀ H',Q (.bl true) H'
abbrev fO:Stmt:=top 52
theorem cq:FnScope ["script","no_numbers","cell","well","signs","row","few","thing","other","number","some","way","many"] ["script"] (am fO):=⟨rfl,rfl,rfl,by decide +kernel,rfl,by decide +kernel,by decide +kernel⟩
theorem sM {T:Addr} (F:Fun K "law" "law" fO f fd) (B:Bu K mg) (C__law_well:Cal P w K mg base "_law_well" 1 ["cell"] lU) (C__law_draw:Cal P w K mg base "_law_draw" 2 ["well","many"] gb) (C__law_row:Cal P w K mg base "_law_row" 3 ["well","many"] o8) (C__law_signs:Cal P w K mg base "_law_signs" 3 ["well"] fA)
    (C__law_no_rows:Cal P w K mg base "_law_no_rows" 3 ["well","row"] (lW T)) (C__law_no_signs:Cal P w K mg base "_law_no_signs" 1 [] (lV T)) (C__law_said:Cal P w K mg base "_law_said" 8 ["way","row","signs","number"] (jz T)) (C__law_all:Cal P w K mg base "_law_all" 9 ["row","signs","number","due"] (pc T)):FnOk P w K mg base CX0 10 f fd ["script"] (mO K T):=by
  refine F.ok cq (fun vs H Q E h=>?_) (fun cdv A outer s H vs Q E hr h=>?_)
  · obtain ⟨a,ns,rfl,_⟩:=h;rfl
  obtain ⟨a,ns,rfl,hS,h63,hT,q⟩:=h;refine ⟨_,(@ag _ _ _ _ _ (@aI _ _ (1) _ _ _ _ (cq).nd rfl (Or.inl rfl) (@aw _ _ _ _ (@aa _ _ _ _ _ eo (@aa _ _ _ _ _ cI (@aa _ _ _ _ _ cI (@aa _ _ _ _ _ aq (@aa _ _ _ _ _ aq (@aa _ _ _ _ _ (@aw _ _ _ _ (@aa _ _ _ _ _ af ae (by rfl))) (@aa _ _ _ _ _ (@bV _ _ _ _ _ (@aa _ _ _ _ _ af ae (by rfl))) (@aa _ _ _ _ _ eU (@aa _ _ _ _ _ (@bV _ _ _ _ _ (@aa _ _ _ _ _ aq (@aa _ _ _ _ _ af (@aa _ _ _ _ _ af ae (by rfl)) (by rfl)) (by rfl))) (@aa _ _ _ _ _ (@aw _ _ _ _ ae) (@aa _ _ _ _ _ aq ae (by rfl)) (by rfl)) (by rfl)) (by rfl)) (by rfl)) (by rfl)) (by rfl)) (by rfl)) (by rfl)) (by rfl)) (by rfl))) (by rfl) (by first|exact .inl rfl|exact .inr rfl|assumption)) (@ag _ _ _ _ _ (@cA _ _ _ _ _ _ _ _ aaW rfl (@ce _ _ _ _ (@ap _ _ _ _ _ _ _ _ dz (@aw _ _ _ _ (@aa _ _ _ _ _ af (@aa _ _ _ _ _ af ae (by rfl)) (by rfl))) (@fQ _ _ _ _ _ _ _ _ _ _ jG (pv 0) gU (@gR _ _ _ af)))) (@aD _ _ (2) _ (cq).nd rfl (Or.inl rfl) (.inl rfl)) (@ag _ _ _ _ _ (@aI _ _ (3) _ _ _ _ (cq).nd rfl (Or.inl rfl) (@aB _ _ _ _ _ _ _ _ _ _ _ C__law_well hr (by lia) rfl (@aa _ _ _ _ _ (pv 2) ae (by rfl)) (by decide) (by rfl) (by rfl)) (by rfl) (by first|exact .inl rfl|exact .inr rfl|assumption)) (@ag _ _ _ _ _ (@aI _ _ (4) _ _ _ _ (cq).nd rfl (Or.inl rfl) (@aB _ _ _ _ _ _ _ _ _ _ _ C__law_signs hr (by lia) rfl (@aa _ _ _ _ _ (pv 3) ae (by rfl)) (by decide) (by rfl) (by rfl)) (by rfl) (by first|exact .inl rfl|exact .inr rfl|assumption)) (@ag _ _ _ _ _ (@aI _ _ (5) _ _ _ _ (cq).nd rfl (Or.inl rfl) (@aB _ _ _ _ _ _ _ _ _ _ _ C__law_row hr (by lia) rfl (@aa _ _ _ _ _ (pv 3) (@aa _ _ _ _ _ (@ap _ _ _ _ _ _ _ _ dH af (@aB _ _ _ _ _ _ _ _ _ _ _ C__law_draw hr (by lia) rfl (@aa _ _ _ _ _ (pv 3) (@aa _ _ _ _ _ af ae (by rfl)) (by rfl)) (by decide) (by rfl) (by rfl))) ae (by rfl)) (by rfl)) (by decide) (by rfl) (by rfl)) (by rfl) (by first|exact .inl rfl|exact .inr rfl|assumption)) (@ag _ _ _ _ _ (@aI _ _ (6) _ _ _ _ (cq).nd rfl (Or.inl rfl) (@fQ _ _ _ _ _ _ _ _ _ _ jG (pv 5) gU (@gR _ _ _ af)) (by rfl) (by first|exact .inl rfl|exact .inr rfl|assumption)) (@ag _ _ _ _ _ (@cA _ _ _ _ _ _ _ _ aaW rfl (@ce _ _ _ _ (@aB _ _ _ _ _ _ _ _ _ _ _ C__law_no_rows hr (by lia) rfl (@aa _ _ _ _ _ (pv 3) (@aa _ _ _ _ _ (pv 5) ae (by rfl)) (by rfl)) (by decide) (by rfl) (by rfl))) (@aD _ _ (7) _ (cq).nd rfl (Or.inl rfl) (.inl rfl)) (@ai _ _ _ (@cA _ _ _ _ _ _ _ _ aaW rfl (@ce _ _ _ _ (@aw _ _ _ _ (@aa _ _ _ _ _ (@bV _ _ _ _ _ (@aa _ _ _ _ _ (pv 4) (@aa _ _ _ _ _ af ae (by rfl)) (by rfl))) (@aa _ _ _ _ _ (@bV _ _ _ _ _ (@aa _ _ _ _ _ eo (@aa _ _ _ _ _ eo ae (by rfl)) (by rfl))) (@aa _ _ _ _ _ (@bV _ _ _ _ _ (@aa _ _ _ _ _ aq (@aa _ _ _ _ _ cI ae (by rfl)) (by rfl))) ae (by rfl)) (by rfl)) (by rfl)))) (@gk _ _ _ _ _ _ rfl (@bM _ _ _ _ _ (@aD _ _ (8) _ (cq).nd rfl (Or.inl rfl) (.inl rfl)) (@bM _ _ _ _ _ (@aD _ _ (9) _ (cq).nd rfl (Or.inl rfl) (.inl rfl)) fh (by rfl)) (by rfl)) (by rfl) (by rfl)) (@ai _ _ _ (@bO _ _ _ _ _ _ _ _ (@da _ _ _ _ (@dv _ _ _ (@aB _ _ _ _ _ _ _ _ _ _ _ C__law_all hr (by lia) rfl (@aa _ _ _ _ _ (pv 7) (@aa _ _ _ _ _ (pv 8) (@aa _ _ _ _ _ (pv 9) (@aa _ _ _ _ _ (@ap _ _ _ _ _ _ _ _ cQ (@aw _ _ _ _ (@aa _ _ _ _ _ aq ae (by rfl))) af) ae (by rfl)) (by rfl)) (by rfl)) (by rfl)) (by decide) (by rfl) (by rfl)) (by intro _;rfl))) (@ai _ _ _ (@az _ _ _ _ cI)) aQ)) (by intro _;rfl))) (by intro _;rfl)) (@ag _ _ _ _ _ (@cA _ _ _ _ _ _ _ _ aaW rfl (@ce _ _ _ _ (qV C__law_no_signs hr (by lia) rfl)) (@aD _ _ (7) _ (cq).nd rfl (Or.inl rfl) (.inl rfl)) (@ai _ _ _ (@cA _ _ _ _ _ _ _ _ aaW rfl (@ce _ _ _ _ (@aw _ _ _ _ (@aa _ _ _ _ _ (pv 5) (@aa _ _ _ _ _ (pv 6) (@aa _ _ _ _ _ (@ap _ _ _ _ _ _ _ _ cQ (@aw _ _ _ _ (@aa _ _ _ _ _ af ae (by rfl))) af) ae (by rfl)) (by rfl)) (by rfl)))) (@aD _ _ (10) _ (cq).nd rfl (Or.inl rfl) (.inl rfl)) (@ai _ _ _ (@bO _ _ _ _ _ _ _ _ (@da _ _ _ _ (@dv _ _ _ (@aB _ _ _ _ _ _ _ _ _ _ _ C__law_all hr (by lia) rfl (@aa _ _ _ _ _ (pv 10) (@aa _ _ _ _ _ (pv 7) (@aa _ _ _ _ _ eo (@aa _ _ _ _ _ (@ap _ _ _ _ _ _ _ _ cQ (@aw _ _ _ _ (@aa _ _ _ _ _ aq ae (by rfl))) af) ae (by rfl)) (by rfl)) (by rfl)) (by rfl)) (by decide) (by rfl) (by rfl)) (by intro _;rfl))) (@ai _ _ _ (@az _ _ _ _ cI)) aQ)) (by intro _;rfl))) (by intro _;rfl)) (@ag _ _ _ _ _ (@cA _ _ _ _ _ _ _ _ aaW rfl (@ce _ _ _ _ (pv 1)) (@aD _ _ (7) _ (cq).nd rfl (Or.inl rfl) (.inl rfl)) (@ai _ _ _ (@cA _ _ _ _ _ _ _ _ aaW rfl (@ce _ _ _ _ (@aw _ _ _ _ (@aa _ _ _ _ _ (pv 6) (@aa _ _ _ _ _ (@ap _ _ _ _ _ _ _ _ cQ (@aw _ _ _ _ (@aa _ _ _ _ _ af ae (by rfl))) af) (@aa _ _ _ _ _ (@ap _ _ _ _ _ _ _ _ cQ (@aw _ _ _ _ (@aa _ _ _ _ _ af ae (by rfl))) af) (@aa _ _ _ _ _ (@aB _ _ _ _ _ _ _ _ _ _ _ C__law_row hr (by lia) rfl (@aa _ _ _ _ _ (pv 3) (@aa _ _ _ _ _ af ae (by rfl)) (by rfl)) (by decide) (by rfl) (by rfl)) ae (by rfl)) (by rfl)) (by rfl)) (by rfl)))) (@aD _ _ (10) _ (cq).nd rfl (Or.inl rfl) (.inl rfl)) (@ai _ _ _ (@cA _ _ _ _ _ _ _ _ aaW rfl (@ji _ _ _ _ _ _ _ rfl B.irange (@aa _ _ _ _ _ af (@aa _ _ _ _ _ af ae (by rfl)) (by rfl)) (by rfl) (by rfl)) (@aD _ _ (11) _ (cq).nd rfl (Or.inl rfl) (.inl rfl)) (@ai _ _ _ (@bO _ _ _ _ _ _ _ _ (@a9 _ _ _ _ _ _ _ _ kQ (@aB _ _ _ _ _ _ _ _ _ _ _ C__law_said hr (by lia) rfl (@aa _ _ _ _ _ (pv 11) (@aa _ _ _ _ _ (pv 10) (@aa _ _ _ _ _ (pv 4) (@aa _ _ _ _ _ (pv 7) ae (by rfl)) (by rfl)) (by rfl)) (by rfl)) (by decide) (by rfl) (by rfl)) aq (bv _)) (@ai _ _ _ (@az _ _ _ _ cI)) aQ)) (by intro _;rfl))) (by intro _;rfl))) (by intro _;rfl)) (@ag _ _ _ _ _ (@cA _ _ _ _ _ _ _ _ aaW rfl (@sw _ _ _ _ (@bV _ _ _ _ _ (@aa _ _ _ _ _ af (@aa _ _ _ _ _ af ae (by rfl)) (by rfl)))) (@aD _ _ (12) _ (cq).nd rfl (Or.inl rfl) (.inl rfl)) (@ai _ _ _ (@bO _ _ _ _ _ _ _ _ (@da _ _ _ _ (@dv _ _ _ (@aB _ _ _ _ _ _ _ _ _ _ _ C__law_all hr (by lia) rfl (@aa _ _ _ _ _ (@aB _ _ _ _ _ _ _ _ _ _ _ C__law_row hr (by lia) rfl (@aa _ _ _ _ _ (pv 3) (@aa _ _ _ _ _ (pv 12) ae (by rfl)) (by rfl)) (by decide) (by rfl) (by rfl)) (@aa _ _ _ _ _ (pv 4) (@aa _ _ _ _ _ af (@aa _ _ _ _ _ (@ap _ _ _ _ _ _ _ _ cQ (@aw _ _ _ _ (@aa _ _ _ _ _ aq ae (by rfl))) af) ae (by rfl)) (by rfl)) (by rfl)) (by rfl)) (by decide) (by rfl) (by rfl)) (by intro _;rfl))) (@ai _ _ _ (@az _ _ _ _ cI)) aQ)) (by intro _;rfl)) (@ag _ _ _ _ _ (@bO _ _ _ _ _ _ _ _ (@a9 _ _ _ _ _ _ _ _ kQ (@aB _ _ _ _ _ _ _ _ _ _ _ C__law_said hr (by lia) rfl (@aa _ _ _ _ _ af (@aa _ _ _ _ _ (@aB _ _ _ _ _ _ _ _ _ _ _ C__law_row hr (by lia) rfl (@aa _ _ _ _ _ (pv 3) (@aa _ _ _ _ _ af ae (by rfl)) (by rfl)) (by decide) (by rfl) (by rfl)) (@aa _ _ _ _ _ (pv 4) (@aa _ _ _ _ _ af ae (by rfl)) (by rfl)) (by rfl)) (by rfl)) (by decide) (by rfl) (by rfl)) aq (bv _)) (@ai _ _ _ (@az _ _ _ _ cI)) aQ) (@ag _ _ _ _ _ (@bO _ _ _ _ _ _ _ _ (@da _ _ _ _ (@dv _ _ _ (@aB _ _ _ _ _ _ _ _ _ _ _ C__law_all hr (by lia) rfl (@aa _ _ _ _ _ (@ap _ _ _ _ _ _ _ _ cQ (@aw _ _ _ _ (@aa _ _ _ _ _ (@aB _ _ _ _ _ _ _ _ _ _ _ C__law_draw hr (by lia) rfl (@aa _ _ _ _ _ (pv 3) (@aa _ _ _ _ _ af ae (by rfl)) (by rfl)) (by decide) (by rfl) (by rfl)) ae (by rfl))) af) (@aa _ _ _ _ _ (pv 4) (@aa _ _ _ _ _ (@ap _ _ _ _ _ _ _ _ dy af af) (@aa _ _ _ _ _ (@ap _ _ _ _ _ _ _ _ dz (@aw _ _ _ _ (@aa _ _ _ _ _ aq ae (by rfl))) (@ap _ _ _ _ _ _ _ _ cQ (@aw _ _ _ _ (@aa _ _ _ _ _ aq ae (by rfl))) af)) ae (by rfl)) (by rfl)) (by rfl)) (by rfl)) (by decide) (by rfl) (by rfl)) (by intro _;rfl))) (@ai _ _ _ (@az _ _ _ _ cI)) aQ) (@ag _ _ _ _ _ (@bO _ _ _ _ _ _ _ _ (@da _ _ _ _ (@dv _ _ _ (@aB _ _ _ _ _ _ _ _ _ _ _ C__law_all hr (by lia) rfl (@aa _ _ _ _ _ (@ap _ _ _ _ _ _ _ _ cQ (@aw _ _ _ _ (@aa _ _ _ _ _ (@aB _ _ _ _ _ _ _ _ _ _ _ C__law_draw hr (by lia) rfl (@aa _ _ _ _ _ (pv 3) (@aa _ _ _ _ _ af ae (by rfl)) (by rfl)) (by decide) (by rfl) (by rfl)) ae (by rfl))) af) (@aa _ _ _ _ _ (pv 4) (@aa _ _ _ _ _ (@mX _ _ _ _ _ _ jy (@ap _ _ _ _ _ _ _ _ dy af af)) (@aa _ _ _ _ _ (@ap _ _ _ _ _ _ _ _ cQ (@aw _ _ _ _ (@aa _ _ _ _ _ aq ae (by rfl))) af) ae (by rfl)) (by rfl)) (by rfl)) (by rfl)) (by decide) (by rfl) (by rfl)) (by intro _;rfl))) (@ai _ _ _ (@az _ _ _ _ cI)) aQ) (@ai _ _ _ (@bO _ _ _ _ _ _ _ _ (@da _ _ _ _ (@dv _ _ _ (@aB _ _ _ _ _ _ _ _ _ _ _ C__law_all hr (by lia) rfl (@aa _ _ _ _ _ (pv 6) (@aa _ _ _ _ _ (pv 4) (@aa _ _ _ _ _ af (@aa _ _ _ _ _ (@ap _ _ _ _ _ _ _ _ cQ (@aw _ _ _ _ (@aa _ _ _ _ _ aq ae (by rfl))) af) ae (by rfl)) (by rfl)) (by rfl)) (by rfl)) (by decide) (by rfl) (by rfl)) (by intro _;rfl))) (@ai _ _ _ (@az _ _ _ _ cI)) aQ))))))))))))) (by intro _;rfl)) (@ai _ _ _ (@az _ _ _ _ cI)))),?_⟩;obtain ⟨oT0,eT0⟩:=hT.old;refine ⟨(by show 1≤sizeLine;decide),fun b1 m1=>⟨(by show 1≤sizeLine;decide),fun b2 m2=>fun b3 m3=>⟨(by show 3≤sizeLine;decide),fun b4 m4=>⟨(by show 0≤sizeLine;decide),fun b5 m5=>⟨(by show 11≤sizeLine;decide),fun b6 m6=>?_⟩⟩⟩⟩⟩;have j1:=Same.new m1 (.lst [.int 1]);have j2:=Same.new m2 (.tup [.int 1]);have j3:=Same.new m3 (.dK []);have j4:=Same.new m4 (.tup [.str "+",.int 1,.int 2]);have j5:=Same.new m5 (.lst []);have j6:=Same.new m6 (.lst [.non,.bl true,.bl false,.str "1",.str "",.ref b1,.ref b2,.ref b3,.ref b4,.ref b5,.str "one"]);have J2:=j1.trans j2;have J3:=J2.trans j3;have J4:=J3.trans j4;have J5:=J4.trans j5;have KN:=J5.trans j6;have f1:=(a8 (cK eT0 (Same.refl _) m1)).trans (j6 _ _ (j5 _ _ (j4 _ _ (j3 _ _ (j2 _ _ (ad (a:=b1)))))));have f2:=(a8 (cK eT0 j1 m2)).trans (j6 _ _ (j5 _ _ (j4 _ _ (j3 _ _ (ad (a:=b2))))));have f3:=(a8 (cK eT0 J2 m3)).trans (j6 _ _ (j5 _ _ (j4 _ _ (ad (a:=b3)))));have f4:=(a8 (cK eT0 J3 m4)).trans (j6 _ _ (j5 _ _ (ad (a:=b4))));have f5:=(a8 (cK eT0 J4 m5)).trans (j6 _ _ (ad (a:=b5)));have e6N:=a_ m6 (.lst [.non,.bl true,.bl false,.str "1",.str "",.ref b1,.ref b2,.ref b3,.ref b4,.ref b5,.str "one"]);have n6T:b6≠T:=cK eT0 J5 m6;have gN0:∀ x∈([.non,.bl true,.bl false,.str "1",.str "",.ref b1,.ref b2,.ref b3,.ref b4,.ref b5,.str "one"]:List V),Gq ub (off T (upd (upd (upd (upd (upd (upd H b1 (.lst [.int 1])) b2 (.tup [.int 1])) b3 (.dK [])) b4 (.tup [.str "+",.int 1,.int 2])) b5 (.lst [])) b6 (.lst [.non,.bl true,.bl false,.str "1",.str "",.ref b1,.ref b2,.ref b3,.ref b4,.ref b5,.str "one"]))) x:=fun x hm=>by
    simp only [aay,abe,or_false] at hm;rcases hm with rfl|rfl|rfl|rfl|rfl|rfl|rfl|rfl|rfl|rfl|rfl
    · exact mF rfl
    · exact nv _ rfl
    · exact nv _ rfl
    · exact bZ _ (by decide +kernel) rfl
    · exact bZ _ (by decide +kernel) rfl
    · exact di f1 (nI 1) (by simp only [OkAll,OkD];decide) (by simp [szAll,szD]) (by simp [aaD,aaE]) rfl
    · exact iJ f2 (nI 1) (by simp only [OkAll,OkD];decide) (by simp [szAll,szD]) (by simp [aaD,aaE]) rfl
    · exact jT f3 rfl
    · exact iJ (ds:=[.str "+",.int 1,.int 2]) f4 (by simp only [DatAll,Dat];exact ⟨_,_,rfl,rfl,_,_,rfl,rfl,_,_,rfl,rfl,rfl⟩) (by simp only [OkAll,OkD];decide +kernel) (by simp [szAll,szD]) (by simp [aaD,aaE]) rfl
    · exact di f5 nJ (by simp only [OkAll]) (by simp [szAll]) (by simp [aaE]) rfl
    · exact bZ _ (by decide +kernel) rfl
  clear j1 j2 j3 j4 j5 j6 J2 J3 J4 J5 f1 f2 f3 f4 f5;have hTN:=hT.mono KN;generalize upd (upd (upd (upd (upd (upd H b1 (.lst [.int 1])) b2 (.tup [.int 1])) b3 (.dK [])) b4 (.tup [.str "+",.int 1,.int 2])) b5 (.lst [])) b6 (.lst [.non,.bl true,.bl false,.str "1",.str "",.ref b1,.ref b2,.ref b3,.ref b4,.ref b5,.str "one"])=HN at KN hTN gN0 e6N ⊢;have t1:(1:Nat)≤sizeLine:=by decide
  have t2:(2:Nat)≤sizeLine:=by decide
  refine ⟨t2,fun p1 n1=>?_⟩;have g1:=Same.new n1 (.lst [.int 0,.int 5]);refine ⟨_,rfl,6,rfl,a,_,rfl,g1.seq (KN.seq hS),fun p2 n2=>?_⟩;obtain ⟨ms,em,hm⟩:=qA ns none (some 6);rw [em];have g2:=Same.new n2 (.lst (ms.map V.int));refine ⟨p1,p2,_,_,rfl,rfl,g2 _ _ ad,ad,dh (by rw [aak];show 2+ms.length≤1000;lia),fun p3 n3=>?_⟩;have e3:=a_ n3 (.lst ([.int 0,.int 5]++ms.map V.int));have sN3:=(g1.trans g2).trans (Same.new n3 (.lst ([V.int 0,.int 5]++ms.map V.int)));have el:[V.int 0,V.int 5]++ms.map V.int=(0 :: 5 :: ms).map V.int:=rfl;rw [el] at e3 sN3 ⊢;generalize upd (upd (upd HN p1 (.lst [.int 0,.int 5])) p2 (.lst (ms.map V.int))) p3 (.lst ((0 :: 5 :: ms).map V.int))=H3 at e3 sN3 ⊢;have hT3:=hTN.mono sN3;have np3:p3≠T:=hT3.ne e3 (fun _ z=>nomatch z);have gN:∀ x∈([.non,.bl true,.bl false,.str "1",.str "",.ref b1,.ref b2,.ref b3,.ref b4,.ref b5,.str "one"]:List V),Gq ub (off T H3) x:=fun x hx=>(gN0 x hx).mono (dC sN3);have e6:=sN3 _ _ e6N;clear gN0 e6N g1 g2;refine ⟨p3,rfl,⟨_,SqL.of e3⟩,cJ (Trn.list (xs:=(0 :: 5 :: ms).map V.int)) (fun i σ H'=>∃ c2 c3 c4 c5 c6 c7 c8 c9 c10 c11 c12,σ=[some (.ref a),some (.ref b6),c2,c3,c4,c5,c6,c7,c8,c9,c10,c11,c12]∧But T H3 H'∧LT T H') ⟨_,_,_,_,_,_,_,_,_,_,_,rfl,But.refl,hT3⟩ (fun i σ H' hi z=>?_) (fun i x σ H4' H4 hi it z=>?_) (fun σ H' z=>?_)⟩
  · obtain ⟨_,_,_,_,_,_,_,_,_,_,_,rfl,S,_⟩:=z;exact SqL.of (S _ _ np3 e3)
  · obtain ⟨c2,c3,c4,c5,c6,c7,c8,c9,c10,c11,c12,rfl,S4,hT4⟩:=z;obtain ⟨rfl,hx⟩:=it;rw [aaF] at hx;obtain ⟨c,_,rfl⟩:=abi.mp hx;refine ⟨_,rfl,c,rfl,fun wl H5 g5 nw ew=>?_⟩;have hT5:=hT4.mono g5;have nwT:T≠wl:=fun z=>by obtain ⟨tp,h⟩:=hT4;rw [← z,h.tab] at nw;cases nw
    refine ⟨_,rfl,wl,_,rfl,ew,by lia,fun gs H6 g1' g3' sp k6 w6=>?_⟩;have hT6:=hT5.well ew k6;refine ⟨_,rfl,_,rfl,wl,9,_,rfl,by decide,by decide,w6,by lia,fun r1 H7 ra rb k7 w7=>⟨_,_,rfl,rfl,wl,1+r1,_,rfl,by lia,by lia,w7,by lia,fun r rs H8 k8 w8 nr er hlen sm=>?_⟩⟩;have n1':1≤rs.length:=by lia
    have n9':rs.length≤9:=by lia
    have hT7:=hT6.well w6 k7;have hT8:=hT7.well w7 k8;have nrw:r≠wl:=w7.ne nr;refine ⟨_,rfl,4,rfl,r,_,rfl,SqL.of er,fun pf nf=>?_⟩;have ec:dD (rs.map V.int) none (some 4)=(rs.take 4).map V.int:=by rw [show (4:Int)=((4:Nat):Int) from rfl,qB,acH]
    rw [ec];have kf:=Same.new nf (.lst ((rs.take 4).map V.int));have ef:=a_ nf (.lst ((rs.take 4).map V.int));have nfw:pf≠wl:=w8.ne nf;have nfT:=hT8.of_new nf;generalize upd H8 pf (.lst ((rs.take 4).map V.int))=H9 at kf ef ⊢;have hT9:=hT8.mono kf;have w9:Wel H9 wl 0:=(w8.keep kf (aa7 _)).any;have lf:(rs.take 4).length=min 4 rs.length:=aaV;have R9:Rwh T H9 r rs:=⟨kf _ _ er,hT8.ne er (fun _ z=>nomatch z),n1',n9',sm⟩
    have F9:Rwh T H9 pf (rs.take 4):=⟨ef,nfT,by lia,by lia,sm.take 4⟩
    have B39:∀ {H':Hp},Bw wl T H9 H'→But T H3 H':=fun {H'} bw b o hb e=>by
      have nb:b≠wl:=ah (S4 _ _ hb e) nw;exact bw b o nb hb (kf _ _ (k8 _ _ nb (k7 _ _ nb (k6 _ _ nb (g5 _ _ (S4 _ _ hb e))))))
    obtain ⟨oT,eT9⟩:=hT9.old;have c7':=sh sp;have pS:=sr g3' sp;have sgD:∀ H',Dat H' (.str (av gs)) (.str (av gs)):=fun _=>by simp only [Dat]
    have inD:∀ (i:Int) H',Dat H' (.int i) (.int i):=fun i _=>by simp only [Dat]
    refine ⟨_,rfl,_,rfl,wl,r,rs,_,oT,rfl,w9,by lia,eT9,nwT,R9.e,nrw,R9.nT,R9.l1,R9.l9,sm,fun pn xs HA kA wA npn epn lxs gxs=>?_⟩;have hTA:=hT9.well w9 kA;have bwA:Bw wl T H9 HA:=Bw.wl kA;have npT:pn≠T:=hTA.ne epn (fun _ z=>nomatch z);refine ⟨pn,rfl,⟨_,SqL.of epn⟩,cJ (Trn.list (xs:=xs)) (fun i σ H'=>∃ c7 c8 c9 c10 c11 c12,σ=[some (.ref a),some (.ref b6),some (.int c),some (.ref wl),some (.str (av gs)),some (.ref r),some (.ref pf),c7,c8,c9,c10,c11,c12]∧But T HA H'∧LT T H') ⟨_,_,_,_,_,_,rfl,But.refl,hTA⟩ (fun i σ H' hi z=>?_) (fun i x σ HB' HB hi it z=>?_) (fun σ HB z=>?_)⟩
    · obtain ⟨_,_,_,_,_,_,rfl,S,_⟩:=z;exact SqL.of (S _ _ npT epn)
    · obtain ⟨d7,d8,d9,d10,d11,d12,rfl,bB,hTB⟩:=z;obtain ⟨rfl,hx'⟩:=it;obtain ⟨d,hd,pd,hp⟩:=(gxs x (aan hx')).mono (io bB);have hp:aU d=false:=pQ hp;refine ⟨_,rfl,t2,fun u1 v1=>⟨t2,fun u2 v2=>⟨t2,fun u3 v3=>⟨(by show 3≤sizeLine;decide),fun po no=>?_⟩⟩⟩⟩;have m1:=Same.new v1 (.tup [.str (av gs),.int 1]);have m2:=Same.new v2 (.tup [.non,.non]);have m3:=Same.new v3 (.tup [.str "-+",.bl true]);have m4:=Same.new no (.lst [.ref u1,.ref u2,.ref u3]);have E1:=m4 _ _ (m3 _ _ (m2 _ _ (a_ v1 (.tup [.str (av gs),.int 1]))));have E2:=m4 _ _ (m3 _ _ (a_ v2 (.tup [.non,.non])));have E3:=m4 _ _ (a_ v3 (.tup [.str "-+",.bl true]));have E4:=a_ no (.lst [.ref u1,.ref u2,.ref u3]);have ko:=((m1.trans m2).trans m3).trans m4;have hTC:=hTB.mono ko;have N1:=hTC.ne E1 (fun _ z=>nomatch z);have N2:=hTC.ne E2 (fun _ z=>nomatch z);have N3:=hTC.ne E3 (fun _ z=>nomatch z);have N4:=hTC.ne E4 (fun _ z=>nomatch z);have oth:∀ y∈([.ref u1,.ref u2,.ref u3]:List V),∃ t y1 y2 e g,y=.ref t∧upd (upd (upd (upd HB u1 (.tup [.str (av gs),.int 1])) u2 (.tup [.non,.non])) u3 (.tup [.str "-+",.bl true])) po (.lst [.ref u1,.ref u2,.ref u3]) t=some (.tup [y1,y2])∧t≠T∧(∀ H',Dat H' e y1)∧PrD e∧(∀ H',Dat H' g y2)∧PrD g:=fun y hy=>by
        simp only [aay,abe,or_false] at hy;rcases hy with rfl|rfl|rfl
        · exact ⟨u1,_,_,.str (av gs),.int 1,rfl,E1,N1,sgD,pS,inD 1,fJ (by decide)⟩
        · exact ⟨u2,_,_,.none,.none,rfl,E2,N2,fun _=>by simp only [Dat],gF (by simp only [OkD]) (by simp [szD]) (by simp [aaD]),fun _=>by simp only [Dat],gF (by simp only [OkD]) (by simp [szD]) (by simp [aaD])⟩
        · exact ⟨u3,_,_,.str "-+",.bool true,rfl,E3,N3,fun _=>by simp only [Dat],gF (by simp only [OkD];decide +kernel) (by simp [szD]) (by simp [aaD]),fun _=>by simp only [Dat],gF (by simp only [OkD]) (by simp [szD]) (by simp [aaD])⟩
      clear m1 m2 m3 m4 E1 E2 E3;generalize upd (upd (upd (upd HB u1 (.tup [.str (av gs),.int 1])) u2 (.tup [.non,.non])) u3 (.tup [.str "-+",.bl true])) po (.lst [.ref u1,.ref u2,.ref u3])=HC at ko hTC E4 oth ⊢;have bC:=bB.trans (But.of ko);refine ⟨po,rfl,⟨_,SqL.of E4⟩,cJ (Trn.list (xs:=[.ref u1,.ref u2,.ref u3])) (fun i' σ H'=>∃ c8 c9 c10 c11 c12,σ=[some (.ref a),some (.ref b6),some (.int c),some (.ref wl),some (.str (av gs)),some (.ref r),some (.ref pf),some x,c8,c9,c10,c11,c12]∧But T HC H'∧LT T H') ⟨_,_,_,_,_,rfl,But.refl,hTC⟩ (fun i' σ H' hi' z=>?_) (fun i' y σ HD' HD hi' it z=>?_) (fun σ HE z=>?_)⟩
      · obtain ⟨_,_,_,_,_,rfl,S,_⟩:=z;exact SqL.of (S _ _ N4 E4)
      · obtain ⟨e8,e9,e10,e11,e12,rfl,bD,hTD⟩:=z;obtain ⟨rfl,hy'⟩:=it;obtain ⟨t,y1,y2,e,g,rfl,et,ntT,he,pe,hg,pg⟩:=oth y (aan hy');refine ⟨t,_,rfl,SqT.of (bD _ _ ntT et),rfl,_,_,rfl,_,_,rfl,rfl,?_⟩;refine ⟨_,rfl,_,rfl,_,rfl,t1,fun l1 n1=>⟨l1,6,_,rfl,rfl,ad,by decide,by decide,(by decide),fun D nD=>?_⟩⟩;have kD:=(Same.new n1 (.lst [.str "NoRow"])).trans (Same.new nD (.lst (aae (6:Int).toNat [V.str "NoRow"]).flatten));have nDT:=(hTD.mono (Same.new n1 (.lst [.str "NoRow"]))).of_new nD;refine ⟨d,x,e,y1,g,y2,D,_,rfl,Dat.mono (dC kD) _ _ (Dat.mono (io ((But.of ko).trans bD)) _ _ hd),he _,hg _,pd,pe,pg,(fun z=>by rw [hp] at z;cases z),hTD.mono kD,a_ nD _,nDT,(fun k hk=>by rw [kE hp];exact pA _ k hk),fun HJ bJ hTJ=>?_⟩;refine ⟨true,rfl,bh ?_⟩;have bK:=(But.of (w:=T) kD).trans bJ;exact ⟨_,_,_,_,_,rfl,bD.trans bK,hTJ⟩
      · obtain ⟨e8,e9,e10,e11,e12,rfl,bE,hTE⟩:=z;exact ⟨_,_,_,_,_,_,rfl,bC.trans bE,hTE⟩
    obtain ⟨d7,d8,d9,d10,d11,d12,rfl,bB,hTB⟩:=z;have bwB:=bwA.trans (Bw.bt bB);have wB:Wel HB wl 0:=wA.bt nwT.symm bB;clear bB bwA wA;obtain ⟨oB,eTB⟩:=hTB.old;refine ⟨oB,rfl,eTB,fun pm xm HC kC npm epm lxm gxm=>?_⟩;have hTC:=hTB.mono kC;have npmT:pm≠T:=hTC.ne epm (fun _ z=>nomatch z);have RC:=(R9.b2 nrw bwB).bt (But.of kC);have FC:=(F9.b2 nfw bwB).bt (But.of kC);refine ⟨pm,rfl,⟨_,SqL.of epm⟩,cJ (Trn.list (xs:=xm)) (fun i σ H'=>∃ c7 c8 c9 c10 c11 c12,σ=[some (.ref a),some (.ref b6),some (.int c),some (.ref wl),some (.str (av gs)),some (.ref r),some (.ref pf),c7,c8,c9,c10,c11,c12]∧But T HC H'∧LT T H') ⟨_,_,_,_,_,_,rfl,But.refl,hTC⟩ (fun i σ H' hi z=>?_) (fun i x σ HD' HD hi it z=>?_) (fun σ HE z=>?_)⟩
    · obtain ⟨_,_,_,_,_,_,rfl,S,_⟩:=z;exact SqL.of (S _ _ npmT epm)
    · obtain ⟨d7',d8',d9',d10',d11',d12',rfl,bD,hTD⟩:=z;obtain ⟨rfl,hx'⟩:=it;obtain ⟨e,he,pe,hp⟩:=(gxm x (aan hx')).mono (io bD);have hp:ba e=false:=pQ hp;refine ⟨_,rfl,_,rfl,t1,fun o1 v1=>⟨o1,9,_,rfl,rfl,ad,by decide,by decide,(by decide),fun o2 v2=>⟨(by show 3≤sizeLine;decide),fun po no=>?_⟩⟩⟩;have m1:=Same.new v1 (.lst [.int 1]);have m2:=Same.new v2 (.lst (aae (9:Int).toNat [V.int 1]).flatten);have m3:=Same.new no (.lst [.ref r,.ref pf,.ref o2]);have ko:=(m1.trans m2).trans m3;have E2:=m3 _ _ (a_ v2 (.lst (aae (9:Int).toNat [V.int 1]).flatten));have E4:=a_ no (.lst [.ref r,.ref pf,.ref o2]);have hTF:=hTD.mono ko;have N2:=hTF.ne E2 (fun _ z=>nomatch z);have N4:=hTF.ne E4 (fun _ z=>nomatch z);have bF:=bD.trans (But.of ko);have oth:∀ y∈([.ref r,.ref pf,.ref o2]:List V),∃ p ns',y=.ref p∧Rwh T (upd (upd (upd HD o1 (.lst [.int 1])) o2 (.lst (aae (9:Int).toNat [V.int 1]).flatten)) po (.lst [.ref r,.ref pf,.ref o2])) p ns':=fun y hy=>by
        simp only [aay,abe,or_false] at hy;rcases hy with rfl|rfl|rfl
        · exact ⟨r,rs,rfl,RC.bt bF⟩
        · exact ⟨pf,_,rfl,FC.bt bF⟩
        · exact ⟨o2,aae 9 1,rfl,E2,N2,by decide,by decide,dM (by decide)⟩
      clear m1 m2 m3 E2;generalize upd (upd (upd HD o1 (.lst [.int 1])) o2 (.lst (aae (9:Int).toNat [V.int 1]).flatten)) po (.lst [.ref r,.ref pf,.ref o2])=HF at ko hTF E4 bF oth ⊢;refine ⟨po,rfl,⟨_,SqL.of E4⟩,cJ (Trn.list (xs:=[.ref r,.ref pf,.ref o2])) (fun i' σ H'=>∃ c8 c9 c10 c11 c12,σ=[some (.ref a),some (.ref b6),some (.int c),some (.ref wl),some (.str (av gs)),some (.ref r),some (.ref pf),some x,c8,c9,c10,c11,c12]∧But T HF H'∧LT T H') ⟨_,_,_,_,_,rfl,But.refl,hTF⟩ (fun i' σ H' hi' z=>?_) (fun i' y σ HG' HG hi' it z=>?_) (fun σ HG z=>?_)⟩
      · obtain ⟨_,_,_,_,_,rfl,S,_⟩:=z;exact SqL.of (S _ _ N4 E4)
      · obtain ⟨e8,e9,e10,e11,e12,rfl,bG,hTG⟩:=z;obtain ⟨rfl,hy'⟩:=it;obtain ⟨p,ns',rfl,Rp⟩:=oth y (aan hy');have Rp:=Rp.bt bG;refine ⟨_,rfl,_,rfl,t1,fun l1 n1=>⟨l1,6,_,rfl,rfl,ad,by decide,by decide,(by decide),fun D nD=>?_⟩⟩;have kD:=(Same.new n1 (.lst [.str "NoSigns"])).trans (Same.new nD (.lst (aae (6:Int).toNat [V.str "NoSigns"]).flatten));have nDT:=(hTG.mono (Same.new n1 (.lst [.str "NoSigns"]))).of_new nD;refine ⟨(.list (ns'.map PyData.int)),(.ref p),e,x,.none,.non,D,_,rfl,Dat.mono (dC kD) _ _ Rp.dat,Dat.mono (io ((But.of ko).trans (bG.trans (But.of kD)))) _ _ he,(by simp only [Dat]),Rp.pr,pe,(gF (by simp only [OkD]) (by simp [szD]) (by simp [aaD])),(Rp.bt (But.of kD)).sm1,hTG.mono kD,a_ nD _,nDT,(fun k hk=>by rw [hZ Rp.row hp];exact pA _ k hk),fun HJ bJ hTJ=>?_⟩;refine ⟨true,rfl,bh ?_⟩;have bK:=(But.of (w:=T) kD).trans bJ;exact ⟨_,_,_,_,_,rfl,bG.trans bK,hTJ⟩
      · obtain ⟨e8,e9,e10,e11,e12,rfl,bG,hTG⟩:=z;exact ⟨_,_,_,_,_,_,rfl,bF.trans bG,hTG⟩
    obtain ⟨d7',d8',d9',d10',d11',d12',rfl,bE,hTE⟩:=z;have bwE:=(bwB.trans (Bw.bt (But.of kC))).trans (Bw.bt bE);have wE:Wel HE wl 0:=(wB.bt nwT.symm (But.of kC)).bt nwT.symm bE;clear bE RC FC bwB wB;have e6E:=B39 bwE _ _ n6T e6;refine ⟨_,rfl,b6,rfl,⟨_,SqL.of e6E⟩,cJ (Trn.list (xs:=[.non,.bl true,.bl false,.str "1",.str "",.ref b1,.ref b2,.ref b3,.ref b4,.ref b5,.str "one"])) (fun i σ H'=>∃ c7 c8 c9 c10 c11 c12,σ=[some (.ref a),some (.ref b6),some (.int c),some (.ref wl),some (.str (av gs)),some (.ref r),some (.ref pf),c7,c8,c9,c10,c11,c12]∧Bw wl T H9 H'∧Wel H' wl 0∧LT T H') ⟨_,_,_,_,_,_,rfl,bwE,wE,hTE⟩ (fun i σ H' hi z=>?_) (fun i x σ HD' HD hi it z=>?_) (fun σ HG z=>?_)⟩
    · obtain ⟨_,_,_,_,_,_,rfl,S,_⟩:=z;exact SqL.of (B39 S _ _ n6T e6)
    · obtain ⟨e7,e8,e9,e10,e11,e12,rfl,bwD,wD,hTD⟩:=z;obtain ⟨rfl,hx'⟩:=it;refine ⟨_,rfl,t1,fun o1 v1=>⟨o1,9,_,rfl,rfl,ad,by decide,by decide,(by decide),fun o2 v2=>⟨t1,fun o3 v3=>⟨o3,7,_,rfl,rfl,ad,by decide,by decide,(by decide),fun o4 v4=>?_⟩⟩⟩⟩;have m1:=Same.new v1 (.lst [.int 1]);have m2:=Same.new v2 (.lst (aae (9:Int).toNat [V.int 1]).flatten);have m3:=Same.new v3 (.lst [.int 1]);have m4:=Same.new v4 (.lst (aae (7:Int).toNat [V.int 1]).flatten);have E2:=m4 _ _ (m3 _ _ (a_ v2 (.lst (aae (9:Int).toNat [V.int 1]).flatten)));have E4:=a_ v4 (.lst (aae (7:Int).toNat [V.int 1]).flatten);have ko:=((m1.trans m2).trans m3).trans m4;have W2:=(wD.keep m1 (aa7 _)).ne v2;have W4:=(wD.keep ((m1.trans m2).trans m3) (aa7 _)).ne v4;clear m1 m2 m3 m4;generalize upd (upd (upd (upd HD o1 (.lst [.int 1])) o2 (.lst (aae (9:Int).toNat [V.int 1]).flatten)) o3 (.lst [.int 1])) o4 (.lst (aae (7:Int).toNat [V.int 1]).flatten)=HF at E2 E4 ko ⊢;have hTF:=hTD.mono ko;have N2:=hTF.ne E2 (fun _ z=>nomatch z);have N4:=hTF.ne E4 (fun _ z=>nomatch z);have wF:=wD.keep ko (aa7 _);refine ⟨_,rfl,wl,7,_,rfl,by decide,by decide,wF,by lia,fun r7 rs7 HH kH wH nr7 er7 hl7 sm7=>⟨(by show 4≤sizeLine;decide),fun po no=>?_⟩⟩;have hTH:=hTF.well wF kH;have mo:=Same.new no (.lst [.ref pf,.ref o2,.ref o4,.ref r7]);have Eo:=a_ no (.lst [.ref pf,.ref o2,.ref o4,.ref r7]);have noT:=hTH.of_new no;have oth:∀ y∈([.ref pf,.ref o2,.ref o4,.ref r7]:List V),∃ p ns',y=.ref p∧Rwh T HH p ns':=fun y hy=>by
        simp only [aay,abe,or_false] at hy;rcases hy with rfl|rfl|rfl|rfl
        · exact ⟨pf,_,rfl,((F9.b2 nfw bwD).bt (But.of ko)).bw nfw kH⟩
        · exact ⟨o2,aae 9 1,rfl,Rwh.bw ⟨E2,N2,by decide,by decide,dM (by decide)⟩ W2 kH⟩
        · exact ⟨o4,aae 7 1,rfl,Rwh.bw ⟨E4,N4,by decide,by decide,dM (by decide)⟩ W4 kH⟩
        · exact ⟨r7,rs7,rfl,er7,hTH.ne er7 (fun _ z=>nomatch z),by lia,by lia,sm7⟩
      have bwH:Bw wl T H9 HH:=(bwD.trans (Bw.bt (But.of ko))).trans (Bw.wl kH);obtain ⟨g,hg,pg,hp⟩:=(gN x (aan hx')).mono (io (B39 bwH));have hp:aY g=false:=pQ hp;generalize upd HH po (.lst [.ref pf,.ref o2,.ref o4,.ref r7])=HI at mo Eo ⊢;have hTI:=hTH.mono mo;refine ⟨po,rfl,⟨_,SqL.of Eo⟩,cJ (Trn.list (xs:=[.ref pf,.ref o2,.ref o4,.ref r7])) (fun i' σ H'=>∃ c8 c9 c10 c11 c12,σ=[some (.ref a),some (.ref b6),some (.int c),some (.ref wl),some (.str (av gs)),some (.ref r),some (.ref pf),some x,c8,c9,c10,c11,c12]∧But T HI H'∧LT T H') ⟨_,_,_,_,_,rfl,But.refl,hTI⟩ (fun i' σ H' hi' z=>?_) (fun i' y σ HJ' HJ hi' it z=>?_) (fun σ HJ z=>?_)⟩
      · obtain ⟨_,_,_,_,_,rfl,S,_⟩:=z;exact SqL.of (S _ _ noT Eo)
      · obtain ⟨u8,u9,u10,u11,u12,rfl,bJ,hTJ⟩:=z;obtain ⟨rfl,hy'⟩:=it;obtain ⟨p,ns',rfl,Rp⟩:=oth y (aan hy');refine ⟨3,6,rfl,⟨by decide,by decide,by decide,by decide⟩,cJ (Trn.range (lo:=3) (n:=((6:Int) - 3).toNat)) (fun k σ H'=>∃ c8 c9 c11 c12,σ=[some (.ref a),some (.ref b6),some (.int c),some (.ref wl),some (.str (av gs)),some (.ref r),some (.ref pf),some x,c8,c9,some (.ref p),c11,c12]∧But T HJ H'∧LT T H') ⟨_,_,_,_,rfl,But.refl,hTJ⟩ (fun k σ H' hk z=>trivial) (fun k y' σ HK' HK hk it z=>?_) (fun σ HK z=>?_)⟩
        · obtain ⟨u8',u9',u11',u12',rfl,bK,hTK⟩:=z;obtain ⟨rfl,rfl⟩:=it;have hk3:k < 3:=hk;have ei:(3:Int)+(k:Int)=((3+k:Nat):Int):=by lia
          rw [ei];have bb:=(But.of (w:=T) mo).trans (bJ.trans bK);have Rk:=Rp.bt bb;refine ⟨_,rfl,_,rfl,_,rfl,_,rfl,3+k,(.list (ns'.map PyData.int)),(.ref p),(.str (av gs)),(.str (av gs)),g,x,rfl,by lia,Rk.dat,sgD _,Dat.mono (io bb) _ _ hg,Rk.pr,pS,pg,Rk.sm1,hTK,fun HL bL hTL=>?_⟩;rw [gE Rk.row c7' (by rw [tG _ _ (by lia)];exact hp)];exact ⟨rfl,_,rfl,gz (fun zz=>absurd zz (by simp)) (fun _=>⟨_,_,_,_,rfl,bK.trans bL,hTL⟩)⟩
        · obtain ⟨u8',u9',u11',u12',rfl,bK,hTK⟩:=z;exact ⟨_,_,_,_,_,rfl,bJ.trans bK,hTK⟩
      · obtain ⟨u8,u9,u10,u11,u12,rfl,bJ,hTJ⟩:=z;exact ⟨_,_,_,_,_,_,rfl,bwH.trans (Bw.bt ((But.of mo).trans bJ)),wH.bt nwT.symm ((But.of mo).trans bJ),hTJ⟩
    obtain ⟨e7,e8,e9,e10,e11,e12,rfl,bwG,wG,hTG⟩:=z;refine ⟨t2,fun pt nt=>?_⟩;have mt:=Same.new nt (.tup [.int 8,.int 9]);have Et:=a_ nt (.tup [.int 8,.int 9]);have ntT:=hTG.of_new nt;have ntw:=wG.ne nt;generalize upd HG pt (.tup [.int 8,.int 9])=HP at mt Et ⊢;refine ⟨pt,rfl,⟨_,SqT.of Et⟩,cJ (Trn.tup (xs:=[.int 8,.int 9])) (fun i σ H'=>∃ c7 c8 c9 c10 c11 c12,σ=[some (.ref a),some (.ref b6),some (.int c),some (.ref wl),some (.str (av gs)),some (.ref r),some (.ref pf),c7,c8,c9,c10,c11,c12]∧Bw wl T HP H'∧Wel H' wl 0∧LT T H') ⟨_,_,_,_,_,_,rfl,fun _ _ _ _ e=>e,wG.keep mt (aa7 _),hTG.mono mt⟩ (fun i σ H' hi z=>?_) (fun i y σ HQ' HQ hi it z=>?_) (fun σ HQ z=>?_)⟩
    · obtain ⟨_,_,_,_,_,_,rfl,S,_⟩:=z;exact SqT.of (S _ _ ntw ntT Et)
    · obtain ⟨u7,u8,u9,u10,u11,u12,rfl,bwQ,wQ,hTQ⟩:=z;obtain ⟨rfl,hy'⟩:=it;obtain ⟨m,rfl,m8,m9⟩:∃ m:Int,y=.int m∧8≤m∧m≤9:=by
        have:=aan hy';simp only [aay,abe,or_false] at this;rcases this with rfl|rfl
        · exact ⟨8,rfl,by decide,by decide⟩
        · exact ⟨9,rfl,by decide,by decide⟩
      refine ⟨_,rfl,_,rfl,wl,m,_,rfl,by lia,by lia,wQ,by lia,fun r8 rs8 HR kR wR nr8 er8 hl8 sm8=>⟨_,rfl,t1,fun l1 n1=>⟨l1,6,_,rfl,rfl,ad,by decide,by decide,(by decide),fun D nD=>?_⟩⟩⟩;have hTR:=hTQ.well wQ kR;have Rp:Rwh T HR r8 rs8:=⟨er8,hTR.ne er8 (fun _ z=>nomatch z),by lia,by lia,sm8⟩
      have kD:=(Same.new n1 (.lst [.str "TooMany"])).trans (Same.new nD (.lst (aae (6:Int).toNat [V.str "TooMany"]).flatten));have nDT:=(hTR.mono (Same.new n1 (.lst [.str "TooMany"]))).of_new nD;refine ⟨(.list (rs8.map PyData.int)),(.ref r8),(.str (av gs)),(.str (av gs)),(.int 0),(.int 0),D,_,rfl,Dat.mono (dC kD) _ _ Rp.dat,sgD _,inD 0 _,Rp.pr,pS,(fJ (by decide)),(Rp.bt (But.of kD)).sm1,hTR.mono kD,a_ nD _,nDT,(fun k hk=>by rw [fe Rp.row c7' (cR 0 k) (by rw [cr];have:=sP k;lia)];exact pA _ k hk),fun HJ bJ hTJ=>?_⟩;refine ⟨true,rfl,bh ?_⟩;have bK:=(But.of (w:=T) kD).trans bJ;exact ⟨_,_,_,_,_,_,rfl,(bwQ.trans (Bw.wl kR)).trans (Bw.bt bK),wR.bt nwT.symm bK,hTJ⟩
    obtain ⟨u7,u8,u9,u10,u11,u12,rfl,bwQ,wQ,hTQ⟩:=z;have bw1:=(bwG.trans (Bw.bt (But.of mt))).trans bwQ;refine ⟨_,rfl,wl,7,_,rfl,by decide,by decide,wQ,by lia,fun r8 rs8 HR kR wR nr8 er8 hl8 sm8=>?_⟩;have hTR:=hTQ.well wQ kR;have Rp:Rwh T HR r8 rs8:=⟨er8,hTR.ne er8 (fun _ z=>nomatch z),by lia,by lia,sm8⟩
    refine ⟨_,rfl,0,(.list (rs8.map PyData.int)),(.ref r8),(.str (av gs)),(.str (av gs)),(.int 0),(.int 0),rfl,by decide,Rp.dat,sgD _,inD 0 _,Rp.pr,pS,fJ (by decide),Rp.sm1,hTR,fun HL bL hTL=>?_⟩;rw [fe Rp.row c7' (cR 0 0) (by rw [cr];show 6 < rs8.length;lia)];refine ⟨rfl,_,rfl,gz (fun zz=>absurd zz (by simp)) (fun _=>?_)⟩;have bw2:=(bw1.trans (Bw.wl kR)).trans (Bw.bt bL);have w2:Wel HL wl 0:=wR.bt nwT.symm bL;refine ⟨_,rfl,wl,2,_,rfl,by decide,by decide,w2,by lia,fun z7 HM za zb kM wM=>⟨t1,fun o1 v1=>⟨o1,7,_,rfl,rfl,ad,by decide,by decide,(by show 1 * 7≤sizeLine;decide),fun o2 v2=>?_⟩⟩⟩;have hTM:=hTL.well w2 kM;have m1:=Same.new v1 (.lst [.int z7]);have m2:=Same.new v2 (.lst (aae (7:Int).toNat [V.int z7]).flatten);have E2:=a_ v2 (.lst (aae (7:Int).toNat [V.int z7]).flatten);have N2:=(hTM.mono m1).of_new v2;have m12:=m1.trans m2;clear m1 m2;generalize upd (upd HM o1 (.lst [.int z7])) o2 (.lst (aae (7:Int).toNat [V.int z7]).flatten)=HO7 at E2 m12 ⊢;have hTO:=hTM.mono m12;have Rp:Rwh T HO7 o2 (aae 7 z7):=⟨by rw [E2,jh];rfl,N2,by rw [aaK];decide,by rw [aaK];decide,dM (by lia)⟩
    refine ⟨_,rfl,_,_,rfl,rfl,⟨by decide,by decide,by decide⟩,t1,fun l1 n1=>⟨t1,fun l2 n2=>⟨l2,5,_,rfl,rfl,ad,by decide,by decide,(by decide),fun l3 n3=>⟨l1,l3,_,_,rfl,rfl,(Same.new n3 _) _ _ ((Same.new n2 _) _ _ ad),ad,(by show 6≤sizeLine;decide),fun D nD=>?_⟩⟩⟩⟩;have d1:=Same.new n1 (.lst [.str "TooMany"]);have d2:=Same.new n2 (.lst [.str "told"]);have d3:=Same.new n3 (.lst (aae (5:Int).toNat [V.str "told"]).flatten);have d4:=Same.new nD (.lst ([.str "TooMany"]++(aae (5:Int).toNat [V.str "told"]).flatten));have d123:=(d1.trans d2).trans d3;have kD:=d123.trans d4;have nDT:=(hTO.mono d123).of_new nD;refine ⟨(.list ((aae 7 z7).map PyData.int)),(.ref o2),(.str (av gs)),(.str (av gs)),(.int (10 ^ (39:Int).toNat)),_,D,_,rfl,Dat.mono (dC kD) _ _ Rp.dat,sgD _,inD _ _,Rp.pr,pS,fJ (by decide),(Rp.bt (But.of kD)).sm1,hTO.mono kD,a_ nD _,nDT,(fun k hk=>?_),fun HX bX hTX=>?_⟩
    · match k,hk with
      | 0,_=>rw [fe Rp.row c7' (cR _ 0) (by rw [cr,aaK];decide)];rfl
      | 1,_=>rw [cD Rp.row c7' (cR _ 1) (by rw [cr,aaK];decide)];rfl
      | 2,_=>rw [cD Rp.row c7' (cR _ 2) (by rw [cr,aaK];decide)];rfl
      | 3,_=>rw [cD Rp.row c7' (cR _ 3) (by rw [cr,aaK];decide)];rfl
      | 4,_=>rw [cD Rp.row c7' (cR _ 4) (by rw [cr,aaK];decide)];rfl
      | 5,_=>rw [cD Rp.row c7' (cR _ 5) (by rw [cr,aaK];decide)];rfl
      | k+6,hk=>exact absurd hk (by lia)
    refine ⟨true,rfl,bh ?_⟩;have bX':=(But.of (w:=T) (m12.trans kD)).trans bX;have bw3:=(bw2.trans (Bw.wl kM)).trans (Bw.bt bX');have w3:Wel HX wl 0:=wM.bt nwT.symm bX';refine ⟨_,rfl,wl,2,_,rfl,by decide,by decide,w3,by lia,fun z6 HM' za' zb' kM' wM'=>⟨t1,fun o1' v1'=>⟨o1',6,_,rfl,rfl,ad,by decide,by decide,(by show 1 * 6≤sizeLine;decide),fun o2' v2'=>?_⟩⟩⟩;have hTM':=hTX.well w3 kM';have m1:=Same.new v1' (.lst [.int z6]);have m2:=Same.new v2' (.lst (aae (6:Int).toNat [V.int z6]).flatten);have E2':=a_ v2' (.lst (aae (6:Int).toNat [V.int z6]).flatten);have N2':=(hTM'.mono m1).of_new v2';have m12':=m1.trans m2;clear m1 m2;generalize upd (upd HM' o1' (.lst [.int z6])) o2' (.lst (aae (6:Int).toNat [V.int z6]).flatten)=HO6 at E2' m12' ⊢;have hTO':=hTM'.mono m12';have Rp':Rwh T HO6 o2' (aae 6 z6):=⟨by rw [E2',jh];rfl,N2',by rw [aaK];decide,by rw [aaK];decide,dM (by lia)⟩
    clear n1 n2 n3 nD d1 d2 d3 d4 d123 kD nDT;refine ⟨_,rfl,_,_,rfl,rfl,⟨by decide,by decide,by decide⟩,_,rfl,t1,fun l1 n1=>⟨l1,6,_,rfl,rfl,ad,by decide,by decide,(by decide),fun D nD=>?_⟩⟩;have kD:=(Same.new n1 (.lst [.str "told"])).trans (Same.new nD (.lst (aae (6:Int).toNat [V.str "told"]).flatten));have nDT:=(hTO'.mono (Same.new n1 (.lst [.str "told"]))).of_new nD;refine ⟨(.list ((aae 6 z6).map PyData.int)),(.ref o2'),(.str (av gs)),(.str (av gs)),(.int (-(10 ^ (39:Int).toNat))),_,D,_,rfl,Dat.mono (dC kD) _ _ Rp'.dat,sgD _,inD _ _,Rp'.pr,pS,(fJ (by decide)),(Rp'.bt (But.of kD)).sm1,hTO'.mono kD,a_ nD _,nDT,(fun k hk=>by rw [cD Rp'.row c7' (cR _ k) (by rw [cr,aaK];have:=p9 k;lia)];exact pA _ k hk),fun HJ bJ hTJ=>?_⟩;refine ⟨true,rfl,bh ?_⟩;have bK:=(But.of (w:=T) kD).trans bJ;have bw4:=(bw3.trans (Bw.wl kM')).trans (Bw.bt ((But.of m12').trans bK));clear kD nDT n1 nD bK bJ;have Fp:=F9.b2 nfw bw4;have hTY:=hTJ;clear hTJ;refine ⟨_,rfl,_,rfl,t1,fun l1 n1=>⟨l1,6,_,rfl,rfl,ad,by decide,by decide,(by decide),fun D nD=>?_⟩⟩;have kD:=(Same.new n1 (.lst [.str "told"])).trans (Same.new nD (.lst (aae (6:Int).toNat [V.str "told"]).flatten));have nDT:=(hTY.mono (Same.new n1 (.lst [.str "told"]))).of_new nD;refine ⟨(.list ((rs.take 4).map PyData.int)),(.ref pf),(.str (av gs)),(.str (av gs)),(.int 1),(.int 1),D,_,rfl,Dat.mono (dC kD) _ _ Fp.dat,sgD _,inD _ _,Fp.pr,pS,(fJ (by decide)),(Fp.bt (But.of kD)).sm1,hTY.mono kD,a_ nD _,nDT,(fun k hk=>by rw [cD Fp.row c7' (cR _ k) (by rw [cr];have:=p9 k;lia)];exact pA _ k hk),fun HJ bJ hTJ=>?_⟩;refine ⟨true,rfl,bh ?_⟩;have bK:=(But.of (w:=T) kD).trans bJ;exact ⟨_,_,_,_,_,_,_,_,_,_,_,rfl,B39 (bw4.trans (Bw.bt bK)),hTJ⟩
  · obtain ⟨_,_,_,_,_,_,_,_,_,_,_,rfl,_⟩:=z;exact q _
end
open PySem L2
theorem all_mk {l:PySem.W.OpenLaw} {w:World} {K:aab} {h:Heap} {mg:Str→Option Value} {fa:Addr} (X:K.In h) (G:h.Ns mainGlobals mg) (hfa:mg "law" = some (.ref fa))
    {tM3 tP1 tP2 tP3 tP4 tP5 tP6 tP7:Tok} {cP:Addr} {odP:Option Addr} {nP:Nat} {slP:Array (Option Value)}
    {tMl tMw:Tok}
    {aP aR aS aW aN aL aF aO aA aH aT aM:Addr}
    {aPN:Addr} {aPnm aPq:Str} {aPbs aPsub:List Value} {aPhd aPab:Bool} {aPsn:List Str} {aPcol:Option Bool} {aPdd aPod:Option Addr} {aPk0 aPk1 aPk2 aPk3 aPk5:Option Value} {aPc:Value} {aPes:Array DictEntry} {aPn:Nat} {aPsl:Array (Option Value)}
    {aRN:Addr} {aRnm aRq:Str} {aRbs aRsub:List Value} {aRhd aRab:Bool} {aRsn:List Str} {aRcol:Option Bool} {aRdd aRod:Option Addr} {aRk0 aRk1 aRk2 aRk3 aRk5:Option Value} {aRc:Value} {aRes:Array DictEntry} {aRn:Nat} {aRsl:Array (Option Value)}
    {aSN:Addr} {aSnm aSq:Str} {aSbs aSsub:List Value} {aShd aSab:Bool} {aSsn:List Str} {aScol:Option Bool} {aSdd aSod:Option Addr} {aSk0 aSk1 aSk2 aSk3 aSk5:Option Value} {aSc:Value} {aSes:Array DictEntry} {aSn:Nat} {aSsl:Array (Option Value)}
    {aNN:Addr} {aNnm aNq:Str} {aNbs aNsub:List Value} {aNhd aNab:Bool} {aNsn:List Str} {aNcol:Option Bool} {aNdd aNod:Option Addr} {aNk0 aNk1 aNk2 aNk3 aNk5:Option Value} {aNc:Value} {aNes:Array DictEntry} {aNn:Nat} {aNsl:Array (Option Value)}
    {aMN:Addr} {aMnm aMq:Str} {aMbs aMsub:List Value} {aMhd aMab:Bool} {aMsn:List Str} {aMcol:Option Bool} {aMdd aMod:Option Addr} {aMk0 aMk1 aMk2 aMk3 aMk5:Option Value} {aMc:Value} {aMes:Array DictEntry} {aMn:Nat} {aMsl:Array (Option Value)}
    {aRcd:ClassData}
    {aScd:ClassData}
    {aWcd:ClassData}
    {aNcd:ClassData}
    {aLcd:ClassData}
    {aFcd:ClassData}
    {aOcd:ClassData}
    {aAcd:ClassData}
    {aHcd:ClassData}
    {aTcd:ClassData}
    {aMcd:ClassData}
    {T cL:Addr}
{f0:Addr}
{f1:Addr}
{f2:Addr}
{f3:Addr}
{f4:Addr}
{f5:Addr}
{f6:Addr}
{f7:Addr}
{f8:Addr}
{f9:Addr}
{f10:Addr}
{f11:Addr}
{f12:Addr}
{f13:Addr}
{f14:Addr}
{od15 an15:Option Addr} {sl15:Array (Option Value)} {oc15 kV15 dc15 pm15 ct15:Value} {f15:Addr}
{f16:Addr}
{f17:Addr}
{f18:Addr}
{f19:Addr}
{f20:Addr}
{f21:Addr}
{f22:Addr}
{f23:Addr}
{f24:Addr}
{f25:Addr}
{f26:Addr}
{f27:Addr}
{f28:Addr}
{f29:Addr}
{f30:Addr}
{od31 an31:Option Addr} {sl31:Array (Option Value)} {oc31 kV31 dc31 pm31 cd31 ct31:Value} {f31:Addr}
    (q0:Fq K "is_whole" fF f0)
    (q1:Fq K "is_row" h_ f1)
    (q2:Fq K "is_signs" fG f2)
    (q3:Fq K "need_row" fE f3)
    (q4:Fq K "need_signs" d_ f4)
    (q5:Fq K "need_whole" dZ f5)
    (q6:Fq K "need_at_most" dq f6)
    (q7:Fq K "shorter_first" cX f7)
    (q8:Fq K "cuts_of" gi f8)
    (q9:Fq K "put_sign" fD f9)
    (q10:Fq K "worths_of" eK f10)
    (q11:Fq K "how_many_worths" cH f11)
    (q12:Fq K "can_be" ic f12)
    (q13:Fq K "nearest_to" ed f13)
    (q14:Fq K "how_many_with" cY f14)
    (a15:aav K mainGlobals "most_often" = some (some (.ref f15))) (l15:K.lookup f15=some ⟨oc15,od15,.func (abd "most_often" "most_often" (bR a7) (bi a7) (am a7) .none kV15 dc15 pm15 an15 (.ref cL) ct15),sl15⟩) (c15:abI K (.ref cL) "most_often" = true) (k15:aa6 K (.ref f15)=true)
    (q16:Fq K "counted_without_number" bo f16)
    (q17:Fq K "counted_for_number" bU f17)
    (q18:Fq K "count_by_worth" cO f18)
    (q19:Fq K "count_stretch" cZ f19)
    (q20:Fq K "count_joined" dt f20)
    (q21:Fq K "_law_well" eM f21)
    (q22:Fq K "_law_draw" eR f22)
    (q23:Fq K "_law_row" fH f23)
    (q24:Fq K "_law_signs" eg f24)
    (q25:Fq K "_law_word" eL f25)
    (q26:Fq K "_law_no_rows" du f26)
    (q27:Fq K "_law_no_signs" c_ f27)
    (q28:Fq K "_law_asked" eh f28)
    (q29:Fq K "_law_said" eQ f29)
    (q30:Fq K "_law_all" fI f30)
    (a31:aav K mainGlobals "law" = some (some (.ref f31))) (l31:K.lookup f31=some ⟨oc31,od31,.func (abd "law" "law" (bR fO) (bi fO) (am fO) .none kV31 dc31 pm31 an31 cd31 ct31),sl31⟩) (c31:abI K cd31 "law" = true) (k31:aa6 K (.ref f31)=true)
    (cK:aav K mainGlobals "len" = some none)
    (cJ : aav K mainGlobals "isinstance" = some none)
    (cI:aav K mainGlobals "int" = some none)
    (cC:aav K mainGlobals "bool" = some none)
    (cW:aav K mainGlobals "str" = some none)
    (c1:aav K mainGlobals "tuple" = some none)
    (cM:aav K mainGlobals "list" = some none)
    (cV:aav K mainGlobals "sorted" = some none)
    (cR:aav K mainGlobals "range" = some none)
    (cS:aav K mainGlobals "repr" = some none)
    (cG:aav K mainGlobals "enumerate" = some none)
    (c0:aav K mainGlobals "sum" = some none)
    (cA:aav K mainGlobals "all" = some none)
    (cQ:aav K mainGlobals "min" = some none)
    (cN:aav K mainGlobals "max" = some none)
    (cz:aav K mainGlobals "abs" = some none)
    (cE:aav K mainGlobals "divmod" = some none)
    (cD:aav K mainGlobals "dict" = some none)
    (cU:aav K mainGlobals "set" = some none)
    (cT:aav K mainGlobals "reversed" = some none)
    (cB:aav K mainGlobals "any" = some none)
    (c2:aav K mainGlobals "zip" = some none)
    (gM3:aav K mainGlobals "MOST_NUMBERS" = some (some (.int 9 tM3)))
    (gP:aav K mainGlobals "SIGNS_TO_PUT" = some (some (.ref cP)))
    (lP:K.lookup cP=some ⟨.type "tuple",odP,.seq #[.str "+" tP1,.str "-" tP2,.str "*" tP3,.str "+-" tP4,.str "+*" tP5,.str "-*" tP6,.str "+-*" tP7] nP,slP⟩)
    (gMl:aav K mainGlobals "MOST_TO_LIST" = some (some (.int 6 tMl)))
    (gMw:aav K mainGlobals "MOST_TO_COUNT" = some (some (.int 7 tMw)))
    (n_PutError:aav K mainGlobals "PutError" = some (some (.ref aP)))
    (n_NoRow:aav K mainGlobals "NoRow" = some (some (.ref aR)))
    (n_NoSigns:aav K mainGlobals "NoSigns" = some (some (.ref aS)))
    (n_NoWay:aav K mainGlobals "NoWay" = some (some (.ref aW)))
    (n_NoNumber:aav K mainGlobals "NoNumber" = some (some (.ref aN)))
    (n_NoPlace:aav K mainGlobals "NoPlace" = some (some (.ref aL)))
    (n_NoFit:aav K mainGlobals "NoFit" = some (some (.ref aF)))
    (n_NoForm:aav K mainGlobals "NoForm" = some (some (.ref aO)))
    (n_NoAsk:aav K mainGlobals "NoAsk" = some (some (.ref aA)))
    (n_NoHolds:aav K mainGlobals "NoHolds" = some (some (.ref aH)))
    (n_NoText:aav K mainGlobals "NoText" = some (some (.ref aT)))
    (n_TooMany:aav K mainGlobals "TooMany" = some (some (.ref aM)))
    (cy:aav K mainGlobals "ValueError" = some none)
    (l_PutError:K.lookup aP=some (excClassObj aPnm aPq aP aPN aPbs iW aPhd aPsn aPsub aPab aPcol aPdd aPk0 aPk1 aPk2 aPk3 aPk5 "ValueError.__new__"))
    (s_PutError:K.lookup aPN=some ⟨aPc,aPod,.dict aPes aPn,aPsl⟩)
    (t_PutError:fX aPes=true)
    (i_PutError:nsFind aPes "__init__" = none)
    (l_NoRow:K.lookup aR=some (excClassObj aRnm aRq aR aRN aRbs (.ref aP :: iW) aRhd aRsn aRsub aRab aRcol aRdd aRk0 aRk1 aRk2 aRk3 aRk5 "ValueError.__new__"))
    (s_NoRow:K.lookup aRN=some ⟨aRc,aRod,.dict aRes aRn,aRsl⟩)
    (t_NoRow:fX aRes=true)
    (i_NoRow:nsFind aRes "__init__" = none)
    (l_NoSigns:K.lookup aS=some (excClassObj aSnm aSq aS aSN aSbs (.ref aP :: iW) aShd aSsn aSsub aSab aScol aSdd aSk0 aSk1 aSk2 aSk3 aSk5 "ValueError.__new__"))
    (s_NoSigns:K.lookup aSN=some ⟨aSc,aSod,.dict aSes aSn,aSsl⟩)
    (t_NoSigns:fX aSes=true)
    (i_NoSigns:nsFind aSes "__init__" = none)
    (l_NoNumber:K.lookup aN=some (excClassObj aNnm aNq aN aNN aNbs (.ref aP :: iW) aNhd aNsn aNsub aNab aNcol aNdd aNk0 aNk1 aNk2 aNk3 aNk5 "ValueError.__new__"))
    (s_NoNumber:K.lookup aNN=some ⟨aNc,aNod,.dict aNes aNn,aNsl⟩)
    (t_NoNumber:fX aNes=true)
    (i_NoNumber:nsFind aNes "__init__" = none)
    (l_TooMany:K.lookup aM=some (excClassObj aMnm aMq aM aMN aMbs (.ref aP :: iW) aMhd aMsn aMsub aMab aMcol aMdd aMk0 aMk1 aMk2 aMk3 aMk5 "ValueError.__new__"))
    (s_TooMany:K.lookup aMN=some ⟨aMc,aMod,.dict aMes aMn,aMsl⟩)
    (t_TooMany:fX aMes=true)
    (i_TooMany:nsFind aMes "__init__" = none)
    (f1_NoRow:aaP K (.ref aR) "__getattribute__" = some (some (.builtin "BaseException.__getattribute__")))
    (f2_NoRow:aaP K (.ref aR) "__getattr__" = some none)
    (f3_NoRow:aaP K (.ref aR) "__class__" = some (some (.builtin "object.__class__")))
    (f4_NoRow:aaj K (.ref aR) (.type "BaseException")=some true)
    (f5_NoRow:aaj K (.ref aR) (.type "object")=some true)
    (f6_NoRow:aaj K (.ref aR) (.type "ValueError")=some true)
    (f1_NoSigns:aaP K (.ref aS) "__getattribute__" = some (some (.builtin "BaseException.__getattribute__")))
    (f2_NoSigns:aaP K (.ref aS) "__getattr__" = some none)
    (f3_NoSigns:aaP K (.ref aS) "__class__" = some (some (.builtin "object.__class__")))
    (f4_NoSigns:aaj K (.ref aS) (.type "BaseException")=some true)
    (f5_NoSigns:aaj K (.ref aS) (.type "object")=some true)
    (f6_NoSigns:aaj K (.ref aS) (.type "ValueError")=some true)
    (f1_NoNumber:aaP K (.ref aN) "__getattribute__" = some (some (.builtin "BaseException.__getattribute__")))
    (f2_NoNumber:aaP K (.ref aN) "__getattr__" = some none)
    (f3_NoNumber:aaP K (.ref aN) "__class__" = some (some (.builtin "object.__class__")))
    (f4_NoNumber:aaj K (.ref aN) (.type "BaseException")=some true)
    (f5_NoNumber:aaj K (.ref aN) (.type "object")=some true)
    (f6_NoNumber:aaj K (.ref aN) (.type "ValueError")=some true)
    (f1_TooMany:aaP K (.ref aM) "__getattribute__" = some (some (.builtin "BaseException.__getattribute__")))
    (f2_TooMany:aaP K (.ref aM) "__getattr__" = some none)
    (f3_TooMany:aaP K (.ref aM) "__class__" = some (some (.builtin "object.__class__")))
    (f4_TooMany:aaj K (.ref aM) (.type "BaseException")=some true)
    (f5_TooMany:aaj K (.ref aM) (.type "object")=some true)
    (f6_TooMany:aaj K (.ref aM) (.type "ValueError")=some true)
    (c_NoRow:aaZ K aR=some aRcd)
    (y_NoRow:abf K (.ref aR)=some (.type "type"))
    (c_NoSigns:aaZ K aS=some aScd)
    (y_NoSigns:abf K (.ref aS)=some (.type "type"))
    (c_NoWay:aaZ K aW=some aWcd)
    (y_NoWay:abf K (.ref aW)=some (.type "type"))
    (c_NoNumber:aaZ K aN=some aNcd)
    (y_NoNumber:abf K (.ref aN)=some (.type "type"))
    (c_NoPlace:aaZ K aL=some aLcd)
    (y_NoPlace:abf K (.ref aL)=some (.type "type"))
    (c_NoFit:aaZ K aF=some aFcd)
    (y_NoFit:abf K (.ref aF)=some (.type "type"))
    (c_NoForm:aaZ K aO=some aOcd)
    (y_NoForm:abf K (.ref aO)=some (.type "type"))
    (c_NoAsk:aaZ K aA=some aAcd)
    (y_NoAsk:abf K (.ref aA)=some (.type "type"))
    (c_NoHolds:aaZ K aH=some aHcd)
    (y_NoHolds:abf K (.ref aH)=some (.type "type"))
    (c_NoText:aaZ K aT=some aTcd)
    (y_NoText:abf K (.ref aT)=some (.type "type"))
    (c_TooMany:aaZ K aM=some aMcd)
    (y_TooMany:abf K (.ref aM)=some (.type "type"))
    (u_NoRow_NoSigns:aaj K (.ref aR) (.ref aS)=some false)
    (d_NoRow_NoSigns:(Value.ref aR == Value.ref aS)=false)
    (u_NoRow_NoWay:aaj K (.ref aR) (.ref aW)=some false)
    (d_NoRow_NoWay:(Value.ref aR == Value.ref aW)=false)
    (u_NoRow_NoNumber:aaj K (.ref aR) (.ref aN)=some false)
    (d_NoRow_NoNumber:(Value.ref aR == Value.ref aN)=false)
    (u_NoRow_NoPlace:aaj K (.ref aR) (.ref aL)=some false)
    (d_NoRow_NoPlace:(Value.ref aR == Value.ref aL)=false)
    (u_NoRow_NoFit:aaj K (.ref aR) (.ref aF)=some false)
    (d_NoRow_NoFit:(Value.ref aR == Value.ref aF)=false)
    (u_NoRow_NoForm:aaj K (.ref aR) (.ref aO)=some false)
    (d_NoRow_NoForm:(Value.ref aR == Value.ref aO)=false)
    (u_NoRow_NoAsk:aaj K (.ref aR) (.ref aA)=some false)
    (d_NoRow_NoAsk:(Value.ref aR == Value.ref aA)=false)
    (u_NoRow_NoHolds:aaj K (.ref aR) (.ref aH)=some false)
    (d_NoRow_NoHolds:(Value.ref aR == Value.ref aH)=false)
    (u_NoRow_NoText:aaj K (.ref aR) (.ref aT)=some false)
    (d_NoRow_NoText:(Value.ref aR == Value.ref aT)=false)
    (u_NoRow_TooMany:aaj K (.ref aR) (.ref aM)=some false)
    (d_NoRow_TooMany:(Value.ref aR == Value.ref aM)=false)
    (u_NoSigns_NoRow:aaj K (.ref aS) (.ref aR)=some false)
    (d_NoSigns_NoRow:(Value.ref aS == Value.ref aR)=false)
    (u_NoSigns_NoWay:aaj K (.ref aS) (.ref aW)=some false)
    (d_NoSigns_NoWay:(Value.ref aS == Value.ref aW)=false)
    (u_NoSigns_NoNumber:aaj K (.ref aS) (.ref aN)=some false)
    (d_NoSigns_NoNumber:(Value.ref aS == Value.ref aN)=false)
    (u_NoSigns_NoPlace:aaj K (.ref aS) (.ref aL)=some false)
    (d_NoSigns_NoPlace:(Value.ref aS == Value.ref aL)=false)
    (u_NoSigns_NoFit:aaj K (.ref aS) (.ref aF)=some false)
    (d_NoSigns_NoFit:(Value.ref aS == Value.ref aF)=false)
    (u_NoSigns_NoForm:aaj K (.ref aS) (.ref aO)=some false)
    (d_NoSigns_NoForm:(Value.ref aS == Value.ref aO)=false)
    (u_NoSigns_NoAsk:aaj K (.ref aS) (.ref aA)=some false)
    (d_NoSigns_NoAsk:(Value.ref aS == Value.ref aA)=false)
    (u_NoSigns_NoHolds:aaj K (.ref aS) (.ref aH)=some false)
    (d_NoSigns_NoHolds:(Value.ref aS == Value.ref aH)=false)
    (u_NoSigns_NoText:aaj K (.ref aS) (.ref aT)=some false)
    (d_NoSigns_NoText:(Value.ref aS == Value.ref aT)=false)
    (u_NoSigns_TooMany:aaj K (.ref aS) (.ref aM)=some false)
    (d_NoSigns_TooMany:(Value.ref aS == Value.ref aM)=false)
    (u_NoNumber_NoRow:aaj K (.ref aN) (.ref aR)=some false)
    (d_NoNumber_NoRow:(Value.ref aN == Value.ref aR)=false)
    (u_NoNumber_NoSigns:aaj K (.ref aN) (.ref aS)=some false)
    (d_NoNumber_NoSigns:(Value.ref aN == Value.ref aS)=false)
    (u_NoNumber_NoWay:aaj K (.ref aN) (.ref aW)=some false)
    (d_NoNumber_NoWay:(Value.ref aN == Value.ref aW)=false)
    (u_NoNumber_NoPlace:aaj K (.ref aN) (.ref aL)=some false)
    (d_NoNumber_NoPlace:(Value.ref aN == Value.ref aL)=false)
    (u_NoNumber_NoFit:aaj K (.ref aN) (.ref aF)=some false)
    (d_NoNumber_NoFit:(Value.ref aN == Value.ref aF)=false)
    (u_NoNumber_NoForm:aaj K (.ref aN) (.ref aO)=some false)
    (d_NoNumber_NoForm:(Value.ref aN == Value.ref aO)=false)
    (u_NoNumber_NoAsk:aaj K (.ref aN) (.ref aA)=some false)
    (d_NoNumber_NoAsk:(Value.ref aN == Value.ref aA)=false)
    (u_NoNumber_NoHolds:aaj K (.ref aN) (.ref aH)=some false)
    (d_NoNumber_NoHolds:(Value.ref aN == Value.ref aH)=false)
    (u_NoNumber_NoText:aaj K (.ref aN) (.ref aT)=some false)
    (d_NoNumber_NoText:(Value.ref aN == Value.ref aT)=false)
    (u_NoNumber_TooMany:aaj K (.ref aN) (.ref aM)=some false)
    (d_NoNumber_TooMany:(Value.ref aN == Value.ref aM)=false)
    (u_TooMany_NoRow:aaj K (.ref aM) (.ref aR)=some false)
    (d_TooMany_NoRow:(Value.ref aM == Value.ref aR)=false)
    (u_TooMany_NoSigns:aaj K (.ref aM) (.ref aS)=some false)
    (d_TooMany_NoSigns:(Value.ref aM == Value.ref aS)=false)
    (u_TooMany_NoWay:aaj K (.ref aM) (.ref aW)=some false)
    (d_TooMany_NoWay:(Value.ref aM == Value.ref aW)=false)
    (u_TooMany_NoNumber:aaj K (.ref aM) (.ref aN)=some false)
    (d_TooMany_NoNumber:(Value.ref aM == Value.ref aN)=false)
    (u_TooMany_NoPlace:aaj K (.ref aM) (.ref aL)=some false)
    (d_TooMany_NoPlace:(Value.ref aM == Value.ref aL)=false)
    (u_TooMany_NoFit:aaj K (.ref aM) (.ref aF)=some false)
    (d_TooMany_NoFit:(Value.ref aM == Value.ref aF)=false)
    (u_TooMany_NoForm:aaj K (.ref aM) (.ref aO)=some false)
    (d_TooMany_NoForm:(Value.ref aM == Value.ref aO)=false)
    (u_TooMany_NoAsk:aaj K (.ref aM) (.ref aA)=some false)
    (d_TooMany_NoAsk:(Value.ref aM == Value.ref aA)=false)
    (u_TooMany_NoHolds:aaj K (.ref aM) (.ref aH)=some false)
    (d_TooMany_NoHolds:(Value.ref aM == Value.ref aH)=false)
    (u_TooMany_NoText:aaj K (.ref aM) (.ref aT)=some false)
    (d_TooMany_NoText:(Value.ref aM == Value.ref aT)=false)
    (hC:PySem.W.codeHdIn K cL T=true) :
    ∃ fd:FuncData,(∀ (s:Shared) (v:Value),BindsTo s fd ⟨[v],[]⟩ [("script",v)])∧∀ base:Heap,K.In base→base.Ns mainGlobals mg→base.BuiltinsAt mg T→FnOk l.prog w K mg base CX0 10 fa fd ["script"] (mO K T):=by
  have e:=hfa.symm.trans (aaM X G a31);cases e;obtain ⟨_,bh,bS,co⟩:=q0.use X G (ps:=["thing"]) fun _ _ _ _ _ _ us hl=>match us,hl with|[_],_=>rfl
  obtain ⟨_,bf,bP,cm⟩:=q1.use X G (ps:=["thing"]) fun _ _ _ _ _ _ us hl=>match us,hl with|[_],_=>rfl
  obtain ⟨_,bg,bQ,cn⟩:=q2.use X G (ps:=["thing"]) fun _ _ _ _ _ _ us hl=>match us,hl with|[_],_=>rfl
  obtain ⟨_,bn,bX,cs⟩:=q3.use X G (ps:=["thing"]) fun _ _ _ _ _ _ us hl=>match us,hl with|[_],_=>rfl
  obtain ⟨_,bp,bY,ct⟩:=q4.use X G (ps:=["thing"]) fun _ _ _ _ _ _ us hl=>match us,hl with|[_],_=>rfl
  obtain ⟨_,bq,bZ,cu⟩:=q5.use X G (ps:=["thing"]) fun _ _ _ _ _ _ us hl=>match us,hl with|[_],_=>rfl
  obtain ⟨_,bm,bW,cr⟩:=q6.use X G (ps:=["row","most"]) fun _ _ _ _ _ _ us hl=>match us,hl with|[_,_],_=>rfl
  obtain ⟨_,bs,b1,cw⟩:=q7.use X G (ps:=["many"]) fun _ _ _ _ _ _ us hl=>match us,hl with|[_],_=>rfl
  obtain ⟨_,bc,bL,cj⟩:=q8.use X G (ps:=["stretch"]) fun _ _ _ _ _ _ us hl=>match us,hl with|[_],_=>rfl
  obtain ⟨_,br,b0,cv⟩:=q9.use X G (ps:=["left","sign","right"]) fun _ _ _ _ _ _ us hl=>match us,hl with|[_,_,_],_=>rfl
  obtain ⟨_,bt,b2,cx⟩:=q10.use X G (ps:=["row","signs"]) fun _ _ _ _ _ _ us hl=>match us,hl with|[_,_],_=>rfl
  obtain ⟨_,be,bO,cl⟩:=q11.use X G (ps:=["row","signs"]) fun _ _ _ _ _ _ us hl=>match us,hl with|[_,_],_=>rfl
  obtain ⟨_,a5,bF,cd⟩:=q12.use X G (ps:=["row","signs","number"]) fun _ _ _ _ _ _ us hl=>match us,hl with|[_,_,_],_=>rfl
  obtain ⟨_,bl,bV,cq⟩:=q13.use X G (ps:=["row","signs","number"]) fun _ _ _ _ _ _ us hl=>match us,hl with|[_,_,_],_=>rfl
  obtain ⟨_,bd,bM,ck⟩:=q14.use X G (ps:=["row","signs","number"]) fun _ _ _ _ _ _ us hl=>match us,hl with|[_,_,_],_=>rfl
  have bk:=rn (st:=a7) l15 c15 k15;have bT:Binds K _ ["row","signs"] []:=.all (fun us hl=>match us,hl with|[_,_],_=>(rfl:bindArgs (abd "most_often" "most_often" (bR a7) (bi a7) (am a7) .none kV15 dc15 pm15 an15 (.ref cL) ct15) _=_));have cp:=aaM X G a15;obtain ⟨_,bb,bK,ci⟩:=q16.use X G (ps:=["row","signs"]) fun _ _ _ _ _ _ us hl=>match us,hl with|[_,_],_=>rfl
  obtain ⟨_,ba,bJ,ch⟩:=q17.use X G (ps:=["row","signs","number"]) fun _ _ _ _ _ _ us hl=>match us,hl with|[_,_,_],_=>rfl
  obtain ⟨_,a6,bG,ce⟩:=q18.use X G (ps:=["row","signs"]) fun _ _ _ _ _ _ us hl=>match us,hl with|[_,_],_=>rfl
  obtain ⟨_,a9,bI,cg⟩:=q19.use X G (ps:=["counted","signs","stretch"]) fun _ _ _ _ _ _ us hl=>match us,hl with|[_,_,_],_=>rfl
  obtain ⟨_,a8,bH,cf⟩:=q20.use X G (ps:=["many","lefts","sign","rights"]) fun _ _ _ _ _ _ us hl=>match us,hl with|[_,_,_,_],_=>rfl
  obtain ⟨_,a3,bD,cb⟩:=q21.use X G (ps:=["cell"]) fun _ _ _ _ _ _ us hl=>match us,hl with|[_],_=>rfl
  obtain ⟨_,aX,bw,b5⟩:=q22.use X G (ps:=["well","many"]) fun _ _ _ _ _ _ us hl=>match us,hl with|[_,_],_=>rfl
  obtain ⟨_,a0,bA,b8⟩:=q23.use X G (ps:=["well","many"]) fun _ _ _ _ _ _ us hl=>match us,hl with|[_,_],_=>rfl
  obtain ⟨_,a2,bC,ca⟩:=q24.use X G (ps:=["well"]) fun _ _ _ _ _ _ us hl=>match us,hl with|[_],_=>rfl
  obtain ⟨_,a4,bE,cc⟩:=q25.use X G (ps:=["caught"]) fun _ _ _ _ _ _ us hl=>match us,hl with|[_],_=>rfl
  obtain ⟨_,aY,bx,b6⟩:=q26.use X G (ps:=["well","row"]) fun _ _ _ _ _ _ us hl=>match us,hl with|[_,_],_=>rfl
  obtain ⟨_,aZ,bz,b7⟩:=q27.use X G (ps:=[]) fun _ _ _ _ _ _ us hl=>match us,hl with|[],_=>rfl
  obtain ⟨_,aV,bv,b4⟩:=q28.use X G (ps:=["way","row","signs","number"]) fun _ _ _ _ _ _ us hl=>match us,hl with|[_,_,_,_],_=>rfl
  obtain ⟨_,a1,bB,b9⟩:=q29.use X G (ps:=["way","row","signs","number"]) fun _ _ _ _ _ _ us hl=>match us,hl with|[_,_,_,_],_=>rfl
  obtain ⟨_,aU,bu,b3⟩:=q30.use X G (ps:=["row","signs","number","due"]) fun _ _ _ _ _ _ us hl=>match us,hl with|[_,_,_,_],_=>rfl
  have bj:=qm (st:=fO) l31 c31 k31;have B:Bu K mg:=⟨aaz X G cK,aaz X G cJ,aaz X G cI,aaz X G cC,aaz X G cW,aaz X G c1,aaz X G cM,aaz X G cV,aaz X G cR,aaz X G cS,aaz X G cG,aaz X G c0,aaz X G cA,aaz X G cQ,aaz X G cN,aaz X G cz,aaz X G cE,aaz X G cD,aaz X G cU,aaz X G cT,aaz X G cB,aaz X G c2⟩
  have B3:Cp K mg tM3 cP:=⟨aaM X G gM3,aaM X G gP,fun H=>.inr ⟨_,_,_,lP,rfl,rfl,by show 7≤sizeLine;decide,.cons ⟨_,rfl⟩ (.cons ⟨_,rfl⟩ (.cons ⟨_,rfl⟩ (.cons ⟨_,rfl⟩ (.cons ⟨_,rfl⟩ (.cons ⟨_,rfl⟩ (.cons ⟨_,rfl⟩ .nil))))))⟩⟩
  have B2:Cl mg tMl tMw:=⟨aaM X G gMl,aaM X G gMw⟩
  have XC:Xc K mg aP aR aS aN aM:=⟨aaM X G n_PutError,aaM X G n_NoRow,aaM X G n_NoSigns,aaM X G n_NoNumber,aaM X G n_TooMany,jV l_NoRow s_NoRow t_NoRow i_NoRow l_PutError s_PutError t_PutError i_PutError,jV l_NoSigns s_NoSigns t_NoSigns i_NoSigns l_PutError s_PutError t_PutError i_PutError,jV l_NoNumber s_NoNumber t_NoNumber i_NoNumber l_PutError s_PutError t_PutError i_PutError,jV l_TooMany s_TooMany t_TooMany i_TooMany l_PutError s_PutError t_PutError i_PutError,gO l_NoRow l_PutError,gO l_NoSigns l_PutError,gO l_NoNumber l_PutError,gO l_TooMany l_PutError⟩
  have XK:Xk mg aR aS aW aN aL aF aO aA aH aT aM:=⟨aaM X G n_NoRow,aaM X G n_NoSigns,aaM X G n_NoWay,aaM X G n_NoNumber,aaM X G n_NoPlace,aaM X G n_NoFit,aaM X G n_NoForm,aaM X G n_NoAsk,aaM X G n_NoHolds,aaM X G n_NoText,aaM X G n_TooMany,aaz X G cy⟩
  have E0:Kg K aR aS aW aN aL aF aO aA aH aT aM (.ref aR) 0:=⟨fV,(au d_NoRow_NoSigns c_NoSigns y_NoSigns u_NoRow_NoSigns),(au d_NoRow_NoWay c_NoWay y_NoWay u_NoRow_NoWay),(au d_NoRow_NoNumber c_NoNumber y_NoNumber u_NoRow_NoNumber),(au d_NoRow_NoHolds c_NoHolds y_NoHolds u_NoRow_NoHolds),(au d_NoRow_TooMany c_TooMany y_TooMany u_NoRow_TooMany),(au d_NoRow_NoText c_NoText y_NoText u_NoRow_NoText),fW (au d_NoRow_NoAsk c_NoAsk y_NoAsk u_NoRow_NoAsk) (au d_NoRow_NoFit c_NoFit y_NoFit u_NoRow_NoFit) (au d_NoRow_NoForm c_NoForm y_NoForm u_NoRow_NoForm) (au d_NoRow_NoPlace c_NoPlace y_NoPlace u_NoRow_NoPlace)⟩
  have X0:Kx K aR:=⟨jU l_NoRow f1_NoRow f2_NoRow f3_NoRow f4_NoRow f5_NoRow,gW f6_NoRow⟩
  have E1:Kg K aR aS aW aN aL aF aO aA aH aT aM (.ref aS) 1:=⟨(au d_NoSigns_NoRow c_NoRow y_NoRow u_NoSigns_NoRow),fV,(au d_NoSigns_NoWay c_NoWay y_NoWay u_NoSigns_NoWay),(au d_NoSigns_NoNumber c_NoNumber y_NoNumber u_NoSigns_NoNumber),(au d_NoSigns_NoHolds c_NoHolds y_NoHolds u_NoSigns_NoHolds),(au d_NoSigns_TooMany c_TooMany y_TooMany u_NoSigns_TooMany),(au d_NoSigns_NoText c_NoText y_NoText u_NoSigns_NoText),fW (au d_NoSigns_NoAsk c_NoAsk y_NoAsk u_NoSigns_NoAsk) (au d_NoSigns_NoFit c_NoFit y_NoFit u_NoSigns_NoFit) (au d_NoSigns_NoForm c_NoForm y_NoForm u_NoSigns_NoForm) (au d_NoSigns_NoPlace c_NoPlace y_NoPlace u_NoSigns_NoPlace)⟩
  have X1:Kx K aS:=⟨jU l_NoSigns f1_NoSigns f2_NoSigns f3_NoSigns f4_NoSigns f5_NoSigns,gW f6_NoSigns⟩
  have E3:Kg K aR aS aW aN aL aF aO aA aH aT aM (.ref aN) 3:=⟨(au d_NoNumber_NoRow c_NoRow y_NoRow u_NoNumber_NoRow),(au d_NoNumber_NoSigns c_NoSigns y_NoSigns u_NoNumber_NoSigns),(au d_NoNumber_NoWay c_NoWay y_NoWay u_NoNumber_NoWay),fV,(au d_NoNumber_NoHolds c_NoHolds y_NoHolds u_NoNumber_NoHolds),(au d_NoNumber_TooMany c_TooMany y_TooMany u_NoNumber_TooMany),(au d_NoNumber_NoText c_NoText y_NoText u_NoNumber_NoText),fW (au d_NoNumber_NoAsk c_NoAsk y_NoAsk u_NoNumber_NoAsk) (au d_NoNumber_NoFit c_NoFit y_NoFit u_NoNumber_NoFit) (au d_NoNumber_NoForm c_NoForm y_NoForm u_NoNumber_NoForm) (au d_NoNumber_NoPlace c_NoPlace y_NoPlace u_NoNumber_NoPlace)⟩
  have X3:Kx K aN:=⟨jU l_NoNumber f1_NoNumber f2_NoNumber f3_NoNumber f4_NoNumber f5_NoNumber,gW f6_NoNumber⟩
  have E5:Kg K aR aS aW aN aL aF aO aA aH aT aM (.ref aM) 5:=⟨(au d_TooMany_NoRow c_NoRow y_NoRow u_TooMany_NoRow),(au d_TooMany_NoSigns c_NoSigns y_NoSigns u_TooMany_NoSigns),(au d_TooMany_NoWay c_NoWay y_NoWay u_TooMany_NoWay),(au d_TooMany_NoNumber c_NoNumber y_NoNumber u_TooMany_NoNumber),(au d_TooMany_NoHolds c_NoHolds y_NoHolds u_TooMany_NoHolds),fV,(au d_TooMany_NoText c_NoText y_NoText u_TooMany_NoText),fW (au d_TooMany_NoAsk c_NoAsk y_NoAsk u_TooMany_NoAsk) (au d_TooMany_NoFit c_NoFit y_NoFit u_TooMany_NoFit) (au d_TooMany_NoForm c_NoForm y_NoForm u_TooMany_NoForm) (au d_TooMany_NoPlace c_NoPlace y_NoPlace u_TooMany_NoPlace)⟩
  have X5:Kx K aM:=⟨jU l_TooMany f1_TooMany f2_TooMany f3_TooMany f4_TooMany f5_TooMany,gW f6_TooMany⟩
  refine ⟨abd "law" "law" (bR fO) (bi fO) (am fO) .none kV31 dc31 pm31 an31 cd31 ct31,fun s v=>.of_eq rfl,fun base KB _ HB=>?_⟩;have Cd:=PySem.W.codeHd_of_K KB hC;have az:Cal l.prog w K mg base "is_whole" 1 ["thing"] (gQ K):=⟨_,_,kW bh B,bS,bh.kp,co⟩
  have ai:Cal l.prog w K mg base "_law_well" 1 ["cell"] lU:=⟨_,_,qX a3 B,bD,a3.kp,cb⟩
  have ac:Cal l.prog w K mg base "_law_draw" 2 ["well","many"] gb:=⟨_,_,qZ aX,bw,aX.kp,b5⟩
  have af:Cal l.prog w K mg base "_law_row" 3 ["well","many"] o8:=⟨_,_,sL a0 B ac,bA,a0.kp,b8⟩
  have ah:Cal l.prog w K mg base "_law_signs" 3 ["well"] fA:=⟨_,_,jQ a2 ac,bC,a2.kp,ca⟩
  have aK:Cal l.prog w K mg base "shorter_first" 1 ["many"] sg:=⟨_,_,gp bs B,b1,bs.kp,cw⟩
  have ax:Cal l.prog w K mg base "is_row" 2 ["thing"] jA:=⟨_,_,og bf B B3 az,bP,bf.kp,cm⟩
  have ay:Cal l.prog w K mg base "is_signs" 1 ["thing"] f_:=⟨_,_,kX bg B B3,bQ,bg.kp,cn⟩
  have ar:Cal l.prog w K mg base "cuts_of" 1 ["stretch"] lX:=⟨_,_,l7 bc B,bL,bc.kp,cj⟩
  have aJ:Cal l.prog w K mg base "put_sign" 1 ["left","sign","right"] fZ:=⟨_,_,kT br,b0,br.kp,cv⟩
  have an:Cal l.prog w K mg base "count_joined" 2 ["many","lefts","sign","rights"] hX:=⟨_,_,gL a8 aJ,bH,a8.kp,cf⟩
  have ao:Cal l.prog w K mg base "count_stretch" 3 ["counted","signs","stretch"] fY:=⟨_,_,gu a9 ar an,bI,a9.kp,cg⟩
  have al:Cal l.prog w K mg base "count_by_worth" 4 ["row","signs"] dJ:=⟨_,_,fT a6 B aK ao,bG,a6.kp,ce⟩
  have aE:bN l.prog w K mg base "need_row" 3 ["thing"] (dn aR):=⟨_,_,jP bn XC ax,bX,bn.kp,cs⟩
  have aG:bN l.prog w K mg base "need_signs" 2 ["thing"] (cF aS):=⟨_,_,ij bp XC ay,bY,bp.kp,ct⟩
  have aI:bN l.prog w K mg base "need_whole" 2 ["thing"] (dY aN):=⟨_,_,ii bq XC az,bZ,bq.kp,cu⟩
  have aD:bN l.prog w K mg base "need_at_most" 1 ["row","most"] (dL aM):=⟨_,_,gq bm B XC,bW,bm.kp,cr⟩
  have aq:bN l.prog w K mg base "counted_without_number" 5 ["row","signs"] (qO aR aS aN aM):=⟨_,_,dA (aP:=aP) bb B2 aE aG aD al,bK,bb.kp,ci⟩
  have ap:bN l.prog w K mg base "counted_for_number" 5 ["row","signs","number"] (o9 aR aS aN aM):=⟨_,_,ez (aP:=aP) ba B2 aE aG aI aD al,bJ,ba.kp,ch⟩
  have aQ:bN l.prog w K mg base "worths_of" 5 ["row","signs"] (jC aR aS aN aM T 6):=⟨_,_,i6 (aP:=aP) bt B B2 aE aG aD al,b2,bt.kp,cx⟩
  have aw:bN l.prog w K mg base "how_many_worths" 6 ["row","signs"] (jC aR aS aN aM T 7):=⟨_,_,ft (aP:=aP) be B aq,bO,be.kp,cl⟩
  have ak:bN l.prog w K mg base "can_be" 6 ["row","signs","number"] (jB aR aS aN aM T 7):=⟨_,_,l8 (aP:=aP) a5 ap,bF,a5.kp,cd⟩
  have av:bN l.prog w K mg base "how_many_with" 6 ["row","signs","number"] (jB aR aS aN aM T 7):=⟨_,_,fS (aP:=aP) bd ap,bM,bd.kp,ck⟩
  have aC:bN l.prog w K mg base "nearest_to" 6 ["row","signs","number"] (jB aR aS aN aM T 7):=⟨_,_,il (aP:=aP) bl B ap,bV,bl.kp,cq⟩
  have aB:bN l.prog w K mg base "most_often" 6 ["row","signs"] (jC aR aS aN aM T 7):=⟨_,_,im (aP:=aP) bk Cd HB B B.imin aq,bT,bk.kp,cp⟩
  have ab:bN l.prog w K mg base "_law_asked" 7 ["way","row","signs","number"] (o_ aR aS aN aM T):=⟨_,_,pP aV aQ aw aB ak aC av,bv,aV.kp,b4⟩
  have aj:Cal l.prog w K mg base "_law_word" 1 ["caught"] (o7 K aR aS aW aN aL aF aO aA aH aT aM):=⟨_,_,qW a4 B XK,bE,a4.kp,cc⟩
  have ag:Cal l.prog w K mg base "_law_said" 8 ["way","row","signs","number"] (jz T):=⟨_,_,qY a1 B XC E0 E1 E3 E5 X0 X1 X3 X5 ab aj,bB,a1.kp,b9⟩
  have ae:Cal l.prog w K mg base "_law_no_signs" 1 [] (lV T):=⟨_,_,kU aZ,bz,aZ.kp,b7⟩
  have ad:Cal l.prog w K mg base "_law_no_rows" 3 ["well","row"] (lW T):=⟨_,_,l6 aY B ac,bx,aY.kp,b6⟩
  have aa:Cal l.prog w K mg base "_law_all" 9 ["row","signs","number","due"] (pc T):=⟨_,_,sN aU B ag,bu,aU.kp,b3⟩
  exact sM bj B ai ac af ah ad ae ag aa
theorem walk {T c:Addr} {l:PySem.W.OpenLaw} {q:Program} {loose:List Str} {XP:(Str→Option Value)→Heap→Prop} {YP:World→Heap→Prop} {d:DefRec} {K:Params→aab} (hn:l.most=some 63) (hdf:d.params.defaults=[]) (hi:PyProof.Rows.importsNone q=true)
    (hY:∀ (w:World) (h:Heap),YP w h→(K w.params).In h∧h.get? T=some (PySem.W.tabObj #[])) (hC:∀ w:World,PySem.W.codeHdIn (K w.params) c T=true) (hKT:∀ w:World,(K w.params).lookup T=none)
    (F:∀ (w:World) (mg:Str→Option Value) (fa:Addr) (h:Heap),(K w.params).In h→h.Ns mainGlobals mg→mg d.name=some (.ref fa) →
      ∃ fd:FuncData,(∀ (s:Shared) (u:Value),BindsTo s fd ⟨[u],[]⟩ [("script",u)])∧∀ base:Heap,(K w.params).In base→base.Ns mainGlobals mg→base.BuiltinsAt mg T→FnOk l.prog w (K w.params) mg base CX0 10 fa fd ["script"] (mO (K w.params) T)) :
    PySem.W.WalkO q loose XP YP l.row.toRowW d [] (fun f vs=>PySem.call f vs) :=
  L2.walk_ofT (T:=T) (c:=c) (qual:=ug) (n:=63) (k:=10) (x:="script") (CX:=fun _=>CX0) (sp:=fun w=>mO (K w.params) T) hn (by decide) hdf ⟨rfl,by decide,by decide,rfl⟩ hi hY hC hKT F (fun _ _ a ns hl hT hS=>⟨a,ns,rfl,hS,hl,⟨_,hT⟩,fun _=>rfl⟩) fun _ _ _ _ _ z=>z
end Put
namespace PySem.W.Fast
def tw13416202461054827071:=0
def tw9785549800915864234:=0
def tw3609878736834564499:=0
def tw15024145836227313493:=0
def tw5769970812518893871:=0
def tw16460170208486575997:=0
def tw13111245939842945019:=0
def tw10123827444658784621:=0
def tw16387455833229604799:=0
def tw14994913286686000058:=0
def tw8270504301094435280:=0
def tw2895393060655651464:=0
def tw5674576353883322161:=0
def tw16410336849981258983:=0
def tw1917188797769533952:=0
def tw16975288709387192831:=0
def tw512238559265048932:=0
def tw2258794433816013748:=0
def tw22962168285547598:=0
def tw14772145463058107832:=0
def tw5280984382397904900:=0
def tw8527839433577423520:=0
def tw1709394466489089046:=0
def tw2702251370774083925:=0
def tw1707399930845488778:=0
def tw16360815900385219497:=0
def tw2368903760559498800:=0
def tw14729719709374529570:=0
def tw11984241257704328521:=0
def tw3964278906840186629:=0
def tw8407236926943394754:=0
def tw16554020666209332560:=0
def tw7522917539586780798:=0
def tw3447129435881313465:=0
def tw3748066762149843756:=0
def tw883809413897179286:=0
def tw1130935051445884121:=0
def tw15802779571011590248:=0
def tw10781669606981947442:=0
def tw16207246306299382863:=0
def tw6000610928285528086:=0
def tw15983704833826570771:=0
def tw17751385022835452289:=0
def tw11539718911316230854:=0
def tw4946652408189180557:=0
def tw3131334751734784607:=0
def tw7671800119302649883:=0
def tw451229784412725864:=0
def tw15631221925420349206:=0
def tw440955292984035119:=0
def tw9419843664582539820:=0
def tw17445121923576044552:=0
def tw15390678699418430647:=0
def tw16928454217816629627:=0
def tw1934782264482535801:=0
def tw17320697773444549431:=0
def tw7003393271390057503:=0
def tw2344836582660225747:=0
def tw15955940072394778974:=0
def tw5062811164100169741:=0
def tw3541327718322774106:=0
def tw10927700572283815379:=0
def tw4314943115702848782:=0
def tw15148305565056714051:=0
def tw8024446335263208702:=0
def tw14544040185230560615:=0
def tw14112686994609497950:=0
def tw4808838797565348330:=0
def tw3423986972765180781:=0
def tw8653810955596826617:=0
def tw8657708187846925616:=0
def tw10881814277681157309:=0
def tw11667377294433797561:=0
def tw15990447004443946617:=0
def tw15810628935413908610:=0
def tw3778969451613873807:=0
def tw11471076779532641339:=0
def tw17513701378960067962:=0
def tw14838997096155852494:=0
def tw18393718930452343189:=0
def tw904475294576966359:=0
def tw18389149103778661365:=0
def tw10057806354229505132:=0
def tw2680315228522197926:=0
def tw8785576439939408625:=0
def tw8905786756748219182:=0
def tw1617910616887439583:=0
def tw14156444089038832797:=0
def tw6337258318462320596:=0
def tw5097924218066378047:=0
def tw16327943274474904383:=0
def tw17984673160219536074:=0
def tw5369174276518120620:=0
def tw14831367575310372383:=0
def tw6322674960364174293:=0
def tw14543295000432002708:=0
def tw9786392504276914454:=0
def tw5520677203152210780:=0
def tw3474942432957893238:=0
def tw1223951759106839046:=0
def tw3589245341949172918:=0
def tw11165009348111760660:=0
def tw7967869852744142388:=0
def tw7744104853855829159:=0
def tw18335776425263442825:=0
def tw16923930447346038654:=0
def tw17326132671853467069:=0
def tw13088807400122419689:=0
def tw11919541985950736090:=0
def tw8474641083577286804:=0
def tw7983004322529474572:=0
def tw10574594606744735383:=0
def tw8052495639293848613:=0
def tw14003709559380558574:=0
def tw2986786416759756050:=0
def tw3749408063375397101:=0
def tw3171212142756514388:=0
def tw9121627833620227427:=0
def tw5197615146904807488:=0
def tw3029998879342829410:=0
def tw15720851761445254711:=0
def tw11418893093487004576:=0
def tw2229120611261354278:=0
def tw16504816136070639832:=0
def tw15924713506476836665:=0
def tw7137546596600237158:=0
def tw9677536718024666501:=0
def tw8505687416288814279:=0
def tw458035907989557658:=0
def tw4528259400872375545:=0
def tw6695710320042264944:=0
def tw16338533612637329951:=0
def tw9901115257465576768:=0
def tw17255573989943765225:=0
def tw13855922685718136023:=0
def tw17605098829432722277:=0
def tw17835487575222804985:=0
def tw5094218774703691764:=0
def tw3469689422230710459:=0
def tw17809418655949754591:=0
def tw7481260195369106123:=0
def tw16116794789750807142:=0
def tw8352580617660279071:=0
def tw2776689000288460809:=0
def tw1679069583296135868:=0
def tw841766261410938255:=0
def tw7594208273227579722:=0
def tw12923370461264265967:=0
def tw17679293530732225839:=0
def tw7423620923578360019:=0
def tw12374271123610499194:=0
def tw3051593617004795305:=0
def tw18136660624896666851:=0
def tw4312784224859858109:=0
def tw2153439561330378605:=0
def tw5314127591599996730:=0
def tw12555456193412886931:=0
def tw4783359180969374358:=0
def tw8122396885214760398:=0
def tw6500674624768140071:=0
def tw17475099566078626278:=0
def tw10335531974123846430:=0
def tw13540389247091876182:=0
def tw9618267045628122079:=0
def tw17129261204639918002:=0
def tw10884153723907939909:=0
def tw8348846891691236504:=0
def tw13962572226277863892:=0
def tw6156925348812706911:=0
def tw1879073424069524106:=0
def tw9677006733342704626:=0
def tw15446175708222830163:=0
def tw13606321627251677614:=0
def tw8129890704009673925:=0
def tw17891710952767597848:=0
def tw17244617177092068979:=0
def tw3257286768566509396:=0
def tw15587525937884833327:=0
def tw839220785896256360:=0
def tw13998775011940631899:=0
def tw3480286572076331736:=0
def tw5431235326486868464:=0
def tw12656481663810265630:=0
def tw5883079813592916511:=0
def tw203295395837994657:=0
def tw12498374444170202251:=0
def tw308927912536032024:=0
def tw14775646934386178451:=0
def tw11329840391203191863:=0
def tw16351836517972955583:=0
def tw12879513650186232238:=0
def tw7954673426451844951:=0
def tw3298365704377236188:=0
def tw2941323146693073709:=0
def tw14764029106661109549:=0
def tw16155215144993951258:=0
def tw6347947978148737268:=0
def tw3903274768189891399:=0
def tw1210575991560880378:=0
def tw16532830578465356553:=0
def tw1988623998426562196:=0
def tw3987855759067466013:=0
def tw6787172939233448642:=0
def tw3047718995491628486:=0
def tw6698352213626656979:=0
def tw12506864514835772845:=0
def tw10719966827113901217:=0
def tw8504452653689397305:=0
def tw14209741809175861843:=0
def tw9569126867037790027:=0
def tw7354780058942791377:=0
def tw12579675520656665570:=0
def tw10705785510777781888:=0
def tw1787711598941893166:=0
def tw13491746085934443449:=0
def tw644631081725695863:=0
def tw10191969072283994973:=0
def tw3857478549776575801:=0
def tw11680271809369772441:=0
def tw9946873191834551371:=0
def tw9638524112204064858:=0
def tw8894697925971725416:=0
def tw941189909040191313:=0
def tw13097355629893148287:=0
def tw10916407810309544828:=0
def tw4189858815145778896:=0
def tw3369360897763002209:=0
def tw4884362136068841718:=0
def tw3918200963597122807:=0
def tw3080040444276913777:=0
def tw16839851955802038674:=0
def tw5737513466233913060:=0
def tw8976118459519765377:=0
def tw11588121305108337770:=0
def tw11356294531909075648:=0
def tw14805137289711983850:=0
def tw5945697497552721124:=0
def tw12237860158756926157:=0
def tw16884320137366847658:=0
def tw4973396639928690912:=0
def tw892208322090221293:=0
def tw6940756888157543190:=0
def tw12036863277738249422:=0
def tw16040560230960379455:=0
def tw959136218977980702:=0
def tw14846269632893307713:=0
def tw3225233525178540337:=0
def tw2910457705759419600:=0
end PySem.W.Fast
open PySem PySem.W PyProof.Rows
set_option maxRecDepth 100000 in
set_option maxHeartbeats 0 in
theorem PySem.Challenge.cw_putsigns_k20_refused_of_all_worths_holds : PySem.Challenge.rw_putsigns_k20_refused_of_all_worths.Holds := by
  w_on;o_law;k_head;(case hw=>w_witness2)
  k_fill
  refine Put.walk (T:=259) (c:=263) (l:=PySem.Challenge.rw_putsigns_k20_refused_of_all_worths) rfl rfl ?hi (fun w h Y=>⟨PySem.W.km_in_of Y,PySem.W.km_tabs_of Y 259 (by simp)⟩) (fun w=>rfl) (fun w=>rfl) ?F
  case hi=>first|rfl|decide +kernel
  case F =>
    intro w mg fa h KX G hmg;refine' Put.all_mk (T:=259) (cL:=263) KX G hmg ?q0 ?q1 ?q2 ?q3 ?q4 ?q5 ?q6 ?q7 ?q8 ?q9 ?q10 ?q11 ?q12 ?q13 ?q14 ?a15 ?l15 ?c15 ?k15 ?q16 ?q17 ?q18 ?q19 ?q20 ?q21 ?q22 ?q23 ?q24 ?q25 ?q26 ?q27 ?q28 ?q29 ?q30 ?a31 ?l31 ?c31 ?k31 ?z_len ?z_isinstance ?z_int ?z_bool ?z_str ?z_tuple ?z_list ?z_sorted ?z_range ?z_repr ?z_enumerate ?z_sum ?z_all ?z_min ?z_max ?z_abs ?z_divmod ?z_dict ?z_set ?z_reversed ?z_any ?z_zip ?gM3 ?gP ?lP ?gMl ?gMw ?n_PutError ?n_NoRow ?n_NoSigns ?n_NoWay ?n_NoNumber ?n_NoPlace ?n_NoFit ?n_NoForm ?n_NoAsk ?n_NoHolds ?n_NoText ?n_TooMany ?z_ValueError ?l_PutError ?s_PutError ?t_PutError ?i_PutError ?l_NoRow ?s_NoRow ?t_NoRow ?i_NoRow ?l_NoSigns ?s_NoSigns ?t_NoSigns ?i_NoSigns ?l_NoNumber ?s_NoNumber ?t_NoNumber ?i_NoNumber ?l_TooMany ?s_TooMany ?t_TooMany ?i_TooMany ?f1_NoRow ?f2_NoRow ?f3_NoRow ?f4_NoRow ?f5_NoRow ?f6_NoRow ?f1_NoSigns ?f2_NoSigns ?f3_NoSigns ?f4_NoSigns ?f5_NoSigns ?f6_NoSigns ?f1_NoNumber ?f2_NoNumber ?f3_NoNumber ?f4_NoNumber ?f5_NoNumber ?f6_NoNumber ?f1_TooMany ?f2_TooMany ?f3_TooMany ?f4_TooMany ?f5_TooMany ?f6_TooMany ?c_NoRow ?y_NoRow ?c_NoSigns ?y_NoSigns ?c_NoWay ?y_NoWay ?c_NoNumber ?y_NoNumber ?c_NoPlace ?y_NoPlace ?c_NoFit ?y_NoFit ?c_NoForm ?y_NoForm ?c_NoAsk ?y_NoAsk ?c_NoHolds ?y_NoHolds ?c_NoText ?y_NoText ?c_TooMany ?y_TooMany ?u_NoRow_NoSigns ?d_NoRow_NoSigns ?u_NoRow_NoWay ?d_NoRow_NoWay ?u_NoRow_NoNumber ?d_NoRow_NoNumber ?u_NoRow_NoPlace ?d_NoRow_NoPlace ?u_NoRow_NoFit ?d_NoRow_NoFit ?u_NoRow_NoForm ?d_NoRow_NoForm ?u_NoRow_NoAsk ?d_NoRow_NoAsk ?u_NoRow_NoHolds ?d_NoRow_NoHolds ?u_NoRow_NoText ?d_NoRow_NoText ?u_NoRow_TooMany ?d_NoRow_TooMany ?u_NoSigns_NoRow ?d_NoSigns_NoRow ?u_NoSigns_NoWay ?d_NoSigns_NoWay ?u_NoSigns_NoNumber ?d_NoSigns_NoNumber ?u_NoSigns_NoPlace ?d_NoSigns_NoPlace ?u_NoSigns_NoFit ?d_NoSigns_NoFit ?u_NoSigns_NoForm ?d_NoSigns_NoForm ?u_NoSigns_NoAsk ?d_NoSigns_NoAsk ?u_NoSigns_NoHolds ?d_NoSigns_NoHolds ?u_NoSigns_NoText ?d_NoSigns_NoText ?u_NoSigns_TooMany ?d_NoSigns_TooMany ?u_NoNumber_NoRow ?d_NoNumber_NoRow ?u_NoNumber_NoSigns ?d_NoNumber_NoSigns ?u_NoNumber_NoWay ?d_NoNumber_NoWay ?u_NoNumber_NoPlace ?d_NoNumber_NoPlace ?u_NoNumber_NoFit ?d_NoNumber_NoFit ?u_NoNumber_NoForm ?d_NoNumber_NoForm ?u_NoNumber_NoAsk ?d_NoNumber_NoAsk ?u_NoNumber_NoHolds ?d_NoNumber_NoHolds ?u_NoNumber_NoText ?d_NoNumber_NoText ?u_NoNumber_TooMany ?d_NoNumber_TooMany ?u_TooMany_NoRow ?d_TooMany_NoRow ?u_TooMany_NoSigns ?d_TooMany_NoSigns ?u_TooMany_NoWay ?d_TooMany_NoWay ?u_TooMany_NoNumber ?d_TooMany_NoNumber ?u_TooMany_NoPlace ?d_TooMany_NoPlace ?u_TooMany_NoFit ?d_TooMany_NoFit ?u_TooMany_NoForm ?d_TooMany_NoForm ?u_TooMany_NoAsk ?d_TooMany_NoAsk ?u_TooMany_NoHolds ?d_TooMany_NoHolds ?u_TooMany_NoText ?d_TooMany_NoText ?hC
    (case q0=>exact L2.Fq.mk4 (by k_is) (by k_is) (by k_is) (by k_is))
    (case q1=>exact L2.Fq.mk4 (by k_is) (by k_is) (by k_is) (by k_is))
    (case q2=>exact L2.Fq.mk4 (by k_is) (by k_is) (by k_is) (by k_is))
    (case q3=>exact L2.Fq.mk4 (by k_is) (by k_is) (by k_is) (by k_is))
    (case q4=>exact L2.Fq.mk4 (by k_is) (by k_is) (by k_is) (by k_is))
    (case q5=>exact L2.Fq.mk4 (by k_is) (by k_is) (by k_is) (by k_is))
    (case q6=>exact L2.Fq.mk4 (by k_is) (by k_is) (by k_is) (by k_is))
    (case q7=>exact L2.Fq.mk4 (by k_is) (by k_is) (by k_is) (by k_is))
    (case q8=>exact L2.Fq.mk4 (by k_is) (by k_is) (by k_is) (by k_is))
    (case q9=>exact L2.Fq.mk4 (by k_is) (by k_is) (by k_is) (by k_is))
    (case q10=>exact L2.Fq.mk4 (by k_is) (by k_is) (by k_is) (by k_is))
    (case q11=>exact L2.Fq.mk4 (by k_is) (by k_is) (by k_is) (by k_is))
    (case q12=>exact L2.Fq.mk4 (by k_is) (by k_is) (by k_is) (by k_is))
    (case q13=>exact L2.Fq.mk4 (by k_is) (by k_is) (by k_is) (by k_is))
    (case q14=>exact L2.Fq.mk4 (by k_is) (by k_is) (by k_is) (by k_is))
    (case a15=>k_is)
    (case l15=>k_is)
    (case c15=>k_is)
    (case k15=>k_is)
    (case q16=>exact L2.Fq.mk4 (by k_is) (by k_is) (by k_is) (by k_is))
    (case q17=>exact L2.Fq.mk4 (by k_is) (by k_is) (by k_is) (by k_is))
    (case q18=>exact L2.Fq.mk4 (by k_is) (by k_is) (by k_is) (by k_is))
    (case q19=>exact L2.Fq.mk4 (by k_is) (by k_is) (by k_is) (by k_is))
    (case q20=>exact L2.Fq.mk4 (by k_is) (by k_is) (by k_is) (by k_is))
    (case q21=>exact L2.Fq.mk4 (by k_is) (by k_is) (by k_is) (by k_is))
    (case q22=>exact L2.Fq.mk4 (by k_is) (by k_is) (by k_is) (by k_is))
    (case q23=>exact L2.Fq.mk4 (by k_is) (by k_is) (by k_is) (by k_is))
    (case q24=>exact L2.Fq.mk4 (by k_is) (by k_is) (by k_is) (by k_is))
    (case q25=>exact L2.Fq.mk4 (by k_is) (by k_is) (by k_is) (by k_is))
    (case q26=>exact L2.Fq.mk4 (by k_is) (by k_is) (by k_is) (by k_is))
    (case q27=>exact L2.Fq.mk4 (by k_is) (by k_is) (by k_is) (by k_is))
    (case q28=>exact L2.Fq.mk4 (by k_is) (by k_is) (by k_is) (by k_is))
    (case q29=>exact L2.Fq.mk4 (by k_is) (by k_is) (by k_is) (by k_is))
    (case q30=>exact L2.Fq.mk4 (by k_is) (by k_is) (by k_is) (by k_is))
    (case a31=>k_is)
    (case l31=>k_is)
    (case c31=>k_is)
    (case k31=>k_is)
    (case z_len=>k_is)
    (case z_isinstance=>k_is)
    (case z_int=>k_is)
    (case z_bool=>k_is)
    (case z_str=>k_is)
    (case z_tuple=>k_is)
    (case z_list=>k_is)
    (case z_sorted=>k_is)
    (case z_range=>k_is)
    (case z_repr=>k_is)
    (case z_enumerate=>k_is)
    (case z_sum=>k_is)
    (case z_all=>k_is)
    (case z_min=>k_is)
    (case z_max=>k_is)
    (case z_abs=>k_is)
    (case z_divmod=>k_is)
    (case z_dict=>k_is)
    (case z_set=>k_is)
    (case z_reversed=>k_is)
    (case z_any=>k_is)
    (case z_zip=>k_is)
    (case gM3=>k_is)
    (case gP=>k_is)
    (case lP=>k_is)
    (case gMl=>k_is)
    (case gMw=>k_is)
    (case n_PutError=>k_is)
    (case n_NoRow=>k_is)
    (case n_NoSigns=>k_is)
    (case n_NoWay=>k_is)
    (case n_NoNumber=>k_is)
    (case n_NoPlace=>k_is)
    (case n_NoFit=>k_is)
    (case n_NoForm=>k_is)
    (case n_NoAsk=>k_is)
    (case n_NoHolds=>k_is)
    (case n_NoText=>k_is)
    (case n_TooMany=>k_is)
    (case z_ValueError=>k_is)
    (case l_PutError=>k_is)
    (case s_PutError=>k_is)
    (case t_PutError=>rfl)
    (case i_PutError=>rfl)
    (case l_NoRow=>k_is)
    (case s_NoRow=>k_is)
    (case t_NoRow=>rfl)
    (case i_NoRow=>rfl)
    (case l_NoSigns=>k_is)
    (case s_NoSigns=>k_is)
    (case t_NoSigns=>rfl)
    (case i_NoSigns=>rfl)
    (case l_NoNumber=>k_is)
    (case s_NoNumber=>k_is)
    (case t_NoNumber=>rfl)
    (case i_NoNumber=>rfl)
    (case l_TooMany=>k_is)
    (case s_TooMany=>k_is)
    (case t_TooMany=>rfl)
    (case i_TooMany=>rfl)
    (case f1_NoRow=>k_is)
    (case f2_NoRow=>k_is)
    (case f3_NoRow=>k_is)
    (case f4_NoRow=>k_is)
    (case f5_NoRow=>k_is)
    (case f6_NoRow=>k_is)
    (case f1_NoSigns=>k_is)
    (case f2_NoSigns=>k_is)
    (case f3_NoSigns=>k_is)
    (case f4_NoSigns=>k_is)
    (case f5_NoSigns=>k_is)
    (case f6_NoSigns=>k_is)
    (case f1_NoNumber=>k_is)
    (case f2_NoNumber=>k_is)
    (case f3_NoNumber=>k_is)
    (case f4_NoNumber=>k_is)
    (case f5_NoNumber=>k_is)
    (case f6_NoNumber=>k_is)
    (case f1_TooMany=>k_is)
    (case f2_TooMany=>k_is)
    (case f3_TooMany=>k_is)
    (case f4_TooMany=>k_is)
    (case f5_TooMany=>k_is)
    (case f6_TooMany=>k_is)
    (case c_NoRow=>k_is)
    (case y_NoRow=>k_is)
    (case c_NoSigns=>k_is)
    (case y_NoSigns=>k_is)
    (case c_NoWay=>k_is)
    (case y_NoWay=>k_is)
    (case c_NoNumber=>k_is)
    (case y_NoNumber=>k_is)
    (case c_NoPlace=>k_is)
    (case y_NoPlace=>k_is)
    (case c_NoFit=>k_is)
    (case y_NoFit=>k_is)
    (case c_NoForm=>k_is)
    (case y_NoForm=>k_is)
    (case c_NoAsk=>k_is)
    (case y_NoAsk=>k_is)
    (case c_NoHolds=>k_is)
    (case y_NoHolds=>k_is)
    (case c_NoText=>k_is)
    (case y_NoText=>k_is)
    (case c_TooMany=>k_is)
    (case y_TooMany=>k_is)
    (case u_NoRow_NoSigns=>k_is)
    (case d_NoRow_NoSigns=>rfl)
    (case u_NoRow_NoWay=>k_is)
    (case d_NoRow_NoWay=>rfl)
    (case u_NoRow_NoNumber=>k_is)
    (case d_NoRow_NoNumber=>rfl)
    (case u_NoRow_NoPlace=>k_is)
    (case d_NoRow_NoPlace=>rfl)
    (case u_NoRow_NoFit=>k_is)
    (case d_NoRow_NoFit=>rfl)
    (case u_NoRow_NoForm=>k_is)
    (case d_NoRow_NoForm=>rfl)
    (case u_NoRow_NoAsk=>k_is)
    (case d_NoRow_NoAsk=>rfl)
    (case u_NoRow_NoHolds=>k_is)
    (case d_NoRow_NoHolds=>rfl)
    (case u_NoRow_NoText=>k_is)
    (case d_NoRow_NoText=>rfl)
    (case u_NoRow_TooMany=>k_is)
    (case d_NoRow_TooMany=>rfl)
    (case u_NoSigns_NoRow=>k_is)
    (case d_NoSigns_NoRow=>rfl)
    (case u_NoSigns_NoWay=>k_is)
    (case d_NoSigns_NoWay=>rfl)
    (case u_NoSigns_NoNumber=>k_is)
    (case d_NoSigns_NoNumber=>rfl)
    (case u_NoSigns_NoPlace=>k_is)
    (case d_NoSigns_NoPlace=>rfl)
    (case u_NoSigns_NoFit=>k_is)
    (case d_NoSigns_NoFit=>rfl)
    (case u_NoSigns_NoForm=>k_is)
    (case d_NoSigns_NoForm=>rfl)
    (case u_NoSigns_NoAsk=>k_is)
    (case d_NoSigns_NoAsk=>rfl)
    (case u_NoSigns_NoHolds=>k_is)
    (case d_NoSigns_NoHolds=>rfl)
    (case u_NoSigns_NoText=>k_is)
    (case d_NoSigns_NoText=>rfl)
    (case u_NoSigns_TooMany=>k_is)
    (case d_NoSigns_TooMany=>rfl)
    (case u_NoNumber_NoRow=>k_is)
    (case d_NoNumber_NoRow=>rfl)
    (case u_NoNumber_NoSigns=>k_is)
    (case d_NoNumber_NoSigns=>rfl)
    (case u_NoNumber_NoWay=>k_is)
    (case d_NoNumber_NoWay=>rfl)
    (case u_NoNumber_NoPlace=>k_is)
    (case d_NoNumber_NoPlace=>rfl)
    (case u_NoNumber_NoFit=>k_is)
    (case d_NoNumber_NoFit=>rfl)
    (case u_NoNumber_NoForm=>k_is)
    (case d_NoNumber_NoForm=>rfl)
    (case u_NoNumber_NoAsk=>k_is)
    (case d_NoNumber_NoAsk=>rfl)
    (case u_NoNumber_NoHolds=>k_is)
    (case d_NoNumber_NoHolds=>rfl)
    (case u_NoNumber_NoText=>k_is)
    (case d_NoNumber_NoText=>rfl)
    (case u_NoNumber_TooMany=>k_is)
    (case d_NoNumber_TooMany=>rfl)
    (case u_TooMany_NoRow=>k_is)
    (case d_TooMany_NoRow=>rfl)
    (case u_TooMany_NoSigns=>k_is)
    (case d_TooMany_NoSigns=>rfl)
    (case u_TooMany_NoWay=>k_is)
    (case d_TooMany_NoWay=>rfl)
    (case u_TooMany_NoNumber=>k_is)
    (case d_TooMany_NoNumber=>rfl)
    (case u_TooMany_NoPlace=>k_is)
    (case d_TooMany_NoPlace=>rfl)
    (case u_TooMany_NoFit=>k_is)
    (case d_TooMany_NoFit=>rfl)
    (case u_TooMany_NoForm=>k_is)
    (case d_TooMany_NoForm=>rfl)
    (case u_TooMany_NoAsk=>k_is)
    (case d_TooMany_NoAsk=>rfl)
    (case u_TooMany_NoHolds=>k_is)
    (case d_TooMany_NoHolds=>rfl)
    (case u_TooMany_NoText=>k_is)
    (case d_TooMany_NoText=>rfl)
    (case hC=>exact rfl)

