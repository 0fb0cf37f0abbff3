import PyProof.Rows.All
import Wide.All
import OpenK.AllK
import Wide.FinOn
import Lean
import PyProof.EqAt
import PyProof.EqKinds
import PyProof.TupleCall
import PySem.Challenge.RW_putsigns_k04_ways_by_their_stretches
open PySem.W renaming Frag → aaa, nsIn → aav, mg_none_of → aaw, kitOne → aaC, subIn → aaP, clsIn → aaR, mg_of → aaS, kia_one → aa0, typeIn → aa3, findIn → abd, keepIn → abe, fnOf → abr, codeIn → abS, Looks → acC
open Nat renaming le_refl → aab, ne_of_lt → aaq, lt_of_lt_of_le → aay, zero_le → aaT, le_trans → aaY, lt_irrefl → aa7, lt_succ_of_lt → abx, le_succ → abR, ne_of_gt → abX, lt_succ_self → acy
open List renaming length_map → aac, mem_append_right → aae, mem_cons_of_mem → aaf, mem_cons_self → aag, length_append → aah, size_toArray → aai, getElem?_eq_getElem → aaj, mem_cons → aam, take_of_length_le → aao, length_cons → aar, map_cons → aau, length_take → aax, mem_append → aaz, replicate → aaB, mem_append_left → aaD, mem_singleton → aaG, length_drop → aaI, getElem?_eq_some_iff → aaJ, filter_cons_of_neg → aaK, append_assoc → aaM, take_add_one → aaN, map_append → aaO, range → aaQ, getElem?_map → aaU, length_nil → aaX, all_eq_true → aa2, map_nil → aa4, cons_append → aa6, mem_of_getElem? → abg, Nodup → abl, filterMap_cons → abm, replicate_succ → abn, length_singleton → abo, map_map → abp, foldlM_cons → abu, mem_range → abv, flatten_cons → abw, append_nil → abz, nil_append → abA, drop_of_length_le → abC, getD_eq_getElem?_getD → abD, not_mem_nil → abE, foldlM_append → abG, length_filter_le → abH, mem_map → abI, reverse_cons → abN, filter_cons_of_pos → abQ, filter_append → abV, all_append → abW, getElem?_append_right → ab3, drop_eq_getElem_cons → ab4, drop_zero → ab5, getElem_mem → ab6, map_congr_left → ab7, take_succ_cons → ab8, getElem?_take_of_lt → aca, toArray → acb, mem_filter → aci, eraseIdxIfInBounds_toArray → acn, length_replicate → acu, take_append_drop → acv, any_cons → acA, sum_cons → acB, nodup_cons → acE, pairwise_cons → acF
open PyProof.Rows renaming boot_isinstance → aad, boot_tuple → abf, callWith_type1 → abB, boot_str → abK, boot_list → abT, boot_repr → abU, boot_int → abY, boot_sorted → ace, boot_all → acx
open PySem.Heap renaming lt_size → aak, get?_push_of_some → aal, get?_push_size → aaF, get?_push_ne → abk, size_update → abt, SameBut → act
open Bool renaming false_ne_true → aan, and_eq_true → aa1, eq_iff_iff → abM, and_false → acp, false_and → acq
open PySem.PyData renaming depthAll → aap, depth → aas, showable → aa5, canLayAll0 → aby, shownAll → abO, eqvAll → acj, showableAll → ack, showableKv → aco, depthKv → acr, shown → acw
open Int renaming le_refl → aat, eq_ofNat_of_zero_le → ach
open Array renaming getD_eq_getD_getElem? → aaA, all_eq_true_iff_forall_mem → aaW, perm_iff_toList_perm → abh, length_toList → abi, toList_append → abP
open PySem renaming boot_len → aaE, mem_of_lookup → aa8, sliceRange → acz
open PySem.F renaming plainAttrs_list → aaH, slot_list_append → aba, type_list_append → abb, slot_list_pop → abZ, type_list_pop → ab0, typeOf_object_class → acs
open PySem.Builtin.Str renaming strSliceIndices → aaL, occurrences → acf
open Option renaming map_eq_some_iff → aaV, isSome_iff_exists → acd
open Option.some renaming inj → aaZ, injEq → ab2
open PySem.Obj renaming mapSeq → aa9
open Ne renaming symm → abc
open False renaming elim → abj
open PySem.PassesOwn renaming never → abq
open PySem.Calls renaming spliced_cons → abF, Constant_str → acg, callWith_builtin → acm
open PySem.Paired renaming length → abJ
open PySem.Sem renaming wp → abL
open PySem.Txt renaming replace → ab1
open PySem.Builtin.List renaming listTooLong → ab9
open PySem.SeqAt.EqAt renaming int_int → acl
open PySem.Str renaming join → acD
set_option Elab.async false
set_option linter.all false
set_option maxRecDepth 100000
namespace L2
open PySem PySem.Spec PyProof.Rows
abbrev Key:=Sum Int Str
def nG:Key→Value→Bool
  | .inl k,v=>Value.isInt k v
  | .inr x,v=>Value.isStrOf x v
def vZ (w:World):Key→Int
  | .inl k=>hashInt k
  | .inr x=>hashStr w x
theorem bi:∀ {k:Key} {v:Value},nG k v=true→(∃ i t,k=Sum.inl i∧v=Value.int i t)∨(∃ x t,k=Sum.inr x∧v=Value.str x t)
  | .inl i,v,h=>by
    obtain ⟨t,e⟩:=Value.isInt_shape (k:=i) (v:=v) h;exact .inl ⟨i,t,rfl,e⟩
  | .inr x,v,h=>by
    obtain ⟨t,e⟩:=Value.isStrOf_shape (x:=x) (v:=v) h;exact .inr ⟨x,t,rfl,e⟩
theorem uw (a b:Int):decide ((Sum.inl a:Key)=Sum.inl b)=(a == b):=by
  by_cases e:a=b
  · subst e;simp
  · have h:¬ (Sum.inl a:Key)=Sum.inl b:=fun q=>e (Sum.inl.inj q);rw [decide_eq_false h];exact (beq_eq_false_iff_ne.mpr e).symm
theorem ut (a b:Str):decide ((Sum.inr a:Key)=Sum.inr b)=decide (a=b):=by
  by_cases e:a=b
  · subst e;simp
  · have h:¬ (Sum.inr a:Key)=Sum.inr b:=fun q=>e (Sum.inr.inj q);rw [decide_eq_false h,decide_eq_false e]
theorem uv (a:Int) (b:Str):decide ((Sum.inl a:Key)=Sum.inr b)=false:=decide_eq_false (fun q=>nomatch q)
theorem uu (a:Str) (b:Int):decide ((Sum.inr a:Key)=Sum.inl b)=false:=decide_eq_false (fun q=>nomatch q)
def bh (prog:Program) (w:World):PySem.KeyKind prog w Key where
  is:=nG
  hash:=vZ w
  inj:=fun v a b ha hb=>by
    rcases bi ha with ⟨i,t,rfl,rfl⟩|⟨x,t,rfl,rfl⟩
    · rcases bi hb with ⟨j,u,rfl,e⟩|⟨y,u,rfl,e⟩
      · injection e with e1 _;rw [e1]
      · exact nomatch e
    · rcases bi hb with ⟨j,u,rfl,e⟩|⟨y,u,rfl,e⟩
      · exact nomatch e
      · injection e with e1 _;rw [e1]
  byValue:=fun k v h=>by
    rcases bi h with ⟨i,t,rfl,rfl⟩|⟨x,t,rfl,rfl⟩ <;> rfl
  pyHash:=fun hv h=>by
    rcases bi hv with ⟨i,t,rfl,rfl⟩|⟨x,t,rfl,rfl⟩
    · exact wpAny_pyHash_int h
    · exact wpAny_pyHash_str h
  eqBool:=fun hu hv h=>by
    rcases bi hu with ⟨i,t,rfl,rfl⟩|⟨x,t,rfl,rfl⟩
    · rcases bi hv with ⟨j,u,rfl,rfl⟩|⟨y,u,rfl,rfl⟩
      · rw [uw] at h;exact wpAny_eqBool_int h
      · rw [uv] at h;exact SeqAt.EqAt.int_str i t y u _ _ _ _ h
    · rcases bi hv with ⟨j,u,rfl,rfl⟩|⟨y,u,rfl,rfl⟩
      · rw [uu] at h;exact SeqAt.EqAt.str_int x t j u _ _ _ _ h
      · rw [ut] at h;exact wpAny_eqBool_str h
  «strs»:=fun k x t v h=>by
    rcases bi h with ⟨i,u,rfl,e⟩|⟨y,u,rfl,e⟩
    · exact nomatch e
    · injection e with e1 _
      subst e1;cases v <;> rfl
theorem mr (prog:Program) (w:World) (k:Key) (v:Value):(bh prog w).is k v=nG k v:=rfl
open PySem PySem.Spec PyProof.Rows
inductive V where
  | non|bl (b:Bool)|int (i:Int)|str (x:Str)|byt (b:Array UInt8)|flt (b:UInt64)|ref (a:Addr)|ty (n:String)
  deriving DecidableEq
def RelV:V→Value→Prop
  | .non,u=>u=Value.none
  | .bl b,u=>u=Value.bool b
  | .int i,u=>∃ t,u=Value.int i t
  | .str x,u=>∃ t,u=Value.str x t
  | .byt b,u=>∃ t,u=Value.bytes b t
  | .flt b,u=>∃ t,u=Value.float b t
  | .ref a,u=>u=Value.ref a
  | .ty n,u=>u=Value.type n
abbrev Vals:List V→List Value→Prop:=Paired RelV
theorem Vals.length {xs:List V} {us:List Value} (r:Vals xs us):xs.length=us.length:=abJ r
theorem Vals.get:∀ {xs:List V} {us:List Value} {i:Nat} {x:V},Vals xs us→xs[i]?=some x→∃ u,us[i]?=some u∧RelV x u
  | _,_,_,_,.nil,e=>by simp at e
  | _,_,0,_,.cons r _,e=>by simp at e;subst e;exact ⟨_,rfl,r⟩
  | _,_,i+1,x,.cons _ t,e=>by
    obtain ⟨u,h1,h2⟩:=Vals.get (i:=i) (x:=x) t (by simpa using e);exact ⟨u,by simpa using h1,h2⟩
theorem Vals.set {x:V} {u:Value} (r:RelV x u):∀ {xs:List V} {us:List Value} (i:Nat),Vals xs us→Vals (xs.set i x) (us.set i u)
  | _,_,_,.nil=>.nil
  | _,_,0,.cons _ t=>.cons r t
  | _,_,i+1,.cons q t=>.cons q (Vals.set r i t)
theorem Vals.append:∀ {xs ys:List V} {us ws:List Value},Vals xs us→Vals ys ws→Vals (xs++ys) (us++ws)
  | _,_,_,_,.nil,s=>s
  | _,_,_,_,.cons r t,s=>.cons r (Vals.append t s)
theorem Vals.take:∀ {xs:List V} {us:List Value} (n:Nat),Vals xs us→Vals (xs.take n) (us.take n)
  | _,_,0,_=>.nil
  | _,_,_+1,.nil=>.nil
  | _,_,n+1,.cons r t=>.cons r (Vals.take n t)
theorem Vals.drop:∀ {xs:List V} {us:List Value} (n:Nat),Vals xs us→Vals (xs.drop n) (us.drop n)
  | _,_,0,r=>r
  | _,_,_+1,.nil=>.nil
  | _,_,n+1,.cons _ t=>Vals.drop n t
def uG:Option V→Option Value→Prop
  | some v,some u=>RelV v u
  | none,none=>True
  | _,_=>False
def KV {κ:Type}:List (κ × V)→List (κ × Value)→Prop:=Paired fun (p:κ × V) (q:κ × Value)=>p.1=q.1∧RelV p.2 q.2
def kV:Key→V
  | .inl i=>.int i
  | .inr x=>.str x
inductive HO where
  | lst (xs:List V)
  | tup (xs:List V)
  | dK (kvs:List (Key × V))|dT (kvs:List (List Key × V))
  | set (S:Int→Bool) (n:Nat)
  | ins (C dx:Addr) (fs:List (Str × V))
  | own (x:Addr)
  | xd (fs:List (Str × V))
  | met (f x:Addr)
  | rng (lo hi:Int)
  | frz (o:Obj) (u:HO)
  | tbl (ps:Array Value)
  | ext (φ:Heap→Prop)
abbrev Hp:=Addr→Option HO
def upd (H:Hp) (a:Addr) (o:HO):Hp:=fun b=>if b=a then some o else H b
theorem upd_same {H:Hp} {a:Addr} {o:HO}:upd H a o a=some o:=by unfold upd;rw [if_pos rfl]
theorem aq {H:Hp} {a b:Addr} {o:HO} (h:b≠a):upd H a o b=H b:=by unfold upd;rw [if_neg h]
theorem ao {H:Hp} {a b:Addr} {o:HO} (h:H a=some o) (h':H b=none):a≠b:=by
  intro e;subst e;rw [h] at h';cases h'
section
variable (P:Program) (w:World)
def ObjOk (H:Hp) (h:Heap) (a:Addr):HO→Prop
  | .lst xs=>xs.length≤sizeLine∧∃ (its:List Value) (n:Nat),Vals xs its∧h.get? a=some { cls:=.type "list",data:=.seq its.toArray n }
  | .tup xs=>xs.length≤sizeLine∧∃ its:List Value,Vals xs its∧IsTup h a its.toArray
  | .dK kvs=>kvs.length≤sizeLine∧(a == sysModules)=false∧∃ vs,KV kvs vs∧h.DictOf (bh P w) a vs
  | .dT kvs=>kvs.length≤sizeLine∧(a == sysModules)=false∧∃ xs:List (List Key × Addr × Value),
      Paired (fun (p:List Key × V) (q:List Key × Addr × Value)=>p.1=q.1∧H q.2.1=some (.tup (p.1.map kV))∧RelV p.2 q.2.2) kvs xs ∧
      ∃ o es ep,h.get? a=some o∧o.ExactDict∧o.data=.dict es ep∧es.toList=xs.map (entryOfKey (tupleKind (bh P w)))∧(xs.map (·.1)).Nodup
  | .set S n=>h.SetOf (intKind P w) a S n
  | .ins C dx fs=>H dx=some (.own a)∧fs.length≤1000∧dx≠a∧h.get? a=some (PySem.W.instObj C dx) ∧
      ∃ mA,h.Ns1 dx mA∧(∀ f,uG (fs.lookup f) (mA f))∧PySem.Within mA (fs.map (·.1))
  | .own _=>∃ o,h.get? a=some o
  | .xd fs=>∃ mA,h.Ns1 a mA∧∀ f,uG (fs.lookup f) (mA f)
  | .rng lo hi=>∃ t u v,h.get? a=some { cls:=.type "range",data:=.fields #[.int lo t,.int hi u,.int 1 v] }
  | .frz o u=>h.get? a=some o∧ObjOk H h a u
  | .tbl ps=>h.get? a=some { cls:=.none,data:=.fields ps }
  | .met f x=>h.get? a=some (PySem.W.methodObj (.ref f) (.ref x))
  | .ext φ=>φ h∧(∃ o,h.get? a=some o)∧∀ h1 h2:Heap,φ h1→(∀ o,h1.get? a=some o→h2.get? a=some o)→φ h2
def HOk (H:Hp) (h:Heap):Prop:=∀ a o,H a=some o→ObjOk P w H h a o
end
section
variable {P:Program} {w:World} {H H':Hp} {h h':Heap} {a:Addr} {o:HO}
theorem ObjOk.lt (x:ObjOk P w H h a o):a < h.objs.size:=by
  cases o with
  | lst xs=>obtain ⟨_,_,_,_,e⟩:=x;exact aak e
  | tup xs=>obtain ⟨_,_,_,p⟩:=x;exact p.lt
  | dK kvs=>obtain ⟨_,_,_,_,o,_,_,e,_⟩:=x;exact aak e
  | dT kvs=>obtain ⟨_,_,_,_,o,_,_,e,_⟩:=x;exact aak e
  | set S n=>obtain ⟨o,_,_,_,e,_⟩:=x;exact aak e
  | ins C dx fs=>obtain ⟨_,_,_,e,_⟩:=x;exact aak e
  | own y=>obtain ⟨_,e⟩:=x;exact aak e
  | xd fs=>obtain ⟨_,⟨_,_,_,e,_⟩,_⟩:=x;exact aak e
  | rng lo hi=>obtain ⟨_,_,_,e⟩:=x;exact aak e
  | frz ob u=>obtain ⟨e,_⟩:=x;exact aak e
  | tbl ps=>exact aak (show h.get? a=some _ from x)
  | met f y=>exact aak (show h.get? a=some _ from x)
  | ext φ=>obtain ⟨_,⟨_,e⟩,_⟩:=x;exact aak e
theorem Paired.mapP {α β:Type} {F G:α→β→Prop}:∀ {l₁:List α} {l₂:List β},Paired F l₁ l₂→(∀ a b,F a b→G a b)→Paired G l₁ l₂
  | _,_,.nil,_=>.nil
  | _,_,.cons r t,f=>.cons (f _ _ r) (Paired.mapP t f)
theorem ObjOk.stay (x:ObjOk P w H h a o) (k:∀ b u,(b=a∨H b=some (.own a))→h.get? b=some u→h'.get? b=some u)
    (ho:∀ b,H b=some (.own a)→H' b=some (.own a)) (ht:∀ b xs,H b=some (.tup xs)→H' b=some (.tup xs)):ObjOk P w H' h' a o:=by
  induction o with
  | lst xs=>obtain ⟨z,its,n,r,e⟩:=x;exact ⟨z,its,n,r,k _ _ (.inl rfl) e⟩
  | tup xs=>obtain ⟨z,its,r,ob,e,c⟩:=x;exact ⟨z,its,r,ob,k _ _ (.inl rfl) e,c⟩
  | dK kvs=>obtain ⟨z,y,vs,r,ob,es,ep,e,c⟩:=x;exact ⟨z,y,vs,r,ob,es,ep,k _ _ (.inl rfl) e,c⟩
  | dT kvs =>
    obtain ⟨z,y,xs,r,ob,es,ep,e,c⟩:=x;exact ⟨z,y,xs,Paired.mapP r fun p q z=>⟨z.1,ht _ _ z.2.1,z.2.2⟩,ob,es,ep,k _ _ (.inl rfl) e,c⟩
  | set S n=>obtain ⟨ob,es,ep,t,e,c⟩:=x;exact ⟨ob,es,ep,t,k _ _ (.inl rfl) e,c⟩
  | ins C dx fs =>
    obtain ⟨d,z,ne,e,mA,⟨od,es,ep,e2,c⟩,r⟩:=x;exact ⟨ho _ d,z,ne,k _ _ (.inl rfl) e,mA,⟨od,es,ep,k _ _ (.inr d) e2,c⟩,r⟩
  | own y=>obtain ⟨ob,e⟩:=x;exact ⟨ob,k _ _ (.inl rfl) e⟩
  | xd fs=>obtain ⟨mA,⟨od,es,ep,e,c⟩,r⟩:=x;exact ⟨mA,⟨od,es,ep,k _ _ (.inl rfl) e,c⟩,r⟩
  | rng lo hi=>obtain ⟨t,u,v,e⟩:=x;exact ⟨t,u,v,k _ _ (.inl rfl) e⟩
  | frz ob u ih=>obtain ⟨e,q⟩:=x;exact ⟨k _ _ (.inl rfl) e,ih q⟩
  | tbl ps =>
    have e:h.get? a=some { cls:=.none,data:=.fields ps }:=x;show h'.get? a=some { cls:=.none,data:=.fields ps };exact k a _ (.inl rfl) e
  | met f y =>
    have e:h.get? a=some (PySem.W.methodObj (.ref f) (.ref y)):=x;show h'.get? a=some (PySem.W.methodObj (.ref f) (.ref y));exact k a _ (.inl rfl) e
  | ext φ=>obtain ⟨p,⟨o,e⟩,st⟩:=x;exact ⟨st _ _ p fun o q=>k _ _ (.inl rfl) q,⟨o,k _ _ (.inl rfl) e⟩,st⟩
theorem HOk.lt (x:HOk P w H h) (e:H a=some o):a < h.objs.size:=(x a o e).lt
theorem HOk.fresh (x:HOk P w H h) (e:h.objs.size≤a):H a=none:=by
  cases q:H a with
  | none=>rfl
  | some u=>exact absurd (aay (x.lt q) e) (aa7 _)
theorem HOk.kept (x:HOk P w H h) (k:∀ b u,h.get? b=some u→h'.get? b=some u):HOk P w H h':=fun a o e =>
  (x a o e).stay (fun b u _ q=>k b u q) (fun _ q=>q) fun _ _ q=>q
theorem HOk.laid (x:HOk P w H h) (k:∀ b u,h.get? b=some u→h'.get? b=some u) (hp:h.objs.size≤a) (new:ObjOk P w (upd H a o) h' a o):HOk P w (upd H a o) h':=fun b u e=>by
  have hn:=x.fresh hp;by_cases hb:b=a
  · subst hb;rw [upd_same] at e;cases e;exact new
  · rw [aq hb] at e;exact (x b u e).stay (fun c v _ q=>k c v q) (fun c q=>by rw [aq (ao q hn)];exact q) fun c xs q=>by rw [aq (ao q hn)];exact q
end
def Rd (H:Hp) (a:Addr) (u:HO):Prop:=H a=some u∨∃ o,H a=some (.frz o u)
theorem Rd.ok {P:Program} {w:World} {H:Hp} {h:Heap} {a:Addr} {u:HO} (r:Rd H a u) (x:HOk P w H h):ObjOk P w H h a u:=by
  rcases r with r|⟨o,r⟩
  · exact x a u r
  · obtain ⟨_,q⟩:=x a _ r;exact q
def Mut:Option HO→Prop
  | some (.lst _)=>True
  | some (.dK _)=>True
  | some (.dT _)=>True
  | some (.set _ _)=>True
  | some (.ins _ _ _)=>True
  | some (.ext _)=>True
  | _=>False
section
variable {P:Program} {w:World} {H:Hp} {h h':Heap} {x e:Addr} {o':HO}
theorem HOk.write (ok:HOk P w H h) (mu:Mut (H x)) (he:e=x∨H e=some (.own x)) (k:∀ b u,b≠e→h.get? b=some u→h'.get? b=some u) (heo:∃ u,h'.get? e=some u)
    (new:ObjOk P w (upd H x o') h' x o'):HOk P w (upd H x o') h':=fun b u q=>by
  have nown:∀ c y,H c=some (.own y)→c≠x:=fun c y r z=>by subst z;rw [r] at mu;exact mu
  have ntup:∀ c xs,H c=some (.tup xs)→c≠x:=fun c xs r z=>by subst z;rw [r] at mu;exact mu
  by_cases hb:b=x
  · subst hb;rw [upd_same] at q;cases q;exact new
  · rw [aq hb] at q;by_cases hbe:b=e
    · have q':H b=some (.own x):=by
        rcases he with z|z
        · exact absurd (hbe.trans z) hb
        · rw [hbe];exact z
      rw [q] at q';cases q';obtain ⟨v,hv⟩:=heo;exact ⟨v,by rw [hbe];exact hv⟩
    · refine (ok b u q).stay (fun c v hc r=>k c v ?_ r) (fun c r=>by rw [aq (nown c b r)];exact r) fun c xs r=>by rw [aq (ntup c xs r)];exact r
      rcases hc with rfl|hc
      · exact hbe
      · rintro rfl;rcases he with z|z
        · exact nown c b hc z
        · rw [hc] at z;cases z;exact hb rfl
end
structure Un (fs ex:List Addr) (H H':Hp) (h h':Heap):Prop where
  keep:∀ b o,h.get? b=some o→H b=none→b∉fs→b∉ex→h'.get? b=some o
  slot:∀ b o,h.get? b=some o→H b=none→b∈fs→b∉ex→∃ sl,h'.get? b=some { o with slots:=sl }
  free:∀ b o,h.get? b=some o→H b=none→b∉ex→H' b=none
  there:∀ b o,h.get? b=some o→b∉ex→∃ o',h'.get? b=some o'
  tups:∀ b xs,H b=some (.tup xs)→H' b=some (.tup xs)
  frzs:∀ b o u,H b=some (.frz o u)→H' b=some (.frz o u)
  tbls:∀ b ps,H b=some (.tbl ps)→∃ more,H' b=some (.tbl (ps++more))
section
variable {fs fs' ex ex':List Addr} {H H1 H2:Hp} {h h1 h2 h':Heap} {a x e:Addr} {o:HO}
theorem Un.any (u:Un fs ex H H1 h h1) {b:Addr} {ob:Obj} (q:h.get? b=some ob) (n:H b=none) (hx:b∉ex):∃ sl,h1.get? b=some { ob with slots:=sl }:=by
  by_cases hb:b∈fs
  · exact u.slot b ob q n hb hx
  · exact ⟨ob.slots,u.keep b ob q n hb hx⟩
theorem Un.trans (a:Un fs ex H H1 h h1) (b:Un fs ex H1 H2 h1 h2):Un fs ex H H2 h h2 where
  keep:=fun c ob q n hc hx=>b.keep c ob (a.keep c ob q n hc hx) (a.free c ob q n hx) hc hx
  slot:=fun c ob q n hc hx=>by
    obtain ⟨sl,e1⟩:=a.slot c ob q n hc hx;obtain ⟨sl',e2⟩:=b.slot c _ e1 (a.free c ob q n hx) hc hx;exact ⟨sl',e2⟩
  free:=fun c ob q n hx=>by
    obtain ⟨o',e1⟩:=a.there c ob q hx;exact b.free c o' e1 (a.free c ob q n hx) hx
  there:=fun c ob q hx=>by
    obtain ⟨o',e1⟩:=a.there c ob q hx;exact b.there c o' e1 hx
  tups:=fun c xs q=>b.tups c xs (a.tups c xs q)
  frzs:=fun c ob xs q=>b.frzs c ob xs (a.frzs c ob xs q)
  tbls:=fun c ps q=>by
    obtain ⟨m1,e1⟩:=a.tbls c ps q;obtain ⟨m2,e2⟩:=b.tbls c _ e1;exact ⟨m1++m2,by rw [e2,Array.append_assoc]⟩
theorem Un.kept (k:∀ b u,h.get? b=some u→h'.get? b=some u):Un fs ex H H h h' :=
  ⟨fun b ob q _ _ _=>k b ob q,fun b ob q _ _ _=>⟨ob.slots,k b ob q⟩,fun _ _ _ n _=>n,fun b ob q _=>⟨ob,k b ob q⟩,fun _ _ q=>q,fun _ _ _ q=>q,fun _ ps q=>⟨#[],by rw [q];simp⟩⟩
theorem Un.refl:Un fs ex H H h h:=Un.kept fun _ _ q=>q
theorem Un.laid (k:∀ b u,h.get? b=some u→h'.get? b=some u) (hp:h.objs.size≤a) (hn:H a=none):Un fs ex H (upd H a o) h h' where
  keep:=fun b u q _ _ _=>k b u q
  slot:=fun b u q _ _ _=>⟨u.slots,k b u q⟩
  free:=fun b u q n _=>by rw [aq (aaq (aay (aak q) hp))];exact n
  there:=fun b u q _=>⟨u,k b u q⟩
  tups:=fun b xs q=>by rw [aq (ao q hn)];exact q
  frzs:=fun b u xs q=>by rw [aq (ao q hn)];exact q
  tbls:=fun b ps q=>⟨#[],by rw [aq (ao q hn),q];simp⟩
theorem Un.write (mu:Mut (H x)) (he:e=x∨H e=some (.own x)) (k:∀ b u,b≠e→h.get? b=some u→h'.get? b=some u) (heo:∃ u,h'.get? e=some u):Un fs ex H (upd H x o) h h':=by
  have hx:∀ b,H b=none→b≠x:=fun b n z=>by subst z;rw [n] at mu;exact mu
  have hb:∀ b,H b=none→b≠e:=fun b n z=>by
    subst z;rcases he with r|r
    · exact hx b n r
    · rw [n] at r;cases r
  have hm:∀ b u,H b=some u→¬ Mut (some u)→b≠x:=fun b u q nm z=>by subst z;rw [q] at mu;exact nm mu
  refine ⟨fun b u q n _ _=>k b u (hb b n) q,fun b u q n _ _=>⟨u.slots,k b u (hb b n) q⟩,fun b u q n _=>by rw [aq (hx b n)];exact n,fun b u q _=>?_,
    fun b xs q=>by rw [aq (hm b _ q fun z=>z)];exact q,fun b u xs q=>by rw [aq (hm b _ q fun z=>z)];exact q,fun b ps q=>⟨#[],by rw [aq (hm b _ q fun z=>z),q];simp⟩⟩
  by_cases hbe:b=e
  · subst hbe;exact heo
  · exact ⟨u,k b u hbe q⟩
theorem Un.mono (u:Un fs ex H H1 h h1) (hs:∀ b∈fs,b∈fs') (hx:∀ b∈ex,b∈ex'):Un fs' ex' H H1 h h1 :=
  ⟨fun b ob q n hb he=>u.keep b ob q n (fun z=>hb (hs b z)) fun z=>he (hx b z),fun _ _ q n _ he=>u.any q n fun z=>he (hx _ z),fun b ob q n he=>u.free b ob q n fun z=>he (hx b z),fun b ob q he=>u.there b ob q fun z=>he (hx b z),u.tups,u.frzs,u.tbls⟩
end
def trk (h:Heap) (H:Hp):List Addr:=(aaQ h.objs.size).filter fun a=>(H a).isSome
def jZ (h:Heap) (H:Hp):Heap:=PySem.W.hideAll h (trk h H)
theorem oS (h:Heap) (H:Hp):(jZ h H).objs.size=h.objs.size:=PySem.W.hideAll_size _ _
theorem qN {h:Heap} {H:Hp} {b:Addr} {o:Obj} (e:h.get? b=some o) (n:H b=none):(jZ h H).get? b=some o :=
  PySem.W.hideAll_get _ e fun hm=>by
    have q:(H b).isSome=true:=(aci.mp hm).2;rw [n] at q;simp at q
theorem sw {h:Heap} {H:Hp} {b:Addr} {o:Obj} (e:(jZ h H).get? b=some o):h.get? b=some o∧H b=none:=by
  have e':h.get? b=some o:=PySem.W.of_hideAll (trk h H) e;refine ⟨e',?_⟩;cases q:H b with
  | none=>rfl
  | some x =>
    have hm:b∈trk h H:=List.mem_filter.mpr ⟨abv.mpr (aak e'),by simp [q]⟩;have z:(jZ h H).get? b=none:=PySem.W.hideAll_none (trk h H) hm;rw [z] at e;cases e
def eZ (g h:Heap) (L:Addr):List (Addr × Obj):=(aaQ h.objs.size).filterMap fun a=>if a=L∨(g.get? a).isSome=true then none else (h.get? a).map fun o=>(a,o)
theorem gQ {g h:Heap} {L a:Addr} {o:Obj} (h1:a≠L) (h2:g.get? a=none) (h3:h.get? a=some o):(a,o)∈eZ g h L :=
  List.mem_filterMap.mpr ⟨a,abv.mpr (aak h3),by simp [h1,h2,h3]⟩
theorem iB {g h:Heap} {L:Addr} {p:Addr × Obj} (hp:p∈eZ g h L):p.1≠L∧g.get? p.1=none∧h.get? p.1=some p.2:=by
  obtain ⟨b,_,e⟩:=List.mem_filterMap.mp hp;split at e
  · cases e
  · rename_i hn;cases q:h.get? b with
    | none=>rw [q] at e;simp at e
    | some u =>
      rw [q] at e;simp only [Option.map_some,ab2] at e;subst e;refine ⟨fun z=>hn (.inl z),?_,q⟩;show g.get? b=none;cases r:g.get? b with
      | none=>rfl
      | some v=>exact (hn (.inr (by simp [r]))).elim
def rest (g h:Heap) (L d:Addr):List (Addr × Obj):=(eZ g h L).filter fun p=>decide (p.1≠d)
theorem qw {g h:Heap} {L:Addr}:News g L h (eZ g h L):=fun p hp=>let ⟨a,b,c⟩:=iB hp;⟨c,a,b⟩
open PySem PySem.Spec PyProof.Rows
structure Mod (K:aaa) (mg:Str→Option Value) (base:Heap):Prop where
  kin:K.In base
  glob:base.Ns mainGlobals mg
  blt:∃ mb,base.Ns builtinsNs mb∧∀ x:Str,x ≠ "__name__"→mb x=bootBuiltins x
  nolimit:base.NoLimit
  sysm:∃ mm,base.Ns sysModules mm
structure Cx where
  prog:Program
  w:World
  K:aaa
  mg:Str→Option Value
  base:Heap
  A:Around
  N:List Str
  s₀:Shared
  H₀:Hp
  env:Env
  outer:List Env
  stack:List Env
  ex:List Addr
  fn:Str→Bool
  calm:Bool
  pn:List (Addr × Obj)
  xe:Value→Shared→Prop
def frs (l:List Env):List Addr:=l.filterMap (·.frame)
abbrev Cx.fs (X:Cx):List Addr:=frs X.outer
def Vis (sc:Scope) (x:Str):Prop:=sc.names.lookup x=some .local∨sc.names.lookup x=some .cell∨sc.names.lookup x=some .free
def Loc (sc:Scope) (x:Str):Prop:=sc.names.lookup x=some .local∨sc.names.lookup x=some .cell
def vD (env:Env) (h:Heap) (m:Str→Option Value) (x:Str) (u:Value):Prop :=
  (env.kindOf x=some .local∧m x=some u)∨((env.kindOf x=some .cell∨env.kindOf x=some .free)∧∃ c,env.cells.lookup x=some c∧h.IsCell c (some u))
structure Cx.Ok (X:Cx):Prop where
  mod:Mod X.K X.mg X.base
  kind:X.env.scope.kind=.function
  glob:X.env.globals=mainGlobals
  blt:X.env.builtins=builtinsNs
  above:X.s₀.heap.objs.size≤X.env.locals
  inj:∀ x y c,X.env.cells.lookup x=some c→X.env.cells.lookup y=some c→x=y
  has:∀ x,(X.env.kindOf x=some .cell∨X.env.kindOf x=some .free)→∃ c,X.env.cells.lookup x=some c
  cab:∀ x c,X.fn x=true→X.env.cells.lookup x=some c→X.s₀.heap.objs.size≤c
  hd:X.calm=true→X.A.handled=none
  frames:X.A.frames=some X.stack
  stk:X.stack=X.outer∨(X.stack=X.env :: X.outer∧X.env.frame=some X.env.locals)
  exf:∀ b∈X.ex,b≠X.env.locals∧∀ x c,X.env.cells.lookup x=some c→c≠b
  bs:∀ b o,X.base.get? b=some o→X.s₀.heap.get? b=some o∧X.H₀ b=none
  bsz:X.base.objs.size≤X.s₀.heap.objs.size
  noex:∀ b o,X.base.get? b=some o→b∉X.ex
  exfs:∀ b∈X.ex,b∉X.fs
  funs:X.s₀.heap.FunFrames X.base X.outer
  frf:∀ b∈X.fs,X.H₀ b=none
structure Inv (X:Cx) (pins:List (Addr × Obj)) (σ:List (Option V)) (H:Hp) (s:Shared):Prop where
  ok:X.Ok
  os:s.os=X.s₀.os
  bare:AllBare s.gens
  base:Un X.fs X.ex X.H₀ H X.s₀.heap s.heap
  loc:∃ m,s.heap.Ns X.env.locals m∧∀ (i:Nat) (x:Str) (v:V),X.N[i]?=some x→σ[i]?=some (some v)→Vis X.env.scope x→∃ u,RelV v u∧vD X.env s.heap m x u
  cell:∀ x c,X.env.cells.lookup x=some c→∃ v,s.heap.IsCell c v
  free:H X.env.locals=none
  freeC:∀ x c,X.env.cells.lookup x=some c→H c=none
  pin:∀ p∈X.pn++pins,s.heap.get? p.1=some p.2∧H p.1=none∧p.1≠X.env.locals∧p.1∉X.fs∧∀ v,p.2.data≠.cell v
  hok:HOk X.prog X.w H s.heap
  len:σ.length=X.N.length
section
variable {X:Cx} {pins:List (Addr × Obj)} {σ:List (Option V)} {H H':Hp} {s:Shared} {h':Heap}
theorem Cx.Ok.nofr (ok:X.Ok) {b:Addr} {o:Obj} (e:X.base.get? b=some o):b∉X.fs:=fun hb=>by
  have:=(ok.funs.mem hb).1;rw [e] at this;cases this
theorem Inv.bs (I:Inv X pins σ H s):∀ b o,X.base.get? b=some o→s.heap.get? b=some o∧H b=none:=fun b o e =>
  ⟨I.base.keep b o (I.ok.bs b o e).1 (I.ok.bs b o e).2 (I.ok.nofr e) (I.ok.noex b o e),I.base.free b o (I.ok.bs b o e).1 (I.ok.bs b o e).2 (I.ok.noex b o e)⟩
theorem Inv.bk (I:Inv X pins σ H s):∀ b o,X.base.get? b=some o→s.heap.get? b=some o:=fun b o e=>(I.bs b o e).1
theorem Inv.mod (I:Inv X pins σ H s):Mod X.K X.mg X.base:=I.ok.mod
theorem Inv.kIn (I:Inv X pins σ H s):X.K.In s.heap:=I.ok.mod.kin.keeps I.bk
theorem Inv.fr (I:Inv X pins σ H s):∃ m,Fr X.base X.env.locals s.heap m :=
  let ⟨m,hn,_⟩:=I.loc
  ⟨m,hn,I.bk,aaY I.ok.bsz I.ok.above⟩
theorem Inv.lt (I:Inv X pins σ H s):X.env.locals < s.heap.objs.size:=let ⟨_,hn,_⟩:=I.loc;hn.lt
theorem Inv.sz (I:Inv X pins σ H s):X.s₀.heap.objs.size≤s.heap.objs.size:=aaY I.ok.above (Nat.le_of_lt I.lt)
theorem Inv.nofs (I:Inv X pins σ H s) {a:Addr} (h:s.heap.objs.size≤a):a∉X.fs:=fun hb=>by
  obtain ⟨_,o,ho,_⟩:=I.ok.funs.mem hb;exact absurd (aay (aak ho) (aaY I.sz h)) (aa7 _)
theorem Inv.cne (I:Inv X pins σ H s):∀ x c,X.env.cells.lookup x=some c→c≠X.env.locals:=fun x c e z=>by
  obtain ⟨v,o,ho,hd⟩:=I.cell x c e;obtain ⟨m,⟨o',es,ep,ho',hd',_⟩,_⟩:=I.loc;rw [z,ho'] at ho;cases ho;rw [hd'] at hd;cases hd
theorem Inv.funs (I:Inv X pins σ H s):s.heap.FunFrames X.base X.outer:=by
  have all:∀ (l:List Env),(∀ b∈frs l,b∈X.fs)→X.s₀.heap.FunFrames X.base l→s.heap.FunFrames X.base l:=by
    intro l
    induction l with
    | nil=>intro _ _;trivial
    | cons env r ih =>
      intro hs hl;obtain ⟨hk,⟨L,o,hf,hn,ho,hd⟩,hr⟩:=hl;have hL:L∈X.fs:=hs L (by unfold frs;rw [abm,hf];exact aag);obtain ⟨sl,e⟩:=I.base.slot L o ho (I.ok.frf L hL) hL fun z=>I.ok.exfs L z hL;exact ⟨hk,⟨L,_,hf,hn,e,hd⟩,ih (fun b hb=>hs b (by unfold frs;rw [abm,hf];exact aaf _ hb)) hr⟩
  exact all X.outer (fun _ hb=>hb) I.ok.funs
theorem Inv.stack (I:Inv X pins σ H s):s.heap.FunFrames X.base X.stack:=by
  rcases I.ok.stk with e|⟨e,hf⟩
  · rw [e];exact I.funs
  · rw [e];obtain ⟨m,hn,_⟩:=I.loc;refine .cons (by rw [I.ok.kind];decide) hf hn ?_ I.funs;exact Heap.get?_none_of_le (aaY I.ok.bsz I.ok.above)
theorem Inv.stkSub (I:Inv X pins σ H s):∀ b∈frs X.stack,b∈X.env.locals :: X.fs:=fun b hb=>by
  rcases I.ok.stk with e|⟨e,hf⟩
  · rw [e] at hb;exact aaf _ hb
  · rw [e] at hb;unfold frs at hb;rw [abm,hf] at hb;exact hb
theorem Inv.stkFree (I:Inv X pins σ H s):∀ b∈frs X.stack,H b=none:=fun b hb=>by
  rcases aam.mp (I.stkSub b hb) with e|hb
  · rw [e];exact I.free
  · obtain ⟨_,o,ho,_⟩:=I.ok.funs.mem hb;exact I.base.free b o ho (I.ok.frf b hb) fun z=>I.ok.exfs b z hb
theorem Inv.step {g':Array GenState} {t':Nat} {d':Drawn} {ch:List Addr} (I:Inv X pins σ H s)
    (hch:∀ b∈ch,(b∈X.ex∨X.s₀.heap.objs.size≤b)∧b≠X.env.locals∧(∀ x c,X.env.cells.lookup x=some c→c≠b)∧∀ p∈X.pn++pins,p.1≠b)
    (keep:∀ b o,b≠X.env.locals→b∉X.fs→b∉ch→s.heap.get? b=some o→H b=none→h'.get? b=some o)
    (slot:∀ b o,b≠X.env.locals→b∈X.fs→b∉ch→s.heap.get? b=some o→H b=none→∃ sl,h'.get? b=some { o with slots:=sl }) (free:∀ b o,b∉ch→s.heap.get? b=some o→H b=none→H' b=none)
    (there:∀ b o,b∉ch→s.heap.get? b=some o→∃ o',h'.get? b=some o')
    (tups:∀ b xs,H b=some (.tup xs)→H' b=some (.tup xs)) (frzs:∀ b o u,H b=some (.frz o u)→H' b=some (.frz o u)) (tbls:∀ b ps,H b=some (.tbl ps)→∃ more,H' b=some (.tbl (ps++more)))
    (ns:∀ m,s.heap.Ns X.env.locals m→h'.Ns X.env.locals m) (hok:HOk X.prog X.w H' h') (hg:AllBare g') :
    Inv X pins σ H' { s with heap:=h',gens:=g',drawn:=d',toks:=t' }:=by
  have neL:∀ b o,X.s₀.heap.get? b=some o→b≠X.env.locals:=fun b o e=>aaq (aay (aak e) I.ok.above);have neC:∀ b o,X.s₀.heap.get? b=some o→b∉X.ex→b∉ch:=fun b o e hx hb=>by
    rcases (hch b hb).1 with z|z
    · exact hx z
    · exact absurd (aay (aak e) z) (aa7 _)
  have cellK:∀ x c,X.env.cells.lookup x=some c→∀ v,s.heap.IsCell c v→h'.IsCell c v:=fun x c e v ⟨o,ho,hd⟩=>by
    have nch:c∉ch:=fun z=>(hch c z).2.2.1 x c e rfl;by_cases hc:c∈X.fs
    · obtain ⟨sl,q⟩:=slot c o (I.cne x c e) hc nch ho (I.freeC x c e);exact ⟨_,q,hd⟩
    · exact ⟨o,keep c o (I.cne x c e) hc nch ho (I.freeC x c e),hd⟩
  refine ⟨I.ok,I.os,hg,⟨fun b o e n hb hx=>?_,fun b o e n hb hx=>?_,fun b o e n hx=>?_,fun b o e hx=>?_,fun b xs e=>tups b xs (I.base.tups b xs e),fun b o xs e=>frzs b o xs (I.base.frzs b o xs e),fun b ps e=>?_⟩,?_,fun x c e=>?_,?_,fun x c e=>?_,fun p hp=>?_,hok,I.len⟩
  · exact keep b o (neL b o e) hb (neC b o e hx) (I.base.keep b o e n hb hx) (I.base.free b o e n hx)
  · obtain ⟨sl,e1⟩:=I.base.slot b o e n hb hx;obtain ⟨sl',e2⟩:=slot b _ (neL b o e) hb (neC b o e hx) e1 (I.base.free b o e n hx);exact ⟨sl',e2⟩
  · obtain ⟨o',e1⟩:=I.base.there b o e hx;exact free b o' (neC b o e hx) e1 (I.base.free b o e n hx)
  · obtain ⟨o',e1⟩:=I.base.there b o e hx;exact there b o' (neC b o e hx) e1
  · obtain ⟨m1,e1⟩:=I.base.tbls b ps e;obtain ⟨m2,e2⟩:=tbls b _ e1;exact ⟨m1++m2,by rw [e2,Array.append_assoc]⟩
  · obtain ⟨m,hn,hl⟩:=I.loc;refine ⟨m,ns m hn,fun i x v e1 e2 e3=>?_⟩;obtain ⟨u,r,l⟩:=hl i x v e1 e2 e3;refine ⟨u,r,?_⟩;rcases l with l|⟨k,c,e,z⟩
    · exact .inl l
    · exact .inr ⟨k,c,e,cellK x c e _ z⟩
  · obtain ⟨v,z⟩:=I.cell x c e;exact ⟨v,cellK x c e v z⟩
  · obtain ⟨m,⟨o,_,_,ho,_⟩,_⟩:=I.loc;exact free _ o (fun z=>(hch _ z).2.1 rfl) ho I.free
  · obtain ⟨v,o,ho,hd⟩:=I.cell x c e;exact free c o (fun z=>(hch c z).2.2.1 x c e rfl) ho (I.freeC x c e)
  · obtain ⟨e,n,ne,nf,d⟩:=I.pin p hp;have nch:p.1∉ch:=fun z=>(hch p.1 z).2.2.2 p hp rfl;exact ⟨keep p.1 p.2 ne nf nch e n,free p.1 p.2 nch e n,ne,nf,d⟩
theorem Inv.un {t':Nat} (I:Inv X pins σ H s) (u:Un X.fs [] H H' s.heap h') (hok:HOk X.prog X.w H' h'):Inv X pins σ H' { s with heap:=h',toks:=t' }:=by
  obtain ⟨m,⟨o,es,ep,ho,r⟩,_⟩:=id I.loc;obtain ⟨sl,hL⟩:=u.any ho I.free (by simp);exact I.step (g':=s.gens) (d':=s.drawn) (ch:=[]) (fun _ z=>nomatch z) (fun b o _ hb _ e n=>u.keep b o e n hb (by simp)) (fun b o _ hb _ e n=>u.slot b o e n hb (by simp)) (fun b o _ e n=>u.free b o e n (by simp)) (fun b o _ e=>u.there b o e (by simp)) u.tups u.frzs u.tbls (fun m' hm=>by
    obtain ⟨o',es',ep',ho',r'⟩:=hm;rw [ho] at ho';cases ho';exact ⟨_,es',ep',hL,r'⟩) hok I.bare
theorem Inv.call {g':Array GenState} {t':Nat} {d':Drawn} {ch:List Addr} (I:Inv X pins σ H s) (u:Un (frs X.stack) ch H H' s.heap h') (hok:HOk X.prog X.w H' h') (hg:AllBare g')
    (hch:∀ b∈ch,(b∈X.ex∨X.s₀.heap.objs.size≤b)∧b≠X.env.locals∧(∀ x c,X.env.cells.lookup x=some c→c≠b)∧∀ p∈X.pn++pins,p.1≠b) :
    Inv X pins σ H' { s with heap:=h',gens:=g',drawn:=d',toks:=t' }:=by
  obtain ⟨m,⟨o,es,ep,ho,r⟩,_⟩:=id I.loc;obtain ⟨sl,hL⟩:=u.any ho I.free fun z=>(hch _ z).2.1 rfl;exact I.step (ch:=ch) hch (fun b o hL hb hc e n=>u.keep b o e n (fun z=>(aam.mp (I.stkSub b z)).elim hL hb) hc) (fun b o _ _ hc e n=>u.any e n hc) (fun b o hc e n=>u.free b o e n hc) (fun b o hc e=>u.there b o e hc) u.tups u.frzs u.tbls (fun m' hm=>by
    obtain ⟨o',es',ep',ho',r'⟩:=hm;rw [ho] at ho';cases ho';exact ⟨_,es',ep',hL,r'⟩) hok hg
theorem Inv.turned {t':Nat} {it:Addr} (I:Inv X pins σ H s) (k:∀ b o,b≠it→s.heap.get? b=some o→h'.get? b=some o) (hn:H it=none) (hL:it≠X.env.locals)
    (h1:it∈X.ex∨X.s₀.heap.objs.size≤it) (h2:∀ x c,X.env.cells.lookup x=some c→c≠it) (h3:∀ p∈X.pn++pins,p.1≠it):Inv X pins σ H { s with heap:=h',toks:=t' }:=by
  have nit:∀ b u,H b=some u→b≠it:=fun b u e z=>by rw [z,hn] at e;cases e
  refine I.step (g':=s.gens) (d':=s.drawn) (ch:=[it]) (fun b hb=>?_) (fun b o _ _ hc e _=>k b o (fun z=>hc (by simp [z])) e) (fun b o _ _ hc e _=>⟨o.slots,k b o (fun z=>hc (by simp [z])) e⟩) (fun _ _ _ _ n=>n)
    (fun b o hc e=>⟨o,k b o (fun z=>hc (by simp [z])) e⟩) (fun _ _ e=>e) (fun _ _ _ e=>e) (fun b ps e=>⟨#[],by rw [e];simp⟩) (fun m hm=>?_) (fun b u e=>?_) I.bare
  · have e:b=it:=by simpa using hb
    subst e;exact ⟨h1,hL,h2,h3⟩
  · obtain ⟨o,es,ep,ho,r⟩:=hm;exact ⟨o,es,ep,k _ o (abc hL) ho,r⟩
  · refine (I.hok b u e).stay (fun c v hc q=>k c v ?_ q) (fun _ q=>q) fun _ _ q=>q;rcases hc with z|z
    · rw [z];exact nit b u e
    · exact nit c _ z
theorem Inv.tok (I:Inv X pins σ H s) (t:Nat):Inv X pins σ H { s with toks:=t }:=I.un (h':=s.heap) (t':=t) Un.refl I.hok
theorem Inv.kept {t':Nat} (I:Inv X pins σ H s) (k:∀ b u,s.heap.get? b=some u→h'.get? b=some u):Inv X pins σ H { s with heap:=h',toks:=t' }:=I.un (Un.kept k) (I.hok.kept k)
theorem Inv.laid {a:Addr} {o:HO} {t':Nat} (I:Inv X pins σ H s) (k:∀ b u,s.heap.get? b=some u→h'.get? b=some u) (hp:s.heap.objs.size≤a) (new:ObjOk X.prog X.w (upd H a o) h' a o) :
    Inv X pins σ (upd H a o) { s with heap:=h',toks:=t' }:=I.un (Un.laid k hp (I.hok.fresh hp)) (I.hok.laid k hp new)
theorem Inv.write {x e:Addr} {o:HO} {t':Nat} (I:Inv X pins σ H s) (mu:Mut (H x)) (he:e=x∨H e=some (.own x)) (k:∀ b u,b≠e→s.heap.get? b=some u→h'.get? b=some u) (heo:∃ u,h'.get? e=some u)
    (new:ObjOk X.prog X.w (upd H x o) h' x o):Inv X pins σ (upd H x o) { s with heap:=h',toks:=t' }:=I.un (Un.write mu he k heo) (I.hok.write mu he k heo new)
theorem Inv.pins_of {pins':List (Addr × Obj)} (I:Inv X pins σ H s) (h:∀ p∈pins',s.heap.get? p.1=some p.2∧H p.1=none∧p.1≠X.env.locals∧p.1∉X.fs∧∀ v,p.2.data≠.cell v):Inv X pins' σ H s :=
  ⟨I.ok,I.os,I.bare,I.base,I.loc,I.cell,I.free,I.freeC,fun p hp=>(aaz.mp hp).elim (fun z=>I.pin p (aaD _ z)) (h p),I.hok,I.len⟩
theorem iC {N:List Str} (hN:N.Nodup) {i j:Nat} {x:Str} (a:N[i]?=some x) (b:N[j]?=some x):i=j:=by
  obtain ⟨h1,e1⟩:=aaJ.mp a;obtain ⟨h2,e2⟩:=aaJ.mp b;exact (List.getElem_inj hN).mp (e1.trans e2.symm)
theorem nZ {M:Model} {A:Around} {E:Value→Shared→Prop} {i:Nat} {x:Str} {v:V} {u:Value} {Q:Unit→Shared→Prop} (I:Inv X pins σ H s) (hN:X.N.Nodup) (hi:X.N[i]?=some x) (hx:Loc X.env.scope x) (r:RelV v u)
    (h:∀ s',Inv X pins (σ.set i (some v)) H s'→(∃ a,act a s.heap s'.heap∧(a=X.env.locals∨X.env.cells.lookup x=some a))→Q () s') (hf:X.fn x=true∨X.env.scope.names.lookup x=some .local:=by first|exact .inl rfl|exact .inr rfl|assumption):wpAny M A (storeName X.env x u) Q E s:=by
  obtain ⟨m,hn,hl⟩:=id I.loc;have hcls:(X.env.scope.kind == .class || (X.env.scope.kind == .module && X.env.locals != X.env.globals))=false:=by rw [I.ok.kind];rfl
  have hiσ:i < σ.length:=by rw [I.len];exact (aaJ.mp hi).1
  have cne:=I.cne;have tracked:∀ {a:Addr} {h':Heap},(∃ o,s.heap.get? a=some o∧H a=none)→act a s.heap h'→HOk X.prog X.w H h':=fun {a h'} ha hs b ob e=>by
    obtain ⟨_,_,hfree⟩:=ha;refine (I.hok b ob e).stay (fun c w' hc q=>(hs.2 c ?_).trans q) (fun _ q=>q) fun _ _ q=>q;rintro rfl;rcases hc with rfl|hc
    · rw [hfree] at e;cases e
    · rw [hfree] at hc;cases hc
  rcases hx with hk|hk
  · refine wpAny_storeName_local hk hn (fun h' hn' hs=>?_) hcls;obtain ⟨oL,_,_,hoL,_⟩:=id hn;refine h _ ⟨I.ok,I.os,I.bare,⟨fun b o e n hb hx=>?_,fun b o e n hb hx=>?_,I.base.free,fun b o e hx=>?_,I.base.tups,I.base.frzs,I.base.tbls⟩,⟨_,hn',fun j y v' e1 e2 e3=>?_⟩,fun y c e=>?_,I.free,I.freeC,fun p hp=>?_,tracked ⟨oL,hoL,I.free⟩ hs,by simpa using I.len⟩ ⟨_,hs,.inl rfl⟩
    · exact (hs.2 b (aaq (aay (aak e) I.ok.above))).trans (I.base.keep b o e n hb hx)
    · obtain ⟨sl,e1⟩:=I.base.slot b o e n hb hx;exact ⟨sl,(hs.2 b (aaq (aay (aak e) I.ok.above))).trans e1⟩
    · obtain ⟨o',e1⟩:=I.base.there b o e hx;exact ⟨o',(hs.2 b (aaq (aay (aak e) I.ok.above))).trans e1⟩
    · by_cases hj:j=i
      · subst hj;rw [hi] at e1;cases e1;rw [List.getElem?_set_self hiσ] at e2;cases e2;exact ⟨u,r,.inl ⟨hk,by simp⟩⟩
      · rw [List.getElem?_set_ne (abc hj)] at e2;obtain ⟨u',r',q⟩:=hl j y v' e1 e2 e3;refine ⟨u',r',?_⟩;rcases q with ⟨k,e⟩|⟨k,c,e,z⟩
        · refine .inl ⟨k,?_⟩;have : y≠x:=fun e=>hj (iC hN e1 (e ▸ hi));simp [this,e]
        · exact .inr ⟨k,c,e,z.sameBut hs (cne y c e)⟩
    · obtain ⟨w',z⟩:=I.cell y c e;exact ⟨w',z.sameBut hs (cne y c e)⟩
    · obtain ⟨e,n,ne,nf,d⟩:=I.pin p hp;exact ⟨(hs.2 p.1 ne).trans e,n,ne,nf,d⟩
  · have hfn:X.fn x=true:=by
      rcases hf with z|z
      · exact z
      · rw [z] at hk;cases hk
    obtain ⟨c,hc⟩:=I.ok.has x (.inl hk);obtain ⟨w',z⟩:=I.cell x c hc;refine wpAny_storeName_cell I.ok.kind hk hc z (fun h' hc' hs=>?_);obtain ⟨oc,hoc,hocd⟩:=id z;refine h { s with heap:=h' } ⟨I.ok,I.os,I.bare,⟨fun b o e n hb hx=>?_,fun b o e n hb hx=>?_,I.base.free,fun b o e hx=>?_,I.base.tups,I.base.frzs,I.base.tbls⟩,⟨m,hn.sameBut hs (abc (cne x c hc)),fun j y v' e1 e2 e3=>?_⟩,fun y c' e=>?_,I.free,I.freeC,fun p hp=>?_,tracked ⟨oc,hoc,I.freeC x c hc⟩ hs,by simpa using I.len⟩ ⟨c,hs,.inr hc⟩
    · exact (hs.2 b (aaq (aay (aak e) (I.ok.cab x c hfn hc)))).trans (I.base.keep b o e n hb hx)
    · obtain ⟨sl,e1⟩:=I.base.slot b o e n hb hx;exact ⟨sl,(hs.2 b (aaq (aay (aak e) (I.ok.cab x c hfn hc)))).trans e1⟩
    · obtain ⟨o',e1⟩:=I.base.there b o e hx;exact ⟨o',(hs.2 b (aaq (aay (aak e) (I.ok.cab x c hfn hc)))).trans e1⟩
    · by_cases hj:j=i
      · subst hj;rw [hi] at e1;cases e1;rw [List.getElem?_set_self hiσ] at e2;cases e2;exact ⟨u,r,.inr ⟨.inl hk,c,hc,hc'⟩⟩
      · rw [List.getElem?_set_ne (abc hj)] at e2;obtain ⟨u',r',q⟩:=hl j y v' e1 e2 e3;refine ⟨u',r',?_⟩;rcases q with q|⟨k,c',e,z'⟩
        · exact .inl q
        · refine .inr ⟨k,c',e,z'.sameBut hs ?_⟩;rintro rfl;exact hj (iC hN e1 (I.ok.inj _ _ _ e hc ▸ hi))
    · by_cases hcc:c'=c
      · subst hcc;exact ⟨_,hc'⟩
      · obtain ⟨w2,z2⟩:=I.cell y c' e;exact ⟨w2,z2.sameBut hs hcc⟩
    · obtain ⟨e,n,ne,nf,d⟩:=I.pin p hp;refine ⟨(hs.2 p.1 ?_).trans e,n,ne,nf,d⟩;intro q;rw [q,hoc] at e;have q':oc=p.2:=aaZ e;exact d w' (by rw [← q'];exact hocd)
theorem d9 {M:Model} {A:Around} {E:Value→Shared→Prop} {i:Nat} {x:Str} {v:V} {u:Value} {Q:Unit→Shared→Prop} (I:Inv X pins σ H s) (hN:X.N.Nodup) (hi:X.N[i]?=some x) (hx:Loc X.env.scope x) (r:RelV v u)
    (h:∀ s',Inv X pins (σ.set i (some v)) H s'→Q () s') (hf:X.fn x=true∨X.env.scope.names.lookup x=some .local:=by first|exact .inl rfl|exact .inr rfl|assumption):wpAny M A (storeName X.env x u) Q E s :=
  nZ I hN hi hx r (fun s' I' _=>h s' I') hf
theorem Inv.call' {s':Shared} {ch:List Addr} (I:Inv X pins σ H s) (ho:s'.os=s.os) (u:Un (frs X.stack) ch H H' s.heap s'.heap) (hok:HOk X.prog X.w H' s'.heap) (hg:AllBare s'.gens)
    (hch:∀ b∈ch,(b∈X.ex∨X.s₀.heap.objs.size≤b)∧b≠X.env.locals∧(∀ x c,X.env.cells.lookup x=some c→c≠b)∧∀ p∈X.pn++pins,p.1≠b):Inv X pins σ H' s':=by
  obtain ⟨h',g',d',t',o'⟩:=s';have e:o'=s.os:=ho;subst e;exact I.call (g':=g') (t':=t') (d':=d') u hok hg hch
end
abbrev XK:=Value→Option Addr→Hp→Prop
abbrev St:=List (Option V)
abbrev VK:=V→Hp→Prop
abbrev TE:=St→Hp→VK→Prop
abbrev TT:=St→Hp→(Bool→Hp→Prop)→Prop
abbrev TA:=St→Hp→(List V→Hp→Prop)→Prop
structure Ends where
  nx:St→Hp→Prop
  rt:VK
  bk:St→Hp→Prop:=fun _ _=>False
  ct:St→Hp→Prop:=fun _ _=>False
abbrev TS:=Ends→St→Hp→Prop
def EP (X:Cx) (pins:List (Addr × Obj)) (σ:St) (Q:VK) (u:Value) (s':Shared):Prop:=∃ v H',Inv X pins σ H' s'∧RelV v u∧Q v H'
def TP (X:Cx) (pins:List (Addr × Obj)) (σ:St) (Q:Bool→Hp→Prop) (b:Bool) (s':Shared):Prop:=∃ H',Inv X pins σ H' s'∧Q b H'
def AP (X:Cx) (pins:List (Addr × Obj)) (σ:St) (Q:List V→Hp→Prop) (us:List Value) (s':Shared):Prop:=∃ vs H',Inv X pins σ H' s'∧Vals vs us∧Q vs H'
def SP (X:Cx) (pins:List (Addr × Obj)) (D:Ends) (f:Flow) (s':Shared):Prop :=
  match f with
  | .next=>∃ σ' H',Inv X pins σ' H' s'∧D.nx σ' H'
  | .brk=>∃ σ' H',Inv X pins σ' H' s'∧D.bk σ' H'
  | .cont=>∃ σ' H',Inv X pins σ' H' s'∧D.ct σ' H'
  | .ret u=>∃ v σ' H',Inv X pins σ' H' s'∧RelV v u∧D.rt v H'
def PE (X:Cx) (e:Expr) (t:TE):Prop :=
  ∀ (pins:List (Addr × Obj)) (s:Shared) (σ:St) (H:Hp) (Q:VK),Inv X pins σ H s→t σ H Q→wpAny (model X.prog X.w) X.A (eval e X.env) (EP X pins σ Q) X.xe s
def PT (X:Cx) (e:Expr) (t:TT):Prop :=
  ∀ (pins:List (Addr × Obj)) (s:Shared) (σ:St) (H:Hp) (Q:Bool→Hp→Prop),Inv X pins σ H s→t σ H Q→wpAny (model X.prog X.w) X.A (isTrue e X.env (eval e X.env)) (TP X pins σ Q) X.xe s
def PW (X:Cx) (e:Expr) (t:TT):Prop :=
  ∀ (whole:Sem Value) (pins:List (Addr × Obj)) (s:Shared) (σ:St) (H:Hp) (Q:Bool→Hp→Prop),Inv X pins σ H s→t σ H Q→wpAny (model X.prog X.w) X.A (isTrue e X.env whole) (TP X pins σ Q) X.xe s
theorem PW.pt {X:Cx} {e:Expr} {t:TT} (h:PW X e t):PT X e t:=h _
def PA (X:Cx) (es:List Expr) (t:TA):Prop :=
  ∀ (pos:Pos) (pins:List (Addr × Obj)) (s:Shared) (σ:St) (H:Hp) (Q:List V→Hp→Prop),Inv X pins σ H s→t σ H Q→wpAny (model X.prog X.w) X.A (spliced (backTo pos (starEach es X.env))) (AP X pins σ Q) X.xe s
def PS (X:Cx) (st:Stmt) (t:TS):Prop :=
  ∀ (pins:List (Addr × Obj)) (s:Shared) (σ:St) (H:Hp) (D:Ends),Inv X pins σ H s→t D σ H→wpAny (model X.prog X.w) X.A (exec st X.env) (SP X pins D) X.xe s
def PSs (X:Cx) (st:List Stmt) (t:TS):Prop :=
  ∀ (pins:List (Addr × Obj)) (s:Shared) (σ:St) (H:Hp) (D:Ends),Inv X pins σ H s→t D σ H→wpAny (model X.prog X.w) X.A (execs st X.env) (SP X pins D) X.xe s
theorem thn {α:Type} {t:Sem α} {Q Q':α→Shared→Prop} {M:Model} {A:Around} {E:Value→Shared→Prop} {s:Shared} (h:wpAny M A t Q E s) (hQ:∀ a s,Q a s→Q' a s):wpAny M A t Q' E s:=wpAny_mono h hQ fun _ _ x=>x
open PySem PySem.Spec PyProof.Rows
section
variable {X:Cx}
def uM (i:Nat):TE:=fun σ H Q=>∃ v,σ[i]?=some (some v)∧Q v H
def tC (v:V):TE:=fun _ H Q=>Q v H
theorem tW {i:Nat} {x:Str} {pos:Pos} (hN:X.N[i]?=some x) (hv:Vis X.env.scope x) (hd:(x == ("__debug__":Str))=false:=by decide) (hcd:(x == ("__classdict__":Str))=false:=by decide):PE X (.Name x pos) (uM i):=by
  intro pins s σ H Q I h;obtain ⟨v,e,h⟩:=h;obtain ⟨m,hn,hl⟩:=I.loc;obtain ⟨u,r,l⟩:=hl i x v hN e hv;have fin:EP X pins σ Q u s:=⟨v,H,I,r,h⟩
  rcases l with ⟨hk,hm⟩|⟨hk,c,hc,hcell⟩
  · exact wpAny_Name (wpAny_loadName_local I.ok.kind hk hn hm fin) hd
  · rcases hk with hk|hk
    · exact wpAny_Name (wpAny_loadName_cell I.ok.kind hk hc hcell fin) hd
    · exact wpAny_Name (wpAny_loadName_free I.ok.kind hk hc hcell fin hcd) hd
theorem af {i j pos}:PE X (.Constant (.int i) j pos) (tC (.int i)):=fun _ _ _ H _ I h=>wpAny_Constant_int ⟨.int i,H,I.tok _,⟨_,rfl⟩,h⟩
theorem dc {b j pos}:PE X (.Constant (.bool b) j pos) (tC (.bl b)):=fun _ _ _ H _ I h=>Constant_bool ⟨.bl b,H,I,rfl,h⟩
theorem bw {j pos}:PE X (.Constant .none j pos) (tC .non):=fun _ _ _ H _ I h=>Constant_none ⟨.non,H,I,rfl,h⟩
theorem aU {x j pos}:PE X (.Constant (.str x) j pos) (tC (.str x)):=fun _ _ _ H _ I h=>acg ⟨.str x,H,I.tok _,⟨_,rfl⟩,h⟩
def Gl (X:Cx) (x:Str):Prop:=X.env.kindOf x=some .globalImplicit
theorem fV {E:Value→Shared→Prop} {pins:List (Addr × Obj)} {s:Shared} {σ:St} {H:Hp} {x:Str} {u:Value} {pos:Pos} {Q:Value→Shared→Prop} (I:Inv X pins σ H s) (hg:Gl X x) (hm:X.mg x=some u) (h:Q u s)
    (hd:(x == ("__debug__":Str))=false:=by decide):wpAny (model X.prog X.w) X.A (eval (.Name x pos) X.env) Q E s :=
  Calls.Name_function_global I.ok.kind hg (Calls.loadGlobal_global (by rw [I.ok.glob];exact I.mod.glob.keeps I.bk) hm h) hd
theorem gG {E:Value→Shared→Prop} {pins:List (Addr × Obj)} {s:Shared} {σ:St} {H:Hp} {x:Str} {u:Value} {pos:Pos} {Q:Value→Shared→Prop} (I:Inv X pins σ H s) (hg:Gl X x) (hm:X.mg x=none) (hv:bootBuiltins x=some u) (h:Q u s)
    (hn:x ≠ "__name__":=by decide) (hd:(x == ("__debug__":Str))=false:=by decide):wpAny (model X.prog X.w) X.A (eval (.Name x pos) X.env) Q E s:=by
  obtain ⟨mb,h1,h2⟩:=I.mod.blt;exact Calls.Name_function_global I.ok.kind hg (Calls.loadGlobal_builtin (by rw [I.ok.glob];exact I.mod.glob.keeps I.bk) hm (by rw [I.ok.blt];exact h1.keeps I.bk) ((h2 x hn).trans hv) h) hd
theorem bB {x:Str} {v:V} {u:Value} {pos:Pos} (hg:Gl X x) (hm:X.mg x=some u) (r:RelV v u) (hd:(x == ("__debug__":Str))=false:=by decide):PE X (.Name x pos) (tC v) :=
  fun _ _ _ H _ I h=>fV I hg hm ⟨v,H,I,r,h⟩ hd
theorem bj {x:Str} {v:V} {u:Value} {pos:Pos} (hg:Gl X x) (hm:X.mg x=none) (hv:bootBuiltins x=some u) (r:RelV v u) (hn:x ≠ "__name__":=by decide) (hd:(x == ("__debug__":Str))=false:=by decide):PE X (.Name x pos) (tC v) :=
  fun _ _ _ H _ I h=>gG I hg hm hv ⟨v,H,I,r,h⟩ hn hd
variable {a b:Expr} {ta tb:TE} {pos:Pos}
def tB (t:TE):TT:=fun σ H Q=>t σ H fun x H1=>∃ c,x=.bl c∧Q c H1
theorem bf {e:Expr} {t:TE} (h:PE X e t) (he:∀ whole,isTrue e X.env whole=(do let v ← whole;standAt e.pos;holding [v] (truthy v)):=by intro _;rfl):PT X e (tB t):=by
  intro pins s σ H Q I hw;refine isTrue_plain (thn (h pins s σ H _ I hw) fun v s1 ⟨x,H1,I1,r1,q1⟩=>?_) (he _);obtain ⟨d,rfl,q⟩:=q1;cases r1;exact wpAny_truthy_bool ⟨H1,I1,q⟩
variable {tA tB':TT} {rest:List Expr}
def vR (t u:TT):TT:=fun σ H Q=>t σ H fun c H1=>if c=true then u σ H1 Q else Q false H1
def tOr (t u:TT):TT:=fun σ H Q=>t σ H fun c H1=>if c=true then Q true H1 else u σ H1 Q
def vK (t:TT):TT:=fun σ H Q=>t σ H fun c H1=>Q (!c) H1
theorem fR (ha:PT X a tA):PW X (.BoolOp .And [a] pos) tA:=by
  intro wh pins s σ H Q I h;refine isTrue_and (thn (ha pins s σ H Q I h) fun c s1 e=>?_);cases c with
  | true=>exact isTrue_and_nil e
  | false=>exact e
theorem cK (ha:PT X a tA):PW X (.BoolOp .Or [a] pos) tA:=by
  intro wh pins s σ H Q I h;refine isTrue_or (thn (ha pins s σ H Q I h) fun c s1 e=>?_);cases c with
  | false=>exact isTrue_or_nil e
  | true=>exact e
theorem gB (ha:PT X a tA) (hb:PW X (.BoolOp .And (b :: rest) pos) tB'):PW X (.BoolOp .And (a :: b :: rest) pos) (vR tA tB'):=by
  intro wh pins s σ H Q I h;refine isTrue_and (thn (ha pins s σ H _ I h) fun c s1 ⟨H1,I1,q1⟩=>?_);cases c with
  | true=>exact hb wh pins s1 σ H1 Q I1 q1
  | false=>exact ⟨H1,I1,q1⟩
theorem cH (ha:PT X a tA) (hb:PW X (.BoolOp .Or (b :: rest) pos) tB'):PW X (.BoolOp .Or (a :: b :: rest) pos) (tOr tA tB'):=by
  intro wh pins s σ H Q I h;refine isTrue_or (thn (ha pins s σ H _ I h) fun c s1 ⟨H1,I1,q1⟩=>?_);cases c with
  | true=>exact ⟨H1,I1,q1⟩
  | false=>exact hb wh pins s1 σ H1 Q I1 q1
theorem bQ (ha:PT X a tA):PT X (.UnaryOp .Not a pos) (vK tA):=by
  intro pins s σ H Q I h;exact isTrue_not (ha pins s σ H (fun c H1=>Q (!c) H1) I h)
def uT (ta tb:TE):TE:=fun σ H Q=>ta σ H fun x H1=>∃ c,x=.bl c∧if c=true then tb σ H1 Q else Q (.bl false) H1
def vJ (ta tb:TE):TE:=fun σ H Q=>ta σ H fun x H1=>∃ c,x=.bl c∧if c=true then Q (.bl true) H1 else tb σ H1 Q
def uP (ta:TE):TE:=fun σ H Q=>ta σ H fun x H1=>∃ c,x=.bl c∧Q (.bl (!c)) H1
theorem fG {op} {t:TE} (h:PE X a t):PE X (.BoolOp op [a] pos) t:=fun pins s σ H Q I hw=>BoolOp_one (h pins s σ H Q I hw)
theorem dJ (ha:PE X a ta) (hb:PE X (.BoolOp .And (b :: rest) pos) tb):PE X (.BoolOp .And (a :: b :: rest) pos) (uT ta tb):=by
  intro pins s σ H Q I h;refine BoolOp_and (thn (ha pins s σ H _ I h) fun v s1 ⟨x,H1,I1,r1,q1⟩=>?_);obtain ⟨c,rfl,q1⟩:=q1;cases r1;refine wpAny_truthy_bool ?_;cases c with
  | true=>exact hb pins s1 σ H1 Q I1 q1
  | false=>exact ⟨.bl false,H1,I1,rfl,q1⟩
theorem u5 (ha:PE X a ta) (hb:PE X (.BoolOp .Or (b :: rest) pos) tb):PE X (.BoolOp .Or (a :: b :: rest) pos) (vJ ta tb):=by
  intro pins s σ H Q I h;refine BoolOp_or (thn (ha pins s σ H _ I h) fun v s1 ⟨x,H1,I1,r1,q1⟩=>?_);obtain ⟨c,rfl,q1⟩:=q1;cases r1;refine wpAny_truthy_bool ?_;cases c with
  | false=>exact hb pins s1 σ H1 Q I1 q1
  | true=>exact ⟨.bl true,H1,I1,rfl,q1⟩
theorem qo (ha:PE X a ta):PE X (.UnaryOp .Not a pos) (uP ta):=by
  intro pins s σ H Q I h;refine UnaryOp_ (thn (ha pins s σ H _ I h) fun v s1 ⟨x,H1,I1,r1,q1⟩=>?_);obtain ⟨c,rfl,q1⟩:=q1;cases r1;exact not_of (wpAny_truthy_bool ⟨.bl (!c),H1,I1,rfl,q1⟩)
def tIf (t:TT) (ta tb:TE):TE:=fun σ H Q=>t σ H fun c H1=>if c=true then ta σ H1 Q else tb σ H1 Q
theorem kP {c:Expr} (hc:PT X c tA) (ha:PE X a ta) (hb:PE X b tb):PE X (.IfExp c a b pos) (tIf tA ta tb):=by
  intro pins s σ H Q I h;refine wpAny_IfExp (thn (hc pins s σ H _ I h) fun d s1 ⟨H1,I1,q1⟩=>?_);cases d with
  | true=>exact ha pins s1 σ H1 Q I1 q1
  | false=>exact hb pins s1 σ H1 Q I1 q1
end
open PySem PySem.Spec PyProof.Rows
def SqL (K:aaa) (H:Hp) (a:Addr) (xs:List V):Prop :=
  Rd H a (.lst xs) ∨
    ∃ (o:Obj) (its:Array Value) (n:Nat),K.lookup a=some o∧o.cls=.type "list"∧o.dict=none∧o.data=.seq its n∧its.size≤sizeLine∧Vals xs its.toList
def SqT (K:aaa) (H:Hp) (a:Addr) (xs:List V):Prop :=
  Rd H a (.tup xs) ∨
    ∃ (o:Obj) (its:Array Value) (n:Nat),K.lookup a=some o∧o.cls=.type "tuple"∧o.data=.seq its n∧its.size≤sizeLine∧Vals xs its.toList
def v8:Value→Option V
  | .none=>some .non
  | .bool b=>some (.bl b)
  | .int i _=>some (.int i)
  | .str x _=>some (.str x)
  | .bytes b _=>some (.byt b)
  | .float b _=>some (.flt b)
  | .ref a=>some (.ref a)
  | .type n=>some (.ty n)
  | _=>none
theorem RelV.abs {x:V} {u:Value} (r:RelV x u):v8 u=some x:=by
  cases x with
  | non=>cases r;rfl
  | bl _=>cases r;rfl
  | int _=>obtain ⟨t,rfl⟩:=r;rfl
  | str _=>obtain ⟨t,rfl⟩:=r;rfl
  | byt _=>obtain ⟨t,rfl⟩:=r;rfl
  | flt _=>obtain ⟨t,rfl⟩:=r;rfl
  | ref _=>cases r;rfl
  | ty _=>cases r;rfl
theorem RelV.inj {x y:V} {u:Value} (r:RelV x u) (q:RelV y u):x=y:=aaZ (r.abs.symm.trans q.abs)
theorem Vals.inj:∀ {xs ys:List V} {us:List Value},Vals xs us→Vals ys us→xs=ys
  | _,_,_,.nil,.nil=>rfl
  | _,_,_,.cons r t,.cons r' t'=>by rw [r.inj r',Vals.inj t t']
section
variable {X:Cx} {pins:List (Addr × Obj)} {σ:St} {H:Hp} {s:Shared} {a:Addr} {xs ys:List V}
theorem SqL.of {K:aaa} (h:H a=some (.lst xs)):SqL K H a xs:=.inl (.inl h)
theorem SqT.of {K:aaa} (h:H a=some (.tup xs)):SqT K H a xs:=.inl (.inl h)
theorem Inv.list (I:Inv X pins σ H s) (h:SqL X.K H a xs):∃ its:List Value,Vals xs its∧PlainL s.heap a its.toArray∧xs.length≤sizeLine:=by
  rcases h with h|⟨o,its,n,hk,hc,hd,hs,hz,r⟩
  · obtain ⟨z,its,n,r,e⟩:=h.ok I.hok;exact ⟨its,r,⟨_,n,e,rfl,rfl,rfl⟩,z⟩
  · refine ⟨its.toList,r,⟨o,n,I.kIn a o hk,hc,hd,by simpa using hs⟩,?_⟩;have e:=r.length;simp only [abi] at e;lia
theorem Inv.tuple (I:Inv X pins σ H s) (h:SqT X.K H a xs):∃ its:List Value,Vals xs its∧IsTup s.heap a its.toArray∧xs.length≤sizeLine:=by
  rcases h with h|⟨o,its,n,hk,hc,hs,hz,r⟩
  · obtain ⟨z,its,r,p⟩:=h.ok I.hok;exact ⟨its,r,p,z⟩
  · refine ⟨its.toList,r,⟨o,I.kIn a o hk,hc,n,by simpa using hs⟩,?_⟩;have e:=r.length;simp only [abi] at e;lia
theorem Inv.list_inj (I:Inv X pins σ H s) (h:SqL X.K H a xs) (h':SqL X.K H a ys):xs=ys:=by
  obtain ⟨its,r,⟨o,n,e,_,_,d⟩,_⟩:=I.list h;obtain ⟨its',r',⟨o',n',e',_,_,d'⟩,_⟩:=I.list h';rw [e] at e';cases e';rw [d] at d';injection d' with d1 _
  have : its=its':=by simpa using congrArg Array.toList d1
  subst this;exact r.inj r'
theorem Inv.tuple_inj (I:Inv X pins σ H s) (h:SqT X.K H a xs) (h':SqT X.K H a ys):xs=ys:=by
  obtain ⟨its,r,⟨o,e,_,n,d⟩,_⟩:=I.tuple h;obtain ⟨its',r',⟨o',e',_,n',d'⟩,_⟩:=I.tuple h';rw [e] at e';cases e';rw [d] at d';injection d' with d1 _
  have : its=its':=by simpa using congrArg Array.toList d1
  subst this;exact r.inj r'
end
abbrev Cx.wish (X:Cx) (E:Value→Shared→Prop):Cx:={ X with xe:=E }
abbrev Cx.nox (X:Cx):Cx:=X.wish fun _ _=>False
theorem Cx.Ok.wish {X:Cx} (ok:X.Ok) (E:Value→Shared→Prop):(X.wish E).Ok :=
  ⟨ok.mod,ok.kind,ok.glob,ok.blt,ok.above,ok.inj,ok.has,ok.cab,ok.hd,ok.frames,ok.stk,ok.exf,ok.bs,ok.bsz,ok.noex,ok.exfs,ok.funs,ok.frf⟩
theorem Cx.Ok.unwish {X:Cx} {E:Value→Shared→Prop} (ok:(X.wish E).Ok):X.Ok :=
  ⟨ok.mod,ok.kind,ok.glob,ok.blt,ok.above,ok.inj,ok.has,ok.cab,ok.hd,ok.frames,ok.stk,ok.exf,ok.bs,ok.bsz,ok.noex,ok.exfs,ok.funs,ok.frf⟩
section
variable {X:Cx} {pins:List (Addr × Obj)} {σ:St} {H:Hp} {s:Shared} {E:Value→Shared→Prop}
theorem Inv.wish (I:Inv X pins σ H s) (E:Value→Shared→Prop):Inv (X.wish E) pins σ H s:=⟨I.ok.wish E,I.os,I.bare,I.base,I.loc,I.cell,I.free,I.freeC,I.pin,I.hok,I.len⟩
theorem Inv.unwish (I:Inv (X.wish E) pins σ H s):Inv X pins σ H s:=⟨I.ok.unwish,I.os,I.bare,I.base,I.loc,I.cell,I.free,I.freeC,I.pin,I.hok,I.len⟩
theorem SP.unwish {D:Ends} {f:Flow} {s':Shared} (h:SP (X.wish E) pins D f s'):SP X pins D f s':=by
  cases f with
  | next=>obtain ⟨σ',H',I,q⟩:=h;exact ⟨σ',H',I.unwish,q⟩
  | brk=>obtain ⟨σ',H',I,q⟩:=h;exact ⟨σ',H',I.unwish,q⟩
  | cont=>obtain ⟨σ',H',I,q⟩:=h;exact ⟨σ',H',I.unwish,q⟩
  | ret u=>obtain ⟨v,σ',H',I,r,q⟩:=h;exact ⟨v,σ',H',I.unwish,r,q⟩
theorem PSs.nox {st:List Stmt} {t:TS} (h:PSs X.nox st t):PSs X st t:=fun pins s σ H D I hw =>
  wpAny_mono (h pins s σ H D (I.wish _) hw) (fun _ _ q=>q.unwish) fun _ _ z=>abj z
end
section
variable {X:Cx} {st:Stmt} {rest:List Stmt} {t u:TS} {e:Expr} {te:TE} {pos:Pos}
def uQ:TS:=fun D σ H=>D.nx σ H
def vG (t u:TS):TS:=fun D σ H=>t { D with nx:=u D } σ H
theorem aV:PSs X [] uQ:=fun _ _ σ H _ I h=>wpAny_execs_nil ⟨σ,H,I,h⟩
theorem ag (h1:PS X st t) (h2:PSs X rest u):PSs X (st :: rest) (vG t u):=by
  intro pins s σ H D I h;refine wpAny_execs_cons (thn (h1 pins s σ H { D with nx:=u D } I h) fun f s1 q=>?_);cases f with
  | next =>
    obtain ⟨σ',H',I',q⟩:=q;exact h2 pins s1 σ' H' D I' q
  | ret v=>exact q
  | brk=>exact q
  | cont=>exact q
theorem ai (h1:PS X st t):PSs X [st] t:=by
  intro pins s σ H D I h;refine wpAny_execs_cons (thn (h1 pins s σ H D I h) fun f s1 q=>?_);cases f with
  | next=>exact wpAny_execs_nil q
  | ret v=>exact q
  | brk=>exact q
  | cont=>exact q
theorem Inv.quiet {pins:List (Addr × Obj)} {σ:St} {H:Hp} {s:Shared} (I:Inv X pins σ H s):interactive X.env=false:=by simp [interactive,I.ok.kind]
def uR (te:TE):TS:=fun D σ H=>te σ H fun _ H1=>D.nx σ H1
theorem da (he:PE X e te) (hs:swapsWith e none pos.line X.env=pure false:=by rfl):PS X (.Expr e pos) (uR te):=by
  intro pins s σ H D I h;exact wpAny_Expr_any (thn (he pins s σ H _ I h) fun v s1 ⟨x,H1,I1,r1,q1⟩=>⟨σ,H1,I1,q1⟩) I.quiet hs
def vH (te:TE):TS:=fun D σ H=>te σ H D.rt
theorem av (he:PE X e te):PS X (.Return (some e) pos) (vH te):=by
  intro pins s σ H D I h;exact wpAny_Return_some (thn (he pins s σ H _ I h) fun v s1 ⟨x,H1,I1,r1,q1⟩=>⟨x,σ,H1,I1,r1,q1⟩)
def vN (c:TT) (t u:TS):TS:=fun D σ H=>c σ H fun b H1=>if b=true then t D σ H1 else u D σ H1
theorem br {c:Expr} {a b:List Stmt} {tc:TT} (hc:PT X c tc) (ha:PSs X a t) (hb:PSs X b u):PS X (.If c a b pos) (vN tc t u):=by
  intro pins s σ H D I h;refine wpAny_If (thn (hc pins s σ H _ I h) fun d s1 ⟨H1,I1,q1⟩=>?_);cases d with
  | true=>exact ha pins s1 σ H1 D I1 q1
  | false=>exact hb pins s1 σ H1 D I1 q1
def tj:TS:=fun _ _ _=>False
theorem p_:PS X st tj:=fun _ _ _ _ _ _ h=>h.elim
end
abbrev TG:=V→St→Hp→(St→Hp→Prop)→Prop
abbrev TGs:=List V→St→Hp→(St→Hp→Prop)→Prop
def PG (X:Cx) (target:Expr) (t:TG):Prop :=
  ∀ (pins:List (Addr × Obj)) (s:Shared) (σ:St) (H:Hp) (v:V) (u:Value) (Q:St→Hp→Prop),Inv X pins σ H s→RelV v u→t v σ H Q →
    wpAny (model X.prog X.w) X.A (assign target X.env u) (fun _ s'=>∃ σ' H',Inv X pins σ' H' s'∧Q σ' H') X.xe s
def PGs (X:Cx) (ts:List Expr) (t:TGs):Prop :=
  ∀ (pins:List (Addr × Obj)) (s:Shared) (σ:St) (H:Hp) (vs:List V) (us:List Value) (Q:St→Hp→Prop),Inv X pins σ H s→Vals vs us→t vs σ H Q →
    wpAny (model X.prog X.w) X.A (assignInOrder ((assignEach ts X.env).map (·.2)) us) (fun _ s'=>∃ σ' H',Inv X pins σ' H' s'∧Q σ' H') X.xe s
abbrev uF:=V→V→V→Hp→(Hp→Prop)→Prop
def vC (X:Cx) (t:uF):Prop :=
  ∀ (pins:List (Addr × Obj)) (s:Shared) (σ:St) (H:Hp) (o i v:V) (ov iv u:Value) (Q:Hp→Prop),Inv X pins σ H s→RelV o ov→RelV i iv→RelV v u→t o i v H Q →
    wpAny (model X.prog X.w) X.A (setItem ov iv u) (fun _ s'=>∃ H',Inv X pins σ H' s'∧Q H') X.xe s
abbrev TIp:=V→V→Hp→VK→Prop
def PIp (X:Cx) (op:Operator) (t:TIp):Prop :=
  ∀ (pins:List (Addr × Obj)) (s:Shared) (σ:St) (H:Hp) (x y:V) (v u:Value) (Q:VK),Inv X pins σ H s→RelV x v→RelV y u→t x y H Q →
    wpAny (model X.prog X.w) X.A (inplaceOp op v u) (EP X pins σ Q) X.xe s
section
variable {X:Cx} {pos:Pos}
def qQ (i:Nat):TG:=fun v σ H Q=>Q (σ.set i (some v)) H
theorem aB {i:Nat} {x:Str} (hN:X.N.Nodup) (hi:X.N[i]?=some x) (hx:Loc X.env.scope x) (hf:X.fn x=true∨X.env.scope.names.lookup x=some .local:=by first|exact .inl rfl|exact .inr rfl|assumption):PG X (.Name x pos) (qQ i):=by
  intro pins s σ H v u Q I r h;exact wpAny_assign_Name (d9 I hN hi hx r (fun s' I'=>⟨_,H,I',h⟩) hf)
def v6:TGs:=fun vs σ H Q=>vs=[]∧Q σ H
def vo (t:TG) (u:TGs):TGs:=fun vs σ H Q=>∃ v r,vs=v :: r∧t v σ H fun σ' H'=>u r σ' H' Q
theorem dI:PGs X [] v6:=by
  intro pins s σ H vs us Q I r h;obtain ⟨e,h⟩:=h;subst e;cases r;exact assignInOrder_nil ⟨σ,H,I,h⟩
theorem a9 {e:Expr} {es:List Expr} {t:TG} {u:TGs} (h1:PG X e t) (h2:PGs X es u)
    (hs:(assignEach (e :: es) X.env).map (·.2)=assign e X.env :: (assignEach es X.env).map (·.2):=by rfl):PGs X (e :: es) (vo t u):=by
  intro pins s σ H vs us Q I r h;obtain ⟨v,vr,e1,h⟩:=h;subst e1;cases r with
  | cons r rr =>
    rw [hs];refine assignInOrder_cons (thn (h1 pins s σ H _ _ _ I r h) fun _ s1 ⟨σ1,H1,I1,q1⟩=>?_);exact h2 pins s1 σ1 H1 _ _ Q I1 rr q1
def vn (K:aaa) (n:Nat) (t:TGs):TG:=fun v σ H Q=>∃ a xs,v=.ref a∧SqT K H a xs∧xs.length=n∧t xs σ H Q
theorem pg_tup {es:List Expr} {k:Nat} {t:TGs} {n:Nat} (hc:X.calm=true) (h:PGs X es t)
    (hn:(assignEach es X.env).length=n:=by rfl) (hst:(assignEach es X.env).findIdx? (·.1)=none:=by rfl):PG X (.Tuple es k pos) (vn X.K n t):=by
  intro pins s σ H v u Q I r hw;obtain ⟨a,xs,e1,hq,hl,hw⟩:=hw;subst e1;cases r;obtain ⟨its,rv,ht,hz⟩:=I.tuple hq;refine assign_Tuple_tuple (I.ok.hd hc) ht (by simp [hn,← hl,rv.length]) hst fun h' hx=>?_;have I1:Inv X pins σ H { s with heap:=h' }:=I.kept (t':=s.toks) fun b o e=>hx b o (aaq (aak e)) e;exact h pins _ σ H xs _ Q I1 (by simpa using rv) hw
def v5 (to ti:TE) (t:uF):TG:=fun v σ H Q=>to σ H fun o H1=>ti σ H1 fun i H2=>t o i v H2 fun H3=>Q σ H3
theorem qi {o i:Expr} {to ti:TE} {t:uF} (ho:PE X o to) (hi:PE X i ti) (hs:vC X t)
    (ha:∀ v,assign (.Subscript o i pos) X.env v=(do
      let ov ← holding [v] (eval o X.env)
      let iv ← holding [v,ov] (eval i X.env)
      standAt pos
      holding [v,ov,iv] (setItem ov iv v)
      release [v,ov,iv] []):=by intro _;rfl):PG X (.Subscript o i pos) (v5 to ti t):=by
  intro pins s σ H v u Q I r h;rw [ha];refine wpAny_bind (wpAny_holding (thn (ho pins s σ H _ I h) fun ov s1 ⟨x,H1,I1,r1,q1⟩=>?_));refine wpAny_bind (wpAny_holding (thn (hi pins s1 σ H1 _ I1 q1) fun iv s2 ⟨y,H2,I2,r2,q2⟩=>?_));refine wpAny_bind (wpAny_standAt (wpAny_bind (wpAny_holding (thn (hs pins s2 σ H2 x y v ov iv u _ I2 r1 r2 r q2) fun _ s3 ⟨H3,I3,q3⟩=>?_))));exact wpAny_release ⟨σ,H3,I3,q3⟩
def tE (te:TE) (g:TG):TS:=fun D σ H=>te σ H fun x H1=>g x σ H1 D.nx
theorem io {tg e:Expr} {te:TE} {g:TG} (he:PE X e te) (hg:PG X tg g) (hs:swapsWithSole [tg] e pos.line X.env=pure false:=by rfl) (hw:swappedStores [tg] e X.env=pure none:=by rfl)
    (h1:(assignEach [tg] X.env).map (·.2)=[assign tg X.env]:=by rfl):PS X (.Assign [tg] e pos) (tE te g):=by
  intro pins s σ H D I h;refine wpAny_Assign_stores (thn (he pins s σ H _ I h) fun v s1 ⟨x,H1,I1,r1,q1⟩=>?_) hs hw;rw [h1];exact thn (hg pins s1 σ H1 x v _ I1 r1 q1) fun _ s2 q=>q
theorem au {i:Nat} {x:Str} {e:Expr} {te:TE} {pos':Pos} (hN:X.N.Nodup) (hi:X.N[i]?=some x) (hx:Loc X.env.scope x) (he:PE X e te) (hs:swapsWith e (some (.Name x pos')) pos.line X.env=pure false:=by rfl) (hf:X.fn x=true∨X.env.scope.names.lookup x=some .local:=by first|exact .inl rfl|exact .inr rfl|assumption) :
    PS X (.Assign [.Name x pos'] e pos) (tE te (qQ i)):=by
  intro pins s σ H D I h;refine wpAny_Assign_Name (thn (he pins s σ H _ I h) fun v s1 ⟨y,H1,I1,r1,q1⟩=>?_) hs;exact d9 I1 hN hi hx r1 (fun s2 I2=>⟨_,H1,I2,q1⟩) hf
def vQ (i:Nat) (te:TE) (ti:TIp):TS:=fun D σ H=>∃ x,σ[i]?=some (some x)∧te σ H fun y H1=>ti x y H1 fun z H2=>D.nx (σ.set i (some z)) H2
theorem tT {i:Nat} {x:Str} {e:Expr} {te:TE} {op:Operator} {ti:TIp} {pos':Pos} (hN:X.N.Nodup) (hi:X.N[i]?=some x) (hx:Loc X.env.scope x) (he:PE X e te) (ho:PIp X op ti) (hf:X.fn x=true∨X.env.scope.names.lookup x=some .local:=by first|exact .inl rfl|exact .inr rfl|assumption) :
    PS X (.AugAssign (.Name x pos') op e pos) (vQ i te ti):=by
  intro pins s σ H D I h;obtain ⟨v,e1,h⟩:=h;obtain ⟨m,hn,hl⟩:=I.loc;have vis:Vis X.env.scope x:=by rcases hx with k|k;exact .inl k;exact .inr (.inl k)
  obtain ⟨u,r,l⟩:=hl i x v hi e1 vis;refine wpAny_AugAssign_Name ?_;have go:wpAny (model X.prog X.w) X.A (eval e X.env) (fun w s₂=>wpAny (model X.prog X.w) X.A (inplaceOp op u w) (fun r s₃=>wpAny (model X.prog X.w) X.A (storeName X.env x r) (fun _=>SP X pins D .next) X.xe s₃) X.xe s₂) X.xe s:=by
    refine thn (he pins s σ H _ I h) fun w s1 ⟨y,H1,I1,r1,q1⟩=>?_;refine thn (ho pins s1 σ H1 v y u w _ I1 r r1 q1) fun z s2 ⟨zv,H2,I2,r2,q2⟩=>?_;exact d9 I2 hN hi hx r2 (fun s3 I3=>⟨_,H2,I3,q2⟩) hf
  rcases l with ⟨hk,hm⟩|⟨hk,c,hc,hcell⟩
  · exact wpAny_loadName_local I.ok.kind hk hn hm go
  · rcases hk with hk|hk
    · exact wpAny_loadName_cell I.ok.kind hk hc hcell go
    · rcases hx with k|k
      · have : X.env.scope.names.lookup x=some .free:=hk;rw [k] at this;cases this
      · have : X.env.scope.names.lookup x=some .free:=hk;rw [k] at this;cases this
def ipI (f:Int→Int→Int):TIp:=fun x y H Q=>∃ i j,x=.int i∧y=.int j∧Q (.int (f i j)) H
theorem uy:PIp X .Add (ipI fun i j=>i+j):=by
  intro pins s σ H x y v u Q I r1 r2 h;obtain ⟨i,j,e1,e2,q⟩:=h;subst e1;subst e2;obtain ⟨t,rfl⟩:=r1;obtain ⟨t',rfl⟩:=r2;exact iadd_int ⟨.int _,H,I.tok _,⟨_,rfl⟩,q⟩
end
section
variable {X:Cx} {pos:Pos}
def tf (c:TT) (tb:TS):TS:=fun D σ H=>∃ W:Nat→St→Hp→Prop,(∃ m,W m σ H)∧∀ m σ H,W m σ H →
  c σ H fun b H1=>if b=true then ∃ N:St→Hp→Prop,(∀ σ' H',N σ' H'→∃ m',m' < m∧W m' σ' H')∧tb { D with nx:=N,ct:=N,bk:=D.nx } σ H1 else D.nx σ H1
theorem kN {c:Expr} {body:List Stmt} {tc:TT} {tb:TS} (hp:PassesOwn (model X.prog X.w) X.A X.env X.xe) (hc:PT X c tc) (hb:PSs X body tb):PS X (.While c body [] pos) (tf tc tb):=by
  intro pins s σ H D I h;obtain ⟨W,⟨m0,w0⟩,turn⟩:=h;refine wpAny_While (codeAny_whileLoop (fun n s'=>∃ σ' H',Inv X pins σ' H' s'∧W n σ' H') ?_ m0 ⟨σ,H,I,w0⟩);rintro n s1 ⟨σ1,H1,I1,w1⟩;refine wpAny_passesOwn hp (thn (hc pins s1 σ1 H1 _ I1 (turn n σ1 H1 w1)) fun b s2 ⟨H2,I2,q2⟩=>?_);cases b with
  | true =>
    obtain ⟨N,hN,q2⟩:=q2;rw [if_pos rfl];refine wpAny_passesOwn hp (thn (hb pins s2 σ1 H2 _ I2 q2) fun f s3 q3=>?_);cases f with
    | next =>
      obtain ⟨σ3,H3,I3,n3⟩:=q3;obtain ⟨m',hm,w3⟩:=hN σ3 H3 n3;exact ⟨m',hm,σ3,H3,I3,w3⟩
    | cont =>
      obtain ⟨σ3,H3,I3,n3⟩:=q3;obtain ⟨m',hm,w3⟩:=hN σ3 H3 n3;exact ⟨m',hm,σ3,H3,I3,w3⟩
    | brk=>exact q3
    | ret v=>exact q3
  | false =>
    rw [if_neg aan];exact wpAny_execs_nil ⟨σ1,H2,I2,q2⟩
end
structure It where
  go:Nat→Hp→Prop
  yld:Nat→Hp→V→Hp→Prop
  stop:Nat→Hp→Prop
def kl (X:Cx) (pins:List (Addr × Obj)) (H:Hp) (b:Addr):Prop :=
  H b=none∧b≠X.env.locals∧b∉X.fs∧(b∈X.ex∨X.s₀.heap.objs.size≤b)∧(∀ x c,X.env.cells.lookup x=some c→c≠b)∧∀ p∈X.pn++pins,p.1≠b
theorem Inv.fpOk {X:Cx} {pins:List (Addr × Obj)} {σ:St} {H H':Hp} {s:Shared} {b:Addr} (I:Inv X pins σ H s) (hb:s.heap.objs.size≤b) (hn:H' b=none):kl X pins H' b:=by
  refine ⟨hn,abX (aay I.lt hb),I.nofs hb,.inr (aaY I.sz hb),fun x c e z=>?_,fun p hp z=>?_⟩
  · obtain ⟨v,q⟩:=I.cell x c e;exact absurd (aay q.lt (by rw [z];exact hb)) (aa7 _)
  · exact absurd (aay (aak (I.pin p hp).1) (by rw [z];exact hb)) (aa7 _)
structure Turn (P:Program) (w:World) (K:aaa) (tg:Expr) (J:It) (fp:List Addr) (it:Addr) (tn:Nat→Heap→Prop):Prop where
  mem:it∈fp
  obj:∀ i h,tn i h→∀ b∈fp,∃ o,h.get? b=some o∧∀ v,o.data≠.cell v
  keep:∀ i h h',tn i h→(∀ b∈fp,∀ o,h.get? b=some o→h'.get? b=some o)→tn i h'
  item:∀ (X:Cx),X.prog=P→X.w=w→X.K=K→X.calm=true→∀ (i:Nat) (pins:List (Addr × Obj)) (s:Shared) (σ:St) (H:Hp) (E:Value→Shared→Prop),Inv X pins σ H s→(∀ b∈fp,kl X pins H b)→tn i s.heap→J.go i H →
    wpAny (model P w) X.A (pyNext (.ref it)) (fun r s1=>∃ u,r=some u ∧
      wpAny (model P w) X.A (letOwnedTupleGo tg (.ref it) u) (fun _ s2=>∃ x H',Inv X pins σ H' s2∧RelV x u∧J.yld i H x H'∧tn (i+1) s2.heap∧∀ b∈fp,H' b=none) E s1) E s
  done:∀ (X:Cx),X.prog=P→X.w=w→X.K=K→X.calm=true→∀ (i:Nat) (pins:List (Addr × Obj)) (s:Shared) (σ:St) (H:Hp) (E:Value→Shared→Prop),Inv X pins σ H s→(∀ b∈fp,kl X pins H b)→tn i s.heap→J.stop i H →
    wpAny (model P w) X.A (pyNext (.ref it)) (fun r s1=>r=none∧Inv X pins σ H s1) E s
  self:∀ (A:Around) (i:Nat) (s:Shared) (Q:Value→Shared→Prop) (E:Value→Shared→Prop),tn i s.heap→Q (.ref it) s→wpAny (model P w) A (pyIter (.ref it)) Q E s
abbrev TI:=St→Hp→(It→Hp→Prop)→Prop
def PIE (X:Cx) (pins:List (Addr × Obj)) (σ:St) (tg:Expr) (R:It→Hp→Prop) (itv:Value) (s2:Shared):Prop :=
  ∃ (it:Addr) (fp:List Addr) (tn:Nat→Heap→Prop) (J:It) (H':Hp),itv=.ref it∧Inv X pins σ H' s2∧Turn X.prog X.w X.K tg J fp it tn∧tn 0 s2.heap∧(∀ b∈fp,kl X pins H' b)∧R J H'
def PI (X:Cx) (tg iter:Expr) (wi:TI):Prop :=
  ∀ (pins:List (Addr × Obj)) (s:Shared) (σ:St) (H:Hp) (R:It→Hp→Prop),Inv X pins σ H s→wi σ H R →
    wpAny (model X.prog X.w) X.A (eval iter X.env) (fun v s1=>wpAny (model X.prog X.w) X.A (pyIter v) (PIE X pins σ tg R) X.xe s1) X.xe s
theorem qP {M:Model} {A:Around} {E:Value→Shared→Prop} {s:Shared} {tg:Expr} {it:Addr} {u:Value} {o:Obj} {n:String} {vs:Array Value} {Q:Unit→Shared→Prop} (ho:s.heap.get? it=some o) (hc:o.cls=.type n) (hd:o.data=.fields vs)
    (hn:["enumerate","zip","dict_itemiterator","dict_reverseitemiterator","odict_iterator","itertools.zip_longest","itertools.pairwise"].contains n=false) (hQ:Q () s):wpAny M A (letOwnedTupleGo tg (.ref it) u) Q E s:=by
  unfold letOwnedTupleGo;cases tg <;> first
    | exact wpAny_pure hQ
    | (cases u <;> first
        | exact wpAny_pure hQ
        | (refine wpAny_bind (wpAny_load ho ?_)
           rw [hc,hd];show wpAny M A (if (["enumerate","zip","dict_itemiterator","dict_reverseitemiterator","odict_iterator","itertools.zip_longest","itertools.pairwise"].contains n && vs[0]? == some (rawInt _))=true then _ else _) Q E s;rw [if_neg (by intro h;rw [hn,acq] at h;cases h)];exact wpAny_pure hQ))
def Itl (K:aaa) (a:Addr):It :=
  ⟨fun i H=>∃ xs x,SqL K H a xs∧xs[i]?=some x,fun i H x H'=>H'=H∧∀ xs,SqL K H a xs→xs[i]?=some x,fun i H=>∃ xs,SqL K H a xs∧xs.length≤i⟩
def Itr (lo:Int) (n:Nat):It:=⟨fun i _=>i < n,fun i H x H'=>H'=H∧x=.int (lo+i),fun i _=>n≤i⟩
theorem nW {P:Program} {w:World} {K:aaa} {tg:Expr} (a it:Addr):Turn P w K tg (Itl K a) [it] it (fun i h=>h.IsListIter it a i) where
  mem:=by simp
  obj:=fun i h st b hb=>by
    have e:b=it:=by simpa using hb
    subst e;obtain ⟨o,e,c,d⟩:=st;exact ⟨o,e,fun v z=>by rw [d] at z;cases z⟩
  keep:=fun i h h' st k=>st.at fun o e=>k it (by simp) o e
  item:=by
    intro X hP hw hK hc i pins s σ H E I hf st hg;subst hP hw hK;obtain ⟨xs,x,hq,hx⟩:=hg;obtain ⟨its,rv,p,hz⟩:=I.list hq;obtain ⟨u,hu,ru⟩:=rv.get hx;obtain ⟨f0,f1,f2,f3,f4,f5⟩:=hf it (by simp);refine wpAny_pyNext_list_item st p.isList (x:=u) (by simpa using hu) fun h' st' sb=>?_;have I1:Inv X pins σ H { s with heap:=h' }:=I.turned (t':=s.toks) (fun b o hb e=>(sb.2 b hb).trans e) f0 f1 f3 f4 f5;obtain ⟨o,e,c,d⟩:=id st';exact ⟨u,rfl,qP (s:={ s with heap:=h' }) e c d (by decide) ⟨x,H,I1,ru,⟨rfl,fun ys hy=>by rw [I.list_inj hy hq];exact hx⟩,st',fun b hb=>(hf b hb).1⟩⟩
  done:=by
    intro X hP hw hK hc i pins s σ H E I hf st hg;subst hP hw hK;obtain ⟨xs,hq,hx⟩:=hg;obtain ⟨its,rv,p,hz⟩:=I.list hq;obtain ⟨f0,f1,f2,f3,f4,f5⟩:=hf it (by simp);have hl:=rv.length;exact wpAny_pyNext_list_end (I.ok.hd hc) st p.isList (by simp;lia) fun h' eb=>⟨rfl,I.turned (t':=s.toks) (fun b o hb e=>eb b o hb e) f0 f1 f3 f4 f5⟩
  self:=fun _ _ _ _ _ st h=>wpAny_pyIter_listiter st h
theorem lR {P:Program} {w:World} {K:aaa} {tg:Expr} (it:Addr) (lo:Int) (n:Nat):Turn P w K tg (Itr lo n) [it] it (fun i h=>IsRangeIter h it (lo+(i:Nat) * 1) ((n:Int) - (i:Nat)) 1) where
  mem:=by simp
  obj:=fun i h st b hb=>by
    have e:b=it:=by simpa using hb
    subst e;exact ⟨_,st,fun v z=>by
      have z':Data.fields _=Data.cell v:=z;cases z'⟩
  keep:=fun i h h' st k=>k it (by simp) _ st
  item:=by
    intro X hP hw hK hc i pins s σ H E I hf st hg;subst hP hw hK;obtain ⟨f0,f1,f2,f3,f4,f5⟩:=hf it (by simp);have W:=Walks.range (prog:=X.prog) (w:=X.w) (I.ok.hd hc) it lo 1 n;refine W.item i s _ _ hg st fun v h' tk hv st' kk=>?_;obtain ⟨t,rfl⟩:=hv;have I1:Inv X pins σ H { s with heap:=h',toks:=tk }:=I.turned (fun b o hb e=>kk b o (by simpa using hb) e) f0 f1 f3 f4 f5;refine ⟨_,rfl,qP (s:={ s with heap:=h',toks:=tk }) (n:="range_iterator") st' rfl rfl (by decide) ⟨.int (lo+i),H,I1,⟨t,?_⟩,⟨rfl,rfl⟩,st',fun b hb=>(hf b hb).1⟩⟩;rw [Int.mul_one]
  done:=by
    intro X hP hw hK hc i pins s σ H E I hf st hg;subst hP hw hK;obtain ⟨f0,f1,f2,f3,f4,f5⟩:=hf it (by simp);exact wpAny_pyNext_range_end (I.ok.hd hc) st (by have : n≤i:=hg;lia) fun h' eb=>⟨rfl,I.turned (t':=s.toks) (fun b o hb e=>eb b o hb e) f0 f1 f3 f4 f5⟩
  self:=fun _ _ _ _ _ st h=>wpAny_pyIter_rangeiter st h
open PySem PySem.Spec PyProof.Rows
section
variable {X:Cx} {tg:Expr}
def vi (K:aaa) (tl:TE):TI:=fun σ H R=>tl σ H fun x H1=>∃ a,x=.ref a∧(∃ xs,SqL K H1 a xs)∧R (Itl K a) H1
theorem bM {l:Expr} {tl:TE} (hl:PE X l tl):PI X tg l (vi X.K tl):=by
  intro pins s σ H R I h;refine thn (hl pins s σ H _ I h) fun v s1 ⟨x,H1,I1,r1,q1⟩=>?_;obtain ⟨a,e,⟨xs,hq⟩,q⟩:=q1;subst e;cases r1;obtain ⟨its,rv,p,hz⟩:=I1.list hq;refine wpAny_pyIter_list p.isList ?_;refine ⟨s1.heap.objs.size,[s1.heap.objs.size],_,_,H1,rfl,I1.kept (t':=s1.toks) fun b o e=>aal _ e,nW a _,⟨_,aaF _ rfl,rfl,rfl⟩,fun b hb=>?_,q⟩;have e:b=s1.heap.objs.size:=by simpa using hb
  subst e;exact I1.fpOk (aab _) (I1.hok.fresh (aab _))
theorem kJ {pins:List (Addr × Obj)} {σ:St} {H:Hp} {s:Shared} {R:It→Hp→Prop} {E:Value→Shared→Prop} {lo hi:Int} {t u v:Tok} {tk:Nat} (I:Inv X pins σ H s) (h1:-(2 ^ 62)≤lo) (h2:lo < 2 ^ 62) (h3:-(2 ^ 62)≤hi) (h4:hi < 2 ^ 62)
    (q:R (Itr lo (hi - lo).toNat) H):wpAny (model X.prog X.w) X.A (pyIter (.ref s.heap.objs.size)) (PIE X pins σ tg R) E { s with heap:=s.heap.push { cls:=.type "range",data:=.fields #[.int lo t,.int hi u,.int 1 v] },toks:=tk }:=by
  refine wpAny_pyIter_range (IsRange.new ..) (small_one h1 h2 h3 h4) ?_;have I1:Inv X pins σ H { s with heap:=s.heap.push { cls:=.type "range",data:=.fields #[.int lo t,.int hi u,.int 1 v] },toks:=tk }:=I.kept fun b o e=>aal _ e;refine ⟨(s.heap.push { cls:=.type "range",data:=.fields #[.int lo t,.int hi u,.int 1 v] }).objs.size,[(s.heap.push { cls:=.type "range",data:=.fields #[.int lo t,.int hi u,.int 1 v] }).objs.size],_,_,H,rfl,
    I1.kept (t':=tk) fun b o e=>aal _ e,lR _ lo (hi - lo).toNat,?_,fun b hb=>?_,q⟩
  · have e1:lo+((0:Nat):Int) * 1=lo:=by simp
    have e2:(((hi - lo).toNat:Nat):Int) - ((0:Nat):Int)=Builtin.Range.rangeSize lo hi 1:=by rw [rangeSize_one];split <;> lia
    show IsRangeIter _ _ (lo+((0:Nat):Int) * 1) ((((hi - lo).toNat:Nat):Int) - ((0:Nat):Int)) 1;rw [e1,e2];exact aaF _ rfl
  · have e:b=(s.heap.push { cls:=.type "range",data:=.fields #[.int lo t,.int hi u,.int 1 v] }).objs.size:=by simpa using hb
    subst e;exact I1.fpOk (aab _) (I1.hok.fresh (aab _))
def vh (ta:TA):TI:=fun σ H R=>ta σ H fun vs H1=>∃ j:Int,vs=[.int j]∧-(2 ^ 62)≤j∧j < 2 ^ 62∧R (Itr 0 j.toNat) H1
def vg (ta:TA):TI:=fun σ H R=>ta σ H fun vs H1=>∃ i j:Int,vs=[.int i,.int j]∧(-(2 ^ 62)≤i∧i < 2 ^ 62∧-(2 ^ 62)≤j∧j < 2 ^ 62)∧R (Itr i (j - i).toNat) H1
theorem eP {a:Expr} {ta:TA} {p pos:Pos} (hg:Gl X "range") (hm:X.mg "range" = none) (ha:PA X [a] ta) (hs:starEach [a] X.env=[(false,eval a X.env)]:=by rfl):PI X tg (.Call (.Name "range" p) [a] [] pos) (vh ta):=by
  intro pins s σ H R I h;refine Call_ (gG I hg hm boot_range (abB (thn (ha pos pins s σ H _ I h) fun us s1 ⟨vs,H1,I1,r1,q1⟩=>?_) hs rfl));obtain ⟨j,e,q1,q2,q⟩:=q1;subst e;cases r1 with
  | cons r rr =>
    cases rr;obtain ⟨t,rfl⟩:=r;exact call_range_1 (kJ I1 (by lia) (by lia) q1 q2 (by simpa using q))
theorem oj {a b:Expr} {ta:TA} {p pos:Pos} (hg:Gl X "range") (hm:X.mg "range" = none) (ha:PA X [a,b] ta) (hs:starEach [a,b] X.env=[(false,eval a X.env),(false,eval b X.env)]:=by rfl) (hs2:starEach [b] X.env=[(false,eval b X.env)]:=by rfl) :
    PI X tg (.Call (.Name "range" p) [a,b] [] pos) (vg ta):=by
  intro pins s σ H R I h;refine Call_ (gG I hg hm boot_range (abB (thn (ha pos pins s σ H _ I h) fun us s1 ⟨vs,H1,I1,r1,q1⟩=>?_) (by rw [hs,hs2]) (by rw [hs2];rfl)));obtain ⟨i,j,e,⟨q1,q2,q3,q4⟩,q⟩:=q1;subst e;cases r1 with
  | cons r rr =>
    cases rr with
    | cons r' rr =>
      cases rr;obtain ⟨t,rfl⟩:=r;obtain ⟨t',rfl⟩:=r';exact call_range_2 (kJ I1 q1 q2 q3 q4 q)
def vO (wi:TI) (g:TG) (tb:TS):TS:=fun D σ H=>wi σ H fun J H1=>∃ W:Nat→Nat→St→Hp→Prop,(∃ m,W 0 m σ H1)∧∀ i m σ H,W i m σ H →
  (J.stop i H∧D.nx σ H)∨(J.go i H∧∃ N:St→Hp→Prop,(∀ σ' H',N σ' H'→∃ m',m' < m∧W (i+1) m' σ' H')∧∀ x H',J.yld i H x H'→g x σ H' fun σ2 H2=>tb { D with nx:=N,ct:=N,bk:=D.nx } σ2 H2)
def bZ (fp:List Addr) (h:Heap):List (Addr × Obj):=fp.filterMap fun b=>(h.get? b).map fun o=>(b,o)
theorem cz {fp:List Addr} {h:Heap} {b:Addr} {o:Obj} (hb:b∈fp) (e:h.get? b=some o):(b,o)∈bZ fp h:=List.mem_filterMap.mpr ⟨b,hb,by rw [e];rfl⟩
theorem gF {fp:List Addr} {h:Heap} {p:Addr × Obj} (hp:p∈bZ fp h):p.1∈fp∧h.get? p.1=some p.2:=by
  obtain ⟨b,hb,e⟩:=List.mem_filterMap.mp hp;cases q:h.get? b with
  | none=>rw [q] at e;cases e
  | some o =>
    rw [q] at e;have e':(b,o)=p:=aaZ e;subst e';exact ⟨hb,q⟩
theorem Inv.pinned {pins:List (Addr × Obj)} {σ:St} {H:Hp} {s:Shared} {fp:List Addr} (I:Inv X pins σ H s) (hf:∀ b∈fp,kl X pins H b) (ho:∀ b∈fp,∃ o,s.heap.get? b=some o∧∀ v,o.data≠.cell v):Inv X (pins++bZ fp s.heap) σ H s :=
  I.pins_of fun p hp=>(aaz.mp hp).elim (fun z=>I.pin p (aae _ z)) fun z=>by
    obtain ⟨hb,e⟩:=gF z;obtain ⟨f0,f1,f2,_⟩:=hf p.1 hb;obtain ⟨o,e',d⟩:=ho p.1 hb;rw [e] at e';cases e';exact ⟨e,f0,f1,f2,d⟩
theorem Inv.unpinned {pins pl:List (Addr × Obj)} {σ:St} {H:Hp} {s:Shared} (I:Inv X (pins++pl) σ H s):Inv X pins σ H s:=I.pins_of fun p hp=>I.pin p (aae _ (aaD _ hp))
theorem fF {iter:Expr} {body:List Stmt} {wi:TI} {g:TG} {tb:TS} {pos:Pos} (hp:PassesOwn (model X.prog X.w) X.A X.env X.xe) (hc:X.calm=true) (hi:PI X tg iter wi) (hg:PG X tg g) (hb:PSs X body tb)
    (hs:∀ x,foldedSetIterable iter X.env x=pure x:=by intro _;rfl):PS X (.For tg iter body [] pos) (vO wi g tb):=by
  intro pins s σ H D I h;refine wpAny_For (thn (hi pins s σ H _ I h) fun v s1 h1=>thn h1 fun itv s2 h2=>?_) hs;obtain ⟨it,fp,tn,J,H2,e,I2,T,st2,f2,W,⟨m0,w0⟩,turn⟩:=h2;subst e;have stat:∀ {H':Hp},(∀ b∈fp,H' b=none)→∀ b∈fp,kl X pins H' b:=fun hn b hb=>⟨hn b hb,(f2 b hb).2⟩
  refine codeAny_forLoop_any (fun n s'=>∃ i σ' H',Inv X pins σ' H' s'∧tn i s'.heap∧(∀ b∈fp,H' b=none)∧W i n σ' H') ?_ m0 ⟨0,σ,H2,I2,st2,fun b hb=>(f2 b hb).1,w0⟩;rintro n s3 ⟨i,σ3,H3,I3,st3,fr3,w3⟩;rcases turn i n σ3 H3 w3 with ⟨stop,qn⟩|⟨go,N,hN,step⟩
  · refine wpAny_passesOwn hp (thn (T.done X rfl rfl rfl hc i pins s3 σ3 H3 X.xe I3 (stat fr3) st3 stop) fun r s4 ⟨hr,I4⟩=>?_);subst hr;exact wpAny_execs_nil ⟨σ3,H3,I4,qn⟩
  · refine wpAny_passesOwn hp (thn (T.item X rfl rfl rfl hc i pins s3 σ3 H3 X.xe I3 (stat fr3) st3 go) fun r s4 ⟨u,hr,h4⟩=>?_);subst hr;refine wpAny_passesOwn hp (thn h4 fun _ s5 ⟨x,H5,I5,r5,y5,st5,fr5⟩=>?_);have I5':=I5.pinned (stat fr5) (T.obj _ _ st5);refine wpAny_passesOwn hp (thn (hg _ s5 σ3 H5 x u _ I5' r5 (step x H5 y5)) fun _ s6 ⟨σ6,H6,I6,q6⟩=>?_);refine wpAny_passesOwn hp (thn (hb _ s6 σ6 H6 _ I6 q6) fun f s7 q7=>?_);have again:∀ {σ7:St} {H7:Hp},Inv X (pins++bZ fp s5.heap) σ7 H7 s7→N σ7 H7→∃ m,m < n∧∃ i σ' H',Inv X pins σ' H' s7∧tn i s7.heap∧(∀ b∈fp,H' b=none)∧W i m σ' H':=fun {σ7 H7} I7 n7=>by
      obtain ⟨m',hm,w7⟩:=hN σ7 H7 n7;refine ⟨m',hm,i+1,σ7,H7,I7.unpinned,T.keep _ _ _ st5 fun b hb o e=>(I7.pin (b,o) (aae _ (aae _ (cz hb e)))).1,fun b hb=>?_,w7⟩;obtain ⟨o,e,d⟩:=T.obj _ _ st5 b hb;exact (I7.pin (b,o) (aae _ (aae _ (cz hb e)))).2.1
    cases f with
    | next=>obtain ⟨σ7,H7,I7,n7⟩:=q7;exact again I7 n7
    | cont=>obtain ⟨σ7,H7,I7,n7⟩:=q7;exact again I7 n7
    | brk=>obtain ⟨σ7,H7,I7,q7⟩:=q7;exact ⟨σ7,H7,I7.unpinned,q7⟩
    | ret v=>obtain ⟨x7,σ7,H7,I7,r7,q7⟩:=q7;exact ⟨x7,σ7,H7,I7.unpinned,r7,q7⟩
end
theorem qT {K:aaa} {a:Addr} {xs:List V} {g:TG} {tb:TS} {D:Ends} {σ:St} {H:Hp} (Pv:Nat→St→Hp→Prop) (h0:Pv 0 σ H) (hl:∀ i σ H,i≤xs.length→Pv i σ H→SqL K H a xs)
    (hs:∀ i x σ H,xs[i]?=some x→Pv i σ H→g x σ H fun σ2 H2=>tb { D with nx:=Pv (i+1),ct:=Pv (i+1),bk:=D.nx } σ2 H2) (hd:∀ σ H,Pv xs.length σ H→D.nx σ H) :
    ∃ W:Nat→Nat→St→Hp→Prop,(∃ m,W 0 m σ H)∧∀ i m σ H,W i m σ H →
      ((Itl K a).stop i H∧D.nx σ H)∨((Itl K a).go i H∧∃ N:St→Hp→Prop,(∀ σ' H',N σ' H'→∃ m',m' < m∧W (i+1) m' σ' H')∧∀ x H',(Itl K a).yld i H x H'→g x σ H' fun σ2 H2=>tb { D with nx:=N,ct:=N,bk:=D.nx } σ2 H2):=by
  refine ⟨fun i m σ H=>m=xs.length - i∧i≤xs.length∧Pv i σ H,⟨xs.length,by simp,aaT _,h0⟩,?_⟩;rintro i m σ H ⟨rfl,hi,p⟩;have q:=hl i σ H hi p;by_cases hlt:i < xs.length
  · refine .inr ⟨⟨xs,xs[i],q,by simp [hlt]⟩,Pv (i+1),fun σ' H' p'=>⟨xs.length - (i+1),by lia,rfl,hlt,p'⟩,fun x H' y=>?_⟩;obtain ⟨e,y⟩:=y;subst e;exact hs i x σ _ (y xs q) p
  · have e:i=xs.length:=by lia
    subst e;exact .inl ⟨⟨xs,q,aab _⟩,hd σ H p⟩
theorem oU {lo:Int} {n:Nat} {g:TG} {tb:TS} {D:Ends} {σ:St} {H:Hp} (Pv:Nat→St→Hp→Prop) (h0:Pv 0 σ H)
    (hs:∀ i σ H,i < n→Pv i σ H→g (.int (lo+i)) σ H fun σ2 H2=>tb { D with nx:=Pv (i+1),ct:=Pv (i+1),bk:=D.nx } σ2 H2) (hd:∀ σ H,Pv n σ H→D.nx σ H) :
    ∃ W:Nat→Nat→St→Hp→Prop,(∃ m,W 0 m σ H)∧∀ i m σ H,W i m σ H →
      ((Itr lo n).stop i H∧D.nx σ H)∨((Itr lo n).go i H∧∃ N:St→Hp→Prop,(∀ σ' H',N σ' H'→∃ m',m' < m∧W (i+1) m' σ' H')∧∀ x H',(Itr lo n).yld i H x H'→g x σ H' fun σ2 H2=>tb { D with nx:=N,ct:=N,bk:=D.nx } σ2 H2):=by
  refine ⟨fun i m σ H=>m=n - i∧i≤n∧Pv i σ H,⟨n,by simp,aaT _,h0⟩,?_⟩;rintro i m σ H ⟨rfl,hi,p⟩;by_cases hlt:i < n
  · refine .inr ⟨hlt,Pv (i+1),fun σ' H' p'=>⟨n - (i+1),by lia,rfl,hlt,p'⟩,fun x H' y=>?_⟩;obtain ⟨e,y⟩:=y;subst e y;exact hs i σ _ hlt p
  · have e:i=n:=by lia
    subst e;exact .inl ⟨aab _,hd σ H p⟩
open PySem PySem.Spec PyProof.Rows
abbrev R2:=V→V→Hp→VK→Prop
def OpR (X:Cx) (f:Value→Value→Sem Value) (r:R2):Prop :=
  ∀ (pins:List (Addr × Obj)) (s:Shared) (σ:St) (H:Hp) (x y:V) (v u:Value) (Q:VK),Inv X pins σ H s→RelV x v→RelV y u→r x y H Q →
    wpAny (model X.prog X.w) X.A (f v u) (EP X pins σ Q) X.xe s
def UnR (X:Cx) (f:Value→Sem Value) (r:V→Hp→VK→Prop):Prop :=
  ∀ (pins:List (Addr × Obj)) (s:Shared) (σ:St) (H:Hp) (x:V) (v:Value) (Q:VK),Inv X pins σ H s→RelV x v→r x H Q →
    wpAny (model X.prog X.w) X.A (f v) (EP X pins σ Q) X.xe s
def cf (X:Cx) (f:Value) (r:List V→Hp→VK→Prop):Prop :=
  ∀ (pins:List (Addr × Obj)) (s:Shared) (σ:St) (H:Hp) (xs:List V) (us:List Value) (Q:VK),Inv X pins σ H s→Vals xs us→r xs H Q →
    wpAny (model X.prog X.w) X.A (call f us) (EP X pins σ Q) X.xe s
def v9 (X:Cx) (r:V→Hp→(Bool→Hp→Prop)→Prop):Prop :=
  ∀ (pins:List (Addr × Obj)) (s:Shared) (σ:St) (H:Hp) (x:V) (v:Value) (Q:Bool→Hp→Prop),Inv X pins σ H s→RelV x v→r x H Q →
    wpAny (model X.prog X.w) X.A (truthy v) (TP X pins σ Q) X.xe s
def tOp (r:R2) (ta tb:TE):TE:=fun σ H Q=>ta σ H fun x H1=>tb σ H1 fun y H2=>r x y H2 Q
def tUn (r:V→Hp→VK→Prop) (ta:TE):TE:=fun σ H Q=>ta σ H fun x H1=>r x H1 Q
def rI (C:Int→Int→Prop) (g:Int→Int→V):R2:=fun x y H Q=>∃ i j,x=.int i∧y=.int j∧C i j∧Q (g i j) H
def rI0 (g:Int→Int→V):R2:=fun x y H Q=>∃ i j,x=.int i∧y=.int j∧Q (g i j) H
def rU (g:Int→V):V→Hp→VK→Prop:=fun x H Q=>∃ i,x=.int i∧Q (g i) H
section
variable {X:Cx} {a b c:Expr} {ta tb tc:TE} {pos:Pos}
theorem uD (ha:PE X a ta) (hb:PE X b tb) {pins:List (Addr × Obj)} {s:Shared} {σ:St} {H:Hp} {R:V→V→Hp→Prop} (I:Inv X pins σ H s)
    (h:ta σ H fun x H1=>tb σ H1 fun y H2=>R x y H2) {Q:Value→Shared→Prop} {f:Value→Value→Sem Value}
    (hf:∀ v u s2 x y H2,Inv X pins σ H2 s2→RelV x v→RelV y u→R x y H2→wpAny (model X.prog X.w) X.A (f v u) Q X.xe s2) :
    wpAny (model X.prog X.w) X.A (eval a X.env) (fun v s₁=>wpAny (model X.prog X.w) X.A (eval b X.env) (fun u s₂=>wpAny (model X.prog X.w) X.A (f v u) Q X.xe s₂) X.xe s₁) X.xe s:=by
  refine thn (ha pins s σ H _ I h) fun v s1 ⟨x,H1,I1,r1,q1⟩=>?_;refine thn (hb pins s1 σ H1 _ I1 q1) fun u s2 ⟨y,H2,I2,r2,q2⟩=>?_;exact hf v u s2 x y H2 I2 r1 r2 q2
theorem ar {op:Operator} {r:R2} (ho:OpR X (binaryOp op) r) (ha:PE X a ta) (hb:PE X b tb):PE X (.BinOp a op b pos) (tOp r ta tb):=by
  intro pins s σ H Q I h;exact wpAny_BinOp (uD ha hb I h fun v u s2 x y H2 I2 rx ry q=>ho pins s2 σ H2 x y v u Q I2 rx ry q)
theorem qm {op:UnaryOp} {r:V→Hp→VK→Prop} (ho:UnR X (unaryOp op) r) (ha:PE X a ta):PE X (.UnaryOp op a pos) (tUn r ta):=by
  intro pins s σ H Q I h;exact UnaryOp_ (thn (ha pins s σ H _ I h) fun v s1 ⟨x,H1,I1,r1,q1⟩=>ho pins s1 σ H1 x v Q I1 r1 q1)
theorem opI {f:Value→Value→Sem Value} {C:Int→Int→Prop} {g:Int→Int→Int}
    (rule:∀ (i j:Int) (t u:Tok) (s:Shared) (Q:Value→Shared→Prop) (E:Value→Shared→Prop),C i j→Q (.int (g i j) s.toks) { s with toks:=s.toks+1 }→wpAny (model X.prog X.w) X.A (f (.int i t) (.int j u)) Q E s) :
    OpR X f (rI C fun i j=>.int (g i j)):=by
  intro pins s σ H x y v u Q I rx ry h;obtain ⟨i,j,rfl,rfl,hc,q⟩:=h;obtain ⟨t,rfl⟩:=rx;obtain ⟨t',rfl⟩:=ry;exact rule i j t t' s _ _ hc ⟨.int (g i j),H,I.tok _,⟨_,rfl⟩,q⟩
theorem va {f:Value→Value→Sem Value} {g:Int→Int→Int}
    (rule:∀ (i j:Int) (t u:Tok) (s:Shared) (Q:Value→Shared→Prop) (E:Value→Shared→Prop),Q (.int (g i j) s.toks) { s with toks:=s.toks+1 }→wpAny (model X.prog X.w) X.A (f (.int i t) (.int j u)) Q E s) :
    OpR X f (rI0 fun i j=>.int (g i j)):=by
  intro pins s σ H x y v u Q I rx ry h;obtain ⟨i,j,rfl,rfl,q⟩:=h;obtain ⟨t,rfl⟩:=rx;obtain ⟨t',rfl⟩:=ry;exact rule i j t t' s _ _ ⟨.int (g i j),H,I.tok _,⟨_,rfl⟩,q⟩
theorem sd {f:Value→Value→Sem Value} {g:Int→Int→Bool}
    (rule:∀ (i j:Int) (t u:Tok) (s:Shared) (Q:Value→Shared→Prop) (E:Value→Shared→Prop),Q (.bool (g i j)) s→wpAny (model X.prog X.w) X.A (f (.int i t) (.int j u)) Q E s) :
    OpR X f (rI0 fun i j=>.bl (g i j)):=by
  intro pins s σ H x y v u Q I rx ry h;obtain ⟨i,j,rfl,rfl,q⟩:=h;obtain ⟨t,rfl⟩:=rx;obtain ⟨t',rfl⟩:=ry;exact rule i j t t' s _ _ ⟨.bl (g i j),H,I,rfl,q⟩
def v_ (i j:Int):Prop:=0≤j∧j≤1000000∧i.natAbs < 2 ^ 64
def CMul (i j:Int):Prop:=(-(2 ^ 64) < i∧i < 2 ^ 64)∨(-(2 ^ 64) < j∧j < 2 ^ 64)
theorem CMul.ok {i j:Int} (h:CMul i j):IntMulOk i j:=by
  rcases h with ⟨h1,h2⟩|⟨h1,h2⟩
  · exact .of_left (intBits_le_64 h1 h2)
  · exact .of_right (intBits_le_64 h1 h2)
theorem bI:OpR X (binaryOp .Add) (rI0 fun i j=>.int (i+j)):=va fun _ _ _ _ _ _ _ q=>add_int q
theorem cw:OpR X (binaryOp .Sub) (rI0 fun i j=>.int (i - j)):=va fun _ _ _ _ _ _ _ q=>sub_int q
theorem gC:OpR X (binaryOp .Mult) (rI CMul fun i j=>.int (i * j)):=opI fun _ _ _ _ _ _ _ hc q=>mul_int q hc.ok
theorem gE:OpR X (binaryOp .Mod) (rI (fun _ j=>0 < j) fun i j=>.int (i % j)):=opI fun i j _ _ _ _ _ hc q=>by
  have h1:(0:Int) < j:=hc;exact mod_int' (by lia) (by rw [Int.fmod_eq_emod_of_nonneg i (by lia)];exact q)
theorem md:OpR X (binaryOp .Pow) (rI v_ fun i j=>.int (i ^ j.toNat)):=opI fun _ _ _ _ _ _ _ hc q=>pow_int_small hc.1 hc.2.1 hc.2.2 q
theorem unI {f:Value→Sem Value} {g:Int→Int}
    (rule:∀ (i:Int) (t:Tok) (s:Shared) (Q:Value→Shared→Prop) (E:Value→Shared→Prop),Q (.int (g i) s.toks) { s with toks:=s.toks+1 }→wpAny (model X.prog X.w) X.A (f (.int i t)) Q E s) :
    UnR X f (rU fun i=>.int (g i)):=by
  intro pins s σ H x v Q I rx h;obtain ⟨i,rfl,q⟩:=h;obtain ⟨t,rfl⟩:=rx;exact rule i t s _ _ ⟨.int (g i),H,I.tok _,⟨_,rfl⟩,q⟩
theorem lP:UnR X (unaryOp .USub) (rU fun i=>.int (-i)):=unI fun _ _ _ _ _ q=>neg_int q
end
def uV:V→V→Bool
  | .non,.non=>true|.non,.int _=>true|.int _,.non=>true|.non,.bl _=>true|.bl _,.non=>true|.non,.str _=>true|.str _,.non=>true
  | .int _,.int _=>true|.bl _,.bl _=>true|.str _,.str _=>true|.byt _,.byt _=>true
  | .int _,.str _=>true|.str _,.int _=>true|.bl _,.str _=>true|.str _,.bl _=>true
  | _,_=>false
def rEq:R2:=fun x y H Q=>uV x y=true∧Q (.bl (decide (x=y))) H
def rNe:R2:=fun x y H Q=>uV x y=true∧Q (.bl (!decide (x=y))) H
theorem nQ {i j:Int}:decide (V.int i=V.int j)=(i == j):=by
  rw [abM];simp
theorem qZ {i j:Bool}:decide (V.bl i=V.bl j)=(i == j):=by
  rw [abM];simp
theorem nP {i j:Str}:decide (V.str i=V.str j)=(i == j):=by
  rw [abM];simp
theorem nR {i j:Array UInt8}:decide (V.byt i=V.byt j)=(i.toList == j.toList):=by
  rw [abM];cases i;cases j;simp
section
variable {X:Cx} {a b c:Expr} {ta tb tc:TE} {pos:Pos}
theorem aQ {pins:List (Addr × Obj)} {σ:St} {H:Hp} {s:Shared} {Q:VK} {k k':Bool} (I:Inv X pins σ H s) (q:Q (.bl k) H) (e:k=k'):EP X pins σ Q (.bool k') s:=by
  subst e;exact ⟨.bl k,H,I,rfl,q⟩
theorem fg:OpR X (compareOp .Eq) rEq:=by
  intro pins s σ H x y v u Q I rx ry h;obtain ⟨hs,q⟩:=h;cases x with
  | non =>
    cases rx;cases y with
    | non=>cases ry;exact PySem.EqNone.eq_none_none (aQ I q (by simp))
    | bl j=>cases ry;exact PySem.EqNone.eq_none_bool (aQ I q (by simp))
    | int j=>obtain ⟨t',rfl⟩:=ry;exact PySem.EqNone.eq_none_int (aQ I q (by simp))
    | str j=>obtain ⟨t',rfl⟩:=ry;exact PySem.EqNone.eq_none_str (aQ I q (by simp))
    | _=>exact absurd (show false=true from hs) aan
  | bl i =>
    cases rx;cases y with
    | non=>cases ry;exact PySem.EqNone.eq_bool_none (aQ I q (by simp))
    | bl j=>cases ry;exact eq_bool (aQ I q qZ)
    | str j=>obtain ⟨t',rfl⟩:=ry;exact PySem.EqMixed.eq_bool_str (aQ I q (by simp))
    | _=>exact absurd (show false=true from hs) aan
  | int i =>
    obtain ⟨t,rfl⟩:=rx;cases y with
    | non=>cases ry;exact PySem.EqNone.eq_int_none (aQ I q (by simp))
    | int j=>obtain ⟨t',rfl⟩:=ry;exact eq_int (aQ I q nQ)
    | str j=>obtain ⟨t',rfl⟩:=ry;exact PySem.EqMixed.eq_int_str (aQ I q (by simp))
    | _=>exact absurd (show false=true from hs) aan
  | str i =>
    obtain ⟨t,rfl⟩:=rx;cases y with
    | non=>cases ry;exact PySem.EqNone.eq_str_none (aQ I q (by simp))
    | bl j=>cases ry;exact PySem.EqMixed.eq_str_bool (aQ I q (by simp))
    | int j=>obtain ⟨t',rfl⟩:=ry;exact PySem.EqMixed.eq_str_int (aQ I q (by simp))
    | str j=>obtain ⟨t',rfl⟩:=ry;exact eq_str (aQ I q nP)
    | _=>exact absurd (show false=true from hs) aan
  | byt i =>
    obtain ⟨t,rfl⟩:=rx;cases y with
    | byt j=>obtain ⟨t',rfl⟩:=ry;exact PySem.W.eq_bytes (aQ I q nR)
    | _=>exact absurd (show false=true from hs) aan
  | _=>cases y <;> exact absurd (show false=true from hs) aan
theorem dW:OpR X (compareOp .NotEq) rNe:=by
  intro pins s σ H x y v u Q I rx ry h;obtain ⟨hs,q⟩:=h;cases x with
  | non =>
    cases rx;cases y with
    | non=>cases ry;exact PySem.EqNone.ne_none_none (aQ I q (by simp))
    | bl j=>cases ry;exact PySem.EqNone.ne_none_bool (aQ I q (by simp))
    | int j=>obtain ⟨t',rfl⟩:=ry;exact PySem.EqNone.ne_none_int (aQ I q (by simp))
    | str j=>obtain ⟨t',rfl⟩:=ry;exact PySem.EqNone.ne_none_str (aQ I q (by simp))
    | _=>exact absurd (show false=true from hs) aan
  | bl i =>
    cases rx;cases y with
    | non=>cases ry;exact PySem.EqNone.ne_bool_none (aQ I q (by simp))
    | bl j=>cases ry;exact ne_bool (aQ I q (congrArg not qZ))
    | str j=>obtain ⟨t',rfl⟩:=ry;exact PySem.EqMixed.ne_bool_str (aQ I q (by simp))
    | _=>exact absurd (show false=true from hs) aan
  | int i =>
    obtain ⟨t,rfl⟩:=rx;cases y with
    | non=>cases ry;exact PySem.EqNone.ne_int_none (aQ I q (by simp))
    | int j=>obtain ⟨t',rfl⟩:=ry;exact ne_int (aQ I q (congrArg not nQ))
    | str j=>obtain ⟨t',rfl⟩:=ry;exact PySem.EqMixed.ne_int_str (aQ I q (by simp))
    | _=>exact absurd (show false=true from hs) aan
  | str i =>
    obtain ⟨t,rfl⟩:=rx;cases y with
    | non=>cases ry;exact PySem.EqNone.ne_str_none (aQ I q (by simp))
    | bl j=>cases ry;exact PySem.EqMixed.ne_str_bool (aQ I q (by simp))
    | int j=>obtain ⟨t',rfl⟩:=ry;exact PySem.EqMixed.ne_str_int (aQ I q (by simp))
    | str j=>obtain ⟨t',rfl⟩:=ry;exact ne_str (aQ I q (congrArg not nP))
    | _=>exact absurd (show false=true from hs) aan
  | byt i =>
    obtain ⟨t,rfl⟩:=rx;cases y with
    | byt j=>obtain ⟨t',rfl⟩:=ry;exact PySem.W.ne_bytes (aQ I q (congrArg not nR))
    | _=>exact absurd (show false=true from hs) aan
  | _=>cases y <;> exact absurd (show false=true from hs) aan
theorem u9:OpR X (compareOp .Lt) (rI0 fun i j=>.bl (decide (i < j))):=sd fun _ _ _ _ _ _ _ q=>lt_int q
theorem kU:OpR X (compareOp .LtE) (rI0 fun i j=>.bl (decide (i≤j))):=sd fun _ _ _ _ _ _ _ q=>le_int q
theorem sV:OpR X (compareOp .Gt) (rI0 fun i j=>.bl (decide (j < i))):=sd fun _ _ _ _ _ _ _ q=>gt_int q
theorem u_:OpR X (compareOp .GtE) (rI0 fun i j=>.bl (decide (j≤i))):=sd fun _ _ _ _ _ _ _ q=>ge_int q
theorem on:OpR X (compareOp .In) (fun x y H Q=>∃ i j,x=.str i∧y=.str j∧Q (.bl (!(acf j i 0 j.length 1).isEmpty)) H):=by
  intro pins s σ H x y v u Q I rx ry h;obtain ⟨i,j,rfl,rfl,q⟩:=h;obtain ⟨t,rfl⟩:=rx;obtain ⟨t',rfl⟩:=ry;exact in_str (aQ I q rfl)
theorem iy:OpR X (compareOp .Is) (fun x y H Q=>y=.non∧Q (.bl (decide (x=.non))) H):=by
  intro pins s σ H x y v u Q I rx ry h;obtain ⟨rfl,q⟩:=h;cases ry;refine is_none_gen (aQ I q ?_);cases x <;> first
    | (cases rx;rfl)
    | (obtain ⟨t,rfl⟩:=rx;rfl)
theorem jP:OpR X (compareOp .NotIn) (fun x y H Q=>∃ i j,x=.str i∧y=.str j∧Q (.bl (!(!(acf j i 0 j.length 1).isEmpty))) H):=by
  intro pins s σ H x y v u Q I rx ry h;obtain ⟨i,j,rfl,rfl,q⟩:=h;obtain ⟨t,rfl⟩:=rx;obtain ⟨t',rfl⟩:=ry;exact notIn_str (aQ I q rfl)
theorem aJ (b:Expr) {op:CmpOp} (h:op≠.In:=by decide) (h2:op≠.NotIn:=by decide):behindInMarks op b=false:=by
  have e1:(op == CmpOp.In)=false:=by cases op <;> first|rfl|exact absurd rfl h
  have e2:(op == CmpOp.NotIn)=false:=by cases op <;> first|rfl|exact absurd rfl h2
  cases b <;> simp [behindInMarks,e1,e2]
theorem cE {op:CmpOp} {r:R2} (ho:OpR X (compareOp op) r) (ha:PE X a ta) (hb:PE X b tb) (hm:behindInMarks op b=false):PE X (.Compare a [op] [b] pos) (tOp r ta tb):=by
  intro pins s σ H Q I h;exact wpAny_Compare1 (uD ha hb I h fun v u s2 x y H2 I2 rx ry q=>ho pins s2 σ H2 x y v u Q I2 rx ry q) hm
def sR (t:TE):TT:=fun σ H Q=>t σ H fun x H'=>∃ k,x=.bl k∧Q k H'
theorem aD {op:CmpOp} {r:R2} (ho:OpR X (compareOp op) r) (ha:PE X a ta) (hb:PE X b tb) (hm:behindInMarks op b=false):PT X (.Compare a [op] [b] pos) (sR (tOp r ta tb)):=by
  intro pins s σ H Q I h;refine wpAny_isTrue_Compare1 (thn (ha pins s σ H _ I h) fun v s1 ⟨x,H1,I1,r1,q1⟩=>thn (hb pins s1 σ H1 _ I1 q1) fun u s2 ⟨y,H2,I2,r2,q2⟩ =>
    thn (ho pins s2 σ H2 x y v u _ I2 r1 r2 q2) fun c s3 ⟨z,H3,I3,r3,k,e,q3⟩=>?_) hm
  subst e;cases r3;exact wpAny_truthy_bool ⟨H3,I3,q3⟩
def tq (r r':R2) (ta tb tc:TE):TE:=fun σ H Q=>ta σ H fun x H1=>tb σ H1 fun y H2=>r x y H2 fun z H3=>∃ k,z=.bl k ∧
  (if k=true then tc σ H3 fun w' H4=>r' y w' H4 Q else Q (.bl false) H3)
theorem pY {op op':CmpOp} {r r':R2} (ho:OpR X (compareOp op) r) (ho':OpR X (compareOp op') r') (ha:PE X a ta) (hb:PE X b tb) (hc:PE X c tc)
    (hm:lastMarks [op,op'] [b,c]=false:=by with_unfolding_all rfl):PT X (.Compare a [op,op'] [b,c] pos) (sR (tq r r' ta tb tc)):=by
  intro pins s σ H Q I h;refine isTrue_chain (thn (ha pins s σ H _ I h) fun v s1 ⟨x,H1,I1,r1,q1⟩=>test_link (thn (hb pins s1 σ H1 _ I1 q1) fun u s2 ⟨y,H2,I2,r2,q2⟩ =>
    thn (ho pins s2 σ H2 x y v u _ I2 r1 r2 q2) fun d s3 ⟨z,H3,I3,r3,k,e,q3⟩=>?_)) hm
  subst e;cases r3;refine wpAny_truthy_bool ?_;cases k with
  | false =>
    obtain ⟨k',e',q'⟩:=q3;cases e';exact ite_ff ⟨H3,I3,q'⟩
  | true =>
    refine ite_tt (test_last (thn (hc pins s3 σ H3 _ I3 q3) fun w' s4 ⟨z',H4,I4,r4,q4⟩=>thn (ho' pins s4 σ H4 y z' u w' _ I4 r2 r4 q4) fun d' s5 ⟨z2,H5,I5,r5,k2,e2,q5⟩=>?_));subst e2;cases r5;exact wpAny_truthy_bool ⟨H5,I5,q5⟩
def uE (K:aaa) (x:V) (H:Hp) (k:Bool):Prop :=
  match x with
  | .non=>k=false
  | .bl b=>k=b
  | .int i=>k=(i != 0)
  | .str y=>y.length≤sizeLine∧k=((y.length:Int) != 0)
  | .byt y=>y.size≤sizeLine∧k=((y.size:Int) != 0)
  | .ref p=>(∃ xs,SqL K H p xs∧k=!xs.isEmpty)∨(∃ xs,SqT K H p xs∧k=!xs.isEmpty)∨∃ kvs,H p=some (.dK kvs)∧k=!kvs.isEmpty
  | _=>False
theorem mz {κ:Type} {kvs:List (κ × V)} {vs:List (κ × Value)} (r:KV kvs vs):(!vs.isEmpty)=!kvs.isEmpty:=by
  cases r <;> rfl
theorem iM {xs:List V} {its:List Value} (r:Vals xs its):(!its.toArray.isEmpty)=!xs.isEmpty:=by
  cases r <;> simp
theorem fI:(sizeLine:Nat) < 2 ^ 63:=by rw [sizeLine_eq];decide
theorem pE:v9 X (fun x H Q=>∃ k,uE X.K x H k∧Q k H):=by
  intro pins s σ H x v Q I rx h;obtain ⟨k,e,q⟩:=h;have hl:=fI;have hs:sizeLine=16777216:=sizeLine_eq;cases x with
  | non =>
    cases rx;have e':k=false:=e;subst e';exact truthy_none ⟨H,I,q⟩
  | bl b =>
    cases rx;have e':k=b:=e;subst e';exact wpAny_truthy_bool ⟨H,I,q⟩
  | int i =>
    obtain ⟨t,rfl⟩:=rx;have e':k=(i != 0):=e;subst e';exact PySem.P.truthy_int ⟨H,I,q⟩
  | str y =>
    obtain ⟨t,rfl⟩:=rx;obtain ⟨hy,e'⟩:y.length≤sizeLine∧k=((y.length:Int) != 0):=e;subst e';exact PySem.P.truthy_str (by lia) ⟨H,I.tok _,q⟩
  | byt y =>
    obtain ⟨t,rfl⟩:=rx;obtain ⟨hy,e'⟩:y.size≤sizeLine∧k=((y.size:Int) != 0):=e;subst e';exact PySem.W.truthy_bytes (by lia) ⟨H,I.tok _,q⟩
  | ref p =>
    cases rx;have e':(∃ xs,SqL X.K H p xs∧k=!xs.isEmpty)∨(∃ xs,SqT X.K H p xs∧k=!xs.isEmpty)∨∃ kvs,H p=some (.dK kvs)∧k=!kvs.isEmpty:=e;rcases e' with ⟨xs,hx,e'⟩|⟨xs,hx,e'⟩|⟨kvs,hx,e'⟩
    · subst e';obtain ⟨its,r,pl,hz⟩:=I.list hx;have hlen:=r.length;exact wpAny_truthy_list pl.isList (by simp only [aai];lia) ⟨H,I.tok _,by rw [iM r];exact q⟩
    · subst e';obtain ⟨its,r,pl,hz⟩:=I.tuple hx;have hlen:=r.length;exact truthy_tuple pl (by simp only [aai];lia) ⟨H,I.tok _,by rw [iM r];exact q⟩
    · subst e';obtain ⟨hz,hS,vs,r,m⟩:kvs.length≤sizeLine∧(p == sysModules)=false∧∃ vs,KV kvs vs∧s.heap.DictOf (bh X.prog X.w) p vs:=I.hok p _ hx;have hlen:kvs.length=vs.length:=abJ r;exact wpAny_truthy_dict hS m (by lia) ⟨H,I.tok _,by rw [mz r];exact q⟩
  | _=>exact (show False from e).elim
theorem kM (ha:PE X a ta) (he:∀ whole,isTrue a X.env whole=(do let v ← whole;standAt a.pos;holding [v] (truthy v))) :
    PT X a (fun σ H Q=>ta σ H fun x H'=>∃ k,uE X.K x H' k∧Q k H'):=by
  intro pins s σ H Q I h;exact isTrue_plain (thn (ha pins s σ H _ I h) fun v s1 ⟨x,H1,I1,r1,q1⟩=>pE pins s1 σ H1 x v Q I1 r1 q1) (he _)
theorem iA:OpR X (binaryOp .Add) (fun x y H Q=>∃ i j,x=.str i∧y=.str j∧i.length+j.length≤sizeLine∧Q (.str (i++j)) H):=by
  intro pins s σ H x y v u Q I rx ry h;obtain ⟨i,j,rfl,rfl,hz,q⟩:=h;obtain ⟨t,rfl⟩:=rx;obtain ⟨t',rfl⟩:=ry;exact add_str (fun t' tk=>⟨.str (i++j),H,I.tok _,⟨_,rfl⟩,q⟩) hz
theorem cZ {x:V} {us:List Value} (r:Vals [x] us):∃ u,us=[u]∧RelV x u:=by
  cases r with
  | cons r1 r2=>cases r2;exact ⟨_,rfl,r1⟩
theorem hZ {x y:V} {us:List Value} (r:Vals [x,y] us):∃ u w',us=[u,w']∧RelV x u∧RelV y w':=by
  cases r with
  | cons r1 r2 =>
    cases r2 with
    | cons r3 r4=>cases r4;exact ⟨_,_,rfl,r1,r3⟩
theorem jw (hc:X.calm=true):cf X (.builtin "max") (fun xs H Q=>∃ i j,xs=[.int i,.int j]∧Q (.int (if j > i then j else i)) H):=by
  intro pins s σ H xs us Q I r h;obtain ⟨i,j,rfl,q⟩:=h;obtain ⟨u,w',rfl,⟨t,rfl⟩,⟨t',rfl⟩⟩:=hZ r;refine max_two_ints (I.ok.hd hc) fun h' tk k=>⟨_,H,I.kept k,?_,q⟩
  by_cases hj:j > i
  · rw [if_pos hj,if_pos hj];exact ⟨_,rfl⟩
  · rw [if_neg hj,if_neg hj];exact ⟨_,rfl⟩
theorem o5 (hc:X.calm=true):cf X (.builtin "min") (fun xs H Q=>∃ i j,xs=[.int i,.int j]∧Q (.int (if j < i then j else i)) H):=by
  intro pins s σ H xs us Q I r h;obtain ⟨i,j,rfl,q⟩:=h;obtain ⟨u,w',rfl,⟨t,rfl⟩,⟨t',rfl⟩⟩:=hZ r;refine min_two_ints (I.ok.hd hc) fun h' tk k=>⟨_,H,I.kept k,?_,q⟩
  by_cases hj:j < i
  · rw [if_pos hj,if_pos hj];exact ⟨_,rfl⟩
  · rw [if_neg hj,if_neg hj];exact ⟨_,rfl⟩
theorem o6:cf X (.type "int") (fun xs H Q=>(∃ i,xs=[.int i]∧Q (.int i) H)∨∃ k,xs=[.bl k]∧Q (.int (if k then 1 else 0)) H):=by
  intro pins s σ H xs us Q I r h;rcases h with ⟨i,rfl,q⟩|⟨k,rfl,q⟩
  · obtain ⟨u,rfl,t,rfl⟩:=cZ r;exact call_int_int ⟨.int i,H,I,⟨_,rfl⟩,q⟩
  · obtain ⟨u,rfl,r1⟩:=cZ r;cases r1;exact call_int_bool ⟨.int (if k then 1 else 0),H,I.tok _,⟨_,rfl⟩,q⟩
end
open PySem PySem.Spec PyProof.Rows
structure ObjM (h:Heap) (x dx C:Addr) (mA:Str→Option Value):Prop where
  obj:h.get? x=some (PySem.W.instObj C dx)
  ns:h.Ns1 dx mA
  ne:dx≠x
theorem oJ {h:Heap} {dx:Addr} {mA:Str→Option Value} (n:h.Ns1 dx mA):∃ od,h.get? dx=some od∧∀ name,PySem.W.lookIn name od=some (mA name):=by
  obtain ⟨o,es,ep,ho,hd,hk,_,hm⟩:=n;refine ⟨o,ho,fun name=>?_⟩;have e:=hm name;unfold nsFind findBy at e;rw [← Array.find?_toList] at e;unfold PySem.W.lookIn;rw [hd];dsimp only;split
  · rename_i y q;rw [q] at e;exact congrArg some e
  · rename_i q;rw [q] at e;have a:es.toList.any (·.refKey)=false:=by
      rw [List.any_eq_false];intro y hy;obtain ⟨z,t,hkey⟩:=hk y (Array.mem_toList_iff.mp hy);simp [DictEntry.refKey,hkey]
    have a':¬ es.toList.any (·.refKey)=true:=by rw [a];exact aan
    rw [if_neg a'];exact congrArg some e
theorem ObjM.look {h:Heap} {x dx C:Addr} {mA:Str→Option Value} (I:ObjM h x dx C mA):∃ od,PySem.W.InstAt h x (PySem.W.instObj C dx) C (some od)∧∀ name,PySem.W.lookIn name od=some (mA name) :=
  let ⟨od,ho,hl⟩:=oJ I.ns
  ⟨od,⟨I.obj,rfl,rfl,ho⟩,hl⟩
section
variable {prog:Program} {w:World} {A:Around} {E:Value→Shared→Prop} {s:Shared} {K:aaa} {x dx C f:Addr} {mA:Str→Option Value} {name:Str} {v:Value}
end
section
variable {P:Program} {w:World} {H H':Hp} {h h':Heap} {a C dx:Addr} {fs fs':List (Str × V)}
theorem sJ (hok:HOk P w H h) (e:H a=some (.ins C dx fs)):∃ mA,ObjM h a dx C mA∧(∀ f,uG (fs.lookup f) (mA f))∧PySem.Within mA (fs.map (·.1))∧fs.length≤1000∧H dx=some (.own a):=by
  obtain ⟨d,z,ne,ob,mA,n,r,q⟩:=(show ObjOk P w H h a (.ins C dx fs) from hok a _ e)
  exact ⟨mA,⟨ob,n,ne⟩,r,q,z,d⟩
end
structure Cls (K:aaa) (C:Addr):Prop where
  pg:PySem.W.plainGet K C Str.empty=true
  hd:PySem.W.hasDictIn K C=true
  po:PySem.W.plainOver K C=true
  sa:abd K (.ref C) "__setattr__" = some (some (.builtin "object.__setattr__"))
theorem Cls.get {K:aaa} {C:Addr} (c:Cls K C) (f:Str):PySem.W.plainGet K C f=true:=c.pg
structure Con (K:aaa) (C:Addr) (f:Str) (v:V) (u:Value):Prop where
  at_:abd K (.ref C) f=some (some u)
  rel:RelV v u
  get:PySem.W.specialIn K u "__get__" = some none
  cp:PySem.W.copiedNames.contains f=false
structure Meth (K:aaa) (C:Addr) (m:Str) (f:Addr):Prop where
  at_:abd K (.ref C) m=some (some (.ref f))
  fn:PySem.W.isFn K (.ref f)=true
  kp:abe K (.ref f)=true
section
variable {X:Cx} {pins:List (Addr × Obj)} {σ:St} {H:Hp} {s:Shared} {a C dx:Addr} {fs:List (Str × V)} {f:Str} {v:V} {A:Around} {E:Value→Shared→Prop}
end
section
variable {X:Cx} {o e value:Expr} {f:Str} {pos pos' tpos:Pos} {ta tv:TE}
end
section
variable {X:Cx} {pins:List (Addr × Obj)} {σ:St} {H:Hp} {s:Shared} {A:Around} {E:Value→Shared→Prop} {Q:Value→Shared→Prop} {c:Value} {b:Bool}
inductive TyOf (K:aaa) (H:Hp):V→Value→Prop where
  | non:TyOf K H .non (.type "NoneType")
  | bl (x:Bool):TyOf K H (.bl x) (.type "bool")
  | int (i:Int):TyOf K H (.int i) (.type "int")
  | str (x:Str):TyOf K H (.str x) (.type "str")
  | flt (x:UInt64):TyOf K H (.flt x) (.type "float")
  | lst {a:Addr} {xs:List V} (e:H a=some (.lst xs)):TyOf K H (.ref a) (.type "list")
  | frz {a:Addr} {o:Obj} {xs:List V} (e:H a=some (.frz o (.lst xs))):TyOf K H (.ref a) (.type "list")
  | tup {a:Addr} {xs:List V} (e:H a=some (.tup xs)):TyOf K H (.ref a) (.type "tuple")
  | dK {a:Addr} {kvs:List (Key × V)} (e:H a=some (.dK kvs)):TyOf K H (.ref a) (.type "dict")
  | dT {a:Addr} {kvs:List (List Key × V)} (e:H a=some (.dT kvs)):TyOf K H (.ref a) (.type "dict")
  | ins {a C dx:Addr} {fs:List (Str × V)} (e:H a=some (.ins C dx fs)) (cl:Cls K C) (ha:abd K (.ref C) "__class__" = some (some (.builtin "object.__class__")))
      (hn:PySem.W.specialIn K (.builtin "object.__class__") "__get__" = some (some (.builtin "getset_descriptor.__get__"))) (htk:PySem.W.takesIn K (.builtin "object.__class__")=some true)
      (hm:PySem.W.mroIn K C (.type "object")=some true):TyOf K H (.ref a) (.ref C)
theorem oQ {x:V} {u t:Value} (I:Inv X pins σ H s) (rx:RelV x u) (ty:TyOf X.K H x t) (e:aaC X.K t c=some b) (h:∀ tk,Q (.bool b) { s with toks:=tk }) :
    wpAny (model X.prog X.w) A (call (.builtin "isinstance") [u,c]) Q E s:=by
  cases ty with
  | non=>cases (show u=Value.none from rx);exact aa0 PySem.W.kitx_none I.kIn True.intro e (fun z=>nomatch z) h
  | bl y=>cases (show u=Value.bool y from rx);exact aa0 PySem.W.kitx_bool I.kIn True.intro e (fun z=>nomatch z) h
  | int i=>obtain ⟨t,q⟩:=(show ∃ t,u=Value.int i t from rx);cases q;exact aa0 PySem.W.kitx_int I.kIn True.intro e (fun z=>nomatch z) h
  | str y=>obtain ⟨t,q⟩:=(show ∃ t,u=Value.str y t from rx);cases q;exact aa0 PySem.W.kitx_str I.kIn True.intro e (fun z=>nomatch z) h
  | flt y=>obtain ⟨t,q⟩:=(show ∃ t,u=Value.float y t from rx);cases q;exact aa0 PySem.W.kitx_float I.kIn True.intro e (fun z=>nomatch z) h
  | @lst a xs ea =>
    cases (show u=Value.ref a from rx);obtain ⟨_,_,n,_,h1⟩:=(show ObjOk X.prog X.w H s.heap a (.lst xs) from I.hok a _ ea)
    exact aa0 PySem.W.kitx_list I.kIn ⟨_,h1,rfl⟩ e (fun z=>nomatch z) h
  | @frz a ob xs ea =>
    cases (show u=Value.ref a from rx);obtain ⟨_,_,_,n,_,h1⟩:=(show ObjOk X.prog X.w H s.heap a (.frz ob (.lst xs)) from I.hok a _ ea)
    exact aa0 PySem.W.kitx_list I.kIn ⟨_,h1,rfl⟩ e (fun z=>nomatch z) h
  | @tup a xs ea =>
    cases (show u=Value.ref a from rx);obtain ⟨_,_,_,p⟩:=(show ObjOk X.prog X.w H s.heap a (.tup xs) from I.hok a _ ea)
    obtain ⟨o,h1,h2,_⟩:=p;exact aa0 PySem.W.kitx_tuple I.kIn ⟨o,h1,h2⟩ e (fun z=>nomatch z) h
  | @dK a kvs ea =>
    cases (show u=Value.ref a from rx);obtain ⟨_,_,vs,_,p⟩:=(show ObjOk X.prog X.w H s.heap a (.dK kvs) from I.hok a _ ea)
    obtain ⟨o,es,ep,h1,h2,_⟩:=p;exact aa0 PySem.W.kitx_dict I.kIn ⟨o,h1,h2.1⟩ e (fun z=>nomatch z) h
  | @dT a kvs ea =>
    cases (show u=Value.ref a from rx);obtain ⟨_,_,xs,_,o,es,ep,h1,h2,_⟩:=(show ObjOk X.prog X.w H s.heap a (.dT kvs) from I.hok a _ ea)
    exact aa0 PySem.W.kitx_dict I.kIn ⟨o,h1,h2.1⟩ e (fun z=>nomatch z) h
  | @ins a C dx fs ea cl ha hn htk hm =>
    cases (show u=Value.ref a from rx);obtain ⟨mA,O,_⟩:=sJ I.hok ea;obtain ⟨od,J,_⟩:=O.look;exact aa0 (PySem.W.kitx_own (cl.get _) cl.hd ha hn htk hm) I.kIn J e (fun z=>nomatch z) h
end
open PySem PySem.Spec PyProof.Rows
structure Room (k:Nat) (A:Around):Prop where
  hd:A.handled=none
  dp:A.depth+3 * k+5 < recursionLimit
  un:A.units+16 * k+200 < cLine
  gd:A.guards=some []
theorem Room.mono {j k:Nat} {A:Around} (r:Room k A) (h:j≤k):Room j A:=⟨r.hd,by have:=r.dp;lia,by have:=r.un;lia,r.gd⟩
theorem Room.deeper {k:Nat} {A:Around} (r:Room (k+1) A) (env:Env):Room k (A.deeper env) :=
  ⟨r.hd,by have:=r.dp;show A.depth+1+3 * k+5 < _;lia,by have:=r.un;show A.units+3+16 * k+200 < _;lia,r.gd⟩
theorem Room.depth {k:Nat} {A:Around} (r:Room k A):A.depth < recursionLimit:=by have:=r.dp;lia
theorem Room.units {k:Nat} {A:Around} (r:Room k A):A.units+64 < cLine:=by have:=r.un;lia
def vL:TA:=fun _ H Q=>Q [] H
def mW (ta:TE) (tr:TA):TA:=fun σ H Q=>ta σ H fun x H1=>tr σ H1 fun xs H2=>Q (x :: xs) H2
section
variable {X:Cx} {e:Expr} {es:List Expr} {te:TE} {t:TA} {pos:Pos}
theorem ae:PA X [] vL:=fun _ _ _ _ H Q I h=>Calls.spliced_nil ⟨[],H,I,.nil,h⟩
theorem aa (ha:PE X e te) (hr:PA X es t) (hs:starEach (e :: es) X.env=(false,eval e X.env) :: starEach es X.env:=by rfl):PA X (e :: es) (mW te t):=by
  intro pos pins s σ H Q I h;rw [hs];show wpAny _ _ (spliced ((false,eval e X.env) :: backTo pos (starEach es X.env))) _ _ s;refine abF (thn (ha pins s σ H _ I h) fun u s1 ⟨x,H1,I1,r1,q1⟩=>?_);exact thn (hr pos pins s1 σ H1 _ I1 q1) fun us s2 ⟨xs,H2,I2,r2,q2⟩=>⟨x :: xs,H2,I2,.cons r1 r2,q2⟩
def vF (t:TA):TE:=fun σ H Q=>t σ H fun xs H1=>xs.length≤sizeLine∧∀ p,H1 p=none→Q (.ref p) (upd H1 p (.tup xs))
def vM (t:TA):TE:=fun σ H Q=>t σ H fun xs H1=>xs.length≤sizeLine∧∀ p,H1 p=none→Q (.ref p) (upd H1 p (.lst xs))
theorem aX {x1} (h:PA X es t):PE X (.Tuple es x1 pos) (vF t):=by
  intro pins s σ H Q I hq;refine wpAny_Tuple_spliced (thn (h pos pins s σ H _ I hq) fun us s1 ⟨xs,H1,I1,r,z,q⟩=>⟨by rw [← r.length];exact z,?_⟩);have hf:H1 s1.heap.objs.size=none:=I1.hok.fresh (aab _);refine ⟨.ref s1.heap.objs.size,upd H1 s1.heap.objs.size (.tup xs),I1.laid (t':=s1.toks) (fun b u e=>aal _ e) (aab _) ?_,rfl,q _ hf⟩;exact ⟨z,us,r,⟨_,aaF _ rfl,rfl,_,rfl⟩⟩
theorem aw (h:PA X es t):PE X (.List es pos) (vM t):=by
  intro pins s σ H Q I hq;refine wpAny_List_spliced (thn (h pos pins s σ H _ I hq) fun us s1 ⟨xs,H1,I1,r,z,q⟩=>⟨by rw [← r.length];exact z,?_⟩);have hf:H1 s1.heap.objs.size=none:=I1.hok.fresh (aab _);refine ⟨.ref s1.heap.objs.size,upd H1 s1.heap.objs.size (.lst xs),I1.laid (t':=s1.toks) (fun b u e=>aal _ e) (aab _) ?_,rfl,q _ hf⟩;exact ⟨z,us,0,r,aaF _ rfl⟩
end
abbrev Sp:=List V→Hp→VK→XK→Prop
abbrev CXT:=List Env→Hp→Shared→XK→Value→Shared→Prop
structure Env0 (P:Program) (w:World) (K:aaa) (mg:Str→Option Value) (base:Heap) (A:Around) (outer:List Env) (s:Shared) (H:Hp):Prop where
  frames:A.frames=some outer
  mod:Mod K mg base
  bs:∀ b o,base.get? b=some o→s.heap.get? b=some o∧H b=none
  bsz:base.objs.size≤s.heap.objs.size
  funs:s.heap.FunFrames base outer
  frf:∀ b∈frs outer,H b=none
  hok:HOk P w H s.heap
  bare:AllBare s.gens
def CE (outer:List Env) (P:Program) (w:World) (H:Hp) (s:Shared) (Q:VK) (u:Value) (s':Shared):Prop :=
  ∃ v H',s'.os=s.os∧AllBare s'.gens∧Un (frs outer) [] H H' s.heap s'.heap∧HOk P w H' s'.heap∧RelV v u∧Q v H'
def CR (CX:CXT) (outer:List Env) (P:Program) (w:World) (H:Hp) (s:Shared) (Q:VK) (E:XK) (r:Result) (s':Shared):Prop :=
  match r with
  | .ok (.ret u)=>CE outer P w H s Q u s'
  | .ok _=>False
  | .error e=>CX outer H s E e s'
structure FnOk (P:Program) (w:World) (K:aaa) (mg:Str→Option Value) (base:Heap) (CX:CXT) (k:Nat) (f:Addr) (fd:FuncData) (ps:List Str) (sp:Sp):Prop where
  len:∀ vs H Q E,sp vs H Q E→vs.length=ps.length
  run:∀ (A:Around) (outer:List Env) (s:Shared) (H:Hp) (args:Args) (us:List Value) (vs:List V) (Q:VK) (E:XK),Room k A→Env0 P w K mg base A outer s H→BindsTo s fd args (ps.zip us)→Vals vs us→sp vs H Q E →
    codeAny (model P w) A (.call (.ref f) args) (CR CX outer P w H s Q E) s
theorem FnOk.imp {P:Program} {w:World} {K:aaa} {mg:Str→Option Value} {base:Heap} {CX:CXT} {k:Nat} {f:Addr} {fd:FuncData} {ps:List Str} {sp sp':Sp} (F:FnOk P w K mg base CX k f fd ps sp)
    (h:∀ vs H Q E,sp' vs H Q E→sp vs H Q E):FnOk P w K mg base CX k f fd ps sp' :=
  ⟨fun vs H Q E q=>F.len vs H Q E (h _ _ _ _ q),fun A outer s H args us vs Q E hr he hb hv hs=>F.run A outer s H args us vs Q E hr he hb hv (h _ _ _ _ hs)⟩
section
variable {X:Cx} {pins:List (Addr × Obj)} {σ:St} {H:Hp} {s s':Shared}
theorem Inv.env0 (I:Inv X pins σ H s):Env0 X.prog X.w X.K X.mg X.base X.A X.stack s H :=
  ⟨I.ok.frames,I.ok.mod,I.bs,aaY I.ok.bsz I.sz,I.stack,I.stkFree,I.hok,I.bare⟩
theorem Inv.after {Q:VK} {u:Value} (I:Inv X pins σ H s) (h:CE X.stack X.prog X.w H s Q u s'):EP X pins σ Q u s':=by
  obtain ⟨v,H',os,bare,un,hok,r,q⟩:=h;obtain ⟨hh,g,d,t,os'⟩:=s';obtain rfl:os'=s.os:=os;exact ⟨v,H',I.call (h':=hh) (g':=g) (d':=d) (t':=t) (ch:=[]) un hok bare (fun b z=>absurd z (by simp)),r,q⟩
end
def pG (sp:Sp) (dvs:List V) (E:XK) (t:TA):TE:=fun σ H Q=>t σ H fun vs H1=>sp (vs++dvs) H1 Q E
def Binds (K:aaa) (fd:FuncData) (ps:List Str) (ds:List Value):Prop :=
  ∀ (s:Shared) (us:List Value),K.In s.heap→(us++ds).length=ps.length→BindsTo s fd ⟨us,[]⟩ (ps.zip (us++ds))
theorem Binds.all {K:aaa} {fd:FuncData} {ps:List Str} (h:∀ us:List Value,us.length=ps.length→bindArgs fd ⟨us,[]⟩=pure (ps.zip us)):Binds K fd ps []:=fun s us _ hl=>by
  rw [abz] at hl ⊢;exact .of_eq (h us hl)
def iV (CX:CXT) (X:Cx) (E:XK):Prop:=∀ (pins:List (Addr × Obj)) (σ:St) (H:Hp) (s:Shared) (e:Value) (s':Shared),Inv X pins σ H s→CX X.stack H s E e s'→X.xe e s'
section
variable {X:Cx} {CX:CXT} {k:Nat} {f C:Addr} {fd:FuncData} {ps:List Str} {sp:Sp} {dvs:List V} {ds:List Value} {E:XK} {x m:Str} {p pos apos:Pos} {e o:Expr} {es:List Expr} {ta:TE} {t:TA}
theorem tO {pins:List (Addr × Obj)} {σ:St} {H:Hp} {s:Shared} {Q:VK} {us:List Value} {vs:List V} (F:FnOk X.prog X.w X.K X.mg X.base CX k f fd ps sp) (hr:Room k X.A) (hb:Binds X.K fd ps ds) (hd:Vals dvs ds) (hx:iV CX X E)
    (I:Inv X pins σ H s) (r:Vals vs us) (h:sp (vs++dvs) H Q E):wpAny (model X.prog X.w) X.A (call (.ref f) us) (EP X pins σ Q) X.xe s:=by
  have r2:Vals (vs++dvs) (us++ds):=r.append hd;have hl:(us++ds).length=ps.length:=by rw [← r2.length];exact F.len _ _ _ _ h
  refine wpAny_call (codeAny_mono (F.run X.A X.stack s H ⟨us,[]⟩ (us++ds) (vs++dvs) Q E hr I.env0 (hb s us I.kIn hl) r2 h) fun r s' hq=>?_);cases r with
  | error e=>exact hx pins σ H s e s' I hq
  | ok fl =>
    cases fl with
    | ret u=>exact I.after hq
    | next=>exact abj hq
    | brk=>exact abj hq
    | cont=>exact abj hq
theorem nu (F:FnOk X.prog X.w X.K X.mg X.base CX k f fd ps sp) (hr:Room k X.A) (hg:Gl X x) (hm:X.mg x=some (.ref f)) (hk:abe X.K (.ref f)=true) (hb:Binds X.K fd ps ds) (hd:Vals dvs ds) (hx:iV CX X E)
    (ha:PA X (e :: es) t) (hdb:(x == ("__debug__":Str))=false:=by decide) (he:starEach (e :: es) X.env=(false,eval e X.env) :: starEach es X.env:=by rfl) (hpl:(backTo pos (starEach es X.env)).any (·.1)=false:=by rfl) :
    PE X (.Call (.Name x p) (e :: es) [] pos) (pG sp dvs E t):=by
  intro pins s σ H Q I h;refine wpAny_Call_Name_kw (fV I hg hm ?_ hdb);refine PySem.W.callWith_K (h₀:=X.base) I.ok.mod.kin hk (thn (ha pos pins s σ H _ I h) fun us s1 ⟨vs,H1,I1,r,q⟩=>⟨I1.kIn,?_⟩) he hpl;exact tO F hr hb hd hx I1 r q
structure Mk (K:aaa) (C f:Addr):Prop where
  makes:PySem.W.makesIn K C=true
  init:abd K (.ref C) "__init__" = some (some (.ref f))
  fn:PySem.W.isFn K (.ref f)=true
  kp:abe K (.ref C)=true
end
section
variable {X:Cx} {CX:CXT} {k:Nat} {f C:Addr} {fd:FuncData} {ps ks:List Str} {sp:Sp} {E:XK} {x m:Str} {p pos apos kpos:Pos} {e o:Expr} {es:List Expr} {kws:List Keyword} {te ta:TE} {t tk:TA} {nm:Option Str}
structure KBinds (K:aaa) (fd:FuncData) (ps ks:List Str) (g:List Value→List Value→List Value) (gV:List V→List V→List V):Prop where
  to:∀ (s:Shared) (us ws:List Value),K.In s.heap→(g us ws).length=ps.length→BindsTo s fd ⟨us,ks.zip ws⟩ (ps.zip (g us ws))
  rel:∀ {vs:List V} {us:List Value} {zs:List V} {ws:List Value},Vals vs us→Vals zs ws→Vals (gV vs zs) (g us ws)
variable {g:List Value→List Value→List Value} {gV:List V→List V→List V}
end
structure FnScope (N P:List Str) (sc:Scope):Prop where
  kind:sc.kind=.function
  co:sc.isCoroutine=false
  gen:sc.isGenerator=false
  nd:N.Nodup
  pre:N.take P.length=P
  par:∀ x∈P,sc.names.lookup x=some .local∨sc.names.lookup x=some .cell
  nofree:∀ y∈sc.names,y.2≠.free
theorem jx {kindOf:Str→Option NameKind} {x:Str}:∀ {binds:List (Str × Value)} {m:Str→Option Value},(∀ v,(x,v)∉binds)→bindL kindOf binds m x=m x
  | [],_,_=>rfl
  | (n,v) :: r,m,h=>by
    unfold bindL;rw [jx fun w hw=>h w (aaf _ hw)];split
    · have : x≠n:=by rintro rfl;exact h v aag
      simp [this]
    · rfl
theorem jz {kindOf:Str→Option NameKind} {x:Str}:∀ {binds:List (Str × Value)} {m:Str→Option Value},(∀ v,(x,v)∉binds)→bindC kindOf binds m x=m x
  | [],_,_=>rfl
  | (n,v) :: r,m,h=>by
    unfold bindC;rw [jz fun w hw=>h w (aaf _ hw)];split
    · rfl
    · have : x≠n:=by rintro rfl;exact h v aag
      simp [this]
theorem jy {kindOf:Str→Option NameKind} {x:Str} {v:Value}:∀ {P:List Str} {vs:List Value} {i:Nat} {m:Str→Option Value},P.Nodup→P[i]?=some x→vs[i]?=some v→kindOf x=some .local →
    bindL kindOf (P.zip vs) m x=some v
  | [],_,_,_,_,h,_,_=>by simp at h
  | _ :: _,[],_,_,_,_,h,_=>by simp at h
  | p :: P,w :: vs,0,m,nd,h1,h2,hk=>by
    simp at h1 h2;subst h1;subst h2;show bindL kindOf ((p,w) :: P.zip vs) m p=_;unfold bindL;rw [jx fun v hv=>(acE.mp nd).1 (List.of_mem_zip hv).1,if_pos hk];simp
  | p :: P,w :: vs,i+1,m,nd,h1,h2,hk=>by
    show bindL kindOf ((p,w) :: P.zip vs) m x=_;unfold bindL;exact jy (i:=i) (acE.mp nd).2 (by simpa using h1) (by simpa using h2) hk
theorem jA {kindOf:Str→Option NameKind} {x:Str} {v:Value}:∀ {P:List Str} {vs:List Value} {i:Nat} {m:Str→Option Value},P.Nodup→P[i]?=some x→vs[i]?=some v→kindOf x≠some .local →
    bindC kindOf (P.zip vs) m x=some v
  | [],_,_,_,_,h,_,_=>by simp at h
  | _ :: _,[],_,_,_,_,h,_=>by simp at h
  | p :: P,w :: vs,0,m,nd,h1,h2,hk=>by
    simp at h1 h2;subst h1;subst h2;show bindC kindOf ((p,w) :: P.zip vs) m p=_;unfold bindC;rw [jz fun v hv=>(acE.mp nd).1 (List.of_mem_zip hv).1,if_neg hk];simp
  | p :: P,w :: vs,i+1,m,nd,h1,h2,hk=>by
    show bindC kindOf ((p,w) :: P.zip vs) m x=_;unfold bindC;exact jA (i:=i) (acE.mp nd).2 (by simpa using h1) (by simpa using h2) hk
def fK (N:List Str) (vs:List V):St:=vs.map some++aaB (N.length - vs.length) none
def iS (CX:CXT) (P:Program) (w:World) (K:aaa) (mg:Str→Option Value) (base:Heap) (N:List Str) (qual:Str) (scope:Scope) (f:Addr) (cd:Value) (A:Around) (outer:List Env) (s:Shared) (H:Hp) (E:XK):Cx where
  prog:=P
  w:=w
  K:=K
  mg:=mg
  base:=base
  A:=A.deeper (envOfC qual scope s.heap.objs.size f cd)
  N:=N
  s₀:=s
  H₀:=H
  env:=envOfC qual scope s.heap.objs.size f cd
  outer:=outer
  stack:=envOfC qual scope s.heap.objs.size f cd :: outer
  ex:=[]
  calm:=true
  fn:=fun _=>true
  pn:=[]
  xe:=fun e s'=>wpAny (model P w) (A.deeper (envOfC qual scope s.heap.objs.size f cd)) (leaving (envOfC qual scope s.heap.objs.size f cd) e) (fun _ s''=>CX outer H s E e s'') (fun e' s''=>CX outer H s E e' s'') s'
theorem lJ {sc:Scope} {n:Nat} {x:Str} (h:sc.names.lookup x=some .cell):∃ c,(cellsFrom n sc.names []).lookup x=some c:=by
  have q:=PySem.W.cellsFrom_some sc.names n [] (.inl h);exact acd.mp q
theorem oR {CX:CXT} {P:Program} {w:World} {K:aaa} {mg:Str→Option Value} {base:Heap} {N ps:List Str} {qual:Str} {scope:Scope} {f:Addr} {cd:Value} {A:Around} {outer:List Env} {s s1:Shared} {H:Hp} {E:XK} {us:List Value} {vs:List V}
    (S:FnScope N ps scope) (hd:A.handled=none) (e0:Env0 P w K mg base A outer s H) (hl:vs.length=ps.length) (r:Vals vs us)
    (x:InCallC s s.heap.objs.size (bindL (envOfC qual scope s.heap.objs.size f cd).kindOf (ps.zip us) fun _=>none) (cellsFrom (s.heap.objs.size+1) scope.names []) (bindC (envOfC qual scope s.heap.objs.size f cd).kindOf (ps.zip us) fun _=>none) s1) :
    Inv (iS CX P w K mg base N qual scope f cd A outer s H E) [] (fK N vs) H s1:=by
  have hpl:ps.length≤N.length:=by have:=congrArg List.length S.pre;rw [aax] at this;lia
  obtain ⟨h1,tk,rfl,hk⟩:=x.done;have noA:∀ b:Addr,b∉(iS CX P w K mg base N qual scope f cd A outer s H E).ex:=fun b z=>absurd (show b∈([]:List Addr) from z) (by simp);refine ⟨⟨e0.mod,S.kind,rfl,rfl,aab _,fun y z c h1 h2=>?_,fun y hy=>?_,fun y c _ h=>?_,fun _=>hd,Around.frames_deeper e0.frames,.inr ⟨rfl,rfl⟩,fun b z=>absurd z (noA b),e0.bs,e0.bsz,fun b _ _=>noA b,fun b z=>absurd z (noA b),e0.funs,e0.frf⟩,
    rfl,e0.bare,Un.kept hk,⟨_,x.toInCall.ns,fun i y v h1 h2 h3=>?_⟩,fun y c h=>⟨_,x.cell y c h⟩,e0.hok.fresh (aab _),fun y c h=>?_,fun p hp=>absurd (show p∈([]:List (Addr × Obj)) from hp) (by simp),e0.hok.kept hk,?_⟩
  · exact name_of_addr x.apart (aa8 h1) (aa8 h2)
  · have hy:scope.names.lookup y=some .cell∨scope.names.lookup y=some .free:=hy;rcases hy with hy|hy
    · exact lJ hy
    · exact absurd rfl (S.nofree _ (aa8 hy))
  · exact Nat.le_of_lt (x.above y c (aa8 h))
  · have hi:i < vs.length:=by
      unfold fK at h2;by_cases hi:i < vs.length
      · exact hi
      · rw [ab3 (by simpa using hi)] at h2;rw [List.getElem?_replicate] at h2;split at h2 <;> cases h2
    have ha:vs[i]?=some v:=by
      unfold fK at h2;rw [List.getElem?_append_left (by simpa using hi),aaU] at h2;cases e:vs[i]? with
      | none=>rw [e] at h2;cases h2
      | some a=>rw [e] at h2;cases h2;rfl
    obtain ⟨u,hu,rv⟩:=r.get ha;have hp:ps[i]?=some y:=by
      rw [← S.pre,aca (by lia)];exact h1
    have ndP:ps.Nodup:=by rw [← S.pre];exact S.nd.sublist (List.take_sublist _ _)
    refine ⟨u,rv,?_⟩;rcases S.par y (abg hp) with k|k
    · exact .inl ⟨k,jy ndP hp hu k⟩
    · obtain ⟨c,e⟩:=lJ (n:=s.heap.objs.size+1) k;refine .inr ⟨.inl k,c,e,?_⟩;have q:=x.cell y c e;rw [jA ndP hp hu (by show scope.names.lookup y≠_;rw [k];decide)] at q;exact q
  · exact e0.hok.fresh (Nat.le_of_lt (x.above y c (aa8 h)))
  · unfold fK;show _=N.length;rw [aah,aac,acu];lia
theorem sX {CX:CXT} {P:Program} {w:World} {K:aaa} {mg:Str→Option Value} {base:Heap} {k:Nat} {f:Addr} {name qual:Str} {params:Arguments} {body:List Stmt} {scope:Scope} {dV kV doc pm cdv ct oc:Value} {an od:Option Addr}
    {osl:Array (Option Value)} {N ps:List Str} {sp:Sp} (lk:K.lookup f=some ⟨oc,od,.func (abr name qual params body scope dV kV doc pm an cdv ct),osl⟩) (hcd:abS K cdv qual=true) (S:FnScope N ps scope)
    (len:∀ vs H Q E,sp vs H Q E→vs.length=ps.length)
    (hbody:∀ (A:Around) (outer:List Env) (s:Shared) (H:Hp) (vs:List V) (Q:VK) (E:XK),Room k (A.deeper (envOfC qual scope s.heap.objs.size f cdv))→sp vs H Q E →
      ∃ t,PSs (iS CX P w K mg base N qual scope f cdv A outer s H E) body t∧t { nx:=fun _ H'=>Q .non H',rt:=Q } (fK N vs) H) :
    FnOk P w K mg base CX (k+1) f (abr name qual params body scope dV kV doc pm an cdv ct) ps sp:=by
  refine ⟨len,fun A outer s H args us vs Q E hr e0 hb r hsp=>?_⟩;have hl:=len _ _ _ _ hsp;have KX:K.In s.heap:=e0.mod.kin.keeps fun b o e=>(e0.bs b o e).1;have lim:s.heap.NoLimit:=e0.mod.nolimit.keeps fun b o e=>(e0.bs b o e).1;have hkind:∀ y∈ps.zip us,scope.names.lookup y.1=some .local∨(scope.names.lookup y.1=some .cell∧((cellsFrom (s.heap.objs.size+1) scope.names []).lookup y.1).isSome=true):=fun ⟨n,v⟩ hy=>by
    rcases S.par n (List.of_mem_zip hy).1 with q|q
    · exact .inl q
    · exact .inr ⟨q,PySem.W.cellsFrom_some _ _ _ (.inl q)⟩
  refine codeAny_call_function hr.depth (KX _ _ lk) rfl S.co S.gen rfl (PySem.W.codeRec_of KX hcd) (hb _ _ _ _ ?_);refine wpAny_newFunctionEnv_cells S.kind hkind fun env he s1 x=>?_;subst he;refine ⟨lim.keeps x.toInCall.keep,codeAny_func ?_⟩;obtain ⟨t,ht,hq⟩:=hbody A outer s H vs Q E (hr.deeper _) hsp;have I:Inv (iS CX P w K mg base N qual scope f cdv A outer s H E) [] (fK N vs) H s1:=oR S hr.hd e0 hl r x;refine wpAny_mono (ht [] s1 (fK N vs) H _ I hq) (fun fl s' hs=>?_) fun e s' hs=>hs;have fin:∀ {σ':St} {H':Hp} {v:V} {u:Value},Inv (iS CX P w K mg base N qual scope f cdv A outer s H E) [] σ' H' s'→RelV v u→Q v H'→CE outer P w H s Q u s' :=
    fun {σ' H' v u} J rv q=>⟨v,H',J.os,J.bare,J.base,J.hok,rv,q⟩
  cases fl with
  | ret u =>
    obtain ⟨v,σ',H',J,rv,q⟩:=hs;exact fin J rv q
  | next =>
    obtain ⟨σ',H',J,q⟩:=hs;exact fin (v:=V.non) (u:=Value.none) J rfl q
  | brk =>
    obtain ⟨_,_,_,q⟩:=hs;exact abj q
  | cont =>
    obtain ⟨_,_,_,q⟩:=hs;exact abj q
open PySem PySem.Spec PyProof.Rows
section
variable {X:Cx} {x:Str} {p pos:Pos} {e:Expr} {es:List Expr} {t:TA} {id T:String} {r:List V→Hp→VK→Prop}
def tCB (r:List V→Hp→VK→Prop) (t:TA):TE:=fun σ H Q=>t σ H fun vs H1=>r vs H1 Q
theorem aj (hc:cf X (.builtin id) r) (hg:Gl X x) (hm:X.mg x=none) (hv:bootBuiltins x=some (.builtin id)) (ha:PA X (e :: es) t) (hn:x ≠ "__name__":=by decide) (hdb:(x == ("__debug__":Str))=false:=by decide)
    (he:starEach (e :: es) X.env=(false,eval e X.env) :: starEach es X.env:=by rfl) (hpl:(backTo pos (starEach es X.env)).any (·.1)=false:=by rfl):PE X (.Call (.Name x p) (e :: es) [] pos) (tCB r t):=by
  intro pins s σ H Q I h;refine wpAny_Call_Name_kw (gG I hg hm hv ?_ hn hdb);exact PyProof.Rows.callWith_builtin1 (thn (ha pos pins s σ H _ I h) fun us s1 ⟨vs,H1,I1,r1,q1⟩=>hc pins s1 σ H1 vs us Q I1 r1 q1) he hpl
theorem dy (hc:cf X (.type T) r) (hg:Gl X x) (hm:X.mg x=none) (hv:bootBuiltins x=some (.type T)) (ha:PA X (e :: es) t) (hn:x ≠ "__name__":=by decide) (hdb:(x == ("__debug__":Str))=false:=by decide)
    (he:starEach (e :: es) X.env=(false,eval e X.env) :: starEach es X.env:=by rfl) (hpl:(backTo pos (starEach es X.env)).any (·.1)=false:=by rfl):PE X (.Call (.Name x p) (e :: es) [] pos) (tCB r t):=by
  intro pins s σ H Q I h;refine wpAny_Call_Name_kw (gG I hg hm hv ?_ hn hdb);exact abB (thn (ha pos pins s σ H _ I h) fun us s1 ⟨vs,H1,I1,r1,q1⟩=>hc pins s1 σ H1 vs us Q I1 r1 q1) he hpl
end
end L2
namespace HT
open PySem PyProof.Rows
section
open PySem.SeqAt
open PySem.AutoSeq1 (wpAny_loadPart')
open PySem.MeetsSeq PySem.MeetsSeq2 PySem.MeetsSeq3
end
section
variable {prog:Program} {w:World} {A:Around} {E:Value→Shared→Prop} {s:Shared}
def sIx (n d:Nat):Option Int→Nat
  | none=>d
  | some v=>if v < 0 then (v+(n:Int)).toNat else min v.toNat n
end
end HT
namespace L2
open PySem PySem.Spec PyProof.Rows
abbrev TO:=St→Hp→(Option Int→Hp→Prop)→Prop
def PO (X:Cx) (e:Option Expr) (t:TO):Prop :=
  ∀ (pins:List (Addr × Obj)) (s:Shared) (σ:St) (H:Hp) (Q:Option Int→Hp→Prop),Inv X pins σ H s→t σ H Q →
    wpAny (model X.prog X.w) X.A (evalPart e X.env) (fun u s'=>∃ o H',Inv X pins σ H' s'∧IsPart u o∧Q o H') X.xe s
def rM:TO:=fun _ H Q=>Q none H
def uO (t:TE):TO:=fun σ H Q=>t σ H fun x H1=>∃ i,x=.int i∧Q (some i) H1
section
variable {X:Cx} {e:Expr} {te:TE} {lo hi:Option Expr} {tl th:TO} {pos p2:Pos}
theorem bE:PO X none rM:=by
  intro pins s σ H Q I h;rw [evalPart_none];exact wpAny_pure ⟨none,H,I,.none,h⟩
theorem bD (h:PE X e te):PO X (some e) (uO te):=by
  intro pins s σ H Q I hw;rw [evalPart_some];refine thn (h pins s σ H _ I hw) fun u s1 ⟨x,H1,I1,r1,q1⟩=>?_;obtain ⟨i,rfl,q⟩:=q1;obtain ⟨t,rfl⟩:=r1;exact ⟨some i,H1,I1,.int i t,q⟩
def SlR (X:Cx) (r:V→Option Int→Option Int→Hp→VK→Prop):Prop :=
  ∀ (pins:List (Addr × Obj)) (s:Shared) (σ:St) (H:Hp) (x:V) (v vl vu:Value) (lo hi:Option Int) (sl:Addr) (Q:VK),Inv X pins σ H s→RelV x v→s.heap.IsSliceOf sl vl vu .none→IsPart vl lo→IsPart vu hi→r x lo hi H Q →
    ∃ T id,typeLookup (.type T) "__getitem__" = pure (some (.builtin id))∧s.TypeIs v T∧wpAny (model X.prog X.w) X.A (getItem v (.ref sl)) (EP X pins σ Q) X.xe s
def tSl (r:V→Option Int→Option Int→Hp→VK→Prop) (te:TE) (tl th:TO):TE:=fun σ H Q=>te σ H fun x H1=>tl σ H1 fun l H2=>th σ H2 fun u H3=>r x l u H3 Q
theorem bu {r:V→Option Int→Option Int→Hp→VK→Prop} (hr:SlR X r) (he:PE X e te) (hl:PO X lo tl) (hu:PO X hi th):PE X (.Subscript e (.Slice lo hi none p2) pos) (tSl r te tl th):=by
  intro pins s σ H Q I h;refine Subscript_ (thn (he pins s σ H _ I h) fun v s1 ⟨x,H1,I1,r1,q1⟩=>?_);refine wpAny_Slice (thn (hl pins s1 σ H1 _ I1 q1) fun vl s2 ⟨l,H2,I2,pl,q2⟩=>thn (hu pins s2 σ H2 _ I2 q2) fun vu s3 ⟨u,H3,I3,pu,q3⟩=>?_);rw [evalPart_none];refine wpAny_pure ?_;have I4:Inv X pins σ H3 { s3 with heap:=s3.heap.push { cls:=.type "slice",data:=.fields #[vl,vu,.none] } }:=I3.kept (t':=s3.toks) fun b ob q=>aal _ q;obtain ⟨T,id,hT,ht,hg⟩:=hr pins { s3 with heap:=s3.heap.push { cls:=.type "slice",data:=.fields #[vl,vu,.none] } } σ H3 x v vl vu l u s3.heap.objs.size Q I4 r1 (Heap.IsSliceOf.new ..) pl pu q3;show wpAny (model X.prog X.w) X.A (subscriptTail e (.Slice lo hi none p2) v (.ref s3.heap.objs.size)) (EP X pins σ Q) X.xe { s3 with heap:=s3.heap.push { cls:=.type "slice",data:=.fields #[vl,vu,.none] } };exact tail_any (ops:=[.ref s3.heap.objs.size,v]) ht hT hg (by with_unfolding_all rfl)
def d7 (xs:List V) (lo hi:Option Int):List V:=(xs.drop (HT.sIx xs.length 0 lo)).take (HT.sIx xs.length xs.length hi - HT.sIx xs.length 0 lo)
theorem lI (xs:List V) (lo hi:Option Int):(d7 xs lo hi).length≤xs.length:=by
  unfold d7;rw [aax,aaI];lia
end
open PySem PySem.Spec PyProof.Rows
def ixN (n:Nat) (i:Int):Option Nat:=if 0≤i then (if i < n then some i.toNat else none) else if -(n:Int)≤i then some (i+n).toNat else none
def atI {α:Type} (xs:List α) (i:Int):Option α:=(ixN xs.length i).bind fun j=>xs[j]?
theorem nH {n:Nat} {i:Int} {j:Nat} (h:ixN n i=some j):seqIndex? i n=some j∧j < n∧-(n:Int)≤i∧i < n:=by
  unfold ixN at h;by_cases h0:0≤i
  · rw [if_pos h0] at h;by_cases h1:i < n
    · rw [if_pos h1] at h;have e:i.toNat=j:=aaZ h;exact ⟨by rw [seqIndex_of h0 h1,e],by lia,by lia,h1⟩
    · rw [if_neg h1] at h;cases h
  · rw [if_neg h0] at h;by_cases h1:-(n:Int)≤i
    · rw [if_pos h1] at h;have e:(i+n).toNat=j:=aaZ h;exact ⟨by rw [seqIndex_neg (by lia) h1,e],by lia,h1,by lia⟩
    · rw [if_neg h1] at h;cases h
theorem ki {α:Type} {xs:List α} {i:Int} {v:α} (h:atI xs i=some v):∃ j,seqIndex? i xs.length=some j∧xs[j]?=some v∧j < xs.length∧-(xs.length:Int)≤i∧i < xs.length:=by
  unfold atI at h;cases e:ixN xs.length i with
  | none=>rw [e] at h;cases h
  | some j =>
    rw [e] at h;obtain ⟨h1,h2,h3,h4⟩:=nH e;exact ⟨j,h1,h,h2,h3,h4⟩
theorem eY {α:Type} {xs:List α} {j:Nat} {v:α} (h:xs[j]?=some v):atI xs (j:Int)=some v:=by
  have hj:j < xs.length:=(aaJ.mp h).1;have e:ixN xs.length (j:Int)=some j:=by
    unfold ixN;rw [if_pos (by lia),if_pos (by lia)];simp
  unfold atI;rw [e];exact h
def sP (b:Expr):Prop:=∀ o i,subscripted b false o i=operate [o,i] (getItem o i)
def IxR (X:Cx) (r:R2):Prop :=
  ∀ (value slice:Expr) (pins:List (Addr × Obj)) (s:Shared) (σ:St) (H:Hp) (x y:V) (v u:Value) (Q:VK),Inv X pins σ H s→RelV x v→RelV y u→r x y H Q →
    subscripted slice false v u=operate [v,u] (getItem v u)→wpAny (model X.prog X.w) X.A (subscriptTail value slice v u) (EP X pins σ Q) X.xe s
def MtR (X:Cx) (id:String) (r:V→List V→Hp→VK→Prop):Prop :=
  ∀ (pins:List (Addr × Obj)) (s:Shared) (σ:St) (H:Hp) (x:V) (xs:List V) (v:Value) (us:List Value) (Q:VK),Inv X pins σ H s→RelV x v→Vals xs us→r x xs H Q →
    wpAny (model X.prog X.w) X.A (call (.builtin id) (v :: us)) (EP X pins σ Q) X.xe s
section
variable {X:Cx} {a b:Expr} {ta tb:TE} {pos:Pos}
theorem IxR.or {r r':R2} (h:IxR X r) (h':IxR X r'):IxR X (fun x y H Q=>r x y H Q∨r' x y H Q):=by
  intro value slice pins s σ H x y v u Q I rx ry q hs;rcases q with q|q
  · exact h value slice pins s σ H x y v u Q I rx ry q hs
  · exact h' value slice pins s σ H x y v u Q I rx ry q hs
theorem aE {r:R2} (hr:IxR X r) (ha:PE X a ta) (hb:PE X b tb) (hs:sP b):PE X (.Subscript a b pos) (tOp r ta tb):=by
  intro pins s σ H Q I h;exact Subscript_ (uD ha hb I h fun v u s2 x y H2 I2 rx ry q=>hr a b pins s2 σ H2 x y v u Q I2 rx ry q (hs _ _))
def u0 (K:aaa):R2:=fun x y H Q=>∃ p xs i v,x=.ref p∧y=.int i∧SqL K H p xs∧atI xs i=some v∧Q v H
def uY (K:aaa):R2:=fun x y H Q=>∃ p xs i v,x=.ref p∧y=.int i∧SqT K H p xs∧atI xs i=some v∧Q v H
def uZ:R2:=fun x y H Q=>∃ z i c,x=.str z∧y=.int i∧z.length≤sizeLine∧atI z.cps.toList i=some c∧Q (.str ⟨#[c]⟩) H
theorem ix_list:IxR X (u0 X.K):=by
  intro value slice pins s σ H x y v u Q I rx ry h hs;obtain ⟨p,xs,i,z,rfl,rfl,hq,he,q⟩:=h;cases rx;obtain ⟨t,rfl⟩:=ry;obtain ⟨its,r,pl,hz⟩:=I.list hq;obtain ⟨j,h1,h2,h3,h4,h5⟩:=ki he;obtain ⟨w,ew,rw'⟩:=r.get h2;have hl:=r.length;have hn:=fI;have fin:EP X pins σ Q w s:=⟨z,H,I,rw',q⟩
  by_cases h0:0≤i
  · have hj:i.toNat=j:=by
      rw [seqIndex_of h0 h5] at h1;exact aaZ h1
    exact item_listR pl.isList h0 (by lia) (by rw [hj];simpa using ew) fin hs
  · have hj:(i+(its.toArray.size:Int)).toNat=j:=by
      rw [seqIndex_neg (by lia) h4] at h1;rw [aai,← hl];exact aaZ h1
    exact subscriptTail_builtinR (x:=w) pl.isList.typeIs slot_list_getitem.lookup
      (wpAny_getItem_list_neg (Q:=fun r s'=>r=w∧EP X pins σ Q r s') pl.isList (by lia) (by rw [aai] <;> lia) (by lia) (by rw [hj];simpa using ew) ⟨rfl,fin⟩) hs
theorem ix_tup:IxR X (uY X.K):=by
  intro value slice pins s σ H x y v u Q I rx ry h hs;obtain ⟨p,xs,i,z,rfl,rfl,hq,he,q⟩:=h;cases rx;obtain ⟨t,rfl⟩:=ry;obtain ⟨its,r,pl,hz⟩:=I.tuple hq;obtain ⟨j,h1,h2,h3,h4,h5⟩:=ki he;obtain ⟨w,ew,rw'⟩:=r.get h2;have hl:=r.length;have hn:=fI;have fin:EP X pins σ Q w s:=⟨z,H,I,rw',q⟩
  exact subscriptTail_builtinR (x:=w) pl.typeIs slot_tuple_getitem.lookup
    (getItem_tuple (j:=j) (Q:=fun r s'=>r=w∧EP X pins σ Q r s') pl (by lia) (by lia) (by rw [aai,← hl];exact h1) (by simpa using ew) ⟨rfl,fin⟩) hs
theorem jY:IxR X uZ:=by
  intro value slice pins s σ H x y v u Q I rx ry h hs;obtain ⟨z,i,c,rfl,rfl,hz,he,q⟩:=h;obtain ⟨t,rfl⟩:=rx;obtain ⟨t',rfl⟩:=ry;obtain ⟨j,h1,h2,h3,h4,h5⟩:=ki he;have hl:z.cps.toList.length=z.length:=by simp [Str.length]
  rw [hl] at h1 h4 h5;have hn:=fI;exact tail_any (typeIs_str s z t) slot_str_getitem.lookup (getItem_str (c:=c) (by
    have e1:decide (i < -(2 ^ 63:Int))=false:=decide_eq_false (by lia);have e2:decide (i ≥ 2 ^ 63)=false:=decide_eq_false (by lia);rw [e1,e2,Bool.or_false]) (by rw [h1];simpa using h2) ⟨.str ⟨#[c]⟩,H,I.tok _,⟨_,rfl⟩,q⟩) hs
def rIx (K:aaa):R2:=fun x y H Q=>u0 K x y H Q∨uY K x y H Q∨uZ x y H Q
theorem ux:IxR X (rIx X.K):=ix_list.or (ix_tup.or jY)
theorem mt (its:List Value) (n j:Nat) (u:Value):aa9 (·.setIfInBounds j u) { cls:=.type "list",data:=.seq its.toArray n }={ cls:=.type "list",data:=.seq (its.set j u).toArray n }:=by
  simp [aa9]
theorem Inv.lst {pins:List (Addr × Obj)} {σ:St} {H:Hp} {s:Shared} {p:Addr} {xs:List V} (I:Inv X pins σ H s) (h:H p=some (.lst xs)) :
    ∃ (its:List Value) (n:Nat),Vals xs its∧s.heap.get? p=some { cls:=.type "list",data:=.seq its.toArray n }∧xs.length≤sizeLine:=by
  obtain ⟨z,its,n,r,e⟩:=I.hok p _ h;exact ⟨its,n,r,e,z⟩
theorem Inv.lstUpd {pins:List (Addr × Obj)} {σ:St} {H:Hp} {s:Shared} {p:Addr} {xs ys:List V} {its its':List Value} {n n':Nat} {f:Obj→Obj} (I:Inv X pins σ H s) (h:H p=some (.lst xs))
    (ho:s.heap.get? p=some { cls:=.type "list",data:=.seq its.toArray n }) (hf:f { cls:=.type "list",data:=.seq its.toArray n }={ cls:=.type "list",data:=.seq its'.toArray n' }) (r:Vals ys its') (hz:ys.length≤sizeLine) (t:Nat) :
    Inv X pins σ (upd H p (.lst ys)) { s with heap:=s.heap.update p f,toks:=t }:=by
  have e:(s.heap.update p f).get? p=some { cls:=.type "list",data:=.seq its'.toArray n' }:=by
    rw [Heap.get?_update_self f ho (by rw [hf] <;> rfl),hf]
  refine I.write (x:=p) (e:=p) (by rw [h];trivial) (.inl rfl) (fun b u hb q=>(Heap.get?_update_other _ _ (abc hb)).trans q) ⟨_,e⟩ ?_;exact ⟨hz,its',n',r,e⟩
def uX:V→V→V→Hp→(Hp→Prop)→Prop:=fun o i v H Q=>∃ p xs k j,o=.ref p∧i=.int k∧H p=some (.lst xs)∧ixN xs.length k=some j∧Q (upd H p (.lst (xs.set j v)))
theorem ky:vC X uX:=by
  intro pins s σ H o i v ov iv u Q I ro ri rv h;obtain ⟨p,xs,k,j,rfl,rfl,hp,hj,q⟩:=h;cases ro;obtain ⟨t,rfl⟩:=ri;obtain ⟨its,n,r,ho,hz⟩:=I.lst hp;obtain ⟨h1,h2,h3,h4⟩:=nH hj;have hl:=r.length;have hn:=fI;have I':Inv X pins σ (upd H p (.lst (xs.set j v))) { s with heap:=s.heap.update p (aa9 (·.setIfInBounds j u)) } :=
    I.lstUpd hp ho (mt its n j u) (r.set rv j) (by rw [List.length_set];exact hz) s.toks
  by_cases h0:0≤k
  · have hk:k.toNat=j:=by
      rw [seqIndex_of h0 h4] at h1;exact aaZ h1
    exact PySem.W.ki_setAt ho h0 (by lia) (by rw [aai,← hl];exact h4) (by rw [hk];exact ⟨_,I',q⟩)
  · have hk:(k+(its.toArray.size:Int)).toNat=j:=by
      rw [seqIndex_neg (by lia) h3] at h1;rw [aai,← hl];exact aaZ h1
    exact PySem.W.ki_setBack ho (by lia) (by rw [aai,← hl];exact h3) (by lia) (by rw [hk];exact ⟨_,I',q⟩)
theorem jL (lo hi:Option Int) (n:Nat):(sliceBounds lo hi none n).1=((HT.sIx n 0 lo:Nat):Int)∧(sliceBounds lo hi none n).2.1=((HT.sIx n n hi:Nat):Int)∧(sliceBounds lo hi none n).2.2=1:=by
  refine ⟨?_,?_,rfl⟩
  · cases lo with
    | none=>simp [sliceBounds,HT.sIx]
    | some i =>
      simp only [sliceBounds,HT.sIx,Option.getD_none,show (1:Int) > 0 by decide,if_true];by_cases h:i < 0
      · simp only [h,if_true] <;> lia
      · simp only [h,if_false] <;> lia
  · cases hi with
    | none=>simp [sliceBounds,HT.sIx]
    | some i =>
      simp only [sliceBounds,HT.sIx,Option.getD_none,show (1:Int) > 0 by decide,if_true];by_cases h:i < 0
      · simp only [h,if_true] <;> lia
      · simp only [h,if_false] <;> lia
theorem iZ (its:List Value) (lo hi:Option Int):slicePick its.toArray lo hi none=((its.drop (HT.sIx its.length 0 lo)).take (HT.sIx its.length its.length hi - HT.sIx its.length 0 lo)).toArray:=by
  obtain ⟨h1,h2,h3⟩:=jL lo hi its.toArray.size;unfold slicePick;rw [h1,h2,h3];simp only [sliceRange_one,pick_run,aai] <;> rfl
def vT (K:aaa):V→Option Int→Option Int→Hp→VK→Prop:=fun x lo hi H Q=>∃ a xs,x=.ref a∧SqL K H a xs∧∀ p,H p=none→Q (.ref p) (upd H p (.lst (d7 xs lo hi)))
theorem bS:SlR X (vT X.K):=by
  intro pins s σ H x v vl vu lo hi sl Q I rx hs pl pu h;obtain ⟨a,xs,rfl,hx,q⟩:=h;cases rx;obtain ⟨its,r,ht,hz⟩:=I.list hx;have hlen:=r.length;refine ⟨"list",_,slot_list_getitem.lookup,ht.isList.typeIs,?_⟩;refine wpAny_getItem_list_slice ht.isList hs pl pu .none (by simp) ?_ (by rw [aai] <;> lia);rw [iZ,← hlen];refine ⟨.ref s.heap.objs.size,_,I.laid (t':=s.toks) (o:=.lst (d7 xs lo hi)) (fun b ob q=>aal _ q) (aab _) ?_,rfl,q _ (I.hok.fresh (aab _))⟩;exact ⟨aaY (lI xs lo hi) hz,_,0,(r.drop (HT.sIx xs.length 0 lo)).take (HT.sIx xs.length xs.length hi - HT.sIx xs.length 0 lo),aaF _ rfl⟩
def eH:V→Bool
  | .non=>true
  | .bl _=>true
  | .int _=>true
  | .str _=>true
  | _=>false
def eqV:V→V→Bool
  | .non,.non=>true
  | .bl a,.bl b=>a == b
  | .bl a,.int b=>(if a then 1 else 0) == b
  | .int a,.bl b=>a == (if b then 1 else 0)
  | .int a,.int b=>a == b
  | .str a,.str b=>a == b
  | _,_=>false
theorem qX {A:Around} {s:Shared} {y x:V} {u v:Value} (ry:RelV y u) (rx:RelV x v) (fy:eH y=true) (fx:eH x=true):SeqAt.EqAt A s u v (eqV y x):=by
  cases y with
  | non =>
    cases ry;cases x with
    | non=>cases rx;exact SeqAt.EqAt.same _
    | bl b=>cases rx;exact SeqAt.EqAt.none_bool b
    | int b=>obtain ⟨t,rfl⟩:=rx;exact SeqAt.EqAt.none_int b t
    | str b=>obtain ⟨t,rfl⟩:=rx;exact SeqAt.EqAt.none_str b t
    | _=>exact absurd (show false=true from fx) aan
  | bl a =>
    cases ry;cases x with
    | non=>cases rx;exact SeqAt.EqAt.bool_none a
    | bl b=>cases rx;exact SeqAt.EqAt.bool_bool a b
    | int b=>obtain ⟨t,rfl⟩:=rx;exact SeqAt.EqAt.bool_int a b t
    | str b=>obtain ⟨t,rfl⟩:=rx;exact SeqAt.EqAt.bool_str a b t
    | _=>exact absurd (show false=true from fx) aan
  | int a =>
    obtain ⟨t',rfl⟩:=ry;cases x with
    | non=>cases rx;exact SeqAt.EqAt.int_none a t'
    | bl b=>cases rx;exact SeqAt.EqAt.int_bool a t' b
    | int b=>obtain ⟨t,rfl⟩:=rx;exact acl a t' b t
    | str b=>obtain ⟨t,rfl⟩:=rx;exact SeqAt.EqAt.int_str a t' b t
    | _=>exact absurd (show false=true from fx) aan
  | str a =>
    obtain ⟨t',rfl⟩:=ry;cases x with
    | non=>cases rx;exact SeqAt.EqAt.str_none a t'
    | bl b=>cases rx;exact SeqAt.EqAt.str_bool a t' b
    | int b=>obtain ⟨t,rfl⟩:=rx;exact SeqAt.EqAt.str_int a t' b t
    | str b=>obtain ⟨t,rfl⟩:=rx;exact SeqAt.EqAt.str_str a t' b t
    | _=>exact absurd (show false=true from fx) aan
  | _=>exact absurd (show false=true from fy) aan
def eqU (x:V) (u:Value):Bool:=match u with
  | .none=>eqV .non x
  | .bool b=>eqV (.bl b) x
  | .int i _=>eqV (.int i) x
  | .str z _=>eqV (.str z) x
  | _=>false
theorem qW {x y:V} {u:Value} (r:RelV y u) (f:eH y=true):eqU x u=eqV y x:=by
  cases y with
  | non=>cases r;rfl
  | bl b=>cases r;rfl
  | int i=>obtain ⟨t,rfl⟩:=r;rfl
  | str z=>obtain ⟨t,rfl⟩:=r;rfl
  | _=>exact absurd (show false=true from f) aan
theorem kj {x:V}:∀ {xs:List V} {us:List Value},Vals xs us→xs.all eH=true→us.any (eqU x)=xs.any fun y=>eqV y x
  | _,_,.nil,_=>rfl
  | y :: xs,u :: us,.cons r t,f=>by
    rw [List.all_cons,aa1] at f;rw [acA,acA,qW r f.1,kj t f.2]
theorem iD {A:Around} {s:Shared} {x:V} {v:Value} (rx:RelV x v) (fx:eH x=true):∀ {xs:List V} {us:List Value},Vals xs us→xs.all eH=true→∀ u∈us,SeqAt.EqAt A s u v (eqU x u)
  | _,_,.nil,_=>fun u hu=>by cases hu
  | y :: xs,u :: us,.cons r t,f=>fun u' hu=>by
    rw [List.all_cons,aa1] at f;rcases aam.mp hu with rfl|hu
    · rw [qW r f.1];exact qX r rx f.1 fx
    · exact iD rx fx t f.2 u' hu
def inV (x:V) (xs:List V):Bool:=xs.any fun y=>eqV y x
def rIn (K:aaa) (neg:Bool):R2:=fun x y H Q=>∃ p xs,y=.ref p∧(SqL K H p xs∨SqT K H p xs)∧eH x=true∧xs.all eH=true∧Q (.bl (if neg then !inV x xs else inV x xs)) H
theorem ji:OpR X (compareOp .In) (rIn X.K false):=by
  intro pins s σ H x y v u Q I rx ry h;obtain ⟨p,xs,rfl,hq,fx,fs,q⟩:=h;cases ry;rcases hq with hq|hq
  · obtain ⟨its,r,pl,hz⟩:=I.list hq;refine SeqAt.in_listAt (eqU x) pl.isList (fun w hw=>iD rx fx r fs w (by simpa using hw)) ⟨.bl _,H,I,rfl,?_⟩;rw [show its.toArray.any (eqU x)=its.any (eqU x) by simp,kj r fs];exact q
  · obtain ⟨its,r,pl,hz⟩:=I.tuple hq;refine SeqAt.in_tupleAt (eqU x) pl (fun w hw=>iD rx fx r fs w (by simpa using hw)) ⟨.bl _,H,I,rfl,?_⟩;rw [show its.toArray.any (eqU x)=its.any (eqU x) by simp,kj r fs];exact q
theorem ax:cf X (.builtin "len") (fun xs H Q=>∃ p ys,xs=[.ref p]∧(SqL X.K H p ys∨SqT X.K H p ys)∧Q (.int ys.length) H):=by
  intro pins s σ H xs us Q I r h;obtain ⟨p,ys,rfl,hq,q⟩:=h;obtain ⟨u,rfl,rx⟩:=cZ r;cases rx;have hn:=fI;rcases hq with hq|hq
  · obtain ⟨its,r',pl,hz⟩:=I.list hq;have hlen:=r'.length;exact Calls.call_len_list pl.isList (by simp only [aai] <;> lia) ⟨.int ys.length,H,I.tok _,⟨s.toks+1,by rw [aai,hlen]⟩,q⟩
  · obtain ⟨its,r',pl,hz⟩:=I.tuple hq;have hlen:=r'.length;exact len_tuple pl (by simp only [aai] <;> lia) ⟨.int ys.length,H,I.tok _,⟨s.toks+1,by rw [aai,hlen]⟩,q⟩
theorem dQ:cf X (.builtin "len") (fun xs H Q=>∃ z,xs=[.str z]∧z.length≤sizeLine∧Q (.int z.length) H):=by
  intro pins s σ H xs us Q I r h;obtain ⟨z,rfl,hz,q⟩:=h;obtain ⟨u,rfl,t,rfl⟩:=cZ r;have hn:=fI;exact len_str (by lia) ⟨.int z.length,H,I.tok _,⟨_,rfl⟩,q⟩
theorem fj:cf X (.type "tuple") (fun xs H Q=>∃ p ys,xs=[.ref p]∧((SqL X.K H p ys∧∀ l,H l=none→Q (.ref l) (upd H l (.tup ys)))∨(SqT X.K H p ys∧Q (.ref p) H))):=by
  intro pins s σ H xs us Q I r h;obtain ⟨p,ys,rfl,h⟩:=h;obtain ⟨u,rfl,rx⟩:=cZ r;cases rx;rcases h with ⟨hq,q⟩|⟨hq,q⟩
  · obtain ⟨its,r',pl,hz⟩:=I.list hq;have hlen:=r'.length;refine call_tuple_list pl.isList (fun h' kp=>?_) (by simp only [aai] <;> lia);have I1:Inv X pins σ H { s with heap:=h' }:=I.kept (t':=s.toks) kp;have I2:Inv X pins σ (upd H h'.objs.size (.tup ys)) { s with heap:=h'.push { cls:=.type "tuple",data:=.seq its.toArray } } :=
      I1.laid (t':=s.toks) (fun b o e=>aal _ e) (aab _) (show ObjOk X.prog X.w _ _ _ (.tup ys) from ⟨hz,its,r',IsTup.new _ _⟩)
    exact ⟨.ref h'.objs.size,_,I2,rfl,q _ (I1.hok.fresh (aab _))⟩
  · obtain ⟨its,r',pl,hz⟩:=I.tuple hq;exact call_tuple_same pl ⟨.ref p,H,I,rfl,q⟩
def tyV (K:aaa) (T:String) (x:V) (H:Hp):Prop:=match x with
  | .str _=>T = "str"
  | .int _=>T = "int"
  | .ref p=>(T = "list"∧∃ xs,SqL K H p xs)∨(T = "tuple"∧∃ o,K.lookup p=some o∧o.cls=.type "tuple"∧o.dict=none) ∨
      (T = "dict"∧((∃ kvs,H p=some (.dK kvs))∨∃ kvs,H p=some (.dT kvs)))∨(T = "set"∧∃ S n,H p=some (.set S n))
  | _=>False
theorem lQ {pins:List (Addr × Obj)} {σ:St} {H:Hp} {s:Shared} {T:String} {x:V} {v:Value} (I:Inv X pins σ H s) (r:RelV x v) (ty:tyV X.K T x H) :
    s.TypeIs v T∧∀ a,v=.ref a→∃ ob,s.heap.get? a=some ob∧ob.dict=none:=by
  cases x with
  | str z =>
    obtain ⟨t,rfl⟩:=r;cases (show T = "str" from ty);exact ⟨typeIs_str s z t,fun _ e=>nomatch e⟩
  | int i =>
    obtain ⟨t,rfl⟩:=r;cases (show T = "int" from ty);exact ⟨typeIs_int s i t,fun _ e=>nomatch e⟩
  | ref p =>
    cases r;rcases ty with ⟨rfl,xs,hq⟩|⟨rfl,o,hk,hc,hd⟩|⟨rfl,hk⟩|⟨rfl,S,n,hk⟩
    · obtain ⟨its,_,pl,_⟩:=I.list hq;refine ⟨pl.isList.typeIs,fun a e=>?_⟩;cases e;obtain ⟨o,n,e,c,hd,_⟩:=pl;exact ⟨o,e,hd⟩
    · refine ⟨⟨o,I.kIn p o hk,hc⟩,fun a e=>?_⟩;cases e;exact ⟨o,I.kIn _ o hk,hd⟩
    · have z:∃ o,s.heap.get? p=some o∧o.ExactDict:=by
        rcases hk with ⟨kvs,hk⟩|⟨kvs,hk⟩
        · obtain ⟨_,_,_,_,o,_,_,e,ex,_⟩:=I.hok p _ hk;exact ⟨o,e,ex⟩
        · obtain ⟨_,_,_,_,o,_,_,e,ex,_⟩:=I.hok p _ hk;exact ⟨o,e,ex⟩
      obtain ⟨o,e,ex⟩:=z;refine ⟨⟨o,e,ex.1⟩,fun a e2=>?_⟩;cases e2;exact ⟨o,e,ex.2.1⟩
    · obtain ⟨o,_,_,_,e,ex,_⟩:=I.hok p _ hk;refine ⟨⟨o,e,ex.1⟩,fun a e2=>?_⟩;cases e2;exact ⟨o,e,ex.2.1⟩
  | _=>exact abj ty
def vP (K:aaa) (T:String) (r:V→List V→Hp→VK→Prop) (to:TE):TE:=fun σ H Q=>to σ H fun x H1=>tyV K T x H1∧r x [] H1 Q
def tBM (K:aaa) (T:String) (r:V→List V→Hp→VK→Prop) (to:TE) (t:TA):TE:=fun σ H Q=>to σ H fun x H1=>tyV K T x H1∧t σ H1 fun xs H2=>r x xs H2 Q
variable {o e:Expr} {es:List Expr} {to:TE} {t:TA} {name:Str} {apos cpos:Pos} {T id:String} {r:V→List V→Hp→VK→Prop}
theorem ma (pa:PlainAttrs T) (slot:Slot T name id) (hty:typeOf (.builtin id)=pure (.type "method_descriptor")) (hm:MtR X id r) (ho:PE X o to)
    (hbase:attributeBase o name X.env (eval o X.env)=eval o X.env:=by rfl) (hline:(apos.endLine == cpos.line)=true:=by rfl):PE X (.Call (.Attribute o name apos) [] [] cpos) (vP X.K T r to):=by
  intro pins s σ H Q I h;refine wpAny_Call_method0_late hbase hline (thn (ho pins s σ H _ I h) fun v s1 ⟨x,H1,I1,r1,ty,q1⟩=>?_);obtain ⟨h1,h2⟩:=lQ I1 r1 ty;exact ⟨T,id,pa,slot,hty,h1,h2,acm rfl (PySem.evalArgs_none (hm pins s1 σ H1 x [] v [] Q I1 r1 .nil q1))⟩
theorem fe (pa:PlainAttrs T) (slot:Slot T name id) (hty:typeOf (.builtin id)=pure (.type "method_descriptor")) (hm:MtR X id r) (ho:PE X o to) (ha:PA X (e :: es) t)
    (hbase:attributeBase o name X.env (eval o X.env)=eval o X.env:=by rfl)
    (hfew:((backTo cpos (starEach (e :: es) X.env)).all (fun x=>!x.1) && (backToKw cpos (keywordEach [] X.env)).all (fun x=>x.1.isSome)
      && decide ((e :: es).length+([]:List Keyword).length+(if ([]:List Keyword).isEmpty then 0 else 1) < 30))=true:=by rfl)
    (hline:(apos.endLine == cpos.line)=true:=by rfl) (hs:starEach (e :: es) X.env=(false,eval e X.env) :: starEach es X.env:=by rfl) (hplain:(backTo cpos (starEach es X.env)).any (·.1)=false:=by rfl) :
    PE X (.Call (.Attribute o name apos) (e :: es) [] cpos) (tBM X.K T r to t):=by
  intro pins s σ H Q I h;refine wpAny_Call_method_late hbase hfew hline rfl (thn (ho pins s σ H _ I h) fun v s1 ⟨x,H1,I1,r1,ty,q1⟩=>?_);obtain ⟨h1,h2⟩:=lQ I1 r1 ty;refine ⟨T,id,pa,slot,hty,h1,h2,?_⟩;have hA:=ha cpos pins s1 σ H1 _ I1 q1;rw [hs] at hA ⊢;refine acm (by show (false || (backTo cpos (starEach es X.env)).any (·.1))=false;rw [hplain] <;> rfl) (Calls.evalArgs_plain ?_);exact thn hA fun us s2 ⟨vs,H2,I2,r2,q2⟩=>hm pins s2 σ H2 x vs v us Q I2 r1 r2 q2
end
open PySem PySem.Spec PyProof.Rows
def MtM (X:Cx) (id:String) (r:V→List V→Hp→VK→Prop):Prop :=
  ∀ (pins:List (Addr × Obj)) (s:Shared) (σ:St) (H:Hp) (x:V) (xs:List V) (v:Value) (us:List Value) (Q:VK),Inv X pins σ H s→RelV x v→Vals xs us→r x xs H Q →
    wpAny (model X.prog X.w) X.A (call (.builtin id) (v :: us)) (EP X pins σ Q) X.xe s
theorem Vals.one:∀ {x:V} {us:List Value},Vals [x] us→∃ u,us=[u]∧RelV x u
  | _,_,.cons r .nil=>⟨_,rfl,r⟩
theorem Vals.zero:∀ {us:List Value},Vals [] us→us=[]
  | _,.nil=>rfl
theorem Vals.dropLast {xs:List V} {us:List Value} (h:Vals xs us):Vals xs.dropLast us.dropLast:=by
  induction h with
  | nil=>exact .nil
  | cons r t ih =>
    cases t with
    | nil=>exact .nil
    | cons q t'=>exact .cons r ih
theorem Vals.eraseIdx:∀ {xs:List V} {us:List Value} (i:Nat),Vals xs us→Vals (xs.eraseIdx i) (us.eraseIdx i)
  | _,_,_,.nil=>.nil
  | _,_,0,.cons _ t=>t
  | _,_,i+1,.cons r t=>.cons r (Vals.eraseIdx i t)
theorem Vals.reverse {xs:List V} {us:List Value} (h:Vals xs us):Vals xs.reverse us.reverse:=by
  induction h with
  | nil=>exact .nil
  | cons r t ih=>rw [abN,abN];exact Vals.append ih (.cons r .nil)
theorem Vals.rep {xs:List V} {us:List Value} (h:Vals xs us):∀ k:Nat,Vals (aaB k xs).flatten (aaB k us).flatten
  | 0=>.nil
  | k+1=>by
    rw [abn,abn,abw,abw];exact Vals.append h (Vals.rep h k)
theorem mJ {α:Type} (l:List α):l.eraseIdx (l.length - 1)=l.dropLast:=by
  induction l with
  | nil=>rfl
  | cons a r ih =>
    cases r with
    | nil=>rfl
    | cons b r =>
      have e:(a :: b :: r).length - 1=((b :: r).length - 1)+1:=by
        have h1:(a :: b :: r).length=r.length+2:=rfl;have h2:(b :: r).length=r.length+1:=rfl;lia
      rw [e,List.eraseIdx_cons_succ,ih]
      all_goals rfl
theorem jo {α:Type}:∀ (l:List α) (i:Nat),(l.eraseIdx i).length≤l.length
  | [],_=>aab _
  | _ :: _,0=>abR _
  | _ :: r,i+1=>Nat.succ_le_succ (jo r i)
theorem jq (its:List Value):∀ (k:Nat) (acc:List Value),
    List.foldl (fun x1 x2=>x1++x2) acc.toArray (aaB k its.toArray)=(acc++(aaB k its).flatten).toArray
  | 0,acc=>by simp
  | k+1,acc=>by
    have e:acc.toArray++its.toArray=(acc++its).toArray:=by simp
    have e2:(acc++its)++(aaB k its).flatten=acc++(aaB (k+1) its).flatten:=by
      rw [abn,abw,aaM]
    rw [← e2,← jq its k (acc++its),← e,abn,List.foldl_cons]
section
variable {X:Cx} {pins:List (Addr × Obj)} {σ:St} {H:Hp} {s:Shared} {l b:Addr} {xs ys zs:List V}
theorem Inv.lset {its its':List Value} {n:Nat} {f:Array Value→Array Value} {t':Nat} (I:Inv X pins σ H s) (hH:H l=some (.lst xs))
    (e:s.heap.get? l=some { cls:=.type "list",data:=.seq its.toArray n }) (hf:f its.toArray=its'.toArray) (hv:Vals ys its') (hz:ys.length≤sizeLine) :
    Inv X pins σ (upd H l (.lst ys)) { s with heap:=s.heap.update l (aa9 f),toks:=t' }:=by
  have q:=PySem.IsL.update e f;rw [hf] at q;refine I.write (x:=l) (e:=l) (by rw [hH];exact trivial) (.inl rfl) (fun b' u hb hu=>(Heap.get?_update_other s.heap (aa9 f) (abc hb)).trans hu) ⟨_,q⟩ ?_;exact ⟨hz,its',_,hv,q⟩
theorem Inv.lnew {its:List Value} {t':Nat} (I:Inv X pins σ H s) (hv:Vals ys its) (hz:ys.length≤sizeLine) :
    Inv X pins σ (upd H s.heap.objs.size (.lst ys)) { s with heap:=s.heap.push { cls:=.type "list",data:=.seq its.toArray },toks:=t' } :=
  I.laid (fun _ _ q=>aal _ q) (aab _) ⟨hz,its,0,hv,aaF _ rfl⟩
theorem Inv.fresh (I:Inv X pins σ H s):H s.heap.objs.size=none:=I.hok.fresh (aab _)
theorem Inv.lstM (I:Inv X pins σ H s) (hH:H l=some (.lst xs)):xs.length≤sizeLine∧∃ (its:List Value) (n:Nat),Vals xs its∧xs.length=its.length∧s.heap.get? l=some { cls:=.type "list",data:=.seq its.toArray n }:=by
  obtain ⟨z,its,n,r,e⟩:=I.hok l _ hH;exact ⟨z,its,n,r,r.length,e⟩
theorem qv {n:Nat} (h:n≤sizeLine):ab9 n=false:=by
  unfold ab9;exact decide_eq_false (by lia)
end
section
variable {X:Cx}
def rQ:V→List V→Hp→VK→Prop:=fun x vs H Q=>∃ l xs y,x=.ref l∧vs=[y]∧H l=some (.lst xs)∧xs.length < sizeLine∧Q .non (upd H l (.lst (xs++[y])))
theorem cO:MtM X "list.append" rQ:=by
  intro pins s σ H x vs v us Q I rx rv h;obtain ⟨l,xs,y,rfl,rfl,hH,hz,q⟩:=h;cases rx;obtain ⟨u,rfl,ru⟩:=rv.one;obtain ⟨z,its,n,r,hl,e⟩:=I.lstM hH;refine call_meets F.slot_list_append ⟨_,e,rfl⟩ F.entry_list_append (F.args_list_append_2 _ _) (PySem.list_append l its.toArray n u (by rw [aai];lia)) ⟨e,?_⟩;refine ⟨.non,_,I.lset (its':=its++[u]) hH e (by simp) (r.append (.cons ru .nil)) ?_,rfl,q⟩;rw [aah,abo];lia
def vV:V→List V→Hp→VK→Prop:=fun x vs H Q=>∃ l xs y,x=.ref l∧vs=[]∧H l=some (.lst xs)∧xs[xs.length - 1]?=some y∧Q y (upd H l (.lst xs.dropLast))
theorem mo:MtM X "list.pop" vV:=by
  intro pins s σ H x vs v us Q I rx rv h;obtain ⟨l,xs,y,rfl,rfl,hH,hy,q⟩:=h;cases rx;have hus:=rv.zero;subst hus;obtain ⟨z,its,n,r,hl,e⟩:=I.lstM hH;obtain ⟨u,hu,ru⟩:=r.get hy;have hy':its.toArray[its.toArray.size - 1]?=some u:=by
    show its.toArray[its.length - 1]?=some u;rw [← Array.getElem?_toList,← hl];exact hu
  refine call_meets F.slot_list_pop ⟨_,e,rfl⟩ F.entry_list_pop (F.args_list_pop_1 _) (MeetsSeq.list_pop_last l its.toArray n u hy' (by rw [aai];lia)) ⟨e,?_⟩;refine ⟨y,_,I.lset (its':=its.dropLast) hH e ?_ r.dropLast ?_,ru,q⟩
  · show its.toArray.eraseIdxIfInBounds (its.toArray.size - 1)=its.dropLast.toArray;rw [aai,acn,mJ]
  · rw [List.length_dropLast];lia
def tQ:V→List V→Hp→VK→Prop:=fun x vs H Q=>∃ l xs i k y,x=.ref l∧vs=[.int i]∧H l=some (.lst xs)∧-(2 ^ 63)≤i∧i < 2 ^ 63∧seqIndex? i xs.length=some k∧xs[k]?=some y∧Q y (upd H l (.lst (xs.eraseIdx k)))
theorem qx:MtM X "list.pop" tQ:=by
  intro pins s σ H x vs v us Q I rx rv h;obtain ⟨l,xs,i,k,y,rfl,rfl,hH,h1,h2,hk,hy,q⟩:=h;cases rx;obtain ⟨u,rfl,ru⟩:=rv.one;obtain ⟨t,rfl⟩:=ru;obtain ⟨z,its,n,r,hl,e⟩:=I.lstM hH;obtain ⟨w,hw,rw'⟩:=r.get hy;refine call_meets F.slot_list_pop ⟨_,e,rfl⟩ F.entry_list_pop (F.args_list_pop_2 _ _)
    (MeetsSeq.list_pop_at l its.toArray n i t k w (fitsIndex_both h1 h2) (by rw [aai,← hl];exact hk) (by rw [← Array.getElem?_toList];exact hw) (by rw [aai];lia)) ⟨e,?_⟩
  refine ⟨y,_,I.lset (its':=its.eraseIdx k) hH e ?_ (r.eraseIdx k) ?_,rw',q⟩
  · show its.toArray.eraseIdxIfInBounds k=(its.eraseIdx k).toArray;rw [acn]
  · have:=jo xs k;lia
def vY:R2:=fun x y H Q=>∃ l b xs zs,x=.ref l∧y=.ref b∧H l=some (.lst xs)∧H b=some (.lst zs)∧xs.length+zs.length≤sizeLine∧∀ p,H p=none→Q (.ref p) (upd H p (.lst (xs++zs)))
theorem bo:OpR X (binaryOp .Add) vY:=by
  intro pins s σ H x y v u Q I rx ry h;obtain ⟨l,b,xs,zs,rfl,rfl,hH,hB,hz,q⟩:=h;cases rx;cases ry;obtain ⟨z,its,n,r,hl,e⟩:=I.lstM hH;obtain ⟨z2,its2,n2,r2,hl2,e2⟩:=I.lstM hB;refine PySem.P.add_list e e2 ?_ (by rw [aai,aai];lia);have ea:its.toArray++its2.toArray=(its++its2).toArray:=by simp
  rw [ea];exact ⟨.ref _,_,I.lnew (t':=s.toks) (r.append r2) (by rw [aah];lia),rfl,q _ I.fresh⟩
def vU:R2:=fun x y H Q=>∃ l k xs,x=.ref l∧y=.int k∧H l=some (.lst xs)∧-(2 ^ 63)≤k∧k < 2 ^ 63∧xs.length * k.toNat≤sizeLine ∧
  ∀ p,H p=none→Q (.ref p) (upd H p (.lst (aaB k.toNat xs).flatten))
theorem nE {α:Type} (xs:List α) (k:Nat):(aaB k xs).flatten.length=k * xs.length:=by
  induction k with
  | zero=>simp
  | succ k ih=>rw [abn,abw,aah,ih,Nat.succ_mul,Nat.add_comm]
theorem qp:OpR X (binaryOp .Mult) vU:=by
  intro pins s σ H x y v u Q I rx ry h;obtain ⟨l,k,xs,rfl,rfl,hH,h1,h2,hz,q⟩:=h;cases rx;obtain ⟨t,rfl⟩:=ry;obtain ⟨z,its,n,r,hl,e⟩:=I.lstM hH;have hlen:its.toArray.size * k.toNat≤sizeLine:=by rw [aai,← hl];exact hz
  have hcap:¬ its.toArray.size * k.toNat > (2 ^ 63 - 1) / 8:=by
    have : (sizeLine:Nat)≤(2 ^ 63 - 1) / 8:=by decide
    lia
  have hfit:¬ (!Builtin.List.listFitsIndex k)=true:=by
    rw [fitsIndex_both h1 h2];exact aan
  have hlong:¬ ab9 (its.toArray.size * k.toNat)=true:=by
    rw [qv hlen];exact aan
  have hnew:List.foldl (fun x1 x2=>x1++x2) #[] (aaB (if its.toArray.isEmpty=true then 0 else k.toNat) its.toArray)=(aaB k.toNat its).flatten.toArray:=by
    have f0:∀ m:Nat,List.foldl (fun x1 x2=>x1++x2) #[] (aaB m its.toArray)=(aaB m its).flatten.toArray:=fun m=>by
      have:=jq its m [];rw [abA] at this;exact this
    rw [f0];cases its with
    | nil=>simp
    | cons a r'=>rw [if_neg (by simp)]
  refine wpAny_binaryOp_repeat_ref (T:="list") (U:="int") (by decide) ⟨_,e,rfl⟩ (fun s'=>typeIs_int s' k t) noFill_list_mul F.fills_int_mul F.slot_int_rmul repeat_list F.slot_int_index.lookup
    (call_meets F.slot_int_rmul (typeIs_int s k t) F.entry_int_rmul (F.args_int_rmul_2 _ _) (int___rmul___int_list k t l its.toArray n)
      ⟨e,rfl,⟨_,e,rfl⟩,call_meets F.slot_list_mul ⟨_,e,rfl⟩ F.entry_list_mul (F.args_list_mul_2 _ _) (AutoListH.list___mul___list_int_3 l its.toArray n k t hfit hcap hlong) ⟨e,?_⟩⟩)
  rw [hnew];exact ⟨.ref _,_,I.lnew (t':=s.toks) (r.rep k.toNat) (by rw [nE,Nat.mul_comm];exact hz),rfl,q _ I.fresh⟩
end
section
variable {prog:Program} {w:World} {A:Around} {E:Value→Shared→Prop} {s:Shared}
end
section
variable {X:Cx}
end
end L2
namespace Att
open PySem PySem.W PySem.Calls PyProof.Rows
theorem g_ {P:Params} {h:Heap}:∀ (ns:List Int) (vs:List Value),WellAll P h vs (ns.map WData.int)→IntsAre vs ns:=by
  intro ns
  induction ns with
  | nil =>
    intro vs w;rw [aa4] at w;cases w;exact .nil
  | cons n ns ih =>
    intro vs w;rw [aau] at w;cases w with
    | cons a b =>
      cases a;exact .cons _ _ (ih _ b)
theorem n_ {l:OpenLaw} {n:Nat} (hn:l.most=some n) {P:Params} {h:Heap} {args:List WData} {vals:List Value}
    (hpre:l.row.toRowW.claim.pre args=true) (hwl:WellAll P h vals args) :
    ∃ a vs ns,vals=[Value.ref a]∧args=[WData.list (ns.map WData.int)]∧h.get? a=some { cls:=.type "list",data:=.seq vs.toArray }∧IntsAre vs ns∧ns.length≤n:=by
  have hsh:WShape.hasAll [] args [.list .int]=true:=(pre_splitW hpre).1;have hc:l.pre.holds [] { args:=args }=true:=(pre_splitW hpre).2;obtain ⟨d,r,rfl,h1,h2⟩:=hasAllW_cons hsh;obtain rfl:=hasAllW_nil h2;obtain ⟨xs,rfl,h3⟩:=hasW_list h1;obtain ⟨ns,rfl⟩:=items_int h3;have hlen:ns.length≤n:=by
    unfold OpenLaw.pre at hc;have h4:(WTm.not (.lt (.lit (.int (n:Int))) (.len (.arg 0)))).holds [] { args:=[.list (ns.map .int)] }=true:=by
      have h4:=(holds_andW hc).1;rw [hn] at h4;exact h4
    have h5:=condW_of h4 (w_not (w_lt w_lit (w_len_list (w_arg rfl))));rw [aac] at h5;refine Nat.le_of_not_lt fun q=>?_;have q':(n:Int) < ((ns.length:Nat):Int):=by lia
    first
      | (rw [decide_eq_true q'] at h5;exact absurd h5 (by decide))
      | (simp at h5;lia)
  cases hwl with
  | cons w1 w2 =>
    cases w2;cases w1 with
    | list ho hall=>exact ⟨_,_,ns,rfl,rfl,ho,g_ ns _ hall,hlen⟩
theorem oi (l:OpenLaw) (args:List WData):l.row.toRowW.claim.post args (.bool true) args=true :=
  postW_of (r:=l.row.toRowW) (X:=(true == true))
    (show WShape.has [] (.bool true) .bool=true by first|rfl|decide|simp [WShape.has,WShape.arms,WShape.armsAll])
    (show (WTm.eq .res (.lit (.bool true))).value [] { args:=args,res:=some (.bool true),after:=args }=some (.bool (true == true)) from w_eq_bool (w_res rfl) w_lit) rfl
theorem attach_call {l:OpenLaw} {n:Nat} {q:Program} {loose:List Str} {XP:(Str→Option Value)→Heap→Prop} {YP:World→Heap→Prop} {d:DefRec}
    (hn:l.most=some n) (hdf:d.params.defaults=[])
    (call:∀ (w:World) (s₀ s₁:Shared) (mg mb:Str→Option Value) (fa:Addr) (o:Obj) (pm cd doc:Value) (a:Addr) (vs:List Value) (ns:List Int),
      Ground q loose [] XP w s₀ mg mb s₁.heap→YP w s₁.heap →
      s₁.heap.get? fa=some o→o.data=.func (docDef d.name d.params d.body d.scope pm cd doc)→s₁.heap.CodeRec cd d.name→mg d.name=some (.ref fa) →
      s₁.heap.get? a=some { cls:=.type "list",data:=.seq vs.toArray }→IntsAre vs ns→ns.length≤n→s₁.gens=#[] →
      codeAny (model l.prog w) callerA (.call (.ref fa) ⟨[.ref a],[]⟩) (fun r s'=>r=.ok (.ret (.bool true))∧OldK s₁.heap s'.heap∧s'.os=s₁.os∧AllBare s'.gens) s₁) :
    WalkO q loose XP YP l.row.toRowW d [] (fun f vs=>PySem.call f vs):=by
  intro w s₀ s₁ mg mb G Y fa o pm cd doc dV kV ho hd hcd hD hmg hg args vals as hpre hlay hrd hwl hlo;obtain rfl:dV=.none:=Dflts.none hD hdf;obtain rfl:kV=.none:=Dflts.noKw hD;obtain ⟨a,vs,ns,rfl,rfl,hobj,hints,hlen⟩:=n_ hn hpre hwl;refine enter_call (codeAny_mono (call w s₀ s₁ mg mb fa o pm cd doc a vs ns G Y ho (fd_plain hd) hcd hmg hobj hints hlen hg) fun r s' hq=>?_);obtain ⟨rfl,h2,h3,h4⟩:=hq;exact ⟨.inl ⟨.bool true,.bool true,[],rfl,fun _=>rfl,.bool true,oi l _,fun _=>⟨List.Pairwise.nil,fun _ hm=>(nomatch hm)⟩⟩,h2,h3,h4⟩
section
variable {prog:Program} {w:World} {A:Around} {E:Value→Shared→Prop} {s:Shared} {K:Frag}
end
end Att
namespace L2
open PySem PySem.Spec PyProof.Rows
theorem jb:∀ {vs:List Value} {ns:List Int},IntsAre vs ns→Vals (ns.map V.int) vs
  | _,_,.nil=>.nil
  | _,_,.cons n t h=>.cons ⟨t,rfl⟩ (jb h)
def uH (H:Hp):Prop:=∀ b,H b=none∨∃ o xs,H b=some (.frz o (.lst xs))
theorem qH {P:Program} {w:World} {K:aaa} {mg mb:Str→Option Value} {CX:CXT} {k:Nat} {fa a:Addr} {fd:FuncData} {x:Str} {sp:Sp} {s₁:Shared} {vs:List Value} {ns:List Int}
    (KX:K.In s₁.heap) (hns:s₁.heap.Ns mainGlobals mg) (hb:s₁.heap.Ns builtinsNs mb) (hbb:∀ x:Str,x ≠ "__name__"→mb x=bootBuiltins x) (hlim:s₁.heap.NoLimit) (hsm:∃ mm,s₁.heap.Ns sysModules mm) (hg:s₁.gens=#[])
    (ha:s₁.heap.get? a=some { cls:=.type "list",data:=.seq vs.toArray }) (hi:IntsAre vs ns) (hl:ns.length≤sizeLine) (hr:Room k callerA)
    (F:∀ base:Heap,K.In base→base.Ns mainGlobals mg→FnOk P w K mg base CX k fa fd [x] sp) (hbind:∀ (s:Shared) (u:Value),BindsTo s fd ⟨[u],[]⟩ [(x,u)])
    (hsp:∀ H:Hp,uH H→SqL K H a (ns.map V.int)→sp [.ref a] H (fun v _=>v=.bl true) fun _ _ _=>False)
    (hCX:∀ H e s',CX [] H s₁ (fun _ _ _=>False) e s'→False) :
    codeAny (model P w) callerA (.call (.ref fa) ⟨[.ref a],[]⟩) (fun r s'=>r=.ok (.ret (.bool true))∧OldK s₁.heap s'.heap∧s'.os=s₁.os∧AllBare s'.gens) s₁:=by
  have rv:=jb hi;have lenV:=hi.length;have core:∀ H:Hp,uH H→SqL K H a (ns.map V.int)→HOk P w H s₁.heap→(∀ b,H b≠none→b=a)→(H a≠none→K.lookup a=none) →
      codeAny (model P w) callerA (.call (.ref fa) ⟨[.ref a],[]⟩) (fun r s'=>r=.ok (.ret (.bool true))∧OldK s₁.heap s'.heap∧s'.os=s₁.os∧AllBare s'.gens) s₁:=by
    intro H hO hS hok hA hK;have base_of:∀ {b:Addr} {o:Obj},s₁.heap.get? b=some o→H b=none→(jZ s₁.heap H).get? b=some o:=fun e n=>qN e n;have noA:∀ {b:Addr} {o:Obj} {es:Array DictEntry} {ep:Nat},s₁.heap.get? b=some o→o.data=.dict es ep→H b=none:=fun {b o es ep} e d=>by
      cases q:H b with
      | none=>rfl
      | some u =>
        have e':b=a:=hA b (by rw [q];simp);subst e';rw [ha] at e;cases e;have d':Data.seq vs.toArray _=Data.dict es ep:=d;cases d'
    have nsK:∀ {b:Addr} {m:Str→Option Value},s₁.heap.Ns b m→(jZ s₁.heap H).Ns b m:=fun {b m} ⟨o,es,ep,e,d,r⟩=>⟨o,es,ep,base_of e (noA e d),d,r⟩
    have hKb:K.In (jZ s₁.heap H):=fun b o e=>base_of (KX b o e) (by
      cases q:H b with
      | none=>rfl
      | some u =>
        have e':b=a:=hA b (by rw [q];simp);subst e';rw [hK (by rw [q];simp)] at e;cases e)
    have hM:Mod K mg (jZ s₁.heap H):=⟨hKb,nsK hns,⟨mb,nsK hb,hbb⟩,let ⟨mc,h1,h2⟩:=hlim;⟨mc,nsK h1,h2⟩,let ⟨mm,h1⟩:=hsm;⟨mm,nsK h1⟩⟩
    have e0:Env0 P w K mg (jZ s₁.heap H) callerA [] s₁ H:=⟨rfl,hM,fun b o e=>sw e,Nat.le_of_eq (oS _ _),trivial,fun b hb=>absurd (show b∈([]:List Addr) from hb) (by simp),hok,.of_eq hg⟩
    refine codeAny_mono ((F _ hKb (nsK hns)).run callerA [] s₁ H ⟨[.ref a],[]⟩ [.ref a] [.ref a] _ _ hr e0 (hbind s₁ (.ref a)) (.cons rfl .nil) (hsp H hO hS)) fun r s' h=>?_;cases r with
    | error e=>exact (hCX H e s' h).elim
    | ok fl =>
      cases fl with
      | next=>exact abj h
      | brk=>exact abj h
      | cont=>exact abj h
      | ret u =>
        obtain ⟨v,H',os,bare,un,hok',r',q⟩:=h;have q':v=.bl true:=q;subst q';obtain rfl:u=Value.bool true:=r';refine ⟨rfl,OldK.of_keep fun b o e=>?_,os,bare⟩;cases q:H b with
        | none=>exact un.keep b o e q (by intro z;exact absurd (show b∈([]:List Addr) from z) (by simp)) (by simp)
        | some u =>
          rcases hO b with z|⟨ob,xs,z⟩
          · rw [q] at z;cases z
          · have z2:=un.frzs b ob _ z;obtain ⟨e1,_⟩:=hok b _ z;obtain ⟨e2,_⟩:=hok' b _ z2;rw [e] at e1;cases e1;exact e2
  cases hk:K.lookup a with
  | some o =>
    have e:=KX a o hk;rw [ha] at e;cases e;refine core (fun _=>none) (fun _=>.inl rfl) (.inr ⟨_,vs.toArray,_,hk,rfl,rfl,rfl,by rw [aai,lenV];exact hl,by simpa using rv⟩) (fun b u z=>by have z':(none:Option HO)=some u:=z;cases z') (fun b z=>absurd rfl z) fun z=>absurd rfl z
  | none =>
    refine core (fun b=>if b=a then some (.frz { cls:=.type "list",data:=.seq vs.toArray } (.lst (ns.map V.int))) else none) (fun b=>?_) (.inl (.inr ⟨{ cls:=.type "list",data:=.seq vs.toArray },if_pos rfl⟩)) (fun b u z=>?_) (fun b z=>?_) fun _=>hk
    · by_cases hb:b=a
      · exact .inr ⟨_,_,if_pos hb⟩
      · exact .inl (if_neg hb)
    · by_cases hb:b=a
      · have z':=(if_pos hb).symm.trans z;cases z';subst hb;exact ⟨ha,by rw [aac];exact hl,vs,_,rv,ha⟩
      · have z':=(if_neg hb).symm.trans z;cases z'
    · by_cases hb:b=a
      · exact hb
      · exact absurd (if_neg hb) z
open PySem PySem.Spec PyProof.Rows
theorem walk_of {l:PySem.W.OpenLaw} {n k:Nat} {q:Program} {loose:List Str} {XP:(Str→Option Value)→Heap→Prop} {YP:World→Heap→Prop} {d:DefRec} {K:Params→aaa} {CX:World→CXT} {sp:World→Sp} {x:Str}
    (hn:l.most=some n) (hn2:n≤sizeLine) (hdf:d.params.defaults=[]) (hr:Room k callerA) (hi:PyProof.Rows.importsNone q=true)
    (hY:∀ (w:World) (h:Heap),YP w h→(K w.params).In h)
    (F:∀ (w:World) (mg:Str→Option Value) (fa:Addr) (h:Heap),(K w.params).In h→h.Ns mainGlobals mg→mg d.name=some (.ref fa) →
      ∃ fd:FuncData,(∀ (s:Shared) (u:Value),BindsTo s fd ⟨[u],[]⟩ [(x,u)]) ∧
        ∀ base:Heap,(K w.params).In base→base.Ns mainGlobals mg→FnOk l.prog w (K w.params) mg base (CX w) k fa fd [x] (sp w))
    (hsp:∀ (w:World) (H:Hp) (a:Addr) (ns:List Int),ns.length≤n→uH H→SqL (K w.params) H a (ns.map V.int)→sp w [.ref a] H (fun v _=>v=.bl true) fun _ _ _=>False)
    (hCX:∀ (w:World) (H:Hp) (s:Shared) (e:Value) (s':Shared),CX w [] H s (fun _ _ _=>False) e s'→False) :
    PySem.W.WalkO q loose XP YP l.row.toRowW d [] (fun f vs=>PySem.call f vs):=by
  refine Att.attach_call hn hdf fun w s₀ s₁ mg mb fa o pm cd doc a vs ns G Y ho hd hcd hmg hobj hints hlen hg=>?_;have KX:=hY w _ Y;obtain ⟨fd,hb,hF⟩:=F w mg fa _ KX G.T.g hmg;exact qH KX G.T.g G.T.b G.T.builtins G.T.nolimit (let ⟨mm,h1,_⟩:=(G.T.seer hi).mods;⟨mm,h1⟩) hg hobj hints (aaY hlen hn2) hr hF hb (fun H hO hS=>hsp w H a ns hlen hO hS) fun H e s'=>hCX w H s₁ e s'
open PySem PySem.Spec PyProof.Rows
def cG (s:Stmt):Arguments:=match s with
  | .FunctionDef _ a _ _ _ _ _ _ _ _=>a
  | _=>{ posonlyargs:=[],args:=[],vararg:=none,kwonlyargs:=[],kw_defaults:=[],kwarg:=none,defaults:=[] }
def bU (s:Stmt):List Stmt:=match s with
  | .FunctionDef _ _ b _ _ _ _ _ _ _=>b
  | _=>[]
def am (s:Stmt):Scope:=match s with
  | .FunctionDef _ _ _ _ _ _ sc _ _ _=>sc
  | _=>{ kind:=.function,names:=[],isGenerator:=false,isCoroutine:=false }
abbrev CX0:CXT:=fun _ _ _ _ _ _=>False
abbrev E0:XK:=fun _ _ _=>False
theorem u7 {X:Cx}:iV CX0 X E0:=fun _ _ _ _ _ _ _ h=>h.elim
structure Fun (K:aaa) (x qual:Str) (st:Stmt) (f:Addr) (fd:FuncData):Prop where
  ex:∃ (oc:Value) (od:Option Addr) (kV doc pm:Value) (an:Option Addr) (cdv ct:Value) (osl:Array (Option Value)),
    fd=abr x qual (cG st) (bU st) (am st) .none kV doc pm an cdv ct∧K.lookup f=some ⟨oc,od,.func fd,osl⟩∧abS K cdv qual=true
  kp:abe K (.ref f)=true
section
variable {P:Program} {w:World} {K:aaa} {mg:Str→Option Value} {base:Heap}
theorem Fun.ok {x qual:Str} {st:Stmt} {f:Addr} {fd:FuncData} {N ps:List Str} {k:Nat} {sp:Sp} (F:Fun K x qual st f fd) (S:FnScope N ps (am st)) (len:∀ vs H Q E,sp vs H Q E→vs.length=ps.length)
    (hbody:∀ (cdv:Value) (A:Around) (outer:List Env) (s:Shared) (H:Hp) (vs:List V) (Q:VK) (E:XK),Room k (A.deeper (envOfC qual (am st) s.heap.objs.size f cdv))→sp vs H Q E →
      ∃ t,PSs (iS CX0 P w K mg base N qual (am st) f cdv A outer s H E).nox (bU st) t∧t { nx:=fun _ H'=>Q .non H',rt:=Q } (fK N vs) H):FnOk P w K mg base CX0 (k+1) f fd ps sp:=by
  obtain ⟨oc,od,kV,doc,pm,an,cdv,ct,osl,rfl,lk,hcd⟩:=F.ex;refine sX lk hcd S len fun A outer s H vs Q E hr hsp=>?_;obtain ⟨t,h,q⟩:=hbody cdv A outer s H vs Q E hr hsp;exact ⟨t,h.nox,q⟩
theorem Fun.binds {x qual:Str} {st:Stmt} {f:Addr} {fd:FuncData} {ps:List Str} (F:Fun K x qual st f fd)
    (h:∀ (kV doc pm:Value) (an:Option Addr) (cdv ct:Value) (us:List Value),us.length=ps.length→bindArgs (abr x qual (cG st) (bU st) (am st) .none kV doc pm an cdv ct) ⟨us,[]⟩=pure (ps.zip us)):Binds K fd ps []:=by
  obtain ⟨oc,od,kV,doc,pm,an,cdv,ct,osl,rfl,lk,hcd⟩:=F.ex;exact .all (h kV doc pm an cdv ct)
theorem qR {x qual:Str} {st:Stmt} {f:Addr} {oc:Value} {od an:Option Addr} {osl:Array (Option Value)} {kV doc pm cdv ct:Value} (l:K.lookup f=some ⟨oc,od,.func (abr x qual (cG st) (bU st) (am st) .none kV doc pm an cdv ct),osl⟩)
    (c:abS K cdv qual=true) (k:abe K (.ref f)=true):Fun K x qual st f (abr x qual (cG st) (bU st) (am st) .none kV doc pm an cdv ct):=⟨⟨oc,od,kV,doc,pm,an,cdv,ct,osl,rfl,l,c⟩,k⟩
end
theorem ay {n:Nat} (h:n≤1000):n < sizeLine:=Nat.lt_of_le_of_lt h (by decide)
section
variable {X:Cx}
theorem pv (i:Nat) {x:Str} {pos:Pos} (hN:X.N[i]?=some x:=by rfl) (hv:Vis X.env.scope x:=by first|exact Or.inl rfl|exact Or.inr (Or.inl rfl)|exact Or.inr (Or.inr rfl)) (hd:(x == ("__debug__":Str))=false:=by decide)
    (hcd:(x == ("__classdict__":Str))=false:=by decide):PE X (.Name x pos) (uM i):=tW hN hv hd hcd
end
theorem aC {A B:Prop} (h:B):if false=true then A else B:=by
  rw [if_neg aan];exact h
theorem aI {A B:Prop} (h:A):if true=true then A else B:=by
  rw [if_pos rfl];exact h
theorem oP {c A B:Prop} [Decidable c] (h1:c→A) (h2:¬ c→B):if c then A else B:=by
  by_cases h:c
  · rw [if_pos h];exact h1 h
  · rw [if_neg h];exact h2 h
theorem vf {c A B:Prop} [Decidable c] (hc:c) (h:B):if (!decide c)=true then A else B:=by
  rw [decide_eq_true hc];exact aC h
def Same (H H':Hp):Prop:=∀ b o,H b=some o→H' b=some o
theorem Same.refl (H:Hp):Same H H:=fun _ _ h=>h
theorem Same.trans {H H1 H2:Hp} (a:Same H H1) (b:Same H1 H2):Same H H2:=fun c o h=>b c o (a c o h)
theorem Same.free {H H':Hp} (e:Same H H') {l:Addr} (h:H' l=Option.none):H l=Option.none:=by
  cases q:H l with
  | none=>rfl
  | some o =>
    rw [e l o q] at h;cases h
theorem Same.seq {K:aaa} {H H':Hp} {a:Addr} {xs:List V} (e:Same H H') (h:SqL K H a xs):SqL K H' a xs:=by
  rcases h with (h|⟨o,h⟩)|h
  · exact .inl (.inl (e _ _ h))
  · exact .inl (.inr ⟨o,e _ _ h⟩)
  · exact .inr h
open PySem PySem.Spec PyProof.Rows
section
variable {κ:Type} [DecidableEq κ]
def uL (kvs:List (κ × V)) (k:κ):Option V:=(kvs.find? fun kv=>decide (kv.1=k)).map (·.2)
def gY (kvs:List (κ × V)) (k:κ) (v:V):List (κ × V) :=
  if (kvs.any fun kv=>decide (kv.1=k))=true then kvs.map (fun kv=>if kv.1=k then (kv.1,v) else kv) else kvs++[(k,v)]
theorem KV.any {kvs:List (κ × V)} {vs:List (κ × Value)} (r:KV kvs vs) (k:κ):(kvs.any fun kv=>decide (kv.1=k))=vs.any fun kv=>decide (kv.1=k):=by
  unfold KV at r
  induction r with
  | nil=>rfl
  | cons h t ih=>rw [acA,acA,ih,h.1]
theorem KV.repl {kvs:List (κ × V)} {vs:List (κ × Value)} (r:KV kvs vs) (k:κ) {y:V} {u:Value} (ry:RelV y u) :
    KV (kvs.map fun kv=>if kv.1=k then (kv.1,y) else kv) (vs.map fun kv=>if kv.1=k then (kv.1,u) else kv):=by
  unfold KV at r ⊢
  induction r with
  | nil=>exact .nil
  | @cons p q ps qs h t ih =>
    rw [aau,aau];refine .cons ?_ ih;obtain ⟨h1,h2⟩:=h;by_cases e:p.1=k
    · rw [if_pos e,if_pos (h1.symm.trans e)];exact ⟨h1,ry⟩
    · rw [if_neg e,if_neg (fun z=>e (h1.trans z))];exact ⟨h1,h2⟩
theorem KV.put {kvs:List (κ × V)} {vs:List (κ × Value)} (r:KV kvs vs) (k:κ) {y:V} {u:Value} (ry:RelV y u):KV (gY kvs k y) (stored vs k u):=by
  unfold gY stored;rw [r.any k];by_cases e:(vs.any fun kv=>decide (kv.1=k))=true
  · rw [if_pos e,if_pos e];exact r.repl k ry
  · rw [if_neg e,if_neg e];exact Paired.snoc r ⟨rfl,ry⟩
end
section
variable {P:Program} {w:World} {H:Hp} {h:Heap} {a:Addr}
theorem uW {u:HO} (ok:HOk P w H h) (e:Rd H a u):ObjOk P w H h a u:=e.ok ok
theorem vp {kvs:List (Key × V)} (ok:HOk P w H h) (e:Rd H a (.dK kvs)):kvs.length≤sizeLine∧(a == sysModules)=false∧∃ vs,KV kvs vs∧h.DictOf (bh P w) a vs :=
  show ObjOk P w H h a (.dK kvs) from uW ok e
theorem vq {kvs:List (Key × V)} (ok:HOk P w H h) (e:H a=some (.dK kvs)):kvs.length≤sizeLine∧(a == sysModules)=false∧∃ vs,KV kvs vs∧h.DictOf (bh P w) a vs:=vp ok (.inl e)
end
section
variable {X:Cx} {pins:List (Addr × Obj)} {σ:St} {H:Hp} {s:Shared} {a:Addr} {y v:V} {u r:Value} {o:Option V} {A:Around} {E:Value→Shared→Prop}
theorem Inv.big (I:Inv X pins σ H s):sysModules < s.heap.objs.size:=by
  have h:mainGlobals < s.heap.objs.size:=(I.mod.glob.keeps I.bk).lt;exact Nat.lt_trans (by decide) h
end
section
variable {X:Cx} {pins:List (Addr × Obj)} {σ:St} {H:Hp} {s:Shared} {a:Addr} {kvs:List (Key × V)} {k:Key} {u:Value} {A:Around} {E:Value→Shared→Prop}
end
section
variable {X:Cx} {o i e value:Expr} {pos pos' tpos:Pos} {td ty tv:TE}
end
theorem qY {P:Program} {w:World} {H:Hp} (h:Heap) (hb:sysModules < h.objs.size):ObjOk P w H (h.push { cls:=.type "dict",data:=.dict #[] }) h.objs.size (.dK []) :=
  ⟨aaT _,beq_eq_false_iff_ne.mpr (abc (aaq hb)),[],.nil,Heap.DictOf.new h⟩
def tm:TE:=fun _ H Q=>∀ p,H p=none→Q (.ref p) (upd H p (.dK []))
section
variable {X:Cx} {pos:Pos}
theorem kQ:PE X (.Dict [] [] pos) tm:=fun pins s σ H Q I h =>
  wpAny_Dict_empty ⟨.ref s.heap.objs.size,_,I.laid (a:=s.heap.objs.size) (o:=.dK []) (t':=s.toks) (fun _ _ q=>aal _ q) (aab _) (qY s.heap I.big),rfl,h _ (I.hok.fresh (aab _))⟩
end
def cW (kvs more:List (Key × V)):List (Key × V):=more.foldl (fun acc kv=>gY acc kv.1 kv.2) kvs
theorem KV.merge:∀ {more:List (Key × V)} {rs:List (Key × Value)} {kvs:List (Key × V)} {vs:List (Key × Value)},KV more rs→KV kvs vs→KV (cW kvs more) (merged vs rs):=by
  intro more rs kvs vs r;unfold KV at r
  induction r generalizing kvs vs with
  | nil=>intro q;exact q
  | @cons p q ps qs h t ih =>
    intro r0;have e:KV (gY kvs p.1 p.2) (stored vs q.1 q.2):=by
      have:=r0.put p.1 h.2;rw [← h.1];exact this
    exact ih e
structure M1 (X:Cx) (o:Expr) (m:Str) (apos:Pos) (e:Expr) (cpos:Pos):Prop where
  base:attributeBase o m X.env (eval o X.env)=eval o X.env
  few:((backTo cpos (starEach [e] X.env)).all (fun x=>!x.1) && (backToKw cpos (keywordEach [] X.env)).all (fun x=>x.1.isSome)
    && decide (([e]:List Expr).length+([]:List Keyword).length+(if ([]:List Keyword).isEmpty then 0 else 1) < 30))=true
  line:(apos.endLine == cpos.line)=true
  trees:backTo cpos (starEach [e] X.env)=[(false,eval e X.env)]
structure M2 (X:Cx) (o:Expr) (m:Str) (apos:Pos) (e f:Expr) (cpos:Pos):Prop where
  base:attributeBase o m X.env (eval o X.env)=eval o X.env
  few:((backTo cpos (starEach [e,f] X.env)).all (fun x=>!x.1) && (backToKw cpos (keywordEach [] X.env)).all (fun x=>x.1.isSome)
    && decide (([e,f]:List Expr).length+([]:List Keyword).length+(if ([]:List Keyword).isEmpty then 0 else 1) < 30))=true
  line:(apos.endLine == cpos.line)=true
  trees:backTo cpos (starEach [e,f] X.env)=[(false,eval e X.env),(false,eval f X.env)]
section
variable {X:Cx} {pins:List (Addr × Obj)} {σ:St} {H:Hp} {s:Shared} {a:Addr} {y d:V} {u r:Value} {o:Option V} {A:Around} {E:Value→Shared→Prop}
end
section
variable {X:Cx} {o e f:Expr} {apos cpos:Pos} {td ty tx:TE}
end
section
variable {X:Cx} {pins:List (Addr × Obj)} {σ:St} {H:Hp} {s:Shared} {a:Addr} {kvs:List (Key × V)} {A:Around} {E:Value→Shared→Prop}
end
section
variable {X:Cx} {pins:List (Addr × Obj)} {σ:St} {H:Hp} {s:Shared} {a:Addr} {y:V} {u:Value} {A:Around} {E:Value→Shared→Prop}
end
open PySem PySem.Spec PyProof.Rows
section
variable {X:Cx}
end
section
variable {κ:Type} [DecidableEq κ]
end
end L2
set_option maxHeartbeats 4000000
namespace L2
open PySem PySem.Spec PyProof.Rows
theorem Inv.adopt {X:Cx} {pins:List (Addr × Obj)} {σ:St} {H:Hp} {s:Shared} {a:Addr} {o:HO} (I:Inv X pins σ H s) (hn:H a=none) (hs:X.s₀.heap.objs.size≤a) (hL:a≠X.env.locals) (hC:∀ x c,X.env.cells.lookup x=some c→c≠a) (hp:∀ p∈X.pn++pins,p.1≠a)
    (new:ObjOk X.prog X.w (upd H a o) s.heap a o):Inv X pins σ (upd H a o) s:=by
  have ne:∀ b u,X.s₀.heap.get? b=some u→b≠a:=fun b u e=>aaq (aay (aak e) hs);refine ⟨I.ok,I.os,I.bare,⟨I.base.keep,I.base.slot,fun b u e n hx=>?_,I.base.there,fun b xs e=>?_,fun b u xs e=>?_,fun b ps e=>?_⟩,I.loc,I.cell,?_,fun x c e=>?_,fun p hq=>?_,fun b u e=>?_,I.len⟩
  · rw [aq (ne b u e)];exact I.base.free b u e n hx
  · have q:=I.base.tups b xs e;rw [aq (ao q hn)];exact q
  · have q:=I.base.frzs b u xs e;rw [aq (ao q hn)];exact q
  · obtain ⟨m,q⟩:=I.base.tbls b ps e;exact ⟨m,by rw [aq (ao q hn)];exact q⟩
  · rw [aq (abc hL)];exact I.free
  · rw [aq (hC x c e)];exact I.freeC x c e
  · obtain ⟨h1,h2,h3⟩:=I.pin p hq;exact ⟨h1,by rw [aq (hp p hq)];exact h2,h3⟩
  · by_cases hb:b=a
    · subst hb;rw [upd_same] at e;cases e;exact new
    · rw [aq hb] at e;exact (I.hok b u e).stay (fun c v _ q=>q) (fun c q=>by rw [aq (ao q hn)];exact q) fun c xs q=>by rw [aq (ao q hn)];exact q
def CellsIn (E:Env):List (Str × Addr)→Prop
  | []=>True
  | p :: r=>E.cells.lookup p.1=some p.2∧CellsIn E r
theorem CellsIn.get {E:Env}:∀ {cl:List (Str × Addr)} {x:Str} {c:Addr},CellsIn E cl→cl.lookup x=some c→E.cells.lookup x=some c:=by
  intro cl x c h e;have hm:=aa8 e;clear e
  induction cl with
  | nil=>exact nomatch hm
  | cons p r ih =>
    rcases aam.mp hm with q|q
    · have:=h.1;rw [← q] at this;exact this
    · exact ih h.2 q
def CapOk (XE:Env) (sc:Scope) (XN:List Str):List Str→List (Option Nat)→Prop
  | [],[]=>True
  | _ :: n,none :: c=>CapOk XE sc XN n c
  | x :: n,some i :: c=>(XN[i]?=some x∧(XE.kindOf x=some .cell∨XE.kindOf x=some .free)∧(sc.names.lookup x=some .cell∨sc.names.lookup x=some .free))∧CapOk XE sc XN n c
  | _,_=>False
def uC (σ:St) (o:Option Nat):Option V:=match o with
  | none=>none
  | some i=>(σ[i]?).join
def bO (cap:List (Option Nat)) (σ:St):St:=cap.map (uC σ)
theorem CapOk.len {XE:Env} {sc:Scope} {XN:List Str}:∀ {n:List Str} {c:List (Option Nat)},CapOk XE sc XN n c→c.length=n.length
  | [],[],_=>rfl
  | _ :: _,none :: _,h=>congrArg (·+1) (CapOk.len (n:=_) (c:=_) h)
  | _ :: _,some _ :: _,h=>congrArg (·+1) (CapOk.len h.2)
  | [],_ :: _,h=>(show False from h).elim
  | _ :: _,[],h=>(show False from h).elim
theorem CapOk.get {XE:Env} {sc:Scope} {XN:List Str} {σ:St}:∀ {n:List Str} {c:List (Option Nat)} {j:Nat} {x:Str} {v:V},CapOk XE sc XN n c→n[j]?=some x→(bO c σ)[j]?=some (some v) →
    ∃ i:Nat,XN[i]?=some x∧σ[i]?=some (some v)∧(XE.kindOf x=some .cell∨XE.kindOf x=some .free)∧(sc.names.lookup x=some .cell∨sc.names.lookup x=some .free)
  | [],[],_,_,_,_,h,_=>by simp at h
  | y :: n,none :: c,0,x,v,_,_,e=>by simp [bO,uC] at e
  | y :: n,none :: c,j+1,x,v,h,h1,e=>CapOk.get (n:=n) (c:=c) (j:=j) h (by simpa using h1) (by simpa [bO] using e)
  | y :: n,some i :: c,0,x,v,h,h1,e=>by
    simp at h1;subst h1;refine ⟨i,h.1.1,?_,h.1.2⟩;simp only [bO,uC,aau,List.getElem?_cons_zero] at e;cases q:σ[i]? with
    | none=>rw [q] at e;simp at e
    | some w=>rw [q] at e;simp at e;rw [e]
  | y :: n,some i :: c,j+1,x,v,h,h1,e=>CapOk.get (n:=n) (c:=c) (j:=j) h.2 (by simpa using h1) (by simpa [bO] using e)
  | [],_ :: _,_,_,_,h,_,_=>(show False from h).elim
  | _ :: _,[],_,_,_,h,_,_=>(show False from h).elim
def az (X:Cx) (scope:Scope) (cl:List (Str × Addr)) (NY:List Str) (fp:List Addr) (s:Shared) (H:Hp) (C:Addr):Cx where
  prog:=X.prog
  w:=X.w
  K:=X.K
  mg:=X.mg
  base:=X.base
  A:=X.A
  N:=NY
  s₀:=s
  H₀:=H
  env:=compEnvC scope cl C X.env
  outer:=X.stack
  stack:=X.stack
  ex:=fp
  fn:=fun _=>false
  calm:=X.calm
  pn:=[]
  xe:=fun _ _=>False
def rG (X:Cx) (ifs:List Expr) (t:TT):Prop :=
  ∀ (pins:List (Addr × Obj)) (s:Shared) (σ:St) (H:Hp) (Q:Bool→Hp→Prop),Inv X pins σ H s→t σ H Q →
    wpAny (model X.prog X.w) X.A (forIn ifs true fun c r=>if r=true then do let ok ← isTrue c X.env (eval c X.env);pure (ForInStep.yield ok) else pure (ForInStep.yield r)) (TP X pins σ Q) X.xe s
theorem b_ {X:Cx}:rG X [] (fun _ H Q=>Q true H):=fun _ _ _ H _ I h=>wpAny_tests_nil ⟨H,I,h⟩
theorem eE {X:Cx} {c:Expr} {t:TT} (h:PT X c t):rG X [c] t:=fun pins s σ H Q I q=>wpAny_tests_one (h pins s σ H Q I q)
theorem jv {prog:Program} {w:World} {A:Around} {R:Result→Shared→Prop} {s:Shared} {elt target iter:Expr} {ifs:List Expr} {scope:Scope} {pos:Pos} {it acc:Value} {env:Env} (J:Nat→Shared→Prop)
    (turn:∀ n s,J n s→wpAny (model prog w) A (pyNext it) (fun r s₁=>match r with
      | none=>R (.ok .next) s₁
      | some v=>wpAny (model prog w) A (letOwnedTupleGo target it v) (fun _ s₁'=>wpAny (model prog w) A (assign target env v) (fun _ s₂ =>
          wpAny (model prog w) A (forIn ifs true fun c r=>if r=true then do let ok ← isTrue c env (eval c env);pure (ForInStep.yield ok) else pure (ForInStep.yield r)) (fun ok s₃ =>
            if ok=true then wpAny (model prog w) A (eval elt env) (fun x s₄ =>
              wpAny (model prog w) A (call (.builtin "list.append") [acc,x]) (fun _ s₅=>∃ m,m < n∧J m s₅) (fun _ _=>False) s₄) (fun _ _=>False) s₃
            else ∃ m,m < n∧J m s₃) (fun _ _=>False) s₂) (fun _ _=>False) s₁') (fun _ _=>False) s₁) (fun _ _=>False) s)
    (n:Nat) (h:J n s) :
    codeAny (model prog w) A (.compLoop (.ListComp elt [⟨target,iter,ifs,0⟩] scope pos) 0 it acc env) R s:=by
  refine codeAny_loop rfl J (fun n s hI=>?_) n h;show wpAny _ A ((compTurn (.ListComp elt [⟨target,iter,ifs,0⟩] scope pos) 0 it acc env).onRaise (fun x=>do noteFrame x env;theTreesLotGoes x)) _ _ s;refine wpAny_noted ?_;rw [compTurn_list];refine wpAny_bind (wpAny_standAt (wpAny_bind (wpAny_mono (turn n s hI) (fun r s₁ h₁=>?_) fun _ _ h'=>h'.elim)));cases r with
  | none=>exact wpAny_pure h₁
  | some v =>
    refine wpAny_bind (wpAny_mono h₁ (fun _ s₁' h₁'=>?_) fun _ _ h'=>h'.elim);refine wpAny_bind (wpAny_mono h₁' (fun _ s₂ h₂=>wpAny_bind (wpAny_mono h₂ (fun ok s₃ h₃=>?_) fun _ _ h'=>h'.elim)) fun _ _ h'=>h'.elim);cases ok with
    | false=>exact wpAny_pure ⟨rfl,h₃⟩
    | true =>
      exact wpAny_bind (wpAny_bind (wpAny_mono h₃ (fun x s₄ h₄=>wpAny_bind (wpAny_mono h₄ (fun _ s₅ h₅=>wpAny_pure (wpAny_pure ⟨rfl,h₅⟩)) fun _ _ h'=>h'.elim)) fun _ _ h'=>h'.elim))
abbrev uJ (cap:List (Option Nat)) (g:TG) (tt:TT) (te:TE) (σ:St) (Q:VK) (J:It) (H1:Hp):Prop:=∃ W:Nat→Nat→List V→Hp→Prop,(∃ m,W 0 m [] H1)∧∀ i m ys H,W i m ys H →
  (J.stop i H∧∀ p,H p=none→Q (.ref p) (upd H p (.lst ys))) ∨
  (J.go i H∧ys.length < sizeLine∧∀ x H',J.yld i H x H'→g x (bO cap σ) H' fun σ2 H2=>tt σ2 H2 fun b H3=>if b=true then te σ2 H3 fun v H4=>∃ m',m' < m∧W (i+1) m' (ys++[v]) H4 else ∃ m',m' < m∧W (i+1) m' ys H3)
def tLc (cap:List (Option Nat)) (wi:TI) (g:TG) (tt:TT) (te:TE):TE:=fun σ H Q=>wi σ H (uJ cap g tt te σ Q)
section
variable {X:Cx}
theorem dU {elt tg iter:Expr} {ifs:List Expr} {scope:Scope} {pos:Pos} {cl:List (Str × Addr)} {NY:List Str} {cap:List (Option Nat)} {wi:TI} {g:TG} {tt:TT} {te:TE} (hc:X.calm=true) (hi:PI X tg iter wi)
    (hclos:closureFor scope X.env=pure cl) (hci:CellsIn X.env cl) (hcap:CapOk X.env (relabel scope X.env) X.N NY cap)
    (hb:∀ fp s H C,PG (az X scope cl NY fp s H C) tg g∧rG (az X scope cl NY fp s H C) ifs tt∧PE (az X scope cl NY fp s H C) elt te)
    (hkind:scope.kind=.function:=by rfl) (hnc:(scope.names.all fun y=>y.2 != .cell)=true:=by rfl)
    (hnames:(scope.names.all fun y=>y.2 != .local || scope.names.lookup y.1 == some .local)=true:=by rfl)
    (hhas:((relabel scope X.env).names.all fun p=>(p.2 != .cell && p.2 != .free) || (cl.lookup p.1).isSome)=true:=by rfl)
    (hs:∀ x,foldedSetIterable iter X.env x=pure x:=by intro _;rfl) :
    PE X (.ListComp elt [⟨tg,iter,ifs,0⟩] scope pos) (tLc cap wi g tt te):=by
  have hnc':∀ y∈scope.names,y.2≠.cell:=fun y hy=>by
    have q:=aa2.mp hnc y hy;simpa using q
  have hnames':∀ y∈scope.names,y.2=.local→scope.names.lookup y.1=some .local:=fun y hy e=>by
    have q:=aa2.mp hnames y hy;rw [e] at q;simpa using q
  intro pins s σ H Q I h;rw [eval_ListComp];refine wpAny_comprehension_free (use:=none) rfl hs hclos hkind hnames' (wpAny_mono (hi pins s σ H _ I h) (fun v s1 h1=>wpAny_mono h1 (fun itv s2 h2=>?_) fun _ _ e=>e) fun _ _ e=>e);obtain ⟨it,fp,tn,J,H2,e,I2,T,st2,f2,W,⟨m0,w0⟩,turn⟩:=h2;subst e;refine wpAny_newObj_type (wpAny_newFunctionEnv hnc' (by intro y hy;simp at hy) (fun h₁ hns₁ hsb₁=>?_) hkind);dsimp only at hns₁ hsb₁ ⊢;generalize hH2:s2.heap.push { cls:=.type "list",dict:=none,data:=.seq ([]:List Value).toArray }=G2 at hns₁ hsb₁ ⊢;have hC:G2.objs.size=s2.heap.objs.size+1:=by rw [← hH2,Heap.size_push]
  have hDC:s2.heap.objs.size≠G2.objs.size:=by rw [hC];exact aaq (acy _)
  have hDlt:s2.heap.objs.size≤G2.objs.size:=by rw [hC];exact abR _
  have below:∀ b,b < s2.heap.objs.size→b≠G2.objs.size∧b≠s2.heap.objs.size:=fun b hb=>⟨by rw [hC];exact aaq (abx hb),aaq hb⟩
  have old:∀ b o,s2.heap.get? b=some o→h₁.get? b=some o:=fun b o e=>hsb₁.extBut b o (below b (aak e)).1 (aal _ (hH2 ▸ aal _ e));have hacc:h₁.get? s2.heap.objs.size=some { cls:=.type "list",data:=.seq ([]:List Value).toArray 0 }:=hsb₁.extBut _ _ hDC (aal _ (hH2 ▸ aaF _ rfl));have fpl:∀ b∈fp,b < s2.heap.objs.size:=fun b hb=>by
    obtain ⟨o,e,_⟩:=T.obj _ _ st2 b hb;exact aak e
  have freshD:H2 s2.heap.objs.size=none:=I2.hok.fresh (aab _);have freshC:H2 G2.objs.size=none:=I2.hok.fresh hDlt;have cellLt:∀ x c,X.env.cells.lookup x=some c→c < s2.heap.objs.size:=fun x c e=>by
    obtain ⟨v,q⟩:=I2.cell x c e;exact q.lt
  have hclX:∀ x c,cl.lookup x=some c→X.env.cells.lookup x=some c:=fun x c e=>hci.get e;obtain ⟨hbg,hbt,hbe⟩:=hb fp s2 H2 G2.objs.size;have okY:(az X scope cl NY fp s2 H2 G2.objs.size).Ok:=by
    refine ⟨I2.ok.mod,hkind,I2.ok.glob,I2.ok.blt,hDlt,fun x y c e1 e2=>I2.ok.inj x y c (hclX x c e1) (hclX y c e2),fun x hx=>?_,fun x c hf _=>?_,I2.ok.hd,I2.ok.frames,.inl rfl,fun b hb=>⟨(below b (fpl b hb)).1,fun x c e z=>?_⟩,I2.bs,
      aaY I2.ok.bsz I2.sz,fun b o e hb=>?_,fun b hb hz=>?_,I2.stack,I2.stkFree⟩
    · have hx':(relabel scope X.env).names.lookup x=some .cell∨(relabel scope X.env).names.lookup x=some .free:=hx;have key:∀ k,(relabel scope X.env).names.lookup x=some k→(k=.cell∨k=.free)→∃ c,cl.lookup x=some c:=fun k e hk=>by
        have q:=aa2.mp hhas (x,k) (aa8 e);have q':(cl.lookup x).isSome=true:=by
          rcases hk with rfl|rfl <;> simpa using q
        exact acd.mp q'
      rcases hx' with e|e
      · exact key _ e (.inl rfl)
      · exact key _ e (.inr rfl)
    · exact absurd (show false=true from hf) aan
    · exact (f2 b hb).2.2.2.2.1 x c (hclX x c e) z
    · rcases (f2 b hb).2.2.2.1 with z|z
      · exact I2.ok.noex b o e z
      · exact absurd (aay (aak (I2.ok.bs b o e).1) z) (aa7 _)
    · rcases aam.mp (I2.stkSub b hz) with z|z
      · exact (f2 b hb).2.1 z
      · exact (f2 b hb).2.2.1 z
  have fpYs:∀ {H':Hp} {n:Nat} {its:List Value},(∀ b∈fp,H' b=none)→∀ b∈fp,kl (az X scope cl NY fp s2 H2 G2.objs.size) [(s2.heap.objs.size,{ cls:=.type "list",data:=.seq its.toArray n })] H' b:=fun {H' n its} hn b hb=>by
    refine ⟨hn b hb,(below b (fpl b hb)).1,fun hz=>?_,.inl hb,fun x c e=>(f2 b hb).2.2.2.2.1 x c (hclX x c e),fun p hp=>?_⟩
    · rcases aam.mp (I2.stkSub b hz) with z|z
      · exact (f2 b hb).2.1 z
      · exact (f2 b hb).2.2.1 z
    · have e:p=(s2.heap.objs.size,{ cls:=.type "list",data:=.seq its.toArray n }):=by simpa [az] using hp
      rw [e];exact abc (below b (fpl b hb)).2
  have nostk:∀ b,s2.heap.objs.size≤b→b∉frs X.stack:=fun b hb hz=>by
    rcases aam.mp (I2.stkSub b hz) with z|z
    · have:=I2.lt;rw [← z] at this;exact absurd (aay this hb) (aa7 _)
    · exact I2.nofs hb z
  have IY0:Inv (az X scope cl NY fp s2 H2 G2.objs.size) [(s2.heap.objs.size,{ cls:=.type "list",data:=.seq ([]:List Value).toArray 0 })] (bO cap σ) H2 { s2 with heap:=h₁,toks:=s2.toks+([]:List (Str × Value)).length }:=by
    refine ⟨okY,rfl,I2.bare,Un.kept old,⟨_,hns₁,fun j x v e1 e2 e3=>?_⟩,fun x c e=>?_,freshC,fun x c e=>I2.freeC x c (hclX x c e),fun p hp=>?_,I2.hok.kept old,?_⟩
    · obtain ⟨i,h1,h2,h3,h4⟩:=CapOk.get (σ:=σ) hcap e1 e2;obtain ⟨m,hn,hl⟩:=I2.loc;have vis:Vis X.env.scope x:=by rcases h3 with z|z;exact .inr (.inl z);exact .inr (.inr z)
      obtain ⟨u,r,l⟩:=hl i x v h1 h2 vis;refine ⟨u,r,.inr ⟨h4,?_⟩⟩;rcases l with ⟨k,_⟩|⟨_,c,e,z⟩
      · rcases h3 with z|z <;> (rw [k] at z;cases z)
      · obtain ⟨c',e'⟩:=okY.has x h4;have e':cl.lookup x=some c':=e';have e'':=hclX x c' e';rw [e] at e'';cases e'';obtain ⟨o,ho,hd⟩:=z;exact ⟨c,e',o,old _ _ ho,hd⟩
    · obtain ⟨v,o,ho,hd⟩:=I2.cell x c (hclX x c e);exact ⟨v,o,old _ _ ho,hd⟩
    · have e:p=(s2.heap.objs.size,{ cls:=.type "list",data:=.seq ([]:List Value).toArray 0 }):=by simpa [az] using hp
      rw [e];exact ⟨hacc,freshD,hDC,nostk _ (aab _),fun v z=>by cases z⟩
    · show (bO cap σ).length=NY.length;unfold bO;rw [aac];exact hcap.len
  have hcY:(az X scope cl NY fp s2 H2 G2.objs.size).calm=true:=hc;have stW:tn 0 h₁:=T.keep _ _ _ st2 fun b _ o e=>old b o e;have loop:∀ s₃:Shared,s₃={ s2 with heap:=h₁,toks:=s2.toks+([]:List (Str × Value)).length } →
      codeAny (model X.prog X.w) X.A (.compLoop (.ListComp elt [⟨tg,iter,ifs,0⟩] scope pos) 0 (.ref it) (.ref s2.heap.objs.size) (compEnvC scope cl G2.objs.size X.env))
        (compPost (model X.prog X.w) X.A X.xe none (EP X pins σ Q) (.ref s2.heap.objs.size) G2.objs.size) s₃:=by
    rintro s₃ rfl;refine jv (fun n s'=>∃ i ys its k H',Inv (az X scope cl NY fp s2 H2 G2.objs.size) [(s2.heap.objs.size,{ cls:=.type "list",data:=.seq its.toArray k })] (bO cap σ) H' s'∧Vals ys its∧ys.length≤sizeLine∧tn i s'.heap∧(∀ b∈fp,H' b=none)∧W i n ys H') ?_ m0
      ⟨0,[],[],0,H2,IY0,.nil,aaT _,stW,fun b hb=>(f2 b hb).1,w0⟩
    rintro n s3 ⟨i,ys,its,k,H3,I3,rv,hz,st3,fr3,w3⟩;rcases turn i n ys H3 w3 with ⟨stop,qn⟩|⟨go,hlt,step⟩
    · refine wpAny_mono (T.done (az X scope cl NY fp s2 H2 G2.objs.size) rfl rfl rfl hcY i _ s3 _ H3 (fun _ _=>False) I3 (fpYs fr3) st3 stop) (fun r s4 ⟨hr,I4⟩=>?_) fun _ _ z=>z;subst hr;obtain ⟨m,hnC,_⟩:=id I4.loc;have hnC:s4.heap.Ns G2.objs.size m:=hnC;refine ⟨m,hnC,fun h' hsb=>?_⟩;have pD:=(I4.pin (s2.heap.objs.size,{ cls:=.type "list",data:=.seq its.toArray k }) (by simp [az]))
      have un:Un (frs X.stack) fp H2 H3 s2.heap s4.heap:=I4.base;have I5:Inv X pins σ H3 s4:=I2.call' (ch:=fp) I4.os un I4.hok I4.bare fun b hb=>⟨(f2 b hb).2.2.2.1,(f2 b hb).2.1,(f2 b hb).2.2.2.2.1,(f2 b hb).2.2.2.2.2⟩
      have cC:H3 G2.objs.size=none:=I4.free;have szX:X.s₀.heap.objs.size≤s2.heap.objs.size:=I2.sz;have I6:Inv X pins σ H3 { s4 with heap:=h' }:=I5.turned (t':=s4.toks) (it:=G2.objs.size) (fun b o hb e=>hsb.extBut b o hb e) cC (abX (aay I2.lt hDlt)) (.inr (aaY szX hDlt))
        (fun x c e z=>absurd (cellLt x c e) (by rw [z];exact Nat.not_lt.mpr hDlt)) (fun p hp z=>absurd (aak (I2.pin p hp).1) (by rw [z];exact Nat.not_lt.mpr hDlt))
      have I7:Inv X pins σ (upd H3 s2.heap.objs.size (.lst ys)) { s4 with heap:=h' }:=I6.adopt pD.2.1 szX (abX I2.lt) (fun x c e=>aaq (cellLt x c e)) (fun p hp=>aaq (aak (I2.pin p hp).1))
        ⟨hz,its,k,rv,hsb.extBut _ _ hDC pD.1⟩
      exact ⟨.ref s2.heap.objs.size,_,I7,rfl,qn _ pD.2.1⟩
    · refine wpAny_mono (T.item (az X scope cl NY fp s2 H2 G2.objs.size) rfl rfl rfl hcY i _ s3 _ H3 (fun _ _=>False) I3 (fpYs fr3) st3 go) (fun r s4 ⟨u,hr,h4⟩=>?_) fun _ _ z=>z;subst hr;refine wpAny_mono h4 (fun _ s5 ⟨x,H5,I5,r5,y5,st5,fr5⟩=>?_) fun _ _ z=>z;have I5':=I5.pinned (fpYs fr5) (T.obj _ _ st5);refine wpAny_mono (hbg _ s5 _ H5 x u _ I5' r5 (step x H5 y5)) (fun _ s6 ⟨σ6,H6,I6,q6⟩=>?_) fun _ _ z=>z;refine wpAny_mono (hbt _ s6 σ6 H6 _ I6 q6) (fun ok s7 ⟨H7,I7,q7⟩=>?_) fun _ _ z=>z;have lenY:∀ {σ':St} {pn} {H'} {s'},Inv (az X scope cl NY fp s2 H2 G2.objs.size) pn σ' H' s'→(bO cap σ).length=σ'.length:=fun {σ' pn H' s'} Z=>IY0.len.trans Z.len.symm;have captured:∀ {σ':St} {pn} {H'} {s'},Inv (az X scope cl NY fp s2 H2 G2.objs.size) pn σ' H' s'→Inv (az X scope cl NY fp s2 H2 G2.objs.size) pn (bO cap σ) H' s':=fun {σ' pn H' s'} Z=>by
        refine ⟨Z.ok,Z.os,Z.bare,Z.base,?_,Z.cell,Z.free,Z.freeC,Z.pin,Z.hok,IY0.len⟩;obtain ⟨m,hn,_⟩:=Z.loc;refine ⟨m,hn,fun j x v e1 e2 e3=>?_⟩;obtain ⟨i',h1,h2,h3,h4⟩:=CapOk.get (σ:=σ) hcap e1 e2;obtain ⟨m',hn',hl⟩:=I2.loc;have vis:Vis X.env.scope x:=by rcases h3 with z|z;exact .inr (.inl z);exact .inr (.inr z)
        obtain ⟨u,r,l⟩:=hl i' x v h1 h2 vis;refine ⟨u,r,.inr ⟨h4,?_⟩⟩;rcases l with ⟨kk,_⟩|⟨_,c,e,z⟩
        · rcases h3 with z|z <;> (rw [kk] at z;cases z)
        · obtain ⟨c',e'⟩:=okY.has x h4;have e':cl.lookup x=some c':=e';have e'':=hclX x c' e';rw [e] at e'';cases e'';obtain ⟨o,ho,hd⟩:=z;have nfp:c∉fp:=fun hz=>(f2 c hz).2.2.2.2.1 x c e rfl;obtain ⟨sl,q⟩:=Z.base.any (show s2.heap.get? c=some o from ho) (I2.freeC x c e) nfp;exact ⟨c,e',_,q,hd⟩
      have again:∀ {ys':List V} {its':List Value} {k':Nat} {σ':St} {H':Hp} {s':Shared},Inv (az X scope cl NY fp s2 H2 G2.objs.size) ([(s2.heap.objs.size,{ cls:=.type "list",data:=.seq its'.toArray k' })]++bZ fp s5.heap) σ' H' s'→Vals ys' its'→ys'.length≤sizeLine →
          (∃ m',m' < n∧W (i+1) m' ys' H')→∃ m,m < n∧∃ i ys its k H',Inv (az X scope cl NY fp s2 H2 G2.objs.size) [(s2.heap.objs.size,{ cls:=.type "list",data:=.seq its.toArray k })] (bO cap σ) H' s'∧Vals ys its∧ys.length≤sizeLine∧tn i s'.heap∧(∀ b∈fp,H' b=none)∧W i m ys H':=fun {ys' its' k' σ' H' s'} Z rv' hz' hw=>by
        obtain ⟨m',hm,w'⟩:=hw;refine ⟨m',hm,i+1,ys',its',k',H',captured Z.unpinned,rv',hz',T.keep _ _ _ st5 fun b hb o e=>(Z.pin (b,o) (aae _ (aae _ (cz hb e)))).1,fun b hb=>?_,w'⟩;obtain ⟨o,e,d⟩:=T.obj _ _ st5 b hb;exact (Z.pin (b,o) (aae _ (aae _ (cz hb e)))).2.1
      cases ok with
      | false =>
        rw [if_neg aan] at q7 ⊢;exact again I7 rv hz q7
      | true =>
        rw [if_pos rfl] at q7 ⊢;refine wpAny_mono (hbe _ s7 σ6 H7 _ I7 q7) (fun xv s8 ⟨v,H8,I8,r8,q8⟩=>?_) fun _ _ z=>z;have pD:=I8.pin (s2.heap.objs.size,{ cls:=.type "list",data:=.seq its.toArray k }) (by simp [az]);have hlen:=rv.length;refine append_at pD.1 (fun h9 hs9 hD9=>?_) (by rw [aai];lia);have I9:Inv (az X scope cl NY fp s2 H2 G2.objs.size) (bZ fp s5.heap) σ6 H8 s8:=I8.pins_of fun p hp=>I8.pin p (aae _ (aae _ hp));have I10:Inv (az X scope cl NY fp s2 H2 G2.objs.size) (bZ fp s5.heap) σ6 H8 { s8 with heap:=h9 }:=I9.turned (t':=s8.toks) (it:=s2.heap.objs.size) (fun b o hb e=>hs9.extBut b o hb e) pD.2.1 hDC (.inr (aab _))
          (fun x c e=>aaq (cellLt x c (hclX x c e))) fun p hp=>by
            have hp':p∈bZ fp s5.heap:=by simpa [az] using hp
            exact abc (abc (below _ (fpl _ (gF hp').1)).2)
        have I11:Inv (az X scope cl NY fp s2 H2 G2.objs.size) ([(s2.heap.objs.size,{ cls:=.type "list",data:=.seq (its++[xv]).toArray (k+1) })]++bZ fp s5.heap) σ6 H8 { s8 with heap:=h9 }:=I10.pins_of fun p hp=>by
          rcases aaz.mp hp with z|z
          · have e:p=(s2.heap.objs.size,{ cls:=.type "list",data:=.seq (its++[xv]).toArray (k+1) }):=by simpa using z
            rw [e];refine ⟨?_,pD.2.1,hDC,nostk _ (aab _),fun v z=>by cases z⟩;rw [List.push_toArray] at hD9;exact hD9
          · exact I10.pin p (aae _ z)
        exact again I11 (rv.append (.cons r8 .nil)) (by rw [aah,abo];exact hlt) q8
  exact codeAny_compStart_list (loop _ rfl) (T.self _ 0 _ _ _ stW (loop _ rfl))
end
open PySem PySem.Spec PyProof.Rows
section
variable {X:Cx}
theorem aG {n:String}:cf X (.builtin "isinstance") (fun xs H Q=>∃ x t b,xs=[x,.ty n]∧TyOf X.K H x t∧aaC X.K t (.type n)=some b∧Q (.bl b) H):=by
  intro pins s σ H xs us Q I r h;obtain ⟨x,t,b,rfl,ty,e,q⟩:=h;obtain ⟨u,w',rfl,rx,rt⟩:=hZ r;cases rt;exact oQ I rx ty e fun tk=>⟨.bl b,H,I.tok _,rfl,q⟩
theorem iz:OpR X (binaryOp .FloorDiv) (rI (fun _ j=>0 < j∧j < 2 ^ 64) fun i j=>.int (i / j)):=opI fun i j _ _ _ _ _ hc q=>by
  have h1:(0:Int) < j:=hc.1;have h2:j < 2 ^ 64:=hc.2;refine floordiv_int (by lia) (by rw [Int.fdiv_eq_ediv_of_nonneg i (by lia)];exact q) (.inl (PyProof.noPylong_of_log2 ?_));have h3:j.natAbs < 2 ^ 64:=by lia
  have h4:j.natAbs≠0:=by lia
  have h5:j.natAbs.log2 < 64:=(Nat.log2_lt h4).mpr h3;lia
def Cal (P:Program) (w:World) (K:aaa) (mg:Str→Option Value) (base:Heap) (x:Str) (k:Nat) (ps:List Str) (sp:Sp):Prop :=
  ∃ f fd,FnOk P w K mg base CX0 k f fd ps sp∧Binds K fd ps []∧abe K (.ref f)=true∧mg x=some (.ref f)
theorem ak {x:Str} {k k':Nat} {ps:List Str} {sp:Sp} {e:Expr} {es:List Expr} {t:TA} {p pos:Pos} (C:Cal X.prog X.w X.K X.mg X.base x k ps sp) (hr:Room k' X.A) (hk:k≤k') (hg:Gl X x) (ha:PA X (e :: es) t)
    (hdb:(x == ("__debug__":Str))=false:=by decide) (he:starEach (e :: es) X.env=(false,eval e X.env) :: starEach es X.env:=by rfl) (hpl:(backTo pos (starEach es X.env)).any (·.1)=false:=by rfl) :
    PE X (.Call (.Name x p) (e :: es) [] pos) (pG sp [] E0 t):=by
  obtain ⟨f,fd,F,b,kp,m⟩:=C;exact nu F (hr.mono hk) hg m kp b .nil u7 ha hdb he hpl
end
theorem Same.new {H:Hp} {p:Addr} (h:H p=none) (o:HO):Same H (upd H p o):=fun b u q=>by rw [aq (ao q h)];exact q
def But (w:Addr) (H H':Hp):Prop:=∀ b o,b≠w→H b=some o→H' b=some o
theorem But.refl {w:Addr} {H:Hp}:But w H H:=fun _ _ _ h=>h
theorem But.trans {w:Addr} {H H1 H2:Hp} (a:But w H H1) (b:But w H1 H2):But w H H2:=fun c o n h=>b c o n (a c o n h)
theorem But.of {w:Addr} {H H':Hp} (a:Same H H'):But w H H':=fun c o _ h=>a c o h
theorem But.new {w:Addr} {H:Hp} {p:Addr} (h:H p=none) (o:HO):But w H (upd H p o):=But.of (Same.new h o)
theorem But.put {w:Addr} {H:Hp} {o:HO}:But w H (upd H w o):=fun b u n q=>by rw [aq n];exact q
end L2
namespace Srt
open PySem PySem.W PyProof.Rows
def run {α:Type} (lt:Nat→Nat→Bool):KasT α→α
  | .ret a=>a
  | .ask i j k=>run lt (k (lt i j))
theorem dw {α β:Type} (lt:Nat→Nat→Bool) (f:α→KasT β):∀ t:KasT α,run lt (t.bind f)=run lt (f (run lt t))
  | .ret _=>rfl
  | .ask i j k=>dw lt f (k (lt i j))
section
variable (key:Nat→Int)
abbrev lt:Nat→Nat→Bool:=fun i j=>decide (key i < key j)
def kp (p:Array Nat) (x:Nat):Int:=key (p.getD x 0)
def Up (p:Array Nat) (m:Nat):Prop:=∀ i j,i < j→j < m→kp key p i < kp key p j
def sQ (p:Array Nat) (m:Nat):Prop:=∀ i j,i < j→j < m→kp key p j < kp key p i
def gW (p:Array Nat) (n:Nat):Prop:=∀ i j,i < n→j < n→kp key p i=kp key p j→i=j
variable {key}
theorem mP (p:Array Nat):∀ (f n:Nat),1≤n→gW key p (n+f)→Up key p n →
    n≤run (lt key) (kas_asc p f n)∧run (lt key) (kas_asc p f n)≤n+f∧Up key p (run (lt key) (kas_asc p f n))∧(run (lt key) (kas_asc p f n) < n+f→kp key p (run (lt key) (kas_asc p f n)) < kp key p (run (lt key) (kas_asc p f n) - 1))
  | 0,n,h1,ap,up=>⟨aab _,aab _,up,fun h=>absurd h (aa7 _)⟩
  | f+1,n,h1,ap,up=>by
    show _≤run (lt key) (if lt key (p.getD n 0) (p.getD (n - 1) 0)=true then KasT.ret n else kas_asc p f (n+1))∧_;by_cases c:lt key (p.getD n 0) (p.getD (n - 1) 0)=true
    · have e:run (lt key) (kas_asc p (f+1) n)=n:=by
        show run (lt key) (if lt key (p.getD n 0) (p.getD (n - 1) 0)=true then KasT.ret n else kas_asc p f (n+1))=n;rw [if_pos c];rfl
      rw [if_pos c];show n≤n∧run (lt key) (kas_asc p (f+1) n)≤_∧Up key p (run (lt key) (kas_asc p (f+1) n))∧_;rw [e];exact ⟨aab _,by lia,up,fun _=>of_decide_eq_true c⟩
    · have e:run (lt key) (kas_asc p (f+1) n)=run (lt key) (kas_asc p f (n+1)):=by
        show run (lt key) (if lt key (p.getD n 0) (p.getD (n - 1) 0)=true then KasT.ret n else kas_asc p f (n+1))=_;rw [if_neg c]
      have c':¬ kp key p n < kp key p (n - 1):=fun z=>c (decide_eq_true z);have ne:kp key p n≠kp key p (n - 1):=fun z=>by
        have:=ap n (n - 1) (by lia) (by lia) z;lia
      have up':Up key p (n+1):=fun i j hij hj=>by
        by_cases hjn:j < n
        · exact up i j hij hjn
        · have : j=n:=by lia
          subst this;by_cases hi:i=j - 1
          · subst hi;lia
          · have:=up i (j - 1) (by lia) (by lia);lia
      have ih:=mP p f (n+1) (by lia) (by rw [show n+1+f=n+(f+1) by lia];exact ap) up';rw [if_neg c];show n≤_∧run (lt key) (kas_asc p (f+1) n)≤_∧Up key p (run (lt key) (kas_asc p (f+1) n))∧_;rw [e];refine ⟨by lia,by lia,ih.2.2.1,fun h=>ih.2.2.2 (by lia)⟩
theorem nO (p:Array Nat):∀ (f n:Nat),2≤n→gW key p (n+f)→sQ key p n →
    ∃ m,run (lt key) (kas_desc f p n 0)=(p,m,0)∧n≤m∧m≤n+f∧sQ key p m
  | 0,n,h1,ap,dn=>⟨n,rfl,aab _,aab _,dn⟩
  | f+1,n,h1,ap,dn=>by
    by_cases c:lt key (p.getD n 0) (p.getD (n - 1) 0)=true
    · have e:run (lt key) (kas_desc (f+1) p n 0)=run (lt key) (kas_desc f p (n+1) 0):=by
        show run (lt key) (if lt key (p.getD n 0) (p.getD (n - 1) 0)=true then (if 0 > 0 then _ else kas_desc f p (n+1) 0) else _)=_;rw [if_pos c,if_neg (by decide)]
      have c':kp key p n < kp key p (n - 1):=of_decide_eq_true c;have dn':sQ key p (n+1):=fun i j hij hj=>by
        by_cases hjn:j < n
        · exact dn i j hij hjn
        · have : j=n:=by lia
          subst this;by_cases hi:i=j - 1
          · subst hi;exact c'
          · have:=dn i (j - 1) (by lia) (by lia);lia
      obtain ⟨m,e1,h2,h3,h4⟩:=nO p f (n+1) (by lia) (by rw [show n+1+f=n+(f+1) by lia];exact ap) dn';exact ⟨m,e.trans e1,by lia,by lia,h4⟩
    · have c':¬ kp key p n < kp key p (n - 1):=fun z=>c (decide_eq_true z);have ne:kp key p n≠kp key p (n - 1):=fun z=>by
        have:=ap n (n - 1) (by lia) (by lia) z;lia
      have d:lt key (p.getD (n - 1) 0) (p.getD n 0)=true:=decide_eq_true (show kp key p (n - 1) < kp key p n by lia);refine ⟨n,?_,aab _,by lia,dn⟩;show run (lt key) (if lt key (p.getD n 0) (p.getD (n - 1) 0)=true then _ else KasT.ask (p.getD (n - 1) 0) (p.getD n 0) fun d=>if d=true then KasT.ret (p,n,0) else kas_desc f p (n+1) (0+1))=_;rw [if_neg c];show run (lt key) (if lt key (p.getD (n - 1) 0) (p.getD n 0)=true then KasT.ret (p,n,0) else kas_desc f p (n+1) (0+1))=_;rw [if_pos d];rfl
theorem jX {p:Array Nat} {n x:Nat} (hn:n≤p.size):kp key (kas_rev p 0 n) x=if x < n then kp key p (n - 1 - x) else kp key p x:=by
  have e:=getElem?_mirror_all (i:=0) hn x;have g:∀ (a b:Array Nat) (i j:Nat),a[i]?=b[j]?→a.getD i 0=b.getD j 0:=fun a b i j h=>by
    rw [aaA,aaA,h]
  by_cases h:x < n
  · rw [if_pos h];rw [if_pos ⟨aaT _,h⟩] at e;unfold kp kas_rev;rw [g _ _ _ _ e,show 0+n - 1 - x=n - 1 - x by lia]
  · rw [if_neg h];rw [if_neg (fun z=>h z.2)] at e;unfold kp kas_rev;rw [g _ _ _ _ e]
theorem rj {p:Array Nat} {n:Nat} (h1:1≤n) (hs:p.size=n) (ap:gW key p n) :
    ∃ m p',run (lt key) (kas_count n p)=(m,p')∧1≤m∧m≤n∧p'.Perm p∧Up key p' m:=by
  have a:=mP (key:=key) p (n - 1) 1 (aab _) (by rw [show 1+(n - 1)=n by lia];exact ap) (fun i j hij hj=>by lia);have e:run (lt key) (kas_count n p)=run (lt key) (if (run (lt key) (kas_asc p (n - 1) 1) == n)=true then KasT.ret (run (lt key) (kas_asc p (n - 1) 1),p) else if run (lt key) (kas_asc p (n - 1) 1) > 1 then
      KasT.ask (p.getD 0 0) (p.getD (run (lt key) (kas_asc p (n - 1) 1) - 1) 0) fun c=>if c=true then KasT.ret (run (lt key) (kas_asc p (n - 1) 1),p) else kas_descPart (run (lt key) (kas_asc p (n - 1) 1)) n (kas_rev p 0 (run (lt key) (kas_asc p (n - 1) 1)))
      else kas_descPart (run (lt key) (kas_asc p (n - 1) 1)) n p):=dw _ _ _
  rw [e];generalize run (lt key) (kas_asc p (n - 1) 1)=r at a;obtain ⟨a1,a2,a3,a4⟩:=a;by_cases c1:(r == n)=true
  · rw [if_pos c1];have : r=n:=eq_of_beq c1;exact ⟨r,p,rfl,a1,by lia,Array.Perm.refl _,a3⟩
  rw [if_neg c1];have rn:r≠n:=fun z=>c1 (by rw [z];exact beq_self_eq_true n);by_cases c2:r > 1
  · rw [if_pos c2];have d:lt key (p.getD 0 0) (p.getD (r - 1) 0)=true:=decide_eq_true (show kp key p 0 < kp key p (r - 1) from a3 0 (r - 1) (by lia) (by lia));refine ⟨r,p,?_,a1,by lia,Array.Perm.refl _,a3⟩;show run (lt key) (if lt key (p.getD 0 0) (p.getD (r - 1) 0)=true then KasT.ret (r,p) else _)=_;rw [if_pos d];rfl
  · rw [if_neg c2];have r1:r=1:=by lia
    subst r1;have d0:=a4 (by lia);have dn:sQ key p 2:=fun i j hij hj=>by
      have : i=0:=by lia
      have : j=1:=by lia
      subst i;subst j;exact d0
    obtain ⟨m,e1,h2,h3,h4⟩:=nO (key:=key) p (n - 2) 2 (aab _) (by rw [show 2+(n - 2)=n by lia];exact ap) dn;have hm:m≤p.size:=by lia
    have up:Up key (kas_rev p 0 m) m:=fun i j hij hj=>by
      rw [jX hm,jX hm,if_pos (by lia),if_pos hj];exact h4 _ _ (by lia) (by lia)
    have ap':gW key (kas_rev p 0 m) (m+(n - m)):=fun i j hi hj z=>by
      rw [jX hm,jX hm] at z;by_cases ci:i < m
      · rw [if_pos ci] at z;by_cases cj:j < m
        · rw [if_pos cj] at z;have:=ap _ _ (by lia) (by lia) z;lia
        · rw [if_neg cj] at z;have:=ap _ _ (by lia) (by lia) z;lia
      · rw [if_neg ci] at z;by_cases cj:j < m
        · rw [if_pos cj] at z;have:=ap _ _ (by lia) (by lia) z;lia
        · rw [if_neg cj] at z;exact ap _ _ (by lia) (by lia) z
    have b:=mP (key:=key) (kas_rev p 0 m) (n - m) m (by lia) ap' up;refine ⟨run (lt key) (kas_asc (kas_rev p 0 m) (n - m) m),kas_rev p 0 m,?_,by lia,by lia,mirror_perm _ _ _ _,b.2.2.1⟩;show run (lt key) ((kas_desc (n - (1+1)) p (1+1) 0).bind _)=_;rw [dw,e1];show run (lt key) (if 0 > 0 then _ else kas_tail3 m n p)=_;rw [if_neg (by decide)];show run (lt key) ((kas_asc (kas_rev p 0 m) (n - m) m).bind _)=_;rw [dw];rfl
theorem ip {p:Array Nat} {k:Nat} (up:Up key p k) (ap:∀ i,i < k→kp key p i≠kp key p k):∀ (f l r:Nat),l≤r→r≤k→r≤l+f→(∀ i,i < l→kp key p i < kp key p k)→(∀ i,r≤i→i < k→kp key p k < kp key p i) →
    run (lt key) (kas_place p k f l r)≤k∧(∀ i,i < run (lt key) (kas_place p k f l r)→kp key p i < kp key p k)∧(∀ i,run (lt key) (kas_place p k f l r)≤i→i < k→kp key p k < kp key p i)
  | 0,l,r,h1,h2,h3,h4,h5=>by
    have : l=r:=by lia
    subst this;exact ⟨h2,h4,h5⟩
  | f+1,l,r,h1,h2,h3,h4,h5=>by
    show run (lt key) (if l ≥ r then KasT.ret l else KasT.ask (p.getD k 0) (p.getD ((l+r) / 2) 0) fun c=>if c=true then kas_place p k f l ((l+r) / 2) else kas_place p k f ((l+r) / 2+1) r)≤k∧(∀ i,i < run (lt key) (kas_place p k (f+1) l r)→_)∧(∀ i,run (lt key) (kas_place p k (f+1) l r)≤i→_)
    by_cases c:l ≥ r
    · have : l=r:=by lia
      subst this;have e:run (lt key) (kas_place p k (f+1) l l)=l:=by
        show run (lt key) (if l ≥ l then KasT.ret l else _)=l;rw [if_pos c];rfl
      rw [if_pos c,e];exact ⟨h2,h4,h5⟩
    · have e:run (lt key) (kas_place p k (f+1) l r)=run (lt key) (if lt key (p.getD k 0) (p.getD ((l+r) / 2) 0)=true then kas_place p k f l ((l+r) / 2) else kas_place p k f ((l+r) / 2+1) r):=by
        show run (lt key) (if l ≥ r then KasT.ret l else KasT.ask (p.getD k 0) (p.getD ((l+r) / 2) 0) fun c=>if c=true then kas_place p k f l ((l+r) / 2) else kas_place p k f ((l+r) / 2+1) r)=_;rw [if_neg c];rfl
      have e':run (lt key) (if l ≥ r then KasT.ret l else KasT.ask (p.getD k 0) (p.getD ((l+r) / 2) 0) fun c=>if c=true then kas_place p k f l ((l+r) / 2) else kas_place p k f ((l+r) / 2+1) r)=run (lt key) (kas_place p k (f+1) l r):=rfl;rw [e',e];by_cases d:lt key (p.getD k 0) (p.getD ((l+r) / 2) 0)=true
      · rw [if_pos d];have d':kp key p k < kp key p ((l+r) / 2):=of_decide_eq_true d;refine ip up ap f l ((l+r) / 2) (by lia) (by lia) (by lia) h4 fun i hi hk=>?_;by_cases hi':i=(l+r) / 2
        · subst hi';exact d'
        · have:=up ((l+r) / 2) i (by lia) hk;lia
      · rw [if_neg d];have d':¬ kp key p k < kp key p ((l+r) / 2):=fun z=>d (decide_eq_true z);have ne:=ap ((l+r) / 2) (by lia);refine ip up ap f ((l+r) / 2+1) r (by lia) h2 (by lia) (fun i hi=>?_) h5;by_cases hi':i=(l+r) / 2
        · subst hi';lia
        · have:=up i ((l+r) / 2) (by lia) (by lia);lia
theorem oN {p:Array Nat} {k d x:Nat} (hk:k < p.size) (hd:d≤k):kp key (bubble p k d) x=if x=k - d then kp key p k else if k - d < x∧x≤k then kp key p (x - 1) else kp key p x:=by
  have e:=getElem?_bubble hk d hd x;have g:∀ (a b:Array Nat) (i j:Nat),a[i]?=b[j]?→a.getD i 0=b.getD j 0:=fun a b i j h=>by
    rw [aaA,aaA,h]
  unfold kp;by_cases h1:x=k - d
  · rw [if_pos h1] at e ⊢;rw [g _ _ _ _ e]
  · rw [if_neg h1] at e ⊢;by_cases h2:k - d < x∧x≤k
    · rw [if_pos h2] at e ⊢;rw [g _ _ _ _ e]
    · rw [if_neg h2] at e ⊢;rw [g _ _ _ _ e]
theorem rB {n:Nat}:∀ (f:Nat) (p:Array Nat) (k:Nat),p.size=n→k+f=n→gW key p n→Up key p k→(run (lt key) (kas_bin f p k)).Perm p∧Up key (run (lt key) (kas_bin f p k)) n
  | 0,p,k,hs,hk,ap,up=>⟨Array.Perm.refl _,by (have : k=n:=by lia);subst this;exact up⟩
  | f+1,p,k,hs,hk,ap,up=>by
    have e:run (lt key) (kas_bin (f+1) p k)=run (lt key) (kas_bin f (bubble p k (k - run (lt key) (kas_place p k k 0 k))) (k+1)):=dw _ _ _;have pl:=ip (key:=key) (p:=p) (k:=k) up (fun i hi z=>by have:=ap i k (by lia) (by lia) z;lia) k 0 k (aaT _) (aab _) (by lia) (fun i hi=>absurd hi (Nat.not_lt_zero _)) (fun i h1 h2=>by lia);rw [e];generalize run (lt key) (kas_place p k k 0 k)=l at pl;obtain ⟨l1,l2,l3⟩:=pl;have hkp:k < p.size:=by lia
    have kb:∀ x,kp key (bubble p k (k - l)) x=if x=l then kp key p k else if l < x∧x≤k then kp key p (x - 1) else kp key p x:=fun x=>by
      have:=oN (key:=key) (x:=x) hkp (Nat.sub_le k l);rw [show k - (k - l)=l by lia] at this;exact this
    have up':Up key (bubble p k (k - l)) (k+1):=fun i j hij hj=>by
      rw [kb i,kb j];by_cases i1:i=l
      · rw [if_pos i1,if_neg (by lia),if_pos ⟨by lia,by lia⟩];exact l3 _ (by lia) (by lia)
      · rw [if_neg i1];by_cases i2:l < i∧i≤k
        · rw [if_pos i2,if_neg (by lia),if_pos ⟨by lia,by lia⟩];exact up _ _ (by lia) (by lia)
        · rw [if_neg i2];by_cases j1:j=l
          · rw [if_pos j1];exact l2 _ (by lia)
          · rw [if_neg j1];by_cases j2:l < j∧j≤k
            · rw [if_pos j2];have a1:=l2 i (by lia);have a2:=l3 (j - 1) (by lia) (by lia);lia
            · rw [if_neg j2];exact up _ _ (by lia) (by lia)
    have ap':gW key (bubble p k (k - l)) n:=fun i j hi hj z=>by
      rw [kb i,kb j] at z;by_cases i1:i=l
      · rw [if_pos i1] at z;by_cases j1:j=l
        · lia
        · rw [if_neg j1] at z;by_cases j2:l < j∧j≤k
          · rw [if_pos j2] at z;have:=ap _ _ (by lia) (by lia) z;lia
          · rw [if_neg j2] at z;have:=ap _ _ (by lia) (by lia) z;lia
      · rw [if_neg i1] at z;by_cases i2:l < i∧i≤k
        · rw [if_pos i2] at z;by_cases j1:j=l
          · rw [if_pos j1] at z;have:=ap _ _ (by lia) (by lia) z;lia
          · rw [if_neg j1] at z;by_cases j2:l < j∧j≤k
            · rw [if_pos j2] at z;have:=ap _ _ (by lia) (by lia) z;lia
            · rw [if_neg j2] at z;have:=ap _ _ (by lia) (by lia) z;lia
        · rw [if_neg i2] at z;by_cases j1:j=l
          · rw [if_pos j1] at z;have:=ap _ _ (by lia) (by lia) z;lia
          · rw [if_neg j1] at z;by_cases j2:l < j∧j≤k
            · rw [if_pos j2] at z;have:=ap _ _ (by lia) (by lia) z;lia
            · rw [if_neg j2] at z;exact ap _ _ (by lia) (by lia) z
    have ih:=rB f (bubble p k (k - l)) (k+1) (by rw [bubble_size];exact hs) (by lia) ap' up';exact ⟨ih.1.trans (bubble_perm _ _ _),ih.2⟩
theorem sort_ok {n:Nat} (h1:1≤n) (inj:∀ i j,i < n→j < n→key i=key j→i=j) :
    (run (lt key) (kas_sort n)).Perm (acb (aaQ n))∧Up key (run (lt key) (kas_sort n)) n:=by
  have g:∀ i,i < n→(acb (aaQ n)).getD i 0=i:=fun i hi=>by
    rw [aaA];simp [hi]
  have ap:gW key (acb (aaQ n)) n:=fun i j hi hj z=>by
    unfold kp at z;rw [g i hi,g j hj] at z;exact inj i j hi hj z
  obtain ⟨m,p',e1,m1,m2,pp,up⟩:=rj (key:=key) h1 (by simp) ap;have e:run (lt key) (kas_sort n)=run (lt key) (if m < n then kas_bin (n - max m 1) p' (max m 1) else KasT.ret p'):=by
    show run (lt key) ((kas_count n (acb (aaQ n))).bind _)=_;rw [dw,e1]
  rw [e];by_cases c:m < n
  · rw [if_pos c,show max m 1=m by lia];have hsz:p'.size=n:=by rw [pp.size_eq];simp
    have ap':gW key p' n:=fun i j hi hj z=>by
      have gi:p'.getD i 0=p'[i]'(by lia):=by rw [aaA];simp [hsz,hi]
      have gj:p'.getD j 0=p'[j]'(by lia):=by rw [aaA];simp [hsz,hj]
      have mi:p'[i]'(by lia)∈acb (aaQ n):=pp.mem_iff.mp (Array.getElem_mem _);have mj:p'[j]'(by lia)∈acb (aaQ n):=pp.mem_iff.mp (Array.getElem_mem _);have li:p'[i]'(by lia) < n:=by simpa using mi
      have lj:p'[j]'(by lia) < n:=by simpa using mj
      unfold kp at z;rw [gi,gj] at z;have q:=inj _ _ li lj z;have nd:p'.toList.Nodup:=by
        have : (aaQ n).Nodup:=List.nodup_range;exact (pp.toList.nodup_iff).mpr (by simpa using this)
      have hi':i < p'.toList.length:=by simpa [hsz] using hi
      have hj':j < p'.toList.length:=by simpa [hsz] using hj
      exact (List.getElem_inj nd (h₀:=hi') (h₁:=hj')).mp (by simpa using q)
    have b:=rB (key:=key) (n:=n) (n - m) p' m hsz (by lia) ap' up;exact ⟨b.1.trans pp,b.2⟩
  · rw [if_neg c];have : m=n:=by lia
    subst this;exact ⟨pp,up⟩
end
end Srt
namespace Srt
open PySem PySem.W PyProof.Rows
def Safe {α:Type} (n:Nat):KasT α→(α→Prop)→Prop
  | .ret a,Q=>Q a
  | .ask i j k,Q=>i < n∧j < n∧∀ b,Safe n (k b) Q
theorem Safe.bind {α β:Type} {n:Nat} {f:α→KasT β} {Q:α→Prop} {R:β→Prop}:∀ {t:KasT α},Safe n t Q→(∀ a,Q a→Safe n (f a) R)→Safe n (t.bind f) R
  | .ret a,h,k=>k a h
  | .ask i j g,h,k=>⟨h.1,h.2.1,fun b=>Safe.bind (h.2.2 b) k⟩
theorem wp_safe {α:Type} {n:Nat} {cmp:Nat→Nat→(Bool→Shared→Prop)→Shared→Prop} {lt:Nat→Nat→Bool} {s:Shared} {R:α→Prop} (h:∀ i j (C:Bool→Shared→Prop),i < n→j < n→C (lt i j) s→cmp i j C s):∀ (t:KasT α) (Q:α→Shared→Prop),Safe n t R→Q (run lt t) s→t.kasWp cmp Q s
  | .ret _,_,_,q=>q
  | .ask i j k,Q,z,q=>h i j _ z.1 z.2.1 (wp_safe h (k (lt i j)) Q (z.2.2 _) q)
def Ent (n:Nat) (p:Array Nat):Prop:=∀ x,p.getD x 0 < n
theorem Ent.of_perm {n:Nat} {p q:Array Nat} (hn:0 < n) (h:q.Perm p) (e:Ent n p):Ent n q:=fun x=>by
  rw [aaA];by_cases hx:x < q.size
  · have m:q[x]∈p:=h.mem_iff.mp (Array.getElem_mem hx);obtain ⟨i,hi,ei⟩:=Array.mem_iff_getElem.mp m;have:=e i;rw [aaA] at this;simp only [Array.getElem?_eq_getElem hi,Option.getD_some] at this;simp only [Array.getElem?_eq_getElem hx,Option.getD_some];rw [← ei];exact this
  · simp [hx,hn]
theorem ij {n:Nat} {p:Array Nat} (e:Ent n p):∀ (f m:Nat),Safe n (kas_asc p f m) (fun _=>True)
  | 0,_=>trivial
  | f+1,m=>⟨e _,e _,fun b=>by
    cases b with
    | true=>exact trivial
    | false=>exact ij e f (m+1)⟩
theorem eM {n:Nat} (hn:0 < n):∀ (f:Nat) (p:Array Nat) (m q:Nat),Ent n p→Safe n (kas_desc f p m q) (fun r=>Ent n r.1)
  | 0,p,m,q,e=>e
  | f+1,p,m,q,e=>⟨e _,e _,fun b=>by
    cases b with
    | true =>
      show Safe n (if q > 0 then _ else _) _;split
      · exact eM hn f _ _ _ (Ent.of_perm hn (mirror_perm _ _ _ _) e)
      · exact eM hn f _ _ _ e
    | false=>exact ⟨e _,e _,fun d=>by
        cases d with
        | true=>exact e
        | false=>exact eM hn f _ _ _ e⟩⟩
theorem ii {n:Nat} (hn:0 < n) {p:Array Nat} (e:Ent n p) (a b:Nat):Safe n (kas_tail3 a b p) (fun r=>Ent n r.2) :=
  Safe.bind (ij (Ent.of_perm hn (mirror_perm _ _ _ _) e) _ _) fun _ _=>Ent.of_perm hn (mirror_perm _ _ _ _) e
theorem fc {n:Nat} (hn:0 < n) {p:Array Nat} (e:Ent n p) (a b:Nat):Safe n (kas_descPart a b p) (fun r=>Ent n r.2) :=
  Safe.bind (eM hn _ _ _ _ e) fun r er=>by
    show Safe n (if r.2.2 > 0 then _ else _) _;split
    · exact ii hn (Ent.of_perm hn (mirror_perm _ _ _ _) er) _ _
    · exact ii hn er _ _
theorem l_ {n:Nat} (hn:0 < n) {p:Array Nat} (e:Ent n p) (b:Nat):Safe n (kas_count b p) (fun r=>Ent n r.2) :=
  Safe.bind (ij e _ _) fun r _=>by
    show Safe n (if (r == b)=true then _ else _) _;split
    · exact e
    · split
      · exact ⟨e _,e _,fun c=>by
          cases c with
          | true=>exact e
          | false=>exact fc hn (Ent.of_perm hn (mirror_perm _ _ _ _) e) _ _⟩
      · exact fc hn e _ _
theorem fu {n:Nat} {p:Array Nat} (e:Ent n p) (k:Nat):∀ (f l r:Nat),Safe n (kas_place p k f l r) (fun _=>True)
  | 0,_,_=>trivial
  | f+1,l,r=>by
    show Safe n (if l ≥ r then _ else _) _;split
    · exact trivial
    · exact ⟨e _,e _,fun c=>by
        cases c with
        | true=>exact fu e k f _ _
        | false=>exact fu e k f _ _⟩
theorem kG {n:Nat} (hn:0 < n):∀ (f:Nat) (p:Array Nat) (k:Nat),Ent n p→Safe n (kas_bin f p k) (fun _=>True)
  | 0,_,_,_=>trivial
  | f+1,p,k,e=>Safe.bind (fu e k _ _ _) fun l _=>kG hn f _ _ (Ent.of_perm hn (bubble_perm _ _ _) e)
theorem safe_sort {n:Nat} (hn:0 < n):Safe n (kas_sort n) (fun _=>True):=by
  have e:Ent n (acb (aaQ n)):=fun x=>by
    rw [aaA];by_cases h:x < n
    · simp [h]
    · simp [h,hn]
  exact Safe.bind (l_ hn e n) fun r er=>by
    show Safe n (if r.1 < n then _ else _) _;split
    · exact kG hn _ _ _ er
    · exact trivial
section
variable {prog:Program} {w:World} {A:Around} {E:Value→Shared→Prop} {s:Shared}
theorem l0 {a:Addr} {vs:List Value} {n:Nat} {P:PySem.Fin→Shared→Prop} (hoL:s.heap.get? a=some (seqObj "list" vs.toArray n)) (h2:vs.length < 2)
    (h:P (.done (.ret .none)) { s with heap:=sortedHeap s.heap a vs ((pairsOf vs).map (·.2)) }):wpAny (model prog w) A (Builtin.«list.sort» ⟨[.ref a],[]⟩) P E s:=by
  have hz:vs.length≤sizeLine:=by rw [sizeLine_eq];lia
  have ha:a < s.heap.objs.size:=aak hoL;rw [list_sort_plain];refine wpAny_bind (listItems_at hoL rfl (wpAny_bind (listUpdate_at hoL rfl ?_ (by rw [aai];exact hz) (aaT _))));obtain ⟨e1,ho1⟩:∃ e1,(s.heap.update a (aa9 fun _=>(#[]:Array Value))).get? a=some (seqObj "list" #[] e1):=⟨_,get?_update_seq hoL fun _=>#[]⟩
  refine wpAny_bind (seqEpoch_at ho1 rfl (wpAny_bind (wpAny_newTuple (wpAny_bind (wpAny_newList (wpAny_holding ?_) (aaT _))) hz)));have ho6:(((s.heap.update a (aa9 fun _=>(#[]:Array Value))).push (seqObj "tuple" vs.toArray 0)).push (seqObj "list" #[] 0)).get? a=some (seqObj "list" #[] e1):=by
    rw [abk _ _ _ (by rw [size_push',abt];exact aaq (abx ha)),abk _ _ _ (by rw [abt];exact aaq ha)];exact ho1
  show wpAny (model prog w) A _ P E { s with heap:=(((s.heap.update a (aa9 fun _=>#[])).push (seqObj "tuple" vs.toArray 0)).push (seqObj "list" #[] 0)) };dsimp only;have hs2:vs.toArray.size < 2:=by rw [aai];exact h2
  rw [if_pos hs2,if_pos hs2];refine wpAny_bind (wpAny_pure ?_);rw [StateT.run_pure];refine wpAny_bind (wpAny_pure ?_);dsimp only;refine wpAny_bind (seqEpoch_at ho6 rfl (wpAny_bind (listUpdate_at ho6 rfl ?_ (aaT _) (by rw [Array.size_map];show (pairsOf vs).size≤_;rw [pairsOf_size];lia))));simp only [bne_self_eq_false,Bool.false_eq_true,if_false];exact wpAny_pure h
theorem sorted_small {l:Addr} {vs:List Value} {Q:Value→Shared→Prop} (hl:s.heap.IsList l vs.toArray) (h2:vs.length < 2)
    (h:Q (.ref (s.heap.objs.size+1)) { s with heap:=sortedAll s.heap vs ((pairsOf vs).map (·.2)) }):wpAny (model prog w) A (call (.builtin "sorted") [.ref l]) Q E s:=by
  have hz:vs.length≤sizeLine:=by rw [sizeLine_eq];lia
  apply Calls.call_function_entry kind_sorted plain_sorted entry_sorted (args_sorted1 _);unfold Builtin.«sorted»;refine wpAny_bind (m:=checkCount "sorted" 1 1 _) (wpAny_pure (wpAny_bind (collect_list hl (wpAny_bind (wpAny_newList ?_ hz)) hz)));have e0:((s.heap.push (seqObj "list" #[] 0)).update s.heap.objs.size (aa9 (·++vs.toArray))).objs.size=s.heap.objs.size+1:=by rw [abt,size_push']
  have hoL:(((s.heap.push (seqObj "list" #[] 0)).update s.heap.objs.size (aa9 (·++vs.toArray))).push (seqObj "list" vs.toArray 0)).get? (s.heap.objs.size+1)=some (seqObj "list" vs.toArray 0):=by rw [← e0];exact aaF _ rfl
  show wpAny _ _ _ _ _ { s with heap:=(((s.heap.push (seqObj "list" #[] 0)).update s.heap.objs.size (aa9 (·++vs.toArray))).push (seqObj "list" vs.toArray 0)) };rw [e0];refine wpAny_bind (wpAny_holding (wpAny_call_entry slot_list_sort ⟨_,hoL,rfl⟩ entry_list_sort (l0 hoL h2 ⟨_,rfl,wpAny_pure ⟨_,rfl,h⟩⟩) (args_list_sort _)))
end
end Srt
set_option maxHeartbeats 2000000
namespace L2
open PySem PySem.Spec PyProof.Rows
inductive EqR (K:aaa) (H:Hp):Nat→V→V→Bool→Prop
  | flat {n:Nat} {x y:V} (fx:eH x=true) (fy:eH y=true):EqR K H n x y (eqV x y)
  | lens {n:Nat} {a b:Addr} {xs ys:List V} (ha:SqL K H a xs) (hb:SqL K H b ys) (hl:xs.length≠ys.length):EqR K H (n+1) (.ref a) (.ref b) false
  | lst {n:Nat} {a b:Addr} {xs ys:List V} {e:Nat→Bool} (ha:SqL K H a xs) (hb:SqL K H b ys) (hl:xs.length=ys.length) (h:∀ (j:Nat) x y,xs[j]?=some x→ys[j]?=some y→EqR K H n x y (e j)):EqR K H (n+1) (.ref a) (.ref b) ((aaQ xs.length).all e)
  | tup {n:Nat} {a b:Addr} {xs ys:List V} {e:Nat→Bool} (ha:SqT K H a xs) (hb:SqT K H b ys) (h:∀ (j:Nat) x y,xs[j]?=some x→ys[j]?=some y→EqR K H n x y (e j)) :
      EqR K H (n+1) (.ref a) (.ref b) ((aaQ (min xs.length ys.length)).all e && xs.length == ys.length)
theorem qV {x:V} (f:eH x=true):eqV x x=true:=by
  cases x <;> first|rfl|(simp [eqV];done)|exact absurd (show false=true from f) aan
section
variable {X:Cx} {pins:List (Addr × Obj)} {σ:St} {H:Hp} {s:Shared}
theorem EqR.self (I:Inv X pins σ H s) {n:Nat} {x y:V} {b:Bool} (h:EqR X.K H n x y b):x=y→b=true:=by
  induction h with
  | flat fx fy=>intro e;subst e;exact qV fx
  | lens ha hb hl =>
    intro e;injection e with e;subst e
    exact absurd (by rw [I.list_inj ha hb]) hl
  | @lst n a b xs ys e ha hb hl h ih =>
    intro q;injection q with q;subst q
    obtain rfl:=I.list_inj ha hb;rw [aa2];intro j hj;have hj':j < xs.length:=abv.mp hj;exact ih j _ _ (aaj hj') (aaj hj') rfl
  | @tup n a b xs ys e ha hb h ih =>
    intro q;injection q with q;subst q
    obtain rfl:=I.tuple_inj ha hb;rw [aa1,aa2];refine ⟨fun j hj=>?_,beq_self_eq_true _⟩;have hj':j < xs.length:=by have:=abv.mp hj;lia
    exact ih j _ _ (aaj hj') (aaj hj') rfl
theorem cN {xs:List V} {its:List Value} (r:Vals xs its) {j:Nat} (h:j < its.toArray.size):∃ x,xs[j]?=some x∧RelV x its.toArray[j]:=by
  have hl:=r.length;have h':j < xs.length:=by rw [hl];simpa using h
  obtain ⟨u,hu,ru⟩:=r.get (aaj h');refine ⟨_,aaj h',?_⟩;have e:its.toArray[j]=u:=by
    have : its[j]?=some u:=hu;rw [aaj (by simpa using h)] at this;simpa using aaZ this
  rw [e];exact ru
theorem EqR.at (I:Inv X pins σ H s) {n:Nat} {x y:V} {b:Bool} (h:EqR X.K H n x y b):∀ {A:Around} {u v:Value},RelV x u→RelV y v→A.units+n < cLine→SeqAt.EqAt A s u v b:=by
  induction h with
  | flat fx fy=>intro A u v rx ry hu;exact qX rx ry fx fy
  | @lens n a b xs ys ha hb hl =>
    intro A u v rx ry hu;cases rx;cases ry;obtain ⟨its,r,pl,_⟩:=I.list ha;obtain ⟨its2,r2,pl2,_⟩:=I.list hb;have ne:a≠b:=fun e=>by subst e;exact hl (by rw [I.list_inj ha hb])
    refine .of_refs ne (.lists_lengths pl.isList pl2.isList ?_ (by lia));rw [aai,aai,← r.length,← r2.length];exact bne_iff_ne.mpr hl
  | @lst n a b xs ys e ha hb hl h ih =>
    intro A u v rx ry hu;by_cases q:a=b
    · have:=(EqR.lst ha hb hl h).self I (by rw [q]);cases rx;cases ry;rw [this];subst q;exact SeqAt.EqAt.same _
    · cases rx;cases ry;obtain ⟨its,r,pl,_⟩:=I.list ha;obtain ⟨its2,r2,pl2,_⟩:=I.list hb;have e1:its.toArray.size=xs.length:=by rw [aai,r.length]
      rw [← e1];refine .of_refs q (.lists pl.isList pl2.isList (by rw [aai,aai,← r.length,← r2.length];exact hl) (by lia) fun j h1 h2=>?_);obtain ⟨x,hx,rx⟩:=cN r h1;obtain ⟨y,hy,ry⟩:=cN r2 h2;exact ih j x y hx hy rx ry (by show A.units+1+n < cLine;lia)
  | @tup n a b xs ys e ha hb h ih =>
    intro A u v rx ry hu;by_cases q:a=b
    · have:=(EqR.tup ha hb h).self I (by rw [q]);cases rx;cases ry;rw [this];subst q;exact SeqAt.EqAt.same _
    · cases rx;cases ry;obtain ⟨its,r,pl,_⟩:=I.tuple ha;obtain ⟨its2,r2,pl2,_⟩:=I.tuple hb;have e1:its.toArray.size=xs.length:=by rw [aai,r.length]
      have e2:its2.toArray.size=ys.length:=by rw [aai,r2.length]
      rw [← e1,← e2];refine .of_refs q (.tuples pl pl2 (by lia) fun j h1 h2=>?_);obtain ⟨x,hx,rx⟩:=cN r h1;obtain ⟨y,hy,ry⟩:=cN r2 h2;exact ih j x y hx hy rx ry (by show A.units+1+n < cLine;lia)
def vX (K:aaa) (neg:Bool):R2:=fun x y H Q=>∃ n a b xs ys,n≤60∧x=.ref a∧y=.ref b∧SqL K H a xs∧SqL K H b ys ∧
  ((xs.length≠ys.length∧Q (.bl neg) H)∨∃ e:Nat→Bool,xs.length=ys.length∧(∀ (j:Nat) x y,xs[j]?=some x→ys[j]?=some y→EqR K H n x y (e j))∧Q (.bl (if neg then !(aaQ xs.length).all e else (aaQ xs.length).all e)) H)
theorem tZ (hu:X.A.units+64 < cLine):OpR X (compareOp .NotEq) (vX X.K true):=by
  intro pins s σ H x y v u Q I rx ry h;obtain ⟨n,a,b,xs,ys,hn,rfl,rfl,ha,hb,h⟩:=h;cases rx;cases ry;obtain ⟨its,r,pl,_⟩:=I.list ha;obtain ⟨its2,r2,pl2,_⟩:=I.list hb;have e1:its.toArray.size=xs.length:=by rw [aai,r.length]
  have e2:its2.toArray.size=ys.length:=by rw [aai,r2.length]
  rcases h with ⟨hl,q⟩|⟨e,hl,he,q⟩
  · exact SeqAt.RcNeAt.lists_lengths pl.isList pl2.isList (by rw [e1,e2];exact bne_iff_ne.mpr hl) (by lia) _ _ _ _ ⟨.bl true,H,I,rfl,q⟩
  · refine SeqAt.RcNeAt.lists (e:=e) pl.isList pl2.isList (by rw [e1,e2];exact hl) (by lia) (fun j h1 h2=>?_) _ _ _ _ ?_
    · obtain ⟨x,hx,rx⟩:=cN r h1;obtain ⟨y,hy,ry⟩:=cN r2 h2;exact (he j x y hx hy).at I rx ry (by show X.A.units+1+n < cLine;lia)
    · rw [e1];exact ⟨.bl _,H,I,rfl,q⟩
end
abbrev PairIn (H:Hp) (p:Int × Int) (v:V):Prop:=∃ a,v=.ref a∧H a=some (.tup [.int p.1,.int p.2])
abbrev PairsIn (H:Hp):List (Int × Int)→List V→Prop:=Paired (PairIn H)
def e_ (p:Int × Int):Int:=p.1 * 1000+p.2
def vE (ps:List (Int × Int)):Prop:=(∀ p∈ps,0≤p.2∧p.2 < 1000)∧ps.Nodup
theorem rR {p q:Int × Int} (h1:0≤p.2∧p.2 < 1000) (h2:0≤q.2∧q.2 < 1000):(if p.1=q.1 then decide (p.2 < q.2) else decide (p.1 < q.1))=decide (e_ p < e_ q):=by
  unfold e_;split
  · rename_i e;rw [e];by_cases c:p.2 < q.2
    · rw [decide_eq_true c,decide_eq_true (by lia)]
    · rw [decide_eq_false c,decide_eq_false (by lia)]
  · rename_i e;by_cases c:p.1 < q.1
    · rw [decide_eq_true c,decide_eq_true (by lia)]
    · rw [decide_eq_false c,decide_eq_false (by lia)]
theorem qg {p q:Int × Int} (h1:0≤p.2∧p.2 < 1000) (h2:0≤q.2∧q.2 < 1000) (e:e_ p=e_ q):p=q:=by
  unfold e_ at e;have a:p.1=q.1:=by lia
  have b:p.2=q.2:=by lia
  exact Prod.ext a b
theorem Inv.adopt2 {X:Cx} {pins:List (Addr × Obj)} {σ:St} {H:Hp} {s:Shared} {a:Addr} {o:HO} (I:Inv X pins σ H s) (hn:H a=none) (hx:∀ u,X.s₀.heap.get? a≠some u) (hL:a≠X.env.locals) (hC:∀ x c,X.env.cells.lookup x=some c→c≠a) (hp:∀ p∈X.pn++pins,p.1≠a)
    (new:ObjOk X.prog X.w (upd H a o) s.heap a o):Inv X pins σ (upd H a o) s:=by
  have ne:∀ b u,X.s₀.heap.get? b=some u→b≠a:=fun b u e z=>hx u (by rw [← z];exact e);refine ⟨I.ok,I.os,I.bare,⟨I.base.keep,I.base.slot,fun b u e n hx=>?_,I.base.there,fun b xs e=>?_,fun b u xs e=>?_,fun b ps e=>?_⟩,I.loc,I.cell,?_,fun x c e=>?_,fun p hq=>?_,fun b u e=>?_,I.len⟩
  · rw [aq (ne b u e)];exact I.base.free b u e n hx
  · have q:=I.base.tups b xs e;rw [aq (ao q hn)];exact q
  · have q:=I.base.frzs b u xs e;rw [aq (ao q hn)];exact q
  · obtain ⟨m,q⟩:=I.base.tbls b ps e;exact ⟨m,by rw [aq (ao q hn)];exact q⟩
  · rw [aq (abc hL)];exact I.free
  · rw [aq (hC x c e)];exact I.freeC x c e
  · obtain ⟨h1,h2,h3⟩:=I.pin p hq;exact ⟨h1,by rw [aq (hp p hq)];exact h2,h3⟩
  · by_cases hb:b=a
    · subst hb;rw [upd_same] at e;cases e;exact new
    · rw [aq hb] at e;exact (I.hok b u e).stay (fun c v _ q=>q) (fun c q=>by rw [aq (ao q hn)];exact q) fun c xs q=>by rw [aq (ao q hn)];exact q
open PySem PySem.Spec PyProof.Rows
theorem ObjOk.get {P:Program} {w:World} {H:Hp} {h:Heap} {a:Addr} {o:HO} (x:ObjOk P w H h a o):∃ u,h.get? a=some u:=by
  cases o with
  | lst xs=>obtain ⟨_,_,_,_,e⟩:=x;exact ⟨_,e⟩
  | tup xs=>obtain ⟨_,_,_,o,e,_⟩:=x;exact ⟨_,e⟩
  | dK kvs=>obtain ⟨_,_,_,_,o,_,_,e,_⟩:=x;exact ⟨_,e⟩
  | dT kvs=>obtain ⟨_,_,_,_,o,_,_,e,_⟩:=x;exact ⟨_,e⟩
  | set S n=>obtain ⟨o,_,_,_,e,_⟩:=x;exact ⟨_,e⟩
  | ins C dx fs=>obtain ⟨_,_,_,e,_⟩:=x;exact ⟨_,e⟩
  | own y=>obtain ⟨_,e⟩:=x;exact ⟨_,e⟩
  | xd fs=>obtain ⟨_,⟨_,_,_,e,_⟩,_⟩:=x;exact ⟨_,e⟩
  | rng lo hi=>obtain ⟨_,_,_,e⟩:=x;exact ⟨_,e⟩
  | frz ob u=>obtain ⟨e,_⟩:=x;exact ⟨_,e⟩
  | tbl ps=>exact ⟨_,(show h.get? a=some _ from x)⟩
  | met f y=>exact ⟨_,(show h.get? a=some _ from x)⟩
  | ext φ=>obtain ⟨_,⟨_,e⟩,_⟩:=x;exact ⟨_,e⟩
theorem iO {α:Type} (xs:List α) (d:α):(aaQ xs.length).map (fun i=>xs.getD i d)=xs:=by
  apply List.ext_getElem
  · simp
  · intro i h1 h2;simp [h2]
theorem f_ {vs:List V} {its:List Value} (r:Vals vs its) {i:Nat} (h:i < vs.length):RelV (vs.getD i .non) (its.getD i .none):=by
  obtain ⟨u,hu,ru⟩:=r.get (aaj h);have e1:vs.getD i .non=vs[i]:=by simp [h]
  have e2:its.getD i .none=u:=by rw [abD,hu];rfl
  rw [e1,e2];exact ru
theorem dL {H:Hp}:∀ {ps:List (Int × Int)} {vs:List V} {i:Nat},PairsIn H ps vs→i < vs.length→PairIn H (ps.getD i (0,0)) (vs.getD i .non)
  | _,_,_,.nil,h=>absurd h (Nat.not_lt_zero _)
  | _,_,0,.cons a _,_=>by simpa using a
  | _,_,i+1,.cons _ b,h=>by simpa using dL (i:=i) b (by simpa using h)
theorem fH {α β:Type} {F:α→β→Prop} {f:Nat→α} {g:Nat→β}:∀ {l:List Nat},(∀ i∈l,F (f i) (g i))→Paired F (l.map f) (l.map g)
  | [],_=>.nil
  | i :: l,h=>.cons (h i aag) (fH fun j hj=>h j (aaf _ hj))
section
variable {X:Cx}
theorem jr {H:Hp} {h':Heap} (tk:∀ a (p:Int × Int),H a=some (.tup [.int p.1,.int p.2])→∃ o k t1 t2,h'.get? a=some o∧o.cls=.type "tuple"∧o.data=.seq #[.int p.1 t1,.int p.2 t2] k) :
    ∀ {ps:List (Int × Int)} {vs:List V} {its:List Value},PairsIn H ps vs→Vals vs its→∃ fs,PySem.W.KatTups h' its fs∧fs.length=its.length∧∀ v∈fs,∃ i t,v=Value.int i t
  | _,_,_,.nil,.nil=>⟨[],.nil,rfl,(fun _ h=>nomatch h)⟩
  | _,_,_,.cons a b,.cons r t=>by
    obtain ⟨fs,h1,h2,h3⟩:=jr tk b t;obtain ⟨ad,e,ha⟩:=a;subst e;cases r;obtain ⟨o,k,t1,t2,g1,g2,g3⟩:=tk ad _ ha;refine ⟨.int _ t1 :: fs,.cons g1 g2 g3 rfl h1,congrArg (·+1) h2,fun v hv=>?_⟩;rcases aam.mp hv with rfl|hv
    · exact ⟨_,_,rfl⟩
    · exact h3 v hv
theorem r_ {prog:Program} {w:World} {A:Around} {s:Shared} {a b:Addr} {oa ob:Obj} {ka kb:Nat} {p q:Int × Int} {t1 t2 u1 u2:Tok} {C:Bool→Shared→Prop} (h1:s.heap.get? a=some oa) (d1:oa.data=.seq #[.int p.1 t1,.int p.2 t2] ka)
    (h2:s.heap.get? b=some ob) (d2:ob.data=.seq #[.int q.1 u1,.int q.2 u2] kb) (hp:0≤p.2∧p.2 < 1000) (hq:0≤q.2∧q.2 < 1000) (h:C (decide (e_ p < e_ q)) s) :
    wpAny (model prog w) A (keyLt' (tuples' true) (.ref a) (.ref b)) C (fun _ _=>False) s:=by
  rw [← rR hp hq] at h;refine PySem.W.kat_lt h1 d1 h2 d2 ?_;show PySem.W.KatLex prog w A true (decide (2 < 2)) C [(.int p.1 t1,.int q.1 u1),(.int p.2 t2,.int q.2 u2)] 0 s;refine PySem.W.kat_cons (acl p.1 t1 q.1 u1 prog w _ _ ?_);by_cases c:p.1=q.1
  · rw [if_pos c] at h;have e:(p.1 == q.1)=true:=beq_iff_eq.mpr c;rw [e];refine PySem.W.kat_yes (PySem.W.kat_cons (acl p.2 t2 q.2 u2 prog w _ _ ?_));by_cases c2:p.2=q.2
    · have e2:(p.2 == q.2)=true:=beq_iff_eq.mpr c2;rw [e2];refine PySem.W.kat_yes (PySem.W.kat_nil ?_);rw [decide_eq_false (show ¬ p.2 < q.2 by lia)] at h;exact h
    · have e2:(p.2 == q.2)=false:=beq_eq_false_iff_ne.mpr c2;rw [e2];refine PySem.W.kat_no (PySem.W.kat_one _ _ (lt_int ?_));exact h
  · rw [if_neg c] at h;have e:(p.1 == q.1)=false:=beq_eq_false_iff_ne.mpr c;rw [e];refine PySem.W.kat_no ?_;exact oneLt_int h
theorem kg (hx:X.ex=[]):cf X (.builtin "sorted") (fun xs H Q=>∃ p vs ps,xs=[.ref p]∧H p=some (.lst vs)∧PairsIn H ps vs∧ps.length < 64∧vE ps ∧
    ∀ q qs vs',H q=none→qs.Perm ps→(qs.map e_).Pairwise (· < ·)→PairsIn H qs vs'→Q (.ref q) (upd H q (.lst vs'))):=by
  intro pins s σ H xs us Q I r h;obtain ⟨p,vs,ps,rfl,hH,hp,h64,fine,q⟩:=h;obtain ⟨u,rfl,ru⟩:=cZ r;cases ru;obtain ⟨z,its,n,rv,hl,e⟩:=I.lstM hH;have hlen:ps.length=vs.length:=abJ hp;by_cases h2:its.length < 2
  · refine Srt.sorted_small (vs:=its) ⟨_,e,rfl,_,rfl⟩ h2 ?_;have eo:(pairsOf its).map (·.2)=its.toArray:=by
      match its,h2 with
      | [],_=>simp [pairsOf]
      | [v],_=>simp [pairsOf]
    rw [eo];obtain ⟨c,hc⟩:=sortedAll_at s.heap its its.toArray;have I1:=I.laid (a:=s.heap.objs.size+1) (o:=.lst vs) (t':=s.toks) (fun b o q=>sortedAll_old (vs:=its) (out:=its.toArray) q) (abR _) ⟨z,its,c,rv,hc⟩;refine ⟨.ref _,_,I1,rfl,q _ ps vs (I.hok.fresh (abR _)) (List.Perm.refl _) ?_ hp⟩
    match ps,hlen with
    | [],_=>exact List.Pairwise.nil
    | [a],_=>exact List.pairwise_singleton _ _
    | a :: b :: r,hlen=>simp at hlen;lia
  · obtain ⟨m,F⟩:=I.fr;refine PySem.W.kat_sorted F (news:=eZ X.base s.heap X.env.locals) qw ⟨_,e,rfl,_,rfl⟩ (by lia) (by lia) ?_;intro D e1 h' F' N' hD;have nD:=N' (D,_) aag;have keptG:∀ {g:Heap} {o1:Obj},Fr X.base X.env.locals g m→News X.base X.env.locals g ((D,o1) :: eZ X.base s.heap X.env.locals)→∀ b o,b≠X.env.locals→s.heap.get? b=some o→g.get? b=some o:=fun {g o1} Fg Ng b o hb q=>by
      cases w:X.base.get? b with
      | some u =>
        have:=F.keep b u w;rw [q] at this;cases this;exact Fg.keep b _ w
      | none=>exact (Ng (b,o) (aaf _ (gQ hb w q))).1
    have fresh:s.heap.get? D=none:=by
      cases g:s.heap.get? D with
      | none=>rfl
      | some o=>exact absurd (hD (D,o) (gQ nD.2.1 nD.2.2 g)) (aa7 _)
    have neL:∀ b o,H b=some o→b≠X.env.locals:=fun b o e z=>by rw [z,I.free] at e;cases e
    have tk:∀ a (p:Int × Int),H a=some (.tup [.int p.1,.int p.2])→∃ o k t1 t2,h'.get? a=some o∧o.cls=.type "tuple"∧o.data=.seq #[.int p.1 t1,.int p.2 t2] k:=fun a p ha=>by
      obtain ⟨_,its',r',o,g1,g2,k,g3⟩:=I.hok a _ ha;obtain ⟨u1,u2,rfl,⟨t1,rfl⟩,⟨t2,rfl⟩⟩:=hZ r';exact ⟨o,k,t1,t2,keptG F' N' a o (neL a _ ha) g1,g2,g3⟩
    obtain ⟨fs,t1,t2,t3⟩:=jr tk hp rv;refine PySem.W.kat_kind (s:={ s with heap:=h' }) (T:=.type "int") t1 (by lia) (fun v hv=>by obtain ⟨i,t,rfl⟩:=t3 v hv;exact PySem.W.Looks.of_pure rfl) (by decide) ?_;have nv:its.length=vs.length:=hl.symm;have kin:∀ i,i < its.length→0≤(ps.getD i (0,0)).2∧(ps.getD i (0,0)).2 < 1000:=fun i hi=>by
      have hi':i < ps.length:=by lia
      have e:ps.getD i (0,0)=ps[i]:=by simp [hi']
      rw [e];exact fine.1 _ (ab6 hi')
    refine Srt.wp_safe (n:=its.length) (lt:=Srt.lt fun i=>e_ (ps.getD i (0,0))) (fun i j C hi hj hC=>?_) _ _ (Srt.safe_sort (by lia)) ?_
    · obtain ⟨a1,ea1,ha1⟩:=dL (i:=i) hp (by lia);obtain ⟨a2,ea2,ha2⟩:=dL (i:=j) hp (by lia);have r1:=f_ rv (i:=i) (by lia);have r2:=f_ rv (i:=j) (by lia);rw [ea1] at r1;rw [ea2] at r2;obtain ⟨o1,k1,x1,y1,g1,_,d1⟩:=tk a1 _ ha1;obtain ⟨o2,k2,x2,y2,g2,_,d2⟩:=tk a2 _ ha2;show wpAny _ _ (keyLt' (tuples' true) (its.getD i .none) (its.getD j .none)) C (fun _ _=>False) { s with heap:=h' };rw [show its.getD i .none=.ref a1 from r1,show its.getD j .none=.ref a2 from r2];exact r_ (s:={ s with heap:=h' }) g1 d1 g2 d2 (kin i hi) (kin j hj) hC
    · have so:=Srt.sort_ok (n:=its.length) (key:=fun i=>e_ (ps.getD i (0,0))) (by lia) fun i j hi hj ek=>by
        have pe:=qg (kin i hi) (kin j hj) ek;have hi':i < ps.length:=by lia
        have hj':j < ps.length:=by lia
        have e1:ps.getD i (0,0)=ps[i]:=by simp [hi']
        have e2:ps.getD j (0,0)=ps[j]:=by simp [hj']
        rw [e1,e2] at pe;exact (List.getElem_inj fine.2).mp pe
      generalize Srt.run (Srt.lt fun i=>e_ (ps.getD i (0,0))) (PySem.W.kas_sort its.length)=pm at so;obtain ⟨so1,so2⟩:=so;have so1':pm.toList.Perm (aaQ its.length):=by simpa using so1.toList
      have ml:pm.toList.length=its.length:=by rw [so1'.length_eq];simp
      have mem:∀ i∈pm.toList,i < its.length:=fun i hi=>abv.mp (so1'.mem_iff.mp hi);refine PySem.W.KasFin.intro F' N' (PySem.W.UpdF.head fun p hp=>aaq (hD p hp)) fun h'' c F'' N''=>?_;have kp:=keptG F'' N'';have gD:=(N'' (D,_) aag).1;have I1:Inv X pins σ H { s with heap:=h'' }:=by
        refine I.step (g':=s.gens) (d':=s.drawn) (t':=s.toks) (ch:=[]) (fun _ z=>nomatch z) (fun b o hb _ _ e _=>kp b o hb e) (fun b o hb _ _ e _=>⟨o.slots,kp b o hb e⟩) (fun _ _ _ _ n=>n) (fun b o _ e=>?_) (fun _ _ e=>e) (fun _ _ _ e=>e) (fun b ps e=>⟨#[],by rw [e];simp⟩) (fun m' hm=>?_) (fun b u e=>?_) I.bare
        · by_cases hb:b=X.env.locals
          · obtain ⟨o',_,_,g,_⟩:=F''.ns;exact ⟨o',by rw [hb];exact g⟩
          · exact ⟨o,kp b o hb e⟩
        · have : m'=m:=by
            obtain ⟨o1,es1,ep1,g1,d1,_,f1⟩:=hm;obtain ⟨o2,es2,ep2,g2,d2,_,f2⟩:=F.ns;rw [g1] at g2;cases g2;rw [d1] at d2;cases d2;funext x;rw [← f1 x,← f2 x]
          rw [this];exact F''.ns
        · refine (I.hok b u e).stay (fun c' v hc q=>kp c' v ?_ q) (fun _ q=>q) fun _ _ q=>q;rcases hc with rfl|hc
          · exact neL _ _ e
          · exact neL _ _ hc
      have hnD:H D=none:=by
        cases g:H D with
        | none=>rfl
        | some o =>
          obtain ⟨u,hu⟩:=(I.hok D o g).get;rw [fresh] at hu;cases hu
      have vv:Vals (pm.toList.map fun i=>vs.getD i .non) (pm.toList.map fun i=>its.getD i .none):=fH fun i hi=>f_ rv (by have:=mem i hi;lia);have I2:=I1.adopt2 (o:=.lst (pm.toList.map fun i=>vs.getD i .non)) hnD (fun u hu=>by
          obtain ⟨o',q⟩:=I.base.there D u hu (by rw [hx];simp);rw [fresh] at q;cases q) nD.2.1 (fun x c e z=>by
          obtain ⟨v,o,ho,_⟩:=I.cell x c e;rw [z,fresh] at ho;cases ho) (fun p hp z=>by
          have:=(I.pin p hp).1;rw [z,fresh] at this;cases this) ⟨(by rw [aac,ml];lia),_,c,vv,gD⟩
      refine ⟨.ref D,_,I2,rfl,q D (pm.toList.map fun i=>ps.getD i (0,0)) _ hnD ?_ ?_ (fH fun i hi=>dL hp (by have:=mem i hi;lia))⟩
      · have:=so1'.map fun i=>ps.getD i (0,0);rw [show its.length=ps.length by lia,iO] at this;exact this
      · rw [abp,List.pairwise_iff_getElem];intro i j hi hj hij;rw [aac] at hi hj;have:=so2 i j hij (by lia);unfold Srt.kp at this;have gi:pm.getD i 0=pm.toList[i]:=by rw [aaA];simp at hi;simp [hi]
        have gj:pm.getD j 0=pm.toList[j]:=by rw [aaA];simp at hj;simp [hj]
        rw [gi,gj] at this;simpa using this
end
open PySem PySem.Spec PyProof.Rows
theorem iK {c A B:Prop} [Decidable c] (hc:c) (h:A):if decide c=true then A else B:=by
  rw [if_pos (decide_eq_true hc)];exact h
theorem gR {c A B:Prop} [Decidable c] (hc:¬ c) (h:B):if decide c=true then A else B:=by
  rw [if_neg (fun e=>hc (of_decide_eq_true e))];exact h
section
variable {X:Cx} {K:aaa}
theorem kh {n:String} (hK:X.K=K):cf X (.builtin "isinstance") (fun xs H Q=>∃ x t b,xs=[x,.ty n]∧TyOf K H x t∧aaC K t (.type n)=some b∧Q (.bl b) H):=by subst hK;exact aG
theorem fk (hK:X.K=K):cf X (.builtin "len") (fun xs H Q=>∃ p ys,xs=[.ref p]∧(SqL K H p ys∨SqT K H p ys)∧Q (.int ys.length) H):=by subst hK;exact ax
theorem nq {es:List Expr} {k:Nat} {pos:Pos} {t:TGs} {n:Nat} (hK:X.K=K) (hc:X.calm=true) (h:PGs X es t)
    (hn:(assignEach es X.env).length=n:=by rfl) (hst:(assignEach es X.env).findIdx? (·.1)=none:=by rfl):PG X (.Tuple es k pos) (vn K n t):=by subst hK;exact pg_tup hc h hn hst
end
def Nxt (n i:Nat) (P:Prop):Prop:=∃ m',m' < n - i∧m'=n - (i+1)∧i+1≤n∧P
theorem sy {K:aaa} {a:Addr} {xs:List V} {cap:List (Option Nat)} {g:TG} {tt:TT} {te:TE} {σ:St} {H:Hp} {Q:VK} (Pv:Nat→List V→Hp→Prop) (h0:Pv 0 [] H) (hl:∀ i ys H,i≤xs.length→Pv i ys H→SqL K H a xs∧ys.length < sizeLine)
    (hs:∀ i x ys H,xs[i]?=some x→Pv i ys H→(∀ {P:Prop},P→Nxt xs.length i P)→g x (bO cap σ) H fun σ2 H2=>tt σ2 H2 fun b H3=>if b=true then te σ2 H3 fun v H4=>Nxt xs.length i (Pv (i+1) (ys++[v]) H4) else Nxt xs.length i (Pv (i+1) ys H3)) (hd:∀ ys H,Pv xs.length ys H→∀ p,H p=none→Q (.ref p) (upd H p (.lst ys))) :
    uJ cap g tt te σ Q (Itl K a) H:=by
  refine ⟨fun i m ys H=>m=xs.length - i∧i≤xs.length∧Pv i ys H,⟨xs.length,by simp,aaT _,h0⟩,?_⟩;rintro i m ys H ⟨rfl,hi,p⟩;have q:=hl i ys H hi p;by_cases hlt:i < xs.length
  · refine .inr ⟨⟨xs,xs[i],q.1,by simp [hlt]⟩,q.2,fun x H' y=>?_⟩;obtain ⟨e,y⟩:=y;subst e;exact hs i x ys _ (y xs q.1) p fun h=>⟨_,by lia,rfl,hlt,h⟩
  · have e:i=xs.length:=by lia
    subst e;exact .inl ⟨⟨xs,q.1,aab _⟩,hd ys H p⟩
theorem iw {H:Hp}:∀ {ps:List (Int × Int)} {vs:List V},PairsIn H ps vs→∀ {j:Nat} {x:V},vs[j]?=some x→∃ p,ps[j]?=some p∧PairIn H p x
  | _,_,.nil,j,x,h=>by simp at h
  | _,_,.cons a _,0,x,h=>by simp at h;subst h;exact ⟨_,rfl,a⟩
  | _,_,.cons _ b,j+1,x,h=>by
    obtain ⟨p,h1,h2⟩:=iw b (j:=j) (x:=x) (by simpa using h);exact ⟨p,by simpa using h1,h2⟩
open PySem PySem.Spec PyProof.Rows
def ve:Key→PyData
  | .inl i=>.int i
  | .inr x=>.str x
mutual
def Dat (H:Hp):PyData→V→Prop
  | .none,v=>v=.non
  | .bool b,v=>v=.bl b
  | .int i,v=>v=.int i
  | .str x,v=>v=.str x
  | .list ds,v=>∃ a xs,v=.ref a∧H a=some (.lst xs)∧DatAll H ds xs
  | .tuple ds,v=>∃ a xs,v=.ref a∧H a=some (.tup xs)∧DatAll H ds xs
  | .dict kvs,v=>∃ a ks,v=.ref a∧H a=some (.dK ks)∧DatKv H kvs ks
def DatAll (H:Hp):List PyData→List V→Prop
  | [],vs=>vs=[]
  | d :: ds,vs=>∃ v r,vs=v :: r∧Dat H d v∧DatAll H ds r
def DatKv (H:Hp):List (PyData × PyData)→List (Key × V)→Prop
  | [],ks=>ks=[]
  | (k,d) :: r,ks=>∃ q v t,ks=(q,v) :: t∧k=ve q∧Dat H d v∧DatKv H r t
end
mutual
theorem Dat.mono {H H':Hp} (g:Same H H'):∀ (d:PyData) (v:V),Dat H d v→Dat H' d v
  | .none,v,h=>h
  | .bool b,v,h=>h
  | .int i,v,h=>h
  | .str x,v,h=>h
  | .list ds,v,h=>by
    simp only [Dat] at h ⊢;obtain ⟨a,xs,e,h1,h2⟩:=h;exact ⟨a,xs,e,g _ _ h1,DatAll.mono g ds xs h2⟩
  | .tuple ds,v,h=>by
    simp only [Dat] at h ⊢;obtain ⟨a,xs,e,h1,h2⟩:=h;exact ⟨a,xs,e,g _ _ h1,DatAll.mono g ds xs h2⟩
  | .dict kvs,v,h=>by
    simp only [Dat] at h ⊢;obtain ⟨a,xs,e,h1,h2⟩:=h;exact ⟨a,xs,e,g _ _ h1,DatKv.mono g kvs xs h2⟩
theorem DatAll.mono {H H':Hp} (g:Same H H'):∀ (ds:List PyData) (vs:List V),DatAll H ds vs→DatAll H' ds vs
  | [],vs,h=>h
  | d :: ds,vs,h=>by
    simp only [DatAll] at h ⊢;obtain ⟨v,r,e,h1,h2⟩:=h;exact ⟨v,r,e,Dat.mono g d v h1,DatAll.mono g ds r h2⟩
theorem DatKv.mono {H H':Hp} (g:Same H H'):∀ (kvs:List (PyData × PyData)) (ks:List (Key × V)),DatKv H kvs ks→DatKv H' kvs ks
  | [],ks,h=>h
  | (k,d) :: r,ks,h=>by
    simp only [DatKv] at h ⊢;obtain ⟨q,v,t,e1,e2,h1,h2⟩:=h;exact ⟨q,v,t,e1,e2,Dat.mono g d v h1,DatKv.mono g r t h2⟩
end
theorem DatAll.len {H:Hp}:∀ {ds:List PyData} {vs:List V},DatAll H ds vs→ds.length=vs.length
  | [],vs,h=>by simp only [DatAll] at h;rw [h];rfl
  | d :: ds,vs,h=>by
    simp only [DatAll] at h;obtain ⟨v,r,rfl,_,h2⟩:=h;rw [aar,aar,DatAll.len h2]
def off (w:Addr) (H:Hp):Hp:=fun b=>if b=w then none else H b
theorem bK {w b:Addr} {H:Hp} (h:b≠w):off w H b=H b:=if_neg h
theorem off_le {w:Addr} {H:Hp}:Same (off w H) H:=fun b o h=>by
  unfold off at h;by_cases c:b=w
  · rw [if_pos c] at h;cases h
  · rw [if_neg c] at h;exact h
theorem bz {w:Addr} {H H':Hp} (g:But w H H'):Same (off w H) (off w H'):=fun b o h=>by
  by_cases c:b=w
  · unfold off at h;rw [if_pos c] at h;cases h
  · rw [bK c] at h ⊢;exact g b o c h
def jC:PyData→String
  | .none=>"NoneType"
  | .bool _=>"bool"
  | .int _=>"int"
  | .str _=>"str"
  | .list _=>"list"
  | .tuple _=>"tuple"
  | .dict _=>"dict"
theorem Dat.ty {K:aaa} {H:Hp} {d:PyData} {v:V} (h:Dat H d v):TyOf K H v (.type (jC d)):=by
  cases d with
  | none=>simp only [Dat] at h;subst h;exact .non
  | bool b=>simp only [Dat] at h;subst h;exact .bl b
  | int i=>simp only [Dat] at h;subst h;exact .int i
  | str x=>simp only [Dat] at h;subst h;exact .str x
  | list ds=>simp only [Dat] at h;obtain ⟨a,xs,rfl,e,_⟩:=h;exact .lst e
  | tuple ds=>simp only [Dat] at h;obtain ⟨a,xs,rfl,e,_⟩:=h;exact .tup e
  | dict kvs=>simp only [Dat] at h;obtain ⟨a,xs,rfl,e,_⟩:=h;exact .dK e
section
variable {X:Cx} {pins:List (Addr × Obj)} {σ:St} {H:Hp} {s:Shared}
theorem Inv.nosys (I:Inv X pins σ H s) {a:Addr} {o:HO} (h:H a=some o):a≠sysModules:=fun e=>by
  obtain ⟨mm,ob,es,ep,g,_⟩:=I.mod.sysm;have:=(I.bs _ _ g).2;rw [← e,h] at this;cases this
theorem oO {P:Program} {w:World} {h:Heap} {q:Key} {v:Value} (e:(bh P w).is q v=true):Reads h v (ve q) []:=by
  rw [mr] at e;rcases bi e with ⟨i,t,rfl,rfl⟩|⟨x,t,rfl,rfl⟩
  · exact .int i t
  · exact .str x t
mutual
theorem Dat.reads (I:Inv X pins σ H s):∀ (d:PyData) (v:V) (u:Value),Dat H d v→RelV v u→∃ as,Reads s.heap u d as∧sysModules∉as
  | .none,v,u,h,r=>by
    simp only [Dat] at h;subst h;cases r;exact ⟨_,.none,by simp⟩
  | .bool b,v,u,h,r=>by
    simp only [Dat] at h;subst h;cases r;exact ⟨_,.bool b,by simp⟩
  | .int i,v,u,h,r=>by
    simp only [Dat] at h;subst h;obtain ⟨t,rfl⟩:=r;exact ⟨_,.int i t,by simp⟩
  | .str x,v,u,h,r=>by
    simp only [Dat] at h;subst h;obtain ⟨t,rfl⟩:=r;exact ⟨_,.str x t,by simp⟩
  | .list ds,v,u,h,r=>by
    simp only [Dat] at h;obtain ⟨a,xs,rfl,hr,hd⟩:=h;cases r;obtain ⟨its,rv,⟨o,n,e1,e2,_,e3⟩,_⟩:=I.list (SqL.of hr);obtain ⟨as,ra,na⟩:=DatAll.reads I ds xs its hd rv;have ho:=hr;refine ⟨_,.list e1 e2 e3 (by simpa using ra),fun z=>?_⟩;rcases aam.mp z with z|z
    · exact I.nosys ho z.symm
    · exact na z
  | .tuple ds,v,u,h,r=>by
    simp only [Dat] at h;obtain ⟨a,xs,rfl,hr,hd⟩:=h;cases r;obtain ⟨its,rv,⟨o,e1,e2,n,e3⟩,_⟩:=I.tuple (SqT.of hr);obtain ⟨as,ra,na⟩:=DatAll.reads I ds xs its hd rv;exact ⟨_,.tuple e1 e2 e3 (by simpa using ra),na⟩
  | .dict kvs,v,u,h,r=>by
    simp only [Dat] at h;obtain ⟨a,ks,rfl,hr,hd⟩:=h;cases r;obtain ⟨_,_,vs,rel,o,es,ep,e1,ex,e3,_,pr,_⟩:=vq I.hok hr;obtain ⟨as,bs,ra,rb,na,nb⟩:=DatKv.reads I kvs ks vs es.toList hd rel pr;have ho:=hr;refine ⟨_,.dict e1 ex.1 e3 ra rb,fun z=>?_⟩;rcases aaz.mp z with z|z
    · rcases aam.mp z with z|z
      · exact I.nosys ho z.symm
      · exact na z
    · exact nb z
theorem DatAll.reads (I:Inv X pins σ H s):∀ (ds:List PyData) (vs:List V) (us:List Value),DatAll H ds vs→Vals vs us→∃ as,ReadsAll s.heap us ds as∧sysModules∉as
  | [],vs,us,h,r=>by
    simp only [DatAll] at h;subst h;cases r;exact ⟨_,.nil,by simp⟩
  | d :: ds,vs,us,h,r=>by
    simp only [DatAll] at h;obtain ⟨v,t,rfl,h1,h2⟩:=h;cases r with
    | cons r1 r2 =>
      obtain ⟨as,ra,na⟩:=Dat.reads I d v _ h1 r1;obtain ⟨bs,rb,nb⟩:=DatAll.reads I ds t _ h2 r2;exact ⟨_,.cons ra rb,fun z=>(aaz.mp z).elim na nb⟩
theorem DatKv.reads (I:Inv X pins σ H s):∀ (kvs:List (PyData × PyData)) (ks:List (Key × V)) (vs:List (Key × Value)) (es:List DictEntry),DatKv H kvs ks→KV ks vs→Pairs (bh X.prog X.w) es vs →
    ∃ as bs,ReadsAll s.heap (es.map (·.key)) (kvs.map (·.1)) as∧ReadsAll s.heap (es.map (·.val)) (kvs.map (·.2)) bs∧sysModules∉as∧sysModules∉bs
  | [],ks,vs,es,h,r,p=>by
    simp only [DatKv] at h;subst h;cases r;cases p;exact ⟨_,_,.nil,.nil,by simp,by simp⟩
  | (k,d) :: kr,ks,vs,es,h,r,p=>by
    simp only [DatKv] at h;obtain ⟨q,v,t,rfl,rfl,h1,h2⟩:=h;cases r with
    | cons r1 r2 =>
      cases p with
      | cons p1 p2 p3 =>
        obtain ⟨rk,rv⟩:=r1;obtain ⟨as,bs,ra,rb,na,nb⟩:=DatKv.reads I kr t _ _ h2 r2 p3;obtain ⟨cs,rc,nc⟩:=Dat.reads I d v _ h1 rv;have rk':q=_:=rk;subst rk';have kd:=oO (h:=s.heap) p1;refine ⟨[]++as,cs++bs,.cons kd ra,.cons (by dsimp only;rw [p2];exact rc) rb,by simpa using na,fun z=>(aaz.mp z).elim nc nb⟩
end
theorem eW (hg:X.A.guards=some []) (hu:X.A.units+64 < cLine):cf X (.builtin "repr") (fun xs H Q=>∃ x d,xs=[x]∧Dat H d x∧d.showable=true∧d.depth≤60∧d.shown.length≤sizeLine∧Q (.str d.shown) H):=by
  intro pins s σ H xs us Q I r h;obtain ⟨x,d,rfl,hd,hs,hdp,hl,q⟩:=h;obtain ⟨u,rfl,ru⟩:=cZ r;have key:∀ a,u=.ref a→wpAny (model X.prog X.w) X.A (call (.builtin "repr") [u]) (EP X pins σ Q) X.xe s:=fun a e=>by
    subst e;obtain ⟨as,ra,na⟩:=Dat.reads I d x _ hd ru;refine repr_of_reads' ra hs (fun _=>na) hg (by lia) (fun _ _ e=>e) (fun h' u tk hk=>?_) hl;exact ⟨.str d.shown,H,I.kept hk,⟨u,rfl⟩,q⟩
  cases d with
  | none =>
    simp only [Dat] at hd;subst hd;cases ru;rw [PyData.shown_none] at q;exact PySem.P.repr_of_none ⟨.str "None",H,I.tok _,⟨_,rfl⟩,q⟩
  | bool b =>
    simp only [Dat] at hd;subst hd;cases ru;rw [PyData.shown_bool] at q;exact PySem.P.repr_of_bool ⟨.str _,H,I.tok _,⟨_,rfl⟩,q⟩
  | int i =>
    simp only [Dat] at hd;subst hd;obtain ⟨t,rfl⟩:=ru;rw [PyData.shown_int] at q;exact PySem.P.repr_of_int (by simpa [aa5] using hs) ⟨.str _,H,I.tok _,⟨_,rfl⟩,q⟩
  | str z =>
    simp only [Dat] at hd;subst hd;obtain ⟨t,rfl⟩:=ru;rw [PyData.shown_str] at q hl;exact PySem.P.repr_of_str ⟨.str _,H,I.tok _,⟨_,rfl⟩,q⟩ hl
  | list ds =>
    have hd':=hd;simp only [Dat] at hd';obtain ⟨a,_,rfl,_⟩:=hd';exact key a ru
  | tuple ds =>
    have hd':=hd;simp only [Dat] at hd';obtain ⟨a,_,rfl,_⟩:=hd';exact key a ru
  | dict kvs =>
    have hd':=hd;simp only [Dat] at hd';obtain ⟨a,_,rfl,_⟩:=hd';exact key a ru
end
open PySem PySem.Spec PyProof.Rows
section
variable {X:Cx}
def u4 (neg:Bool):R2:=fun x y H Q=>∃ d e,Dat H d x∧Dat H e y∧d.canLay0=true∧e.canLay0=true∧d.depth≤60∧Q (.bl (if neg then !PyData.eqv d e else PyData.eqv d e)) H
theorem ua (hu:X.A.units+64 < cLine):OpR X (compareOp .Eq) (u4 false):=by
  intro pins s σ H x y v u Q I rx ry h;obtain ⟨d,e,hd,he,cd,ce,dp,q⟩:=h;obtain ⟨as,ra,_⟩:=Dat.reads I d x _ hd rx;obtain ⟨bs,rb,_⟩:=Dat.reads I e y _ he ry;exact PySem.SeqAt.compareEq_reads ra rb cd ce (by lia) ⟨.bl _,H,I,rfl,q⟩
theorem qq (hu:X.A.units+64 < cLine):OpR X (compareOp .NotEq) (u4 true):=by
  intro pins s σ H x y v u Q I rx ry h;obtain ⟨d,e,hd,he,cd,ce,dp,q⟩:=h;obtain ⟨as,ra,_⟩:=Dat.reads I d x _ hd rx;obtain ⟨bs,rb,_⟩:=Dat.reads I e y _ he ry;exact PySem.SeqAt.compareNe_reads ra rb cd ce (by lia) ⟨.bl _,H,I,rfl,q⟩
theorem tX {e k:Expr} {te tk:TE} {p2 pos:Pos} (he:PE X e te) (hk:PE X k tk):PE X (.Subscript e (.Slice none none (some k) p2) pos)
    (fun σ H Q=>te σ H fun x H1=>tk σ H1 fun y H2=>y=.int (-1)∧∃ a xs,x=.ref a∧SqL X.K H2 a xs∧∀ p,H2 p=none→Q (.ref p) (upd H2 p (.lst xs.reverse))):=by
  intro pins s σ H Q I h;refine Subscript_ (thn (he pins s σ H _ I h) fun v s1 ⟨x,H1,I1,r1,q1⟩=>?_);refine wpAny_Slice ?_;rw [evalPart_none];refine wpAny_pure (wpAny_pure ?_);rw [evalPart_some];refine thn (hk pins s1 σ H1 _ I1 q1) fun vk s3 ⟨y,H3,I3,r3,q3⟩=>?_;obtain ⟨rfl,a,xs,rfl,hx,q⟩:=q3;obtain ⟨t,rfl⟩:=r3;cases r1;have I4:Inv X pins σ H3 { s3 with heap:=s3.heap.push { cls:=.type "slice",data:=.fields #[.none,.none,.int (-1) t] } }:=I3.kept (t':=s3.toks) fun b ob q=>aal _ q;obtain ⟨its,r,ht,hz⟩:=I4.list hx;have hlen:=r.length;refine tail_any (ops:=[.ref a,.ref s3.heap.objs.size]) (s:={ s3 with heap:=s3.heap.push { cls:=.type "slice",data:=.fields #[.none,.none,.int (-1) t] } }) ht.isList.typeIs slot_list_getitem.lookup ?_ (by with_unfolding_all rfl);refine wpAny_getItem_list_slice ht.isList (Heap.IsSliceOf.new ..) .none .none (.int (-1) t) (by decide) ?_ (by rw [aai];lia);rw [PySem.W.krv_pick];refine ⟨.ref _,_,I4.laid (t':=s3.toks) (o:=.lst xs.reverse) (fun b ob q=>aal _ q) (aab _) ?_,rfl,q _ (I4.hok.fresh (aab _))⟩;exact ⟨by rw [List.length_reverse];exact hz,_,0,r.reverse,aaF _ rfl⟩
end
open PySem PySem.Spec PyProof.Rows
theorem Inv.turnedL {X:Cx} {pins:List (Addr × Obj)} {σ:St} {H:Hp} {s:Shared} {h':Heap} {t':Nat} {fp:List Addr} (I:Inv X pins σ H s) (k:∀ b o,b∉fp→s.heap.get? b=some o→h'.get? b=some o) (hf:∀ b∈fp,kl X pins H b):Inv X pins σ H { s with heap:=h',toks:=t' }:=by
  have nit:∀ b u,H b=some u→b∉fp:=fun b u e z=>by rw [(hf b z).1] at e;cases e
  refine I.step (g':=s.gens) (d':=s.drawn) (ch:=fp) (fun b hb=>⟨(hf b hb).2.2.2.1,(hf b hb).2.1,(hf b hb).2.2.2.2.1,(hf b hb).2.2.2.2.2⟩) (fun b o _ _ hc e _=>k b o hc e) (fun b o _ _ hc e _=>⟨o.slots,k b o hc e⟩) (fun _ _ _ _ n=>n)
    (fun b o hc e=>⟨o,k b o hc e⟩) (fun _ _ e=>e) (fun _ _ _ e=>e) (fun b ps e=>⟨#[],by rw [e];simp⟩) (fun m hm=>?_) (fun b u e=>?_) I.bare
  · obtain ⟨o,es,ep,ho,r⟩:=hm;exact ⟨o,es,ep,k _ o (fun z=>(hf _ z).2.1 rfl) ho,r⟩
  · refine (I.hok b u e).stay (fun c v hc q=>k c v ?_ q) (fun _ q=>q) fun _ _ q=>q;rcases hc with z|z
    · rw [z];exact nit b u e
    · exact nit c _ z
def uK (K:aaa) (a:Addr):It :=
  ⟨fun i H=>∃ xs x,SqL K H a xs∧xs[i]?=some x,fun i H x H'=>∃ p y,H p=none∧x=.ref p∧H'=upd H p (.tup [.int i,y])∧∀ xs,SqL K H a xs→xs[i]?=some y,fun i H=>∃ xs,SqL K H a xs∧xs.length≤i⟩
theorem nY {P:Program} {w:World} {K:aaa} {elts:List Expr} {k:Nat} {pos:Pos} (a e it:Addr) (hei:e≠it):Turn P w K (.Tuple elts k pos) (uK K a) [e,it] e (fun i h=>(∃ old,IsEnum h e it i old)∧h.IsListIter it a i) where
  mem:=by simp
  obj:=fun i h st b hb=>by
    obtain ⟨⟨old,he⟩,o,e1,c,d⟩:=st;rcases aam.mp hb with z|z
    · subst z;exact ⟨_,he,fun v z=>by cases z⟩
    · have z:b=it:=by simpa using z
      subst z;exact ⟨o,e1,fun v z=>by rw [d] at z;cases z⟩
  keep:=fun i h h' st kp=>⟨let ⟨old,he⟩:=st.1;⟨old,kp e (by simp) _ he⟩,st.2.at fun o x=>kp it (by simp) o x⟩
  item:=by
    intro X hP hw hK hc i pins s σ H E I hf st hg;subst hP hw hK;obtain ⟨xs,x,hq,hx⟩:=hg;obtain ⟨its,rv,p,hz⟩:=I.list hq;obtain ⟨u,hu,ru⟩:=rv.get hx;obtain ⟨⟨old,he⟩,hit⟩:=st;have helt:e < s.heap.objs.size:=aak he;have hilt:it < s.heap.objs.size:=by obtain ⟨_,x,_⟩:=hit;exact aak x
    refine wpAny_pyNext_enum_item he hit p.isList (x:=u) (by simpa using hu) hei fun h' ho hit' hT hsz hk=>?_;refine ⟨_,rfl,wpAny_letOwnedTupleGo_enum ho fun h'' he' hs'=>?_⟩;have hs2:act e h' h'':=hs';have keep:∀ b o,b∉[e,it]→s.heap.get? b=some o→h''.get? b=some o:=fun b o hb q=>by
      have b1:b≠e:=fun z=>hb (by simp [z]);have b2:b≠it:=fun z=>hb (by simp [z]);exact (hs2.2 b b1).trans (hk b o b1 b2 q)
    have I1:Inv X pins σ H { s with heap:=h'',toks:=s.toks+1 }:=I.turnedL keep hf;have gT:h''.get? s.heap.objs.size=some { cls:=.type "tuple",data:=.seq #[.int i s.toks,u] }:=(hs2.2 _ (abX helt)).trans hT;have fresh:H s.heap.objs.size=none:=I.hok.fresh (aab _);have I2:=I1.adopt (a:=s.heap.objs.size) (o:=.tup [.int i,x]) fresh I.sz (abX I.lt) (fun y c e1=>by
        obtain ⟨v,q⟩:=I.cell y c e1;exact aaq q.lt) (fun q hq=>aaq (aak (I.pin q hq).1)) ⟨by show 2≤sizeLine;decide,[.int i s.toks,u],.cons ⟨_,rfl⟩ (.cons ru .nil),⟨_,gT,rfl,_,rfl⟩⟩
    refine ⟨.ref s.heap.objs.size,_,I2,rfl,⟨_,x,fresh,rfl,rfl,fun ys hy=>by rw [I.list_inj hy hq];exact hx⟩,⟨⟨u,by simpa using he'⟩,hit'.at fun o y=>(hs2.2 it hei.symm).trans y⟩,fun b hb=>?_⟩;rw [aq]
    · exact (hf b hb).1
    · rcases aam.mp hb with z|z
      · rw [z];exact aaq helt
      · have z:b=it:=by simpa using z
        rw [z];exact aaq hilt
  done:=by
    intro X hP hw hK hc i pins s σ H E I hf st hg;subst hP hw hK;obtain ⟨xs,hq,hx⟩:=hg;obtain ⟨its,rv,p,hz⟩:=I.list hq;obtain ⟨⟨old,he⟩,hit⟩:=st;have hl:=rv.length;refine wpAny_pyNext_enum_end (I.ok.hd hc) he hit p.isList (by simp;lia) fun h' eb=>⟨rfl,I.turnedL (t':=s.toks) (fp:=[e,it]) (fun b o hb q=>eb b o (fun z=>hb (by simp [z])) q) hf⟩
  self:=fun _ _ _ _ _ st h=>by
    obtain ⟨⟨old,he⟩,_⟩:=st;exact wpAny_pyIter_enum he h
def vj (K:aaa) (ta:TA):TI:=fun σ H R=>ta σ H fun vs H1=>∃ a,vs=[.ref a]∧(∃ xs,SqL K H1 a xs)∧R (uK K a) H1
theorem rT {X:Cx} {elts:List Expr} {k:Nat} {tpos:Pos} {a:Expr} {ta:TA} {p pos:Pos} (hg:Gl X "enumerate") (hm:X.mg "enumerate" = none) (ha:PA X [a] ta) (hs:starEach [a] X.env=[(false,eval a X.env)]:=by rfl):PI X (.Tuple elts k tpos) (.Call (.Name "enumerate" p) [a] [] pos) (vj X.K ta):=by
  intro pins s σ H R I h;refine Call_ (gG I hg hm boot_enumerate (abB (thn (ha pos pins s σ H _ I h) fun us s1 ⟨vs,H1,I1,r1,q1⟩=>?_) hs rfl));obtain ⟨l,e,⟨xs,hq⟩,q⟩:=q1;subst e;cases r1 with
  | cons r rr =>
    cases rr;cases r;obtain ⟨its,rv,pl,hz⟩:=I1.list hq;refine call_enumerate_list pl.isList fun h' he hit hsz hk=>?_;refine wpAny_pyIter_enum (s:={ s1 with heap:=h' }) he ?_;have I2:Inv X pins σ H1 { s1 with heap:=h' }:=I1.kept (t':=s1.toks) hk;refine ⟨s1.heap.objs.size+1,[s1.heap.objs.size+1,s1.heap.objs.size],_,_,H1,rfl,I2,nY l _ _ (Nat.succ_ne_self _),⟨⟨_,he⟩,hit⟩,fun b hb=>?_,q⟩;have hb2:s1.heap.objs.size≤b:=by
      rcases aam.mp hb with z|z
      · rw [z];exact abR _
      · have z:b=s1.heap.objs.size:=by simpa using z
        rw [z];exact aab _
    exact I1.fpOk hb2 (I1.hok.fresh hb2)
open PySem PySem.Spec PyProof.Rows
section
variable {prog:Program} {w:World} {κ:Type} [DecidableEq κ] {knd:HeapKind prog w κ} {A:Around} {E:Value→Shared→Prop} {s:Shared}
end
open PySem PySem.Spec PyProof.Rows
section
variable {prog:Program} {w:World} {κ:Type} [DecidableEq κ] {knd:HeapKind prog w κ} {A:Around} {E:Value→Shared→Prop} {s:Shared}
inductive HitsH (A:Around) (s:Shared) (kb:List (κ × Addr × Value)):List (κ × Addr × Value)→Bool→Prop
  | nil:HitsH A s kb [] true
  | miss {k:κ} {a:Addr} {v:Value} {r:List (κ × Addr × Value)}:atKey kb k=none→HitsH A s kb ((k,a,v) :: r) false
  | hit {k:κ} {a c:Addr} {v y:Value} {r:List (κ × Addr × Value)} {e b:Bool}:atKey kb k=some (c,y)→SeqAt.EqAt A s v y e→HitsH A s kb r b→HitsH A s kb ((k,a,v) :: r) (e && b)
end
open PySem PySem.Spec PyProof.Rows
inductive HitsV (K:aaa) (H:Hp) (n:Nat) (kb:List (List Key × V)):List (List Key × V)→Bool→Prop
  | nil:HitsV K H n kb [] true
  | miss {k:List Key} {v:V} {r:List (List Key × V)}:uL kb k=none→HitsV K H n kb ((k,v) :: r) false
  | hit {k:List Key} {v y:V} {r:List (List Key × V)} {e b:Bool}:uL kb k=some y→EqR K H n v y e→HitsV K H n kb r b→HitsV K H n kb ((k,v) :: r) (e && b)
open PySem PySem.Spec PyProof.Rows
section
variable {prog:Program} {w:World} {κ:Type} [DecidableEq κ] {knd:HeapKind prog w κ} {A:Around} {E:Value→Shared→Prop}
variable {s:Shared}
end
open PySem PySem.Spec PyProof.Rows
section
variable {prog:Program} {w:World} {A:Around} {E:Value→Shared→Prop} {s:Shared}
end
end L2
namespace L2
open PySem PySem.Spec PyProof.Rows PySem.W
section
variable {prog:Program} {w:World} {A:Around} {E:Value→Shared→Prop} {s:Shared}
end
end L2
namespace L2
open PySem PySem.Spec PyProof.Rows
section
variable {prog:Program} {w:World} {A:Around} {E:Value→Shared→Prop} {s:Shared}
end
open PySem PySem.Spec PyProof.Rows
def KD (P:Program) (w:World) (K:aaa) (a:Addr) (kvs:List (Key × V)):Prop :=
  ∃ o es ep vs,K.lookup a=some o∧o.ExactDict∧o.data=.dict es ep∧KeysOf (bh P w) es∧Pairs (bh P w) es.toList vs∧(vs.map (·.1)).Nodup∧KV kvs vs
open PySem PySem.Spec PyProof.Rows
def Its (z:Str):It :=
  ⟨fun i _=>i < z.cps.size,fun i H x H'=>H'=H∧∃ c,z.cps[i]?=some c∧x=.str ⟨#[c]⟩,fun i _=>z.cps.size≤i⟩
theorem py {P:Program} {w:World} {K:aaa} {tg:Expr} (it:Addr) (z:Str) (t:Tok):Turn P w K tg (Its z) [it] it (fun i h=>h.IsStrIter it "str_ascii_iterator" z t i) where
  mem:=by simp
  obj:=fun i h st b hb=>by
    have e:b=it:=by simpa using hb
    subst e;obtain ⟨o,e,c,d⟩:=st;exact ⟨o,e,fun v z=>by rw [d] at z;cases z⟩
  keep:=fun i h h' st k=>by
    obtain ⟨o,e,r⟩:=st;exact ⟨o,k it (by simp) o e,r⟩
  item:=by
    intro X hP hw hK hc i pins s σ H E I hf st hg;subst hP hw hK;have hg:i < z.cps.size:=hg;obtain ⟨f0,f1,f2,f3,f4,f5⟩:=hf it (by simp);have hx:z.cps[i]?=some z.cps[i]:=by simp [hg]
    refine wpAny_pyNext_ascii_item st (c:=z.cps[i]) hx fun h' st' sb=>?_;have I1:Inv X pins σ H { s with heap:=h',toks:=s.toks+1 }:=I.turned (t':=s.toks+1) (fun b o hb e=>(sb.2 b hb).trans e) f0 f1 f3 f4 f5;obtain ⟨o,e,c,d⟩:=id st';exact ⟨_,rfl,qP (s:={ s with heap:=h',toks:=s.toks+1 }) e c d (by decide) ⟨.str ⟨#[z.cps[i]]⟩,H,I1,⟨_,rfl⟩,⟨rfl,_,hx,rfl⟩,st',fun b hb=>(hf b hb).1⟩⟩
  done:=by
    intro X hP hw hK hc i pins s σ H E I hf st hg;subst hP hw hK;have hg:z.cps.size≤i:=hg;obtain ⟨f0,f1,f2,f3,f4,f5⟩:=hf it (by simp);exact wpAny_pyNext_ascii_end (I.ok.hd hc) st (by simp [hg]) fun h' eb=>⟨rfl,I.turned (t':=s.toks) (fun b o hb e=>eb b o hb e) f0 f1 f3 f4 f5⟩
  self:=fun _ _ _ _ _ st h=>wpAny_pyIter_striter_ascii st h
def v0 (tl:TE):TI:=fun σ H R=>tl σ H fun x H1=>∃ z,x=.str z∧z.cps.all (· < 128)=true∧R (Its z) H1
theorem qh {X:Cx} {tg l:Expr} {tl:TE} (hl:PE X l tl):PI X tg l (v0 tl):=by
  intro pins s σ H R I h;refine thn (hl pins s σ H _ I h) fun v s1 ⟨x,H1,I1,r1,q1⟩=>?_;obtain ⟨z,e,ha,q⟩:=q1;subst e;obtain ⟨t,rfl⟩:=r1;refine wpAny_pyIter_ascii ha ?_;refine ⟨s1.heap.objs.size,[s1.heap.objs.size],_,_,H1,rfl,I1.kept (t':=s1.toks) fun b o e=>aal _ e,py _ z t,⟨_,aaF _ rfl,rfl,rfl⟩,fun b hb=>?_,q⟩;have e:b=s1.heap.objs.size:=by simpa using hb
  subst e;exact I1.fpOk (aab _) (I1.hok.fresh (aab _))
end L2
namespace PySem
open Sem (wp)
namespace F
end F
section
variable {prog:Program} {w:World} {A:Around} {E:Value→Shared→Prop} {h:Heap} {g:Array GenState} {d:Drawn} {t:Nat} {os:OsState} {a:Addr} {vs:Array Value}
end
end PySem
namespace L2
open PySem PySem.Spec PyProof.Rows
section
variable {prog:Program} {w:World} {A:Around} {E:Value→Shared→Prop} {s:Shared}
theorem eJ:entryFor table "dict.update.loop" = some Builtin.«dict.update.loop»:=entryFor_of_tree (by kernel_rfl)
theorem eD:plainId "dict.update.loop" = true:=by decide +kernel
end
open PySem PySem.Spec PyProof.Rows
theorem iU {X:Cx} (hc:X.calm=true):cf X (.builtin "all") (fun xs H Q=>∃ (p:Addr) (bs:List Bool),xs=[.ref p]∧SqL X.K H p (bs.map V.bl)∧Q (.bl (bs.all id)) H):=by
  intro pins s σ H xs us Q I r h;obtain ⟨p,bs,rfl,hq,q⟩:=h;obtain ⟨u,rfl,rx⟩:=cZ r;cases rx;obtain ⟨its,r',pl,hz⟩:=I.list hq;have hlen:=r'.length;rw [aac] at hlen;have hps:p < s.heap.objs.size:=by obtain ⟨o,n,ho,_⟩:=pl;exact aak ho
  refine call_all_walk (wpAny_pyIter_list pl.isList ?_);refine ⟨s.heap.objs.size,_,_,_,_,_,fun i=>bs.getD i true,rfl,Walks.list (A:=X.A.in1) (I.ok.hd hc) s.heap.objs.size p (aaq hps) its.toArray,⟨⟨_,aaF _ rfl,rfl,rfl⟩,pl.isList.at fun o x=>aal _ x⟩,?_,?_⟩
  · intro i v s' Q' E' hP hQ';have hv:its.toArray[i]?=some v:=hP;have hv2:its[i]?=some v:=by simpa using hv
    have hi:i < bs.length:=by
      have:=(aaJ.mp hv2).1;lia
    have hb:(bs.map V.bl)[i]?=some (.bl bs[i]):=by rw [aaU,aaj hi];rfl
    obtain ⟨u,hu,ru⟩:=r'.get hb;rw [hv2] at hu;cases hu;cases ru;have e:bs.getD i true=bs[i]:=by rw [abD,aaj hi];rfl
    have hQ2:Q' (bs.getD i true) s':=hQ';rw [e] at hQ2;exact wpAny_pure hQ2
  · intro h' tk k;have I2:Inv X pins σ H { s with heap:=h',toks:=tk }:=by
      refine I.turnedL (fp:=[s.heap.objs.size]) (t':=tk) (fun b o hb x=>k b o (by simpa using hb) (aal _ x)) fun b hb=>?_;have e:b=s.heap.objs.size:=by simpa using hb
      subst e;exact I.fpOk (aab _) (I.hok.fresh (aab _))
    have e:(aaQ its.toArray.size).all (fun i=>bs.getD i true)=bs.all id:=by
      have e1:its.toArray.size=bs.length:=by simp;lia
      rw [e1];apply Bool.eq_iff_iff.mpr;rw [aa2,aa2];constructor
      · intro hh b hb;obtain ⟨i,hi,e⟩:=List.getElem_of_mem hb;have:=hh i (abv.mpr hi);rw [abD,aaj hi] at this;rw [← e];exact this
      · intro hh i hi;have hi:=abv.mp hi;rw [abD,aaj hi];exact hh _ (ab6 hi)
    rw [e];exact ⟨.bl (bs.all id),H,I2,rfl,q⟩
theorem fb:∀ (cs:List Nat) (acc:List Value),acc.length=cs.length→(∀ (j:Nat) (v:Value),acc[j]?=some v→∃ (c:Nat) (u:Tok),cs[j]?=some c∧v=Value.str ⟨#[c]⟩ u)→Vals (cs.map fun c=>V.str ⟨#[c]⟩) acc
  | [],[],_,_=>.nil
  | [],_ :: _,h,_=>by simp at h
  | _ :: _,[],h,_=>by simp at h
  | c :: cs,v :: acc,h,k=>by
    obtain ⟨c',u,e1,e2⟩:=k 0 v rfl;have : c=c':=by simpa using e1
    subst this;exact .cons ⟨u,e2⟩ (fb cs acc (by simpa using h) fun j v hv=>k (j+1) v (by simpa using hv))
theorem iT {X:Cx} (hc:X.calm=true):cf X (.type "list") (fun xs H Q=>∃ z:Str,xs=[.str z]∧z.cps.size≤1000∧∀ l,H l=none→Q (.ref l) (upd H l (.lst (z.cps.toList.map fun c=>V.str ⟨#[c]⟩)))):=by
  intro pins s σ H xs us Q I r h;obtain ⟨z,rfl,hz,q⟩:=h;obtain ⟨u,rfl,rx⟩:=cZ r;obtain ⟨t,rfl⟩:=rx;have hz2:z.cps.size≤sizeLine:=Nat.le_of_lt (ay hz);refine call_list_str (I.ok.hd hc) z t (fun h' tk acc' c' kp e hi=>?_) hz2;refine ⟨.ref s.heap.objs.size,_,I.laid (t':=tk) kp (aab _) (show ObjOk X.prog X.w _ h' _ (.lst (z.cps.toList.map fun c=>V.str ⟨#[c]⟩)) from ⟨by rw [aac];simpa using hz2,acc'.toList,c',?_,by simpa using e⟩),rfl,q _ (I.hok.fresh (aab _))⟩;refine fb _ _ (by simpa using hi.1) fun j v hv=>?_;obtain ⟨c,u,e1,e2⟩:=hi.2 j v (by simpa using hv);exact ⟨c,u,by simpa using e1,e2⟩
open PySem PySem.Spec PyProof.Rows
open PySem PySem.Spec PyProof.Rows
structure PCl (Y:Cx) (c:Comprehension) (r:TI × TG × TT):Prop where
  as:c.is_async=0
  it:PI Y c.target c.iter r.1
  tg:PG Y c.target r.2.1
  fs:rG Y c.ifs r.2.2
  st:∀ E x,foldedSetIterable c.iter E x=pure x
section
variable {X:Cx}
end
section
variable {X:Cx}
end
open PySem PySem.Spec PyProof.Rows
def gH (h:Heap) (S:List Addr):Heap:=⟨h.objs.mapIdx fun i o=>if i∈S then { o with data:=.freed } else o,h.life⟩
theorem de {h:Heap} {S:List Addr} {b:Addr} (hb:b∈S):(gH h S).get? b=none:=by
  unfold gH Heap.get?;simp only [Array.getElem?_mapIdx];cases e:h.objs[b]? with
  | none=>rfl
  | some o=>simp [hb]
theorem iH {h:Heap} {S:List Addr} {b:Addr} (hb:b∉S):(gH h S).get? b=h.get? b:=by
  unfold gH Heap.get?;simp only [Array.getElem?_mapIdx];cases e:h.objs[b]? with
  | none=>rfl
  | some o=>simp [hb]
theorem dM (h:Heap) (S:List Addr):(gH h S).StaysIn h:=fun b o e=>by
  by_cases hb:b∈S
  · rw [de hb] at e;cases e
  · rw [iH hb] at e;exact e
theorem cI {h h1 base:Heap} {S:List Addr}:∀ {l:List Env},(∀ b∈l.filterMap (·.frame),b∈S)→h1.FunFrames base l→h1.FunFrames (gH h S) l
  | [],_,_=>trivial
  | env :: rest,hs,⟨hk,⟨L,o,hf,hn,ho,hd⟩,hr⟩=>by
    refine ⟨hk,⟨L,o,hf,de (hs L ?_),ho,hd⟩,cI (fun b hb=>hs b ?_) hr⟩
    · rw [abm,hf];exact aag
    · rw [abm,hf];exact aaf _ hb
def Trc (h:Heap) (e T:Addr) (cls:Value):Prop:=∃ oe vs oT ts a0,h.get? e=some oe∧(oe.cls=cls∧vs[0]?=some a0)∧oe.data=.fields vs∧vs[1]?=some (.ref T)∧T≠e∧h.get? T=some oT∧oT.data=.fields ts∧ts[3]?=some .none
section
variable {M:Model} {A:Around} {E:Value→Shared→Prop} {s:Shared}
structure Lft (l:List Env) (e:Addr) (x:List Addr) (h h':Heap):Prop where
  keep:∀ b o,b∉l.filterMap (·.frame)→b≠e→b∉x→h.get? b=some o→h'.get? b=some o
  slot:∀ b o,b∈l.filterMap (·.frame)→h.get? b=some o→∃ sl,h'.get? b=some { o with slots:=sl }
theorem jU {base b0:Heap} {l:List Env} {e:Addr} {x:List Addr} {cls:Value} {h h':Heap} (hl:h.FunFrames b0 l) {a0:Value} (L:Heap.LeftW (gH h (e :: x++l.filterMap (·.frame))) l e cls a0 h h') (he:h.get? e≠none) :
    Lft l e x h h'∧∃ T,Trc h' e T cls∧(T∈x∨h.get? T=none):=by
  obtain ⟨k1,k2,k3,k4⟩:=L;refine ⟨⟨fun b o hb hbe hx ho=>k1 b o (by rw [iH];exact ho;simp [hb,hbe,hx]),fun b o hb ho=>?_⟩,?_⟩
  · obtain ⟨_,o',ho',hd⟩:=hl.mem hb;rw [ho] at ho';cases ho';exact k4 b o ho hd
  · obtain ⟨oe,vs,T,oT,ts,h1,h2,h3,h4,h5,h6,h7,h8,h9⟩:=k3;refine ⟨T,⟨oe,vs,oT,ts,a0,h1,h2,h3,h4,h6,h7,h8,h9⟩,?_⟩;by_cases hT:T∈x
    · exact .inl hT
    · refine .inr ?_;have nf:T∉l.filterMap (·.frame):=fun z=>by
        obtain ⟨_,o,ho,hd⟩:=k2.mem z;rw [h7] at ho;cases ho;exact hd ts h8
      rw [iH (by simp [hT,h6,nf])] at h5;exact h5
theorem lr {b0:Heap} {env:Env} {outer:List Env} {L e:Addr} {oe:Obj} {vs:Array Value} {Q:Unit→Shared→Prop} (hfr:A.frames=some (env :: outer)) (hl:s.heap.FunFrames b0 (env :: outer)) (hf:env.frame=some L)
    (he:s.heap.get? e=some oe) (hd:oe.data=.fields vs) (h1:vs[1]?=some .none) {a0:Value} (h0:vs[0]?=some a0)
    (h:∀ h' T,Lft (env :: outer) e [] s.heap h'→Trc h' e T oe.cls→s.heap.get? T=none→Q () { s with heap:=h' }):wpAny M A (leaving env (.ref e)) Q E s:=by
  refine wpAny_leaving_firstW (a0:=a0) (base:=gH s.heap (e :: []++(env :: outer).filterMap (·.frame))) hfr (cI (fun b hb=>aae _ hb) hl) hf he (dM _ _) (de (by simp)) hd h1 h0 fun h' L'=>?_;obtain ⟨l',T,t,z⟩:=jU (base:=b0) hl L' (by rw [he];simp);rcases z with z|z
  · exact absurd z (by simp)
  · exact h h' T l' t z
theorem mw {b0:Heap} {env:Env} {outer:List Env} {L e T:Addr} {cls:Value} {Q:Unit→Shared→Prop} (hfr:A.frames=some (env :: outer)) (hl:s.heap.FunFrames b0 (env :: outer)) (hf:env.frame=some L)
    (ht:Trc s.heap e T cls)
    (h:∀ h' T',Lft (env :: outer) e [T] s.heap h'→Trc h' e T' cls→(T'=T∨s.heap.get? T'=none)→Q () { s with heap:=h' }):wpAny M A (leaving env (.ref e)) Q E s:=by
  obtain ⟨oe,vs,oT,ts,a0,h1,h2,h3,h4,h6,h7,h8,h9⟩:=ht;refine wpAny_leaving_nextW (a0:=a0) (base:=gH s.heap (e :: [T]++(env :: outer).filterMap (·.frame))) (cls:=cls) hfr (cI (fun b hb=>aae _ hb) hl) hf ⟨oe,vs,T,oT,ts,h1,h2,h3,h4,de (by simp),h6,h7,h8,h9⟩ (dM _ _) (de (by simp)) fun h' L'=>?_;obtain ⟨l',T',t,z⟩:=jU (base:=b0) hl L' (by rw [h1];simp);refine h h' T' l' t ?_;rcases z with z|z
  · exact .inl (by simpa using z)
  · exact .inr z
end
def CX1 (P:Program) (w:World):CXT:=fun outer H s E e s'=>∃ (ea T C:Addr) (H':Hp),e=.ref ea∧s'.os=s.os∧AllBare s'.gens∧Un (frs outer) [] H H' s.heap s'.heap∧HOk P w H' s'.heap∧s.heap.get? ea=none∧s.heap.get? T=none∧H' ea=none∧H' T=none∧Trc s'.heap ea T (.ref C)∧E (.ref C) none H'
theorem gI {h h' base:Heap}:∀ {l:List Env},(∀ b∈frs l,∀ o,h.get? b=some o→∃ sl,h'.get? b=some { o with slots:=sl })→h.FunFrames base l→h'.FunFrames base l
  | [],_,_=>trivial
  | env :: rest,k,⟨hk,⟨L,o,hf,hn,ho,hd⟩,hr⟩=>by
    have m:∀ b,b=L∨b∈frs rest→b∈frs (env :: rest):=fun b hb=>by
      show b∈(env :: rest).filterMap (·.frame);rw [abm,hf];rcases hb with rfl|hb
      · exact aag
      · exact aaf _ hb
    obtain ⟨sl,e⟩:=k L (m L (.inl rfl)) o ho;exact ⟨hk,⟨L,_,hf,hn,e,hd⟩,gI (fun b hb=>k b (m b (.inr hb))) hr⟩
theorem iP {env:Env} {outer:List Env} {L:Addr} (hf:env.frame=some L):frs (env :: outer)=L :: frs outer:=by
  show (env :: outer).filterMap (·.frame)=_;rw [abm,hf];rfl
theorem mV {env:Env} {outer:List Env} {L e:Addr} {x:List Addr} {H0 H':Hp} {h0 h1 h2:Heap} (hf:env.frame=some L) (u:Un (frs (env :: outer)) [] H0 H' h0 h1) (l:Lft (env :: outer) e x h1 h2) (hL:h0.get? L=none) (he:h0.get? e=none) (hx:∀ b∈x,h0.get? b=none) :
    Un (frs outer) [] H0 H' h0 h2:=by
  have ne:∀ b o,h0.get? b=some o→b≠L∧b≠e∧b∉x:=fun b o q=>⟨(fun z=>by rw [z,hL] at q;cases q),(fun z=>by rw [z,he] at q;cases q),(fun z=>by rw [hx b z] at q;cases q)⟩
  have fr:∀ b,b∈frs (env :: outer)↔b=L∨b∈frs outer:=fun b=>by rw [iP hf,aam]
  have fwd:∀ b o,h0.get? b=some o→∀ o',h1.get? b=some o'→∃ sl,h2.get? b=some { o' with slots:=sl }:=fun b o q o' q'=>by
    by_cases hb:b∈frs (env :: outer)
    · exact l.slot b o' hb q'
    · exact ⟨o'.slots,l.keep b o' hb (ne b o q).2.1 (ne b o q).2.2 q'⟩
  refine ⟨fun b o q n hb _=>?_,fun b o q n hb _=>?_,fun b o q n h=>u.free b o q n h,fun b o q h=>?_,u.tups,u.frzs,u.tbls⟩
  · have nb:b∉frs (env :: outer):=fun z=>((fr b).mp z).elim (ne b o q).1 hb;exact l.keep b o nb (ne b o q).2.1 (ne b o q).2.2 (u.keep b o q n nb (by simp))
  · obtain ⟨sl,e1⟩:=u.slot b o q n ((fr b).mpr (.inr hb)) (by simp);obtain ⟨sl',e2⟩:=fwd b o q _ e1;exact ⟨sl',e2⟩
  · obtain ⟨o',e1⟩:=u.there b o q h;obtain ⟨sl,e2⟩:=fwd b o q o' e1;exact ⟨_,e2⟩
theorem lE {P:Program} {w:World} {l:List Env} {e:Addr} {x:List Addr} {H:Hp} {h1 h2:Heap} (ok:HOk P w H h1) (f:Lft l e x h1 h2) (hl:∀ b∈frs l,H b=none) (he:H e=none) (hx:∀ b∈x,H b=none):HOk P w H h2:=fun b u q =>
  (ok b u q).stay (fun c v hc r=>by
    have hn:H c≠none:=by rcases hc with rfl|hc;rw [q];simp;rw [hc];simp
    exact f.keep c v (fun z=>hn (hl c z)) (fun z=>hn (by rw [z];exact he)) (fun z=>hn (hx c z)) r) (fun _ r=>r) fun _ _ r=>r
section
variable {P:Program} {w:World} {K:aaa} {mg:Str→Option Value} {base:Heap} {N:List Str} {qual:Str} {scope:Scope} {f:Addr} {cd:Value} {A:Around} {outer:List Env} {s0:Shared} {H0:Hp} {E:XK}
theorem tP {pins:List (Addr × Obj)} {σ:St} {H:Hp} {s:Shared} {h':Heap} {e C:Addr} {args:List Value} (I:Inv (iS (CX1 P w) P w K mg base N qual scope f cd A outer s0 H0 E) pins σ H s) (mk:Heap.MadeExcOf s.heap h' e (.ref C) args) (q:E (.ref C) none H) :
    (iS (CX1 P w) P w K mg base N qual scope f cd A outer s0 H0 E).xe (.ref e) { s with heap:=h' }:=by
  have hf:(envOfC qual scope s0.heap.objs.size f cd).frame=some s0.heap.objs.size:=rfl;obtain ⟨t,he,ht,_⟩:=mk.there;have fr:h'.FunFrames base (envOfC qual scope s0.heap.objs.size f cd :: outer):=gI (fun b _ o ho=>⟨o.slots,mk.keeps b o ho⟩) I.stack;have un1:Un (frs (envOfC qual scope s0.heap.objs.size f cd :: outer)) [] H0 H s0.heap h':=(Un.mono I.base (fun b hb=>by rw [iP hf];exact aaf _ hb) (fun b hb=>hb)).trans (Un.kept mk.keeps);have none_of:∀ b,s.heap.get? b=none→s0.heap.get? b=none∧H b=none:=fun b hb=>by
    constructor
    · cases z:s0.heap.get? b with
      | none=>rfl
      | some o =>
        obtain ⟨o',z'⟩:=I.base.there b o z (fun z=>nomatch z);rw [hb] at z';cases z'
    · cases z:H b with
      | none=>rfl
      | some o =>
        obtain ⟨u,hu⟩:=(I.hok b o z).get;rw [hb] at hu;cases hu
  refine lr (b0:=base) (s:={ s with heap:=h' }) (oe:={ cls:=.ref C,data:=.fields #[.ref t,.none,.none,.none,.bool false,.none] }) I.ok.frames fr hf he rfl rfl (a0:=.ref t) rfl fun h2 T lf tr hT=>?_;have hT':s.heap.get? T=none:=by
    cases z:s.heap.get? T with
    | none=>rfl
    | some o =>
      have:=mk.keeps T o z;have hT:h'.get? T=none:=hT;rw [hT] at this;cases this
  have hL:s0.heap.get? s0.heap.objs.size=none:=by
    cases z:s0.heap.get? s0.heap.objs.size with
    | none=>rfl
    | some o=>exact absurd (aak z) (aa7 _)
  exact ⟨e,T,C,H,rfl,I.os,I.bare,mV hf un1 lf hL (none_of e mk.new).1 (fun b hb=>nomatch hb),lE (I.hok.kept mk.keeps) lf I.stkFree (none_of e mk.new).2 (fun b hb=>nomatch hb),(none_of e mk.new).1,(none_of T hT').1,(none_of e mk.new).2,(none_of T hT').2,tr,q⟩
theorem u6:iV (CX1 P w) (iS (CX1 P w) P w K mg base N qual scope f cd A outer s0 H0 E) E:=by
  rintro pins σ H s e s' I ⟨ea,T,C,H',rfl,os,bare,un,hok,n1,n2,m1,m2,tr,q⟩;have hf:(envOfC qual scope s0.heap.objs.size f cd).frame=some s0.heap.objs.size:=rfl;have un:Un (frs (envOfC qual scope s0.heap.objs.size f cd :: outer)) [] H H' s.heap s'.heap:=un;have fr:s'.heap.FunFrames base (envOfC qual scope s0.heap.objs.size f cd :: outer):=gI (fun b hb o ho=>un.any ho (I.stkFree b hb) (fun z=>nomatch z)) I.stack;have un1:Un (frs (envOfC qual scope s0.heap.objs.size f cd :: outer)) [] H0 H' s0.heap s'.heap:=(Un.mono I.base (fun b hb=>by rw [iP hf];exact aaf _ hb) (fun b hb=>hb)).trans un;have none_of:∀ b,s.heap.get? b=none→s0.heap.get? b=none:=fun b hb=>by
    cases z:s0.heap.get? b with
    | none=>rfl
    | some o =>
      obtain ⟨o',z'⟩:=I.base.there b o z (fun z=>nomatch z);rw [hb] at z';cases z'
  have hL:s0.heap.get? s0.heap.objs.size=none:=by
    cases z:s0.heap.get? s0.heap.objs.size with
    | none=>rfl
    | some o=>exact absurd (aak z) (aa7 _)
  have frN:∀ b∈frs (envOfC qual scope s0.heap.objs.size f cd :: outer),H' b=none:=fun b hb=>by
    obtain ⟨_,o,ho,_⟩:=(show s.heap.FunFrames base (envOfC qual scope s0.heap.objs.size f cd :: outer) from I.stack).mem hb;exact un.free b o ho (I.stkFree b hb) (fun z=>nomatch z)
  refine mw (b0:=base) I.ok.frames fr hf tr fun h2 T' lf tr' hT=>?_;have x1:∀ b∈[T],s0.heap.get? b=none:=fun b hb=>by rw [aaG.mp hb];exact none_of T n2
  have x2:∀ b∈[T],H' b=none:=fun b hb=>by rw [aaG.mp hb];exact m2
  refine ⟨ea,T',C,H',rfl,os.trans I.os,bare,mV hf un1 lf hL (none_of ea n1) x1,lE hok lf frN m1 x2,none_of ea n1,?_,m1,?_,tr',q⟩
  · rcases hT with rfl|hT
    · exact none_of _ n2
    · cases z:s0.heap.get? T' with
      | none=>rfl
      | some o =>
        obtain ⟨o',z'⟩:=un1.there T' o z (fun z=>nomatch z);rw [hT] at z';cases z'
  · rcases hT with rfl|hT
    · exact m2
    · cases z:H' T' with
      | none=>rfl
      | some o =>
        obtain ⟨u,hu⟩:=(hok T' o z).get;rw [hT] at hu;cases hu
end
structure EC (K:aaa) (C:Addr):Prop where
  ex:∃ nm q N bs bm hdct sn sub ab col dd k0 k1 k2 k3 k5 B newId initId bmB mN,ExcBaseFacts B newId initId bmB∧bm.contains (.type "BaseException")=true∧mN ("__init__":Str)=none ∧
    ∀ h,K.In h→h.get? C=some (excClassObj nm q C N bs bm hdct sn sub ab col dd k0 k1 k2 k3 k5 newId)∧h.Ns N mN∧OwnTail h bmB bm
def Rz (X:Cx) (E:XK):Prop:=∀ (pins:List (Addr × Obj)) (σ:St) (H:Hp) (s:Shared) (h':Heap) (e C:Addr) (args:List Value),Inv X pins σ H s→Heap.MadeExcOf s.heap h' e (.ref C) args→E (.ref C) none H→X.xe (.ref e) { s with heap:=h' }
theorem rz1 {P:Program} {w:World} {K:aaa} {mg:Str→Option Value} {base:Heap} {N:List Str} {qual:Str} {scope:Scope} {f:Addr} {cd:Value} {A:Around} {outer:List Env} {s0:Shared} {H0:Hp} {E:XK} :
    Rz (iS (CX1 P w) P w K mg base N qual scope f cd A outer s0 H0 E) E:=fun _ _ _ _ _ _ _ _ I mk q=>tP I mk q
theorem pZ {X:Cx} {E:XK} {C:Addr} {x t:Str} {np p cpos pos:Pos} {j:Nat} (hz:Rz X E) (ec:EC X.K C) (hc:X.calm=true) (hg:Gl X x) (hm:X.mg x=some (.ref C))
    (hs:backTo cpos (starEach [.Constant (.str t) j p] X.env)=[(false,eval (.Constant (.str t) j p) X.env)]:=by rfl) (hdb:(x == ("__debug__":Str))=false:=by decide) :
    PS X (.Raise (some (.Call (.Name x np) [.Constant (.str t) j p] [] cpos)) none pos) (fun _ _ H=>E (.ref C) none H):=by
  intro pins s σ H D I h;obtain ⟨nm,q,N,bs,bm,hdct,sn,sub,ab,col,dd,k0,k1,k2,k3,k5,B,newId,initId,bmB,mN,F,hb,hni,hK⟩:=ec.ex;refine wpAny_Raise_call_subT (nm:=nm) (q:=q) (N:=N) (bs:=bs) (hdct:=hdct) (sn:=sn) (sub:=sub) (ab:=ab) (col:=col) (dd:=dd) (k0:=k0) (k1:=k1) (k2:=k2) (k3:=k3) (k5:=k5) F hb (I.ok.hd hc) (by rw [hs];rfl) hni (fV I hg hm ⟨rfl,?_⟩ hdb);rw [hs];refine Calls.evalArgs_plain (abF (acg (Calls.spliced_nil ?_)));have I1:Inv X pins σ H { s with toks:=s.toks+1 }:=I.tok _;obtain ⟨h1,h2,h3⟩:=hK _ I1.kIn;exact ⟨rfl,(by show 1≤sizeLine;decide),h1,h2,h3,fun h' e mk=>hz pins σ H _ h' e C _ I1 mk h⟩
theorem Fun.ok1 {P:Program} {w:World} {K:aaa} {mg:Str→Option Value} {base:Heap} {x qual:Str} {st:Stmt} {f:Addr} {fd:FuncData} {N ps:List Str} {k:Nat} {sp:Sp} (F:Fun K x qual st f fd) (S:FnScope N ps (am st)) (len:∀ vs H Q E,sp vs H Q E→vs.length=ps.length)
    (hbody:∀ (cdv:Value) (A:Around) (outer:List Env) (s:Shared) (H:Hp) (vs:List V) (Q:VK) (E:XK),Room k (A.deeper (envOfC qual (am st) s.heap.objs.size f cdv))→sp vs H Q E →
      ∃ t,PSs (iS (CX1 P w) P w K mg base N qual (am st) f cdv A outer s H E) (bU st) t∧t { nx:=fun _ H'=>Q .non H',rt:=Q } (fK N vs) H):FnOk P w K mg base (CX1 P w) (k+1) f fd ps sp:=by
  obtain ⟨oc,od,kV,doc,pm,an,cdv,ct,osl,rfl,lk,hcd⟩:=F.ex;exact sX lk hcd S len fun A outer s H vs Q E hr hsp=>hbody cdv A outer s H vs Q E hr hsp
def mQ (P:Program) (w:World) (K:aaa) (mg:Str→Option Value) (base:Heap) (x:Str) (k:Nat) (ps:List Str) (sp:Sp):Prop :=
  ∃ f fd,FnOk P w K mg base (CX1 P w) k f fd ps sp∧Binds K fd ps []∧abe K (.ref f)=true∧mg x=some (.ref f)
theorem r9 {X:Cx} {E:XK} {x:Str} {k k':Nat} {ps:List Str} {sp:Sp} {e:Expr} {es:List Expr} {t:TA} {p pos:Pos} (C:mQ X.prog X.w X.K X.mg X.base x k ps sp) (hx:iV (CX1 X.prog X.w) X E) (hr:Room k' X.A) (hk:k≤k') (hg:Gl X x) (ha:PA X (e :: es) t)
    (hdb:(x == ("__debug__":Str))=false:=by decide) (he:starEach (e :: es) X.env=(false,eval e X.env) :: starEach es X.env:=by rfl) (hpl:(backTo pos (starEach es X.env)).any (·.1)=false:=by rfl) :
    PE X (.Call (.Name x p) (e :: es) [] pos) (pG sp [] E t):=by
  obtain ⟨f,fd,F,b,kp,m⟩:=C;exact nu F (hr.mono hk) hg m kp b .nil hx ha hdb he hpl
def iW (X:Cx) (pins:List (Addr × Obj)) (a:Addr):Prop:=X.s₀.heap.get? a=none∧a≠X.env.locals∧(∀ x c,X.env.cells.lookup x=some c→c≠a)∧∀ p∈X.pn++pins,p.1≠a
def o7 (X:Cx) (pins0:List (Addr × Obj)) (Cat:St→Addr→Hp→Prop):Cx :=
  { X with pn:=X.pn++pins0,xe:=fun e s'=>∃ ea T C H' σ,e=Value.ref ea∧Inv X pins0 σ H' s'∧Trc s'.heap ea T (.ref C)∧H' ea=none∧H' T=none∧iW X pins0 ea∧iW X pins0 T∧Cat σ C H' }
section
variable {X:Cx} {pins0 pins:List (Addr × Obj)} {Cat:St→Addr→Hp→Prop} {σ:St} {H:Hp} {s:Shared}
theorem sI (I:Inv X pins0 σ H s):Inv (o7 X pins0 Cat) [] σ H s :=
  ⟨⟨I.ok.mod,I.ok.kind,I.ok.glob,I.ok.blt,I.ok.above,I.ok.inj,I.ok.has,I.ok.cab,I.ok.hd,I.ok.frames,I.ok.stk,I.ok.exf,I.ok.bs,I.ok.bsz,I.ok.noex,I.ok.exfs,I.ok.funs,I.ok.frf⟩,I.os,I.bare,I.base,I.loc,I.cell,I.free,I.freeC,fun p hp=>I.pin p (by
    have hp:p∈(X.pn++pins0)++[]:=hp
    rwa [abz] at hp),I.hok,I.len⟩
theorem dA (I:Inv (o7 X pins0 Cat) pins σ H s):Inv X pins0 σ H s :=
  ⟨⟨I.ok.mod,I.ok.kind,I.ok.glob,I.ok.blt,I.ok.above,I.ok.inj,I.ok.has,I.ok.cab,I.ok.hd,I.ok.frames,I.ok.stk,I.ok.exf,I.ok.bs,I.ok.bsz,I.ok.noex,I.ok.exfs,I.ok.funs,I.ok.frf⟩,I.os,I.bare,I.base,I.loc,I.cell,I.free,I.freeC,fun p hp=>I.pin p (show p∈(X.pn++pins0)++pins from aaD _ hp),I.hok,I.len⟩
theorem Inv.fresh_of (I:Inv X pins σ H s) {a:Addr} (hx:X.ex=[]) (h:s.heap.get? a=none):iW X pins a:=by
  refine ⟨?_,fun z=>?_,fun x c e z=>?_,fun p hp z=>?_⟩
  · cases q:X.s₀.heap.get? a with
    | none=>rfl
    | some o =>
      obtain ⟨o',q'⟩:=I.base.there a o q (by rw [hx];exact fun z=>nomatch z);rw [h] at q';cases q'
  · obtain ⟨m,⟨o,_,_,ho,_⟩,_⟩:=I.loc;rw [← z,h] at ho;cases ho
  · obtain ⟨v,o,ho,_⟩:=I.cell x c e;rw [z,h] at ho;cases ho
  · have:=(I.pin p hp).1;rw [z,h] at this;cases this
def tw (sp:Sp) (Cat:St→Addr→Hp→Prop) (t:TA):TE:=fun σ H Q=>t σ H fun vs H1=>sp vs H1 Q fun v _ H'=>∀ C,v=Value.ref C→Cat σ C H'
theorem rZ {x:Str} {k k':Nat} {ps:List Str} {sp:Sp} {e:Expr} {es:List Expr} {t:TA} {p pos:Pos} (C:mQ X.prog X.w X.K X.mg X.base x k ps sp) (hx:X.ex=[]) (hr:Room k' X.A) (hk:k≤k') (hg:Gl X x) (ha:PA (o7 X pins0 Cat) (e :: es) t)
    (hdb:(x == ("__debug__":Str))=false:=by decide) (he:starEach (e :: es) X.env=(false,eval e X.env) :: starEach es X.env:=by rfl) (hpl:(backTo pos (starEach es X.env)).any (·.1)=false:=by rfl) :
    PE (o7 X pins0 Cat) (.Call (.Name x p) (e :: es) [] pos) (tw sp Cat t):=by
  obtain ⟨f,fd,F,b,kp,m⟩:=C;intro pins s σ H Q I h;refine wpAny_Call_Name_kw (fV I hg m ?_ hdb);refine PySem.W.callWith_K (h₀:=X.base) I.ok.mod.kin kp (thn (ha pos pins s σ H _ I h) fun us s1 ⟨vs,H1,I1,r,q⟩=>⟨I1.kIn,?_⟩) he hpl;have r2:Vals vs (us++[]):=by rw [abz];exact r
  have hl:(us++[]).length=ps.length:=by rw [← r2.length];exact F.len _ _ _ _ q
  refine wpAny_call (codeAny_mono (F.run X.A X.stack s1 H1 ⟨us,[]⟩ (us++[]) vs Q _ (hr.mono hk) I1.env0 (b s1 us I1.kIn hl) r2 q) fun r s' hq=>?_);cases r with
  | ok fl =>
    cases fl with
    | ret u=>exact I1.after hq
    | next=>exact abj hq
    | brk=>exact abj hq
    | cont=>exact abj hq
  | error e =>
    obtain ⟨ea,T,C,H',rfl,os,bare,un,hok,n1,n2,m1,m2,tr,q⟩:=hq;have J:=dA I1;exact ⟨ea,T,C,H',σ,rfl,J.call' os un hok bare (fun b z=>nomatch z),tr,m1,m2,J.fresh_of hx n1,J.fresh_of hx n2,q C rfl⟩
end
section
variable {M:Model} {A:Around} {E:Value→Shared→Prop} {s:Shared}
theorem oz {b0:Heap} {env:Env} {outer:List Env} {L e T:Addr} {cls:Value} {Q:Unit→Shared→Prop} (hfr:A.frames=some (env :: outer)) (hl:s.heap.FunFrames b0 (env :: outer)) (hf:env.frame=some L) (ht:Trc s.heap e T cls)
    (h:∀ h' T',Lft (env :: outer) e [T] s.heap h'→Trc h' e T' cls→(T'=T∨s.heap.get? T'=none)→Q () { s with heap:=h' }) :
    wpAny M A (noteFrame (.ref e) env) (fun _ s2=>wpAny M A (setFlight (.ref e) none) Q E s2) E s:=by
  obtain ⟨oe,vs,oT,ts,a0,h1,h2,h3,h4,h6,h7,h8,h9⟩:=ht;refine wpAny_noteFrame_onW (a0:=a0) (base:=gH s.heap (e :: [T]++(env :: outer).filterMap (·.frame))) (cls:=cls) hfr (cI (fun b hb=>aae _ hb) hl) hf ⟨oe,vs,T,oT,ts,h1,h2,h3,h4,de (by simp),h6,h7,h8,h9⟩ (dM _ _) (de (by simp)) fun h1' N=>?_;obtain ⟨k1,k2,k3,k4⟩:=N;refine wpAny_setFlight_noneW (s:={ s with heap:=h1' }) k1 k2 k3 fun h2' j1 j2 j3 j4=>?_;have L':Heap.LeftW (gH s.heap (e :: [T]++(env :: outer).filterMap (·.frame))) (env :: outer) e cls a0 s.heap h2':=⟨j1,j2,j3,fun b o hb hn=>by
    obtain ⟨sl,q⟩:=k4 b o hb hn;exact ⟨sl,j4 b _ q hn⟩⟩
  obtain ⟨l',T',t,z⟩:=jU (base:=b0) hl L' (by rw [h1];simp);refine h h2' T' l' t ?_;rcases z with z|z
  · exact .inl (by simpa using z)
  · exact .inr z
end
def eI (a C:Addr):HO:=.ext fun h=>∃ o vs,h.get? a=some o∧o.cls=.ref C∧o.data=.fields vs
structure Und (K:aaa) (C P:Addr):Prop where
  ex:∃ nm q N bs bm hdct sn sub ab col dd k0 k1 k2 k3 k5 newId nm' q' N' bs' bm' hdct' sn' sub' ab' col' dd' k0' k1' k2' k3' k5' newId',(Value.ref C :: bm).contains (.ref P)=true∧bm'.contains (.type "BaseException")=true ∧
    ∀ h,K.In h→h.get? C=some (excClassObj nm q C N bs bm hdct sn sub ab col dd k0 k1 k2 k3 k5 newId)∧h.get? P=some (excClassObj nm' q' P N' bs' bm' hdct' sn' sub' ab' col' dd' k0' k1' k2' k3' k5' newId')
theorem oX {M:Model} {A:Around} {E:Value→Shared→Prop} {K:aaa} {C P e:Addr} {oe:Obj} {s:Shared} {Q:Bool→Shared→Prop} (u:Und K C P) (hk:K.In s.heap) (he:s.heap.get? e=some oe) (hcls:oe.cls=.ref C) (hq:Q true s):wpAny M A (excMatches (.ref e) (.ref P)) Q E s:=by
  obtain ⟨nm,q,N,bs,bm,hdct,sn,sub,ab,col,dd,k0,k1,k2,k3,k5,newId,nm',q',N',bs',bm',hdct',sn',sub',ab',col',dd',k0',k1',k2',k3',k5',newId',h1,h2,h3⟩:=u.ex;obtain ⟨hC,hP⟩:=h3 _ hk;obtain ⟨h,g,d,t,os⟩:=s;have hcB:(Value.ref P :: bm').contains (.type "BaseException")=true:=by rw [List.contains_cons,h2,Bool.or_true]
  have f:=tc_notTuple;unfold excMatches
  repeat (first|(with_reducible refine wpAny_loadPart_at he ?_;rw [hcls])|with_reducible refine wpAny_loadPart_at hP ?_|(with_reducible refine wpAny_isSubtype_exc hP ?_;rw [hcB])|(with_reducible refine wpAny_isSubtype_exc hC ?_;rw [h1])|wp_step)
  exact hq
section
variable {X:Cx} {pins:List (Addr × Obj)} {σ:St} {H:Hp} {s:Shared}
theorem rp {ea T C:Addr} (I:Inv X pins σ H s) (tr:Trc s.heap ea T (.ref C)) (m1:H ea=none) (f1:iW X pins ea):Inv X pins σ (upd H ea (eI ea C)) s:=by
  obtain ⟨oe,vs,oT,ts,a0,h1,h2,h3,h4,h6,h7,h8,h9⟩:=tr;exact I.adopt2 m1 (fun u z=>by rw [f1.1] at z;cases z) f1.2.1 f1.2.2.1 f1.2.2.2 ⟨⟨oe,vs,h1,h2.1,h3⟩,⟨oe,h1⟩,fun g1 g2 ⟨o,ws,z1,z2,z3⟩ k=>⟨o,ws,k o z1,z2,z3⟩⟩
theorem lK {ea C:Addr} {x:List Addr} {h':Heap} (I:Inv X pins σ (upd H ea (eI ea C)) s) (f1:iW X pins ea) (fx:∀ T∈x,iW X pins T∧upd H ea (eI ea C) T=none) (lf:Lft X.stack ea x s.heap h') (hea:∃ o vs,h'.get? ea=some o∧o.cls=.ref C∧o.data=.fields vs) :
    Inv X pins σ (upd H ea (eI ea C)) { s with heap:=h' }:=by
  have tk:∀ b,upd H ea (eI ea C) b=none→b≠ea:=fun b hb z=>by rw [z,upd_same] at hb;cases hb
  have old:∀ b o,X.s₀.heap.get? b=some o→b≠ea∧b∉x∧b≠X.env.locals:=fun b o q=>by
    refine ⟨fun z=>?_,fun z=>?_,fun z=>?_⟩
    · rw [z,f1.1] at q;cases q
    · rw [(fx b z).1.1] at q;cases q
    · have h1:=aak q;rw [z] at h1;exact absurd I.ok.above (Nat.not_le.mpr h1)
  have one:∀ b o,b≠ea→b∉x→s.heap.get? b=some o→∃ sl,h'.get? b=some { o with slots:=sl }:=fun b o z1 z2 q=>by
    by_cases hb:b∈frs X.stack
    · exact lf.slot b o hb q
    · exact ⟨o.slots,lf.keep b o hb z1 z2 q⟩
  have nstk:∀ b,b≠X.env.locals→b∉X.fs→b∉frs X.stack:=fun b z1 z2 z=>by
    rcases aam.mp (I.stkSub b z) with z|z
    · exact z1 z
    · exact z2 z
  have cl:∀ x' c,X.env.cells.lookup x'=some c→∀ v,s.heap.IsCell c v→h'.IsCell c v:=fun x' c e v ⟨o,ho,hd⟩=>by
    obtain ⟨sl,z⟩:=one c o (f1.2.2.1 x' c e) (fun z=>(fx c z).1.2.2.1 x' c e rfl) ho;exact ⟨_,z,hd⟩
  refine ⟨I.ok,I.os,I.bare,⟨fun b o q n hb hx=>?_,fun b o q n hb hx=>?_,I.base.free,fun b o q hx=>?_,I.base.tups,I.base.frzs,I.base.tbls⟩,?_,fun x' c e=>?_,I.free,I.freeC,fun p hp=>?_,fun b u q=>?_,I.len⟩
  · exact lf.keep b o (nstk b (old b o q).2.2 hb) (old b o q).1 (old b o q).2.1 (I.base.keep b o q n hb hx)
  · obtain ⟨sl,z⟩:=I.base.slot b o q n hb hx;obtain ⟨sl',z'⟩:=one b _ (old b o q).1 (old b o q).2.1 z;exact ⟨sl',z'⟩
  · obtain ⟨o',z⟩:=I.base.there b o q hx;obtain ⟨sl',z'⟩:=one b _ (old b o q).1 (old b o q).2.1 z;exact ⟨_,z'⟩
  · obtain ⟨m,⟨o,es,ep,ho,hd,r⟩,hl⟩:=I.loc;obtain ⟨sl,z⟩:=one X.env.locals o (abc f1.2.1) (fun z=>(fx _ z).1.2.1 rfl) ho;refine ⟨m,⟨_,es,ep,z,hd,r⟩,fun i y v e1 e2 e3=>?_⟩;obtain ⟨u,ru,l⟩:=hl i y v e1 e2 e3;refine ⟨u,ru,?_⟩;rcases l with l|⟨k,c,e,z⟩
    · exact .inl l
    · exact .inr ⟨k,c,e,cl y c e _ z⟩
  · obtain ⟨v,z⟩:=I.cell x' c e;exact ⟨v,cl x' c e v z⟩
  · obtain ⟨z1,z2,z3,z4,z5⟩:=I.pin p hp;exact ⟨lf.keep _ _ (nstk _ z3 z4) (f1.2.2.2 p hp) (fun z=>(fx _ z).1.2.2.2 p hp rfl) z1,z2,z3,z4,z5⟩
  · by_cases z1:b=ea
    · subst z1;rw [upd_same] at q;cases q;obtain ⟨o,vs,y1,y2,y3⟩:=hea;exact ⟨⟨o,vs,y1,y2,y3⟩,⟨o,y1⟩,fun g1 g2 ⟨o,ws,y1,y2,y3⟩ k=>⟨o,ws,k o y1,y2,y3⟩⟩
    · have tr:∀ c v,upd H ea (eI ea C) c=some v→c≠ea→∀ o,s.heap.get? c=some o→h'.get? c=some o:=fun c v hc z o r=>lf.keep c o (fun y=>by rw [I.stkFree c y] at hc;cases hc) z (fun y=>by rw [(fx c y).2] at hc;cases hc) r;refine (I.hok b u q).stay (fun c v hc r=>?_) (fun _ r=>r) fun _ _ r=>r;rcases hc with rfl|hc
      · exact tr c u q z1 v r
      · refine tr c _ hc (fun z=>?_) v r;rw [z,upd_same] at hc;cases hc
end
section
variable {M:Model} {A:Around} {E:Value→Shared→Prop} {s:Shared}
theorem oM {b0:Heap} {l:List Env} {e T:Addr} {cls:Value} {Q:Unit→Shared→Prop} (hl:s.heap.FunFrames b0 l) (ht:Trc s.heap e T cls)
    (h:∀ h' T',Lft l e [T] s.heap h'→Trc h' e T' cls→(T'=T∨s.heap.get? T'=none)→Q () { s with heap:=h' }):wpAny M A (setFlight (.ref e) none) Q E s:=by
  obtain ⟨oe,vs,oT,ts,a0,h1,h2,h3,h4,h6,h7,h8,h9⟩:=ht;refine wpAny_setFlight_noneW (base:=gH s.heap (e :: [T]++l.filterMap (·.frame))) (cls:=cls) (a0:=a0) (fl:=.none) (dM _ _) (cI (fun b hb=>aae _ hb) hl) ⟨oe,vs,T,oT,ts,h1,h2,h3,h4,de (by simp),h6,h7,h8,h9⟩ fun h2' j1 j2 j3 j4=>?_;have L':Heap.LeftW (gH s.heap (e :: [T]++l.filterMap (·.frame))) l e cls a0 s.heap h2':=⟨j1,j2,j3,fun b o hb hn=>⟨o.slots,j4 b o hb hn⟩⟩
  obtain ⟨l',T',t,z⟩:=jU (base:=b0) hl L' (by rw [h1];simp);refine h h2' T' l' t ?_;rcases z with z|z
  · exact .inl (by simpa using z)
  · exact .inr z
end
section
variable {X:Cx} {pins:List (Addr × Obj)} {σ:St} {H:Hp} {s:Shared}
theorem Inv.unset {i:Nat} {n:Str} {v:Option Value} {m:Str→Option Value} {h':Heap} {t':Nat} (I:Inv X pins σ H s) (hN:X.N.Nodup) (hi:X.N[i]?=some n) (hl:∀ (i:Nat) (x:Str) (v:V),X.N[i]?=some x→σ[i]?=some (some v)→Vis X.env.scope x→∃ u,RelV v u∧vD X.env s.heap m x u)
    (hn:h'.Ns X.env.locals (fun x=>if x=n then v else m x)) (hs:act X.env.locals s.heap h'):Inv X pins (σ.set i none) H { s with heap:=h',toks:=t' }:=by
  have cne:∀ x c,X.env.cells.lookup x=some c→c≠X.env.locals:=fun x c e z=>by
    obtain ⟨v,o,ho,hd⟩:=I.cell x c e;obtain ⟨m,⟨o',es,ep,ho',hd',_⟩,_⟩:=I.loc;rw [z,ho'] at ho;cases ho;rw [hd'] at hd;cases hd
  have old:∀ b o,X.s₀.heap.get? b=some o→b≠X.env.locals:=fun b o q z=>by
    have h1:=aak q;rw [z] at h1;exact absurd I.ok.above (Nat.not_le.mpr h1)
  refine ⟨I.ok,I.os,I.bare,⟨fun b o q n hb hx=>hs.extBut b o (old b o q) (I.base.keep b o q n hb hx),fun b o q n hb hx=>?_,I.base.free,fun b o q hx=>?_,I.base.tups,I.base.frzs,I.base.tbls⟩,⟨_,hn,fun j y w e1 e2 e3=>?_⟩,fun x c e=>?_,I.free,I.freeC,fun p hp=>?_,fun b u q=>?_,?_⟩
  · obtain ⟨sl,z⟩:=I.base.slot b o q n hb hx;exact ⟨sl,hs.extBut b _ (old b o q) z⟩
  · obtain ⟨o',z⟩:=I.base.there b o q hx;exact ⟨o',hs.extBut b _ (old b o q) z⟩
  · by_cases hj:j=i
    · subst hj;rw [List.getElem?_set_self'] at e2;cases z:σ[j]? with
      | none=>rw [z] at e2;simp at e2
      | some _=>rw [z] at e2;simp at e2
    · rw [List.getElem?_set_ne (abc hj)] at e2;obtain ⟨u,ru,l⟩:=hl j y w e1 e2 e3;refine ⟨u,ru,?_⟩;rcases l with ⟨k,l⟩|⟨k,c,e,o,ho,hd⟩
      · refine .inl ⟨k,?_⟩;have : y≠n:=fun z=>hj (iC hN e1 (by rw [z];exact hi));show (if y=n then v else m y)=some u;rw [if_neg this];exact l
      · exact .inr ⟨k,c,e,o,hs.extBut c o (cne y c e) ho,hd⟩
  · obtain ⟨v,o,ho,hd⟩:=I.cell x c e;exact ⟨v,o,hs.extBut c o (cne x c e) ho,hd⟩
  · obtain ⟨z1,z2,z3,z4,z5⟩:=I.pin p hp;exact ⟨hs.extBut _ _ z3 z1,z2,z3,z4,z5⟩
  · refine (I.hok b u q).stay (fun c v hc r=>hs.extBut c v (fun z=>?_) r) (fun _ r=>r) fun _ _ r=>r;rcases hc with rfl|hc
    · rw [z,I.free] at q;cases q
    · rw [z,I.free] at hc;cases hc
  · rw [List.length_set];exact I.len
def mS (X:Cx) (v:Value):Cx:={ X with A:=X.A.mark (some v),calm:=false,xe:=fun _ _=>False }
theorem lD {v:Value} (I:Inv X pins σ H s):Inv (mS X v) pins σ H s :=
  ⟨⟨I.ok.mod,I.ok.kind,I.ok.glob,I.ok.blt,I.ok.above,I.ok.inj,I.ok.has,I.ok.cab,(fun z=>absurd (show false=true from z) aan),I.ok.frames,I.ok.stk,I.ok.exf,I.ok.bs,I.ok.bsz,I.ok.noex,I.ok.exfs,I.ok.funs,I.ok.frf⟩,I.os,I.bare,I.base,I.loc,I.cell,I.free,I.freeC,I.pin,I.hok,I.len⟩
theorem mB {v:Value} (c:X.calm=true→X.A.handled=none) (fr:X.A.frames=some X.stack) (I:Inv (mS X v) pins σ H s):Inv X pins σ H s :=
  ⟨⟨I.ok.mod,I.ok.kind,I.ok.glob,I.ok.blt,I.ok.above,I.ok.inj,I.ok.has,I.ok.cab,c,fr,I.ok.stk,I.ok.exf,I.ok.bs,I.ok.bsz,I.ok.noex,I.ok.exfs,I.ok.funs,I.ok.frf⟩,I.os,I.bare,I.base,I.loc,I.cell,I.free,I.freeC,I.pin,I.hok,I.len⟩
end
theorem Trc.there {h:Heap} {e T C:Addr} (t:Trc h e T (.ref C)):∃ o vs,h.get? e=some o∧o.cls=.ref C∧o.data=.fields vs:=by
  obtain ⟨oe,vs,oT,ts,a0,h1,h2,h3,_⟩:=t;exact ⟨oe,vs,h1,h2.1,h3⟩
theorem Trc.ne {h:Heap} {e T:Addr} {c:Value} (t:Trc h e T c):T≠e:=by
  obtain ⟨oe,vs,oT,ts,a0,h1,h2,h3,h4,h6,_⟩:=t;exact h6
def vS (K:aaa) (Pa:Addr) (iE:Nat) (tb:(St→Addr→Hp→Prop)→TS) (ts:TS):TS:=fun D σ H =>
  tb (fun σ' C H'=>Und K C Pa∧∀ ea,H' ea=none→ts { nx:=fun σ2 H2=>D.nx (σ2.set iE none) H2,rt:=fun _ _=>False } (σ'.set iE (some (.ref ea))) (upd H' ea (eI ea C))) D σ H
theorem tS {X:Cx} {body:List Stmt} {tb:(St→Addr→Hp→Prop)→TS} {ts:TS} {iE:Nat} {n x:Str} {Pa:Addr} {b₀:Stmt} {suite:List Stmt} {tp hpos pos:Pos} (hx:X.ex=[]) (hst:X.stack=X.env :: X.outer) (hfr:X.env.frame=some X.env.locals)
    (hg:Gl X x) (hm:X.mg x=some (.ref Pa)) (hN:X.N.Nodup) (hi:X.N[iE]?=some n) (hl:X.env.scope.names.lookup n=some .local) (hb:∀ pins0 Cat,PSs (o7 X pins0 Cat) body (tb Cat)) (hs:∀ v,PSs (mS X v) (b₀ :: suite) ts) (hdb:(x == ("__debug__":Str))=false:=by decide) :
    PS X (.Try body [.ExceptHandler (some (.Name x tp)) (some n) (b₀ :: suite) hpos] [] [] pos) (vS X.K Pa iE tb ts):=by
  intro pins s σ H D I h;refine wpAny_Try_except (wpAny_mono (hb pins _ [] s σ H D (sI I) h) (fun f s1 q=>?_) (fun e s1 q=>?_))
  · cases f with
    | next=>obtain ⟨σ',H',I',q⟩:=q;exact wpAny_execs_nil ⟨σ',H',dA I',q⟩
    | brk=>obtain ⟨σ',H',I',q⟩:=q;exact ⟨σ',H',dA I',q⟩
    | cont=>obtain ⟨σ',H',I',q⟩:=q;exact ⟨σ',H',dA I',q⟩
    | ret u=>obtain ⟨v,σ',H',I',r,q⟩:=q;exact ⟨v,σ',H',dA I',r,q⟩
  · obtain ⟨ea,T,C,H',σ',rfl,J,tr,m1,m2,f1,f2,und,cat⟩:=q;have fr:X.A.frames=some (X.env :: X.outer):=by rw [← hst];exact J.ok.frames
    have stk:s1.heap.FunFrames X.base (X.env :: X.outer):=by rw [← hst];exact J.stack
    refine oz (b0:=X.base) fr stk hfr tr fun h2 T2 lf tr2 hT2=>?_;have J1:=rp J tr m1 f1;have mT:upd H' ea (eI ea C) T=none:=by rw [aq tr.ne];exact m2
    have J2:Inv X pins σ' (upd H' ea (eI ea C)) { s1 with heap:=h2 }:=lK J1 f1 (x:=[T]) (fun b hb=>by rw [aaG.mp hb];exact ⟨f2,mT⟩) (by rw [hst];exact lf) tr2.there;have fT2:iW X pins T2∧upd H' ea (eI ea C) T2=none:=by
      rcases hT2 with rfl|z
      · exact ⟨f2,mT⟩
      · refine ⟨J1.fresh_of hx z,?_⟩;cases q:upd H' ea (eI ea C) T2 with
        | none=>rfl
        | some o =>
          obtain ⟨u,hu⟩:=(J1.hok T2 o q).get;rw [z] at hu;cases hu
    refine wpAny_handleBy_cons (codeAny_handlers_test ?_) (by intro q;cases q);refine fV (X:=mS X (.ref ea)) (lD J2) hg hm ?_ hdb;obtain ⟨oe,vs,he2,hc2,_⟩:=tr2.there;refine oX (s:={ s1 with heap:=h2 }) und J2.kIn he2 hc2 ?_;show codeAny _ _ _ _ _;refine codeAny_handlers_suite_as ?_;have stk2:h2.FunFrames X.base (X.env :: X.outer):=by rw [← hst];exact J2.stack
    refine oM (s:={ s1 with heap:=h2 }) (b0:=X.base) (l:=X.env :: X.outer) stk2 tr2 fun h3 T3 lf3 tr3 hT3=>?_;have J3:Inv X pins σ' (upd H' ea (eI ea C)) { s1 with heap:=h3 }:=lK (s:={ s1 with heap:=h2 }) J2 f1 (x:=[T2]) (fun b hb=>by rw [aaG.mp hb];exact fT2) (by rw [hst];exact lf3) tr3.there;refine d9 (v:=.ref ea) J3 hN hi (.inl hl) rfl (fun s4 J4=>?_) (.inr hl);refine wpAny_mono (hs (.ref ea) pins s4 _ _ _ (lD J4) (cat ea m1)) (fun f s5 q5=>?_) (fun _ _ z=>z.elim);cases f with
    | next =>
      obtain ⟨σ5,H5,I5,q5⟩:=q5;have I5:=mB J.ok.hd J.ok.frames I5;obtain ⟨m,hn,hlk⟩:=id I5.loc;exact wpAny_nameGoes_keeps hl hn (by rw [I5.ok.kind];rfl) fun h6 v hn6 hs6=>⟨_,H5,I5.unset hN hi hlk hn6 hs6,q5⟩
    | brk=>obtain ⟨_,_,_,q⟩:=q5;exact abj q
    | cont=>obtain ⟨_,_,_,q⟩:=q5;exact abj q
    | ret u=>obtain ⟨_,_,_,_,_,q⟩:=q5;exact abj q
open PySem PySem.Spec PyProof.Rows
structure Lkp (M:Model) (h:Heap) (C:Addr):Prop where
  ga:acC M h (typeLookup (.ref C) "__getattribute__") (some (.builtin "BaseException.__getattribute__"))
  no:acC M h (typeLookup (.ref C) "__getattr__") none
  cls:acC M h (typeLookup (.ref C) "__class__") (some (.builtin "object.__class__"))
  be:acC M h (isSubtype (.ref C) (.type "BaseException")) true
  obj:acC M h (isSubtype (.ref C) (.type (".".intercalate ("object.__class__".cutAt '.').dropLast))) true
section
variable {prog:Program} {w:World} {A:Around} {E:Value→Shared→Prop} {h:Heap} {g:Array GenState} {d:Drawn} {t:Nat} {os:OsState} {a C:Addr} {o:Obj}
theorem sN {R:Result→Shared→Prop} (L:Lkp (model prog w) h C) (hx:h.get? a=some o) (hc:o.cls=.ref C) (hq:R (.ok (.ret (.ref C))) ⟨h,g,d,t,os⟩) :
    codeAny (model prog w) A (.call (.builtin "getset_descriptor.__get__") ⟨[.builtin "object.__class__",.ref a,.ref C],[]⟩) R ⟨h,g,d,t,os⟩:=by
  have hT5:(⟨h,g,d,t,os⟩:Shared).TypeIs (.builtin "object.__class__") "getset_descriptor":=acs;refine codeAny_call_builtin F.slot_gs_get.plain F.entry_gs_get (F.slot_gs_get.check _ _ _ _ _ _ _ _ hT5 (F.args_gs_get _ _ _) ?_)
  repeat (any_goals (first|assumption|(with_reducible refine wpAny_loadPart_at hx ?_;rw [hc])|(refine L.obj _ _ _ _ (fun _ _ e=>e) ?_)|wp_step))
  refine ⟨Code.quiet_builtin _ (by decide +kernel),codeAny_builtin F.entry_object_class ?_⟩
  repeat (any_goals (first|assumption|(with_reducible refine wpAny_loadPart_at hx ?_;rw [hc])|wp_step))
theorem o4 {M:Model} {nameV:Value} {Q:Unit→Shared→Prop} (L:Lkp M h C) (hx:h.get? a=some o) (hc:o.cls=.ref C) (hq:Q () ⟨h,g,d,t,os⟩):wpAny M A (checkBuiltinCall "BaseException.__getattribute__" ⟨[.ref a,nameV],[]⟩) Q E ⟨h,g,d,t,os⟩:=by
  have hk:builtinKind "BaseException.__getattribute__" = some .slot:=by decide +kernel
  have hsplit:splitId "BaseException.__getattribute__" = some ("BaseException","__getattribute__"):=by decide +kernel
  have ha:=F.args_bexc_ga (.ref a) nameV;simp only [checkBuiltinCall,hk,hsplit];refine wpAny_bind ?_;unfold isInstance
  repeat (first|(with_reducible refine wpAny_loadPart_at hx ?_;rw [hc])|(refine L.be _ _ _ _ (fun _ _ e=>e) ?_)|wp_step)
  exact hq
theorem o0 {tk:Tok} {Q:Fin→Shared→Prop} (L:Lkp (model prog w) h C) (hx:h.get? a=some o) (hc:o.cls=.ref C) (hq:Q (.done (.ret (.ref C))) ⟨h,g,d,t,os⟩) :
    wpAny (model prog w) A (Builtin.«object.__getattribute__» ⟨[.ref a,.str "__class__" tk],[]⟩) Q E ⟨h,g,d,t,os⟩:=by
  have hT5:(⟨h,g,d,t,os⟩:Shared).TypeIs (.builtin "object.__class__") "getset_descriptor":=acs;have f5:=acs;have f6:=F.slot_gs_get.lookup;have f7:=F.slot_gs_set.lookup
  repeat (any_goals (first|assumption|(with_reducible refine wpAny_loadPart_at hx ?_;rw [hc])|(refine L.cls _ _ _ _ (fun _ _ e=>e) ?_)|wp_step))
  refine sN L hx hc ?_
  repeat (any_goals (first|assumption|wp_step))
theorem rl {tk:Tok} {R:Result→Shared→Prop} (L:Lkp (model prog w) h C) {B:String} (hg:Slot B "__getattribute__" "BaseException.__getattribute__") (hx:h.get? a=some o) (hc:o.cls=.ref C) (hq:R (.ok (.ret (.ref C))) ⟨h,g,d,t,os⟩) :
    codeAny (model prog w) A (.call (.builtin "BaseException.__getattribute__") ⟨[.ref a,.str "__class__" tk],[]⟩) R ⟨h,g,d,t,os⟩ :=
  codeAny_call_builtin hg.plain F.entry_bexc_ga (o4 L hx hc (o0 L hx hc hq))
theorem uB {tk:Tok} {fill expr:Bool} {Q:Value→Shared→Prop} (L:Lkp (model prog w) h C) {B:String} (hg:Slot B "__getattribute__" "BaseException.__getattribute__") (hx:h.get? a=some o) (hc:o.cls=.ref C) (hq:Q (.ref C) ⟨h,g,d,t,os⟩) :
    wpAny (model prog w) A (getAttrBy (.ref a) (.str "__class__" tk) fill expr) Q E ⟨h,g,d,t,os⟩:=by
  have f3:=hg.bind (.ref a);have hx0:(expr && onTheHeap (Value.builtin "BaseException.__getattribute__"))=false:=by cases expr <;> rfl
  have hx2:(Value.builtin "BaseException.__getattribute__" == Value.builtin "object.__getattribute__")=false:=by decide +kernel
  have hx1:(onTheHeap (Value.ref C) && Value.builtin "BaseException.__getattribute__" == Value.builtin "object.__getattribute__")=false:=by rw [hx2];rfl
  repeat (any_goals (first|assumption|(with_reducible refine wpAny_loadPart_at hx ?_;rw [hc])|(refine L.ga _ _ _ _ (fun _ _ e=>e) ?_)|(refine L.no _ _ _ _ (fun _ _ e=>e) ?_)|wp_step))
  refine rl L hg hx hc ?_
  repeat (any_goals (first|assumption|wp_step))
theorem rm {Q:Option Value→Shared→Prop} (L:Lkp (model prog w) h C) {B:String} (hg:Slot B "__getattribute__" "BaseException.__getattribute__") (hx:h.get? a=some o) (hc:o.cls=.ref C) (hq:Q (some (.ref C)) ⟨h,g,d,t+1,os⟩):wpAny (model prog w) A (getAttr? (.ref a) "__class__") Q E ⟨h,g,d,t,os⟩:=by
  unfold getAttr? getAttrBy?
  repeat (any_goals (first|assumption|with_reducible apply uB L hg hx hc|wp_step))
end
structure ExC (K:aaa) (C:Addr):Prop where
  lk:∀ (M:Model) (h:Heap),K.In h→Lkp M h C
  cl:(aaR K C).isSome=true
  sl:∃ B,Slot B "__getattribute__" "BaseException.__getattribute__"
theorem lw {K:aaa} {e C:Addr} (x:ExC K C):PySem.W.KitX K (.ref e) (.ref C) (fun h=>∃ o,h.get? e=some o∧o.cls=.ref C) where
  ty:=fun M h _ p=>by
    obtain ⟨o,h1,h2⟩:=p;exact h2 ▸ (PySem.W.Looks.ld h1).andThen .now
  it:=fun _ _ X _=>by
    have hcD:=x.cl;unfold aaR at hcD;split at hcD
    · rename_i c' d' cd' sl' ho;intro A' Q' E' s' k q;unfold isType loadHead;exact wpAny_bind (wpAny_loadPart (k _ _ (X _ _ ho)) (wpAny_pure q))
    · cases hcD
  ne:=fun h tp dd its n sl X htp=>by
    refine Bool.eq_false_iff.mpr fun q=>?_;have e:C=tp:=Value.ref.inj (beq_iff_eq.mp q);subst e;have hcD:=x.cl;unfold aaR at hcD;split at hcD
    · rename_i c' d' cd' sl' ho;have z:=(X _ _ ho).symm.trans htp;cases z
    · cases hcD
  ca:=fun {prog w A E Q s} X p k=>by
    obtain ⟨h,g,d,t,os⟩:=s;obtain ⟨o,h1,h2⟩:=p;obtain ⟨B,hg⟩:=x.sl;exact rm (x.lk _ _ X) hg h1 h2 k
theorem bv {X:Cx}:cf X (.builtin "isinstance") (fun xs H Q=>∃ ea C c u b,xs=[.ref ea,c]∧H ea=some (eI ea C)∧ExC X.K C∧(∀ u',RelV c u'→u'=u)∧aaC X.K (.ref C) u=some b∧Q (.bl b) H):=by
  intro pins s σ H xs us Q I r h;obtain ⟨ea,C,c,u,b,rfl,he,x,hu,hk,q⟩:=h;obtain ⟨u1,u2,rfl,r1,r2⟩:=hZ r;cases r1;obtain rfl:=hu _ r2;obtain ⟨⟨o,vs,h1,h2,_⟩,_⟩:=(show ObjOk X.prog X.w H s.heap ea (eI ea C) from I.hok ea _ he)
  exact aa0 (lw x) I.kIn ⟨o,h1,h2⟩ hk (fun z=>nomatch z) fun tk=>⟨.bl b,H,I.tok tk,rfl,q⟩
theorem i8 {X:Cx}:cf X (.builtin "isinstance") (fun xs H Q=>∃ ea C tp cs us b,xs=[.ref ea,.ref tp]∧H ea=some (eI ea C)∧H tp=some (.tup cs)∧ExC X.K C∧(∀ us',Vals cs us'→us'=us)∧PySem.W.kitAny X.K (.ref C) us=some b∧Q (.bl b) H):=by
  intro pins s σ H xs us Q I r h;obtain ⟨ea,C,tp,cs,us,b,rfl,he,ht,x,hu,hk,q⟩:=h;obtain ⟨u1,u2,rfl,r1,r2⟩:=hZ r;cases r1;cases r2;obtain ⟨⟨o,vs,h1,h2,_⟩,_⟩:=(show ObjOk X.prog X.w H s.heap ea (eI ea C) from I.hok ea _ he)
  obtain ⟨_,its,rv,ot,g1,g2,k,g3⟩:=(show ObjOk X.prog X.w H s.heap tp (.tup cs) from I.hok tp _ ht)
  obtain rfl:=hu _ rv;obtain ⟨oc,od,dat,sl⟩:=ot;cases (show oc=_ from g2);cases (show dat=_ from g3);exact PySem.W.kia_tup (lw x) I.kIn ⟨o,h1,h2⟩ g1 hk (fun z=>nomatch z) fun tk=>⟨.bl b,H,I.tok tk,rfl,q⟩
open PySem PySem.Spec PyProof.Rows
theorem fm:∀ {bs:List Bool} {its:List Value},Vals (bs.map V.bl) its→its=bs.map Value.bool
  | [],_,.nil=>rfl
  | b :: r,_,.cons h t=>by
    cases (show _=Value.bool b from h);rw [fm t];rfl
theorem nN {X:Cx} {pins:List (Addr × Obj)} {σ:St} {H:Hp} {s:Shared} (I:Inv X pins σ H s) {A:Around} (hu:A.units+0 < cLine) (b:Bool):SeqAt.EqAt A s (.bool b) (.bool true) (Value.bool b == Value.bool true):=by
  have z:=(EqR.flat (K:=X.K) (H:=H) (n:=0) (x:=.bl b) (y:=.bl true) rfl rfl).at I (A:=A) (u:=.bool b) (v:=.bool true) rfl rfl hu;have e:eqV (.bl b) (.bl true)=(Value.bool b == Value.bool true):=by cases b <;> rfl
  rw [e] at z;exact z
theorem oB {X:Cx} (hu:X.A.units+64 < cLine):MtR X "list.count" (fun x vs H Q=>∃ (l:Addr) (bs:List Bool),x=.ref l∧vs=[.bl true]∧SqL X.K H l (bs.map V.bl)∧Q (.int (bs.countP id:Nat)) H):=by
  intro pins s σ H x vs v us Q I rx rv h;obtain ⟨l,bs,rfl,rfl,hq,q⟩:=h;cases rx;obtain ⟨u,rfl,ru⟩:=cZ rv;cases ru;obtain ⟨its,r,⟨o,n,ho,hc,hs,hd⟩,hz⟩:=I.list hq;have ei:=fm r;subst ei;obtain ⟨oc,od,dat,sl⟩:=o;cases (show oc=_ from hc);cases (show dat=_ from hd);refine call_meets F.slot_list_count ⟨_,ho,rfl⟩ F.entry_list_count (F.args_list_count_2 _ _) (SeqAt.list_countAt l (bs.map Value.bool).toArray n od sl (.bool true) (fun v=>v == .bool true)) ⟨ho,fun y hy=>?_,?_⟩
  · have hy':y∈bs.map Value.bool:=by simpa using hy
    obtain ⟨b,_,rfl⟩:=abI.mp hy';exact nN I (by show X.A.units+1+0 < cLine;lia) b
  · have e:(bs.map Value.bool).countP (fun v=>v == .bool true)=bs.countP id:=by
      rw [List.countP_map];congr 1;funext b;cases b <;> rfl
    refine ⟨.int (bs.countP id:Nat),H,I.tok _,⟨s.toks,?_⟩,q⟩;show Value.int (((bs.map Value.bool).toArray.toList.countP fun v=>v == .bool true:Nat):Int) s.toks=_;rw [show (bs.map Value.bool).toArray.toList=bs.map Value.bool from rfl,e]
theorem oA {X:Cx} (hu:X.A.units+64 < cLine):MtR X "list.index" (fun x vs H Q=>∃ (l:Addr) (bs:List Bool) (j:Nat),x=.ref l∧vs=[.bl true]∧SqL X.K H l (bs.map V.bl)∧bs[j]?=some true∧(∀ m,m < j→bs[m]?=some false)∧bs.length≤1000∧Q (.int (j:Nat)) H):=by
  intro pins s σ H x vs v us Q I rx rv h;obtain ⟨l,bs,j,rfl,rfl,hq,hj,hb,hl,q⟩:=h;cases rx;obtain ⟨u,rfl,ru⟩:=cZ rv;cases ru;obtain ⟨its,r,⟨o,n,ho,hc,hs,hd⟩,hz⟩:=I.list hq;have ei:=fm r;subst ei;obtain ⟨oc,od,dat,sl⟩:=o;cases (show oc=_ from hc);cases (show dat=_ from hd);have hjl:j < bs.length:=(aaJ.mp hj).1;refine call_meets F.slot_list_index ⟨_,ho,rfl⟩ F.entry_list_index (F.args_list_index_2 _ _) (SeqAt.list_indexAt l (bs.map Value.bool).toArray n od sl (.bool true) (fun v=>v == .bool true) j (by simpa using hjl) (by lia) ?_ ?_) ⟨ho,fun y hy=>?_,?_⟩
  · have : bs[j]=true:=(aaJ.mp hj).2;simp [this]
  · intro m hm hmj;have : bs[m]'(by simpa using hm)=false:=(aaJ.mp (hb m hmj)).2;simp [this]
  · have hy':y∈bs.map Value.bool:=by simpa using hy
    obtain ⟨b,_,rfl⟩:=abI.mp hy';exact nN I (by show X.A.units+1+0 < cLine;lia) b
  · exact ⟨.int (j:Nat),H,I.tok _,⟨_,rfl⟩,q⟩
open PySem PySem.Spec PyProof.Rows
open PySem PySem.Spec PyProof.Rows
def jp (es:Array DictEntry):Bool:=es.toList.all fun e=>match e.key with|.str _ _=>true|_=>false
theorem qK {es:Array DictEntry} (h:jp es=true):StrKeys es:=fun e he=>by
  have z:=aa2.mp h e (by simpa using he);cases q:e.key with
  | str n t=>exact ⟨n,t,rfl⟩
  | _=>rw [q] at z;cases z
section
variable {K:aaa} {C Pa N N':Addr} {nm nm' q q':Str} {bs bs' sub sub':List Value} {hdct hdct':Bool} {sn sn':List Str} {ab ab':Bool} {col col':Option Bool} {dd dd':Option Addr} {k0 k1 k2 k3 k5 k0' k1' k2' k3' k5' oc oc':Option Value}
  {c1 c2:Value} {od od':Option Addr} {es es':Array DictEntry} {n n':Nat} {sl sl':Array (Option Value)}
theorem sW (s:K.lookup N=some ⟨c1,od,.dict es n,sl⟩) (t:jp es=true) {h:Heap} (X:K.In h):h.Ns N (nsFind es):=⟨_,es,n,X _ _ s,rfl,qK t,fun _=>rfl⟩
abbrev lO:List Value:=[.type "ValueError",.type "Exception",.type "BaseException",.type "object"]
theorem uA (l:K.lookup C=some (excClassObj nm q C N bs (.ref Pa :: lO) hdct sn sub ab col dd k0 k1 k2 k3 k5 "ValueError.__new__")) (s:K.lookup N=some ⟨c1,od,.dict es n,sl⟩) (t:jp es=true) (i:nsFind es "__init__" = none)
    (l':K.lookup Pa=some (excClassObj nm' q' Pa N' bs' lO hdct' sn' sub' ab' col' dd' k0' k1' k2' k3' k5' "ValueError.__new__")) (s':K.lookup N'=some ⟨c2,od',.dict es' n',sl'⟩) (t':jp es'=true) (i':nsFind es' "__init__" = none):EC K C :=
  ⟨_,_,_,_,_,_,_,_,_,_,_,_,_,_,_,_,"ValueError",_,_,_,nsFind es,PySem.F.excBase_ValueError,(by rfl),i,fun h X=>⟨X _ _ l,sW s t X,.own (X _ _ l') (sW s' t' X) i' .base⟩⟩
theorem rK (l:K.lookup C=some (excClassObj nm q C N bs (.ref Pa :: lO) hdct sn sub ab col dd k0 k1 k2 k3 k5 "ValueError.__new__"))
    (l':K.lookup Pa=some (excClassObj nm' q' Pa N' bs' lO hdct' sn' sub' ab' col' dd' k0' k1' k2' k3' k5' "ValueError.__new__")):Und K C Pa :=
  ⟨_,_,_,_,_,_,_,_,_,_,_,_,_,_,_,_,_,_,_,_,_,_,_,_,_,_,_,_,_,_,_,_,_,_,(by simp),(by rfl),fun h X=>⟨X _ _ l,X _ _ l'⟩⟩
theorem uz (l:K.lookup C=some (excClassObj nm q C N bs (.ref Pa :: lO) hdct sn sub ab col dd k0 k1 k2 k3 k5 "ValueError.__new__")) (f1:abd K (.ref C) "__getattribute__" = some (some (.builtin "BaseException.__getattribute__"))) (f2:abd K (.ref C) "__getattr__" = some none)
    (f3:abd K (.ref C) "__class__" = some (some (.builtin "object.__class__"))) (f4:aaP K (.ref C) (.type "BaseException")=some true) (f5:aaP K (.ref C) (.type "object")=some true):ExC K C where
  lk:=fun M h X=>⟨PySem.W.looks_findIn X f1,PySem.W.looks_findIn X f2,PySem.W.looks_findIn X f3,PySem.W.looks_subIn X f4,by
    have e:(".".intercalate ("object.__class__".cutAt '.').dropLast) = "object":=by decide +kernel
    rw [e];exact PySem.W.looks_subIn X f5⟩
  cl:=by unfold aaR;rw [l];rfl
  sl:=⟨"ValueError",PySem.F.attrBase_ValueError.ga⟩
theorem cF {D:Addr} {cd:ClassData} {b:Bool} (ne:(Value.ref C == Value.ref D)=false) (h1:aaR K D=some cd) (h2:aa3 K (.ref D)=some (.type "type")) (h3:aaP K (.ref C) (.ref D)=some b):aaC K (.ref C) (.ref D)=some b:=by
  unfold aaC PySem.W.kitCls;rw [ne,if_neg (by simp)];show (if ((aaR K D).isSome && aa3 K (Value.ref D) == some (Value.type "type"))=true then aaP K (Value.ref C) (Value.ref D) else none)=some b;rw [h1,h2];exact (if_pos (by simp)).trans h3
theorem qI:aaC K (.ref C) (.ref C)=some true:=by
  unfold aaC;rw [if_pos (beq_self_eq_true _)]
theorem sC (h3:aaP K (.ref C) (.type "ValueError")=some true):aaC K (.ref C) (.type "ValueError")=some true:=by
  unfold aaC PySem.W.kitCls;have e:PySem.W.kitMeta "ValueError" = true:=by decide +kernel
  have e1:(Value.ref C == Value.type "ValueError")=false:=rfl;simp only [e1,e,if_true];exact h3
end
end L2
namespace L2
open PySem
theorem qJ {K:aaa} {t a b c d:Value} (h1:aaC K t a=some false) (h2:aaC K t b=some false) (h3:aaC K t c=some false) (h4:aaC K t d=some false):PySem.W.kitAny K t [a,b,c,d]=some false:=by
  simp only [PySem.W.kitAny,h1,h2,h3,h4]
open PySem PySem.Spec PyProof.Rows
def tH (sp:Sp):Sp:=fun vs H Q _=>sp vs H Q fun _ _ _=>False
theorem FnOk.down {P:Program} {w:World} {K:aaa} {mg:Str→Option Value} {base:Heap} {k:Nat} {f:Addr} {fd:FuncData} {ps:List Str} {sp:Sp} (F:FnOk P w K mg base (CX1 P w) k f fd ps sp):FnOk P w K mg base CX0 k f fd ps (tH sp) :=
  ⟨fun vs H Q E h=>F.len vs H Q _ h,fun A outer s H args us vs Q E hr he hb hv hs=>codeAny_mono (F.run A outer s H args us vs Q _ hr he hb hv hs) fun r s' h=>by
    cases r with
    | ok fl=>cases fl <;> exact h
    | error e =>
      obtain ⟨ea,T,C,H',_,_,_,_,_,_,_,_,_,_,z⟩:=h;exact z.elim⟩
open PySem PySem.Spec PyProof.Rows
section
variable {X:Cx}
theorem nj {i₀:Nat} {x:Str} {px spos:Pos} {elt tg iter:Expr} {ifs:List Expr} {scope:Scope} {pos:Pos} {cl:List (Str × Addr)} {NY:List Str} {cap:List (Option Nat)} {wi:TI} {g:TG} {tt:TT} {te:TE} (hN:X.N.Nodup) (hiN:X.N[i₀]?=some x) (hx:Loc X.env.scope x) (hc:X.calm=true) (hi:PI X tg iter wi)
    (hclos:closureFor scope X.env=pure cl) (hci:CellsIn X.env cl) (hcap:CapOk X.env (relabel scope X.env) X.N NY cap)
    (hb:∀ fp s H C,PG (az X scope cl NY fp s H C) tg g∧rG (az X scope cl NY fp s H C) ifs tt∧PE (az X scope cl NY fp s H C) elt te)
    (hkind:scope.kind=.function:=by rfl) (hnc:(scope.names.all fun y=>y.2 != .cell)=true:=by rfl)
    (hnames:(scope.names.all fun y=>y.2 != .local || scope.names.lookup y.1 == some .local)=true:=by rfl)
    (hhas:((relabel scope X.env).names.all fun p=>(p.2 != .cell && p.2 != .free) || (cl.lookup p.1).isSome)=true:=by rfl)
    (hs:∀ x,foldedSetIterable iter X.env x=pure x:=by intro _;rfl) (hsw:swapsWith (.ListComp elt [⟨tg,iter,ifs,0⟩] scope pos) (some (.Name x px)) spos.line X.env=pure true:=by rfl)
    (hf:X.fn x=true∨X.env.scope.names.lookup x=some .local:=by first|exact .inl rfl|exact .inr rfl|assumption) :
    PS X (.Assign [.Name x px] (.ListComp elt [⟨tg,iter,ifs,0⟩] scope pos) spos) (tE (tLc cap wi g tt te) (qQ i₀)):=by
  have hnc':∀ y∈scope.names,y.2≠.cell:=fun y hy=>by
    have q:=aa2.mp hnc y hy;simpa using q
  have hnames':∀ y∈scope.names,y.2=.local→scope.names.lookup y.1=some .local:=fun y hy e=>by
    have q:=aa2.mp hnames y hy;rw [e] at q;simpa using q
  intro pins s σ H D I h;rw [exec_Assign_Name_used _ _ _ _ hsw];refine wpAny_bind (wpAny_standAt (wpAny_bind ?_));show wpAny _ X.A (do let _ ← comprehension (.ListComp elt [⟨tg,iter,ifs,0⟩] scope pos) scope X.env _ (newList []) false (eval iter X.env) (some (assign (.Name x px) X.env))) _ _ s;refine wpAny_bind (wpAny_mono (wpAny_comprehension_free (use:=some (assign (.Name x px) X.env)) (Q:=fun _ s'=>∃ σ' H',Inv X pins σ' H' s'∧D.nx σ' H') rfl hs hclos hkind hnames' (wpAny_mono (hi pins s σ H _ I h) (fun v s1 h1=>wpAny_mono h1 (fun itv s2 h2=>?_) fun _ _ e=>e) fun _ _ e=>e)) (fun _ s' hq=>wpAny_pure (wpAny_pure hq)) fun _ _ e=>e);obtain ⟨it,fp,tn,J,H2,e,I2,T,st2,f2,W,⟨m0,w0⟩,turn⟩:=h2;subst e;refine wpAny_newObj_type (wpAny_newFunctionEnv hnc' (by intro y hy;simp at hy) (fun h₁ hns₁ hsb₁=>?_) hkind);dsimp only at hns₁ hsb₁ ⊢;generalize hH2:s2.heap.push { cls:=.type "list",dict:=none,data:=.seq ([]:List Value).toArray }=G2 at hns₁ hsb₁ ⊢;have hC:G2.objs.size=s2.heap.objs.size+1:=by rw [← hH2,Heap.size_push]
  have hDC:s2.heap.objs.size≠G2.objs.size:=by rw [hC];exact aaq (acy _)
  have hDlt:s2.heap.objs.size≤G2.objs.size:=by rw [hC];exact abR _
  have below:∀ b,b < s2.heap.objs.size→b≠G2.objs.size∧b≠s2.heap.objs.size:=fun b hb=>⟨by rw [hC];exact aaq (abx hb),aaq hb⟩
  have old:∀ b o,s2.heap.get? b=some o→h₁.get? b=some o:=fun b o e=>hsb₁.extBut b o (below b (aak e)).1 (aal _ (hH2 ▸ aal _ e));have hacc:h₁.get? s2.heap.objs.size=some { cls:=.type "list",data:=.seq ([]:List Value).toArray 0 }:=hsb₁.extBut _ _ hDC (aal _ (hH2 ▸ aaF _ rfl));have fpl:∀ b∈fp,b < s2.heap.objs.size:=fun b hb=>by
    obtain ⟨o,e,_⟩:=T.obj _ _ st2 b hb;exact aak e
  have freshD:H2 s2.heap.objs.size=none:=I2.hok.fresh (aab _);have freshC:H2 G2.objs.size=none:=I2.hok.fresh hDlt;have cellLt:∀ x c,X.env.cells.lookup x=some c→c < s2.heap.objs.size:=fun x c e=>by
    obtain ⟨v,q⟩:=I2.cell x c e;exact q.lt
  have hclX:∀ x c,cl.lookup x=some c→X.env.cells.lookup x=some c:=fun x c e=>hci.get e;obtain ⟨hbg,hbt,hbe⟩:=hb fp s2 H2 G2.objs.size;have okY:(az X scope cl NY fp s2 H2 G2.objs.size).Ok:=by
    refine ⟨I2.ok.mod,hkind,I2.ok.glob,I2.ok.blt,hDlt,fun x y c e1 e2=>I2.ok.inj x y c (hclX x c e1) (hclX y c e2),fun x hx=>?_,fun x c hf _=>?_,I2.ok.hd,I2.ok.frames,.inl rfl,fun b hb=>⟨(below b (fpl b hb)).1,fun x c e z=>?_⟩,I2.bs,
      aaY I2.ok.bsz I2.sz,fun b o e hb=>?_,fun b hb hz=>?_,I2.stack,I2.stkFree⟩
    · have hx':(relabel scope X.env).names.lookup x=some .cell∨(relabel scope X.env).names.lookup x=some .free:=hx;have key:∀ k,(relabel scope X.env).names.lookup x=some k→(k=.cell∨k=.free)→∃ c,cl.lookup x=some c:=fun k e hk=>by
        have q:=aa2.mp hhas (x,k) (aa8 e);have q':(cl.lookup x).isSome=true:=by
          rcases hk with rfl|rfl <;> simpa using q
        exact acd.mp q'
      rcases hx' with e|e
      · exact key _ e (.inl rfl)
      · exact key _ e (.inr rfl)
    · exact absurd (show false=true from hf) aan
    · exact (f2 b hb).2.2.2.2.1 x c (hclX x c e) z
    · rcases (f2 b hb).2.2.2.1 with z|z
      · exact I2.ok.noex b o e z
      · exact absurd (aay (aak (I2.ok.bs b o e).1) z) (aa7 _)
    · rcases aam.mp (I2.stkSub b hz) with z|z
      · exact (f2 b hb).2.1 z
      · exact (f2 b hb).2.2.1 z
  have fpYs:∀ {H':Hp} {n:Nat} {its:List Value},(∀ b∈fp,H' b=none)→∀ b∈fp,kl (az X scope cl NY fp s2 H2 G2.objs.size) [(s2.heap.objs.size,{ cls:=.type "list",data:=.seq its.toArray n })] H' b:=fun {H' n its} hn b hb=>by
    refine ⟨hn b hb,(below b (fpl b hb)).1,fun hz=>?_,.inl hb,fun x c e=>(f2 b hb).2.2.2.2.1 x c (hclX x c e),fun p hp=>?_⟩
    · rcases aam.mp (I2.stkSub b hz) with z|z
      · exact (f2 b hb).2.1 z
      · exact (f2 b hb).2.2.1 z
    · have e:p=(s2.heap.objs.size,{ cls:=.type "list",data:=.seq its.toArray n }):=by simpa [az] using hp
      rw [e];exact abc (below b (fpl b hb)).2
  have nostk:∀ b,s2.heap.objs.size≤b→b∉frs X.stack:=fun b hb hz=>by
    rcases aam.mp (I2.stkSub b hz) with z|z
    · have:=I2.lt;rw [← z] at this;exact absurd (aay this hb) (aa7 _)
    · exact I2.nofs hb z
  have IY0:Inv (az X scope cl NY fp s2 H2 G2.objs.size) [(s2.heap.objs.size,{ cls:=.type "list",data:=.seq ([]:List Value).toArray 0 })] (bO cap σ) H2 { s2 with heap:=h₁,toks:=s2.toks+([]:List (Str × Value)).length }:=by
    refine ⟨okY,rfl,I2.bare,Un.kept old,⟨_,hns₁,fun j x v e1 e2 e3=>?_⟩,fun x c e=>?_,freshC,fun x c e=>I2.freeC x c (hclX x c e),fun p hp=>?_,I2.hok.kept old,?_⟩
    · obtain ⟨i,h1,h2,h3,h4⟩:=CapOk.get (σ:=σ) hcap e1 e2;obtain ⟨m,hn,hl⟩:=I2.loc;have vis:Vis X.env.scope x:=by rcases h3 with z|z;exact .inr (.inl z);exact .inr (.inr z)
      obtain ⟨u,r,l⟩:=hl i x v h1 h2 vis;refine ⟨u,r,.inr ⟨h4,?_⟩⟩;rcases l with ⟨k,_⟩|⟨_,c,e,z⟩
      · rcases h3 with z|z <;> (rw [k] at z;cases z)
      · obtain ⟨c',e'⟩:=okY.has x h4;have e':cl.lookup x=some c':=e';have e'':=hclX x c' e';rw [e] at e'';cases e'';obtain ⟨o,ho,hd⟩:=z;exact ⟨c,e',o,old _ _ ho,hd⟩
    · obtain ⟨v,o,ho,hd⟩:=I2.cell x c (hclX x c e);exact ⟨v,o,old _ _ ho,hd⟩
    · have e:p=(s2.heap.objs.size,{ cls:=.type "list",data:=.seq ([]:List Value).toArray 0 }):=by simpa [az] using hp
      rw [e];exact ⟨hacc,freshD,hDC,nostk _ (aab _),fun v z=>by cases z⟩
    · show (bO cap σ).length=NY.length;unfold bO;rw [aac];exact hcap.len
  have hcY:(az X scope cl NY fp s2 H2 G2.objs.size).calm=true:=hc;have stW:tn 0 h₁:=T.keep _ _ _ st2 fun b _ o e=>old b o e;have loop:∀ s₃:Shared,s₃={ s2 with heap:=h₁,toks:=s2.toks+([]:List (Str × Value)).length } →
      codeAny (model X.prog X.w) X.A (.compLoop (.ListComp elt [⟨tg,iter,ifs,0⟩] scope pos) 0 (.ref it) (.ref s2.heap.objs.size) (compEnvC scope cl G2.objs.size X.env))
        (compPost (model X.prog X.w) X.A X.xe (some (assign (.Name x px) X.env)) (fun _ s'=>∃ σ' H',Inv X pins σ' H' s'∧D.nx σ' H') (.ref s2.heap.objs.size) G2.objs.size) s₃:=by
    rintro s₃ rfl;refine jv (fun n s'=>∃ i ys its k H',Inv (az X scope cl NY fp s2 H2 G2.objs.size) [(s2.heap.objs.size,{ cls:=.type "list",data:=.seq its.toArray k })] (bO cap σ) H' s'∧Vals ys its∧ys.length≤sizeLine∧tn i s'.heap∧(∀ b∈fp,H' b=none)∧W i n ys H') ?_ m0
      ⟨0,[],[],0,H2,IY0,.nil,aaT _,stW,fun b hb=>(f2 b hb).1,w0⟩
    rintro n s3 ⟨i,ys,its,k,H3,I3,rv,hz,st3,fr3,w3⟩;rcases turn i n ys H3 w3 with ⟨stop,qn⟩|⟨go,hlt,step⟩
    · refine wpAny_mono (T.done (az X scope cl NY fp s2 H2 G2.objs.size) rfl rfl rfl hcY i _ s3 _ H3 (fun _ _=>False) I3 (fpYs fr3) st3 stop) (fun r s4 ⟨hr,I4⟩=>?_) fun _ _ z=>z;subst hr;obtain ⟨m,hnC,_⟩:=id I4.loc;have hnC:s4.heap.Ns G2.objs.size m:=hnC;have pD:=(I4.pin (s2.heap.objs.size,{ cls:=.type "list",data:=.seq its.toArray k }) (by simp [az]))
      have un:Un (frs X.stack) fp H2 H3 s2.heap s4.heap:=I4.base;have I5:Inv X pins σ H3 s4:=I2.call' (ch:=fp) I4.os un I4.hok I4.bare fun b hb=>⟨(f2 b hb).2.2.2.1,(f2 b hb).2.1,(f2 b hb).2.2.2.2.1,(f2 b hb).2.2.2.2.2⟩
      have cC:H3 G2.objs.size=none:=I4.free;have szX:X.s₀.heap.objs.size≤s2.heap.objs.size:=I2.sz;have I7:Inv X pins σ (upd H3 s2.heap.objs.size (.lst ys)) s4:=I5.adopt pD.2.1 szX (abX I2.lt) (fun x c e=>aaq (cellLt x c e)) (fun p hp=>aaq (aak (I2.pin p hp).1))
        ⟨hz,its,k,rv,pD.1⟩
      obtain ⟨oC,es,ep,hoC,hdC,rC⟩:=hnC;have nL:G2.objs.size≠X.env.locals:=abX (aay I2.lt hDlt);have cC':upd H3 s2.heap.objs.size (.lst ys) G2.objs.size=none:=by rw [aq (abc hDC)];exact cC
      have I8:Inv X ((G2.objs.size,oC) :: pins) σ (upd H3 s2.heap.objs.size (.lst ys)) s4:=I7.pins_of fun p hp=>by
        rcases aam.mp hp with z|z
        · rw [z];exact ⟨hoC,cC',nL,fun hz=>I2.nofs hDlt hz,fun v z=>by rw [hdC] at z;cases z⟩
        · exact I7.pin p (aae _ z)
      show wpAny _ X.A (assign (.Name x px) X.env (.ref s2.heap.objs.size)) _ _ s4;refine wpAny_assign_Name (d9 (v:=.ref s2.heap.objs.size) I8 hN hiN hx rfl (fun s5 I9=>?_) hf);have pC:=I9.pin (G2.objs.size,oC) (aae _ aag);refine ⟨m,⟨oC,es,ep,pC.1,hdC,rC⟩,fun h' hsb=>?_⟩;have I10:Inv X pins (σ.set i₀ (some (.ref s2.heap.objs.size))) (upd H3 s2.heap.objs.size (.lst ys)) s5:=I9.pins_of fun p hp=>I9.pin p (aae _ (aaf _ hp));have I11:Inv X pins (σ.set i₀ (some (.ref s2.heap.objs.size))) (upd H3 s2.heap.objs.size (.lst ys)) { s5 with heap:=h' }:=I10.turned (t':=s5.toks) (it:=G2.objs.size) (fun b o hb e=>hsb.extBut b o hb e) cC' nL (.inr (aaY szX hDlt))
        (fun x c e z=>absurd (cellLt x c e) (by rw [z];exact Nat.not_lt.mpr hDlt)) (fun p hp z=>absurd (aak (I2.pin p hp).1) (by rw [z];exact Nat.not_lt.mpr hDlt))
      exact ⟨_,_,I11,qn _ pD.2.1⟩
    · refine wpAny_mono (T.item (az X scope cl NY fp s2 H2 G2.objs.size) rfl rfl rfl hcY i _ s3 _ H3 (fun _ _=>False) I3 (fpYs fr3) st3 go) (fun r s4 ⟨u,hr,h4⟩=>?_) fun _ _ z=>z;subst hr;refine wpAny_mono h4 (fun _ s5 ⟨x,H5,I5,r5,y5,st5,fr5⟩=>?_) fun _ _ z=>z;have I5':=I5.pinned (fpYs fr5) (T.obj _ _ st5);refine wpAny_mono (hbg _ s5 _ H5 x u _ I5' r5 (step x H5 y5)) (fun _ s6 ⟨σ6,H6,I6,q6⟩=>?_) fun _ _ z=>z;refine wpAny_mono (hbt _ s6 σ6 H6 _ I6 q6) (fun ok s7 ⟨H7,I7,q7⟩=>?_) fun _ _ z=>z;have lenY:∀ {σ':St} {pn} {H'} {s'},Inv (az X scope cl NY fp s2 H2 G2.objs.size) pn σ' H' s'→(bO cap σ).length=σ'.length:=fun {σ' pn H' s'} Z=>IY0.len.trans Z.len.symm;have captured:∀ {σ':St} {pn} {H'} {s'},Inv (az X scope cl NY fp s2 H2 G2.objs.size) pn σ' H' s'→Inv (az X scope cl NY fp s2 H2 G2.objs.size) pn (bO cap σ) H' s':=fun {σ' pn H' s'} Z=>by
        refine ⟨Z.ok,Z.os,Z.bare,Z.base,?_,Z.cell,Z.free,Z.freeC,Z.pin,Z.hok,IY0.len⟩;obtain ⟨m,hn,_⟩:=Z.loc;refine ⟨m,hn,fun j x v e1 e2 e3=>?_⟩;obtain ⟨i',h1,h2,h3,h4⟩:=CapOk.get (σ:=σ) hcap e1 e2;obtain ⟨m',hn',hl⟩:=I2.loc;have vis:Vis X.env.scope x:=by rcases h3 with z|z;exact .inr (.inl z);exact .inr (.inr z)
        obtain ⟨u,r,l⟩:=hl i' x v h1 h2 vis;refine ⟨u,r,.inr ⟨h4,?_⟩⟩;rcases l with ⟨kk,_⟩|⟨_,c,e,z⟩
        · rcases h3 with z|z <;> (rw [kk] at z;cases z)
        · obtain ⟨c',e'⟩:=okY.has x h4;have e':cl.lookup x=some c':=e';have e'':=hclX x c' e';rw [e] at e'';cases e'';obtain ⟨o,ho,hd⟩:=z;have nfp:c∉fp:=fun hz=>(f2 c hz).2.2.2.2.1 x c e rfl;obtain ⟨sl,q⟩:=Z.base.any (show s2.heap.get? c=some o from ho) (I2.freeC x c e) nfp;exact ⟨c,e',_,q,hd⟩
      have again:∀ {ys':List V} {its':List Value} {k':Nat} {σ':St} {H':Hp} {s':Shared},Inv (az X scope cl NY fp s2 H2 G2.objs.size) ([(s2.heap.objs.size,{ cls:=.type "list",data:=.seq its'.toArray k' })]++bZ fp s5.heap) σ' H' s'→Vals ys' its'→ys'.length≤sizeLine →
          (∃ m',m' < n∧W (i+1) m' ys' H')→∃ m,m < n∧∃ i ys its k H',Inv (az X scope cl NY fp s2 H2 G2.objs.size) [(s2.heap.objs.size,{ cls:=.type "list",data:=.seq its.toArray k })] (bO cap σ) H' s'∧Vals ys its∧ys.length≤sizeLine∧tn i s'.heap∧(∀ b∈fp,H' b=none)∧W i m ys H':=fun {ys' its' k' σ' H' s'} Z rv' hz' hw=>by
        obtain ⟨m',hm,w'⟩:=hw;refine ⟨m',hm,i+1,ys',its',k',H',captured Z.unpinned,rv',hz',T.keep _ _ _ st5 fun b hb o e=>(Z.pin (b,o) (aae _ (aae _ (cz hb e)))).1,fun b hb=>?_,w'⟩;obtain ⟨o,e,d⟩:=T.obj _ _ st5 b hb;exact (Z.pin (b,o) (aae _ (aae _ (cz hb e)))).2.1
      cases ok with
      | false =>
        rw [if_neg aan] at q7 ⊢;exact again I7 rv hz q7
      | true =>
        rw [if_pos rfl] at q7 ⊢;refine wpAny_mono (hbe _ s7 σ6 H7 _ I7 q7) (fun xv s8 ⟨v,H8,I8,r8,q8⟩=>?_) fun _ _ z=>z;have pD:=I8.pin (s2.heap.objs.size,{ cls:=.type "list",data:=.seq its.toArray k }) (by simp [az]);have hlen:=rv.length;refine append_at pD.1 (fun h9 hs9 hD9=>?_) (by rw [aai];lia);have I9:Inv (az X scope cl NY fp s2 H2 G2.objs.size) (bZ fp s5.heap) σ6 H8 s8:=I8.pins_of fun p hp=>I8.pin p (aae _ (aae _ hp));have I10:Inv (az X scope cl NY fp s2 H2 G2.objs.size) (bZ fp s5.heap) σ6 H8 { s8 with heap:=h9 }:=I9.turned (t':=s8.toks) (it:=s2.heap.objs.size) (fun b o hb e=>hs9.extBut b o hb e) pD.2.1 hDC (.inr (aab _))
          (fun x c e=>aaq (cellLt x c (hclX x c e))) fun p hp=>by
            have hp':p∈bZ fp s5.heap:=by simpa [az] using hp
            exact abc (abc (below _ (fpl _ (gF hp').1)).2)
        have I11:Inv (az X scope cl NY fp s2 H2 G2.objs.size) ([(s2.heap.objs.size,{ cls:=.type "list",data:=.seq (its++[xv]).toArray (k+1) })]++bZ fp s5.heap) σ6 H8 { s8 with heap:=h9 }:=I10.pins_of fun p hp=>by
          rcases aaz.mp hp with z|z
          · have e:p=(s2.heap.objs.size,{ cls:=.type "list",data:=.seq (its++[xv]).toArray (k+1) }):=by simpa using z
            rw [e];refine ⟨?_,pD.2.1,hDC,nostk _ (aab _),fun v z=>by cases z⟩;rw [List.push_toArray] at hD9;exact hD9
          · exact I10.pin p (aae _ z)
        exact again I11 (rv.append (.cons r8 .nil)) (by rw [aah,abo];exact hlt) q8
  exact codeAny_compStart_list (loop _ rfl) (T.self _ 0 _ _ _ stW (loop _ rfl))
end
open PySem PySem.Spec PyProof.Rows
section
variable {X:Cx}
theorem i_:∀ {zs:List Str} {its:List Value},Vals (zs.map V.str) its→∃ l:List (Str × Tok),its=strValues l∧l.map (·.1)=zs
  | [],_,.nil=>⟨[],rfl,rfl⟩
  | z :: r,_,.cons h t=>by
    obtain ⟨k,rfl⟩:=(show ∃ k,_=Value.str z k from h)
    obtain ⟨l,e1,e2⟩:=i_ t;exact ⟨(z,k) :: l,by rw [e1];rfl,by rw [aau,e2]⟩
theorem lc:MtR X "str.join" (fun x vs H Q=>∃ z p zs,x=.str z∧vs=[.ref p]∧SqL X.K H p (zs.map V.str)∧JoinOk z zs=true∧Q (.str (Txt.join z zs)) H):=by
  intro pins s σ H x vs v us Q I rx rv h;obtain ⟨z,p,zs,rfl,rfl,hq,hok,q⟩:=h;obtain ⟨t,rfl⟩:=rx;obtain ⟨u,rfl,ru⟩:=cZ rv;cases ru;obtain ⟨its,r,pl,hz⟩:=I.list hq;obtain ⟨l,rfl,e2⟩:=i_ r;exact PySem.SC.join pl.isList e2 hok fun t' k=>⟨.str _,H,I.tok _,⟨_,rfl⟩,q⟩
def cY (z:Str) (lo hi:Option Int):Str:=if (aaL lo hi 1 z.length).length=z.length then z else ⟨((aaL lo hi 1 z.length).filterMap (z.cps[·]?)).toArray⟩
theorem pQ:SlR X (fun x lo hi H Q=>∃ z,x=.str z∧(cY z lo hi).length≤sizeLine∧Q (.str (cY z lo hi)) H):=by
  intro pins s σ H x v vl vu lo hi sl Q I rx hs pl pu h;obtain ⟨z,rfl,hz,q⟩:=h;obtain ⟨t,rfl⟩:=rx;refine ⟨"str",_,F.slot_str_getitem.lookup,typeIs_str _ z t,?_⟩;obtain ⟨l,hl1,hl2⟩:∃ l:Option (Int × Tok),partValue l=vl∧l.map (·.1)=lo:=by
    cases pl with
    | none=>exact ⟨none,rfl,rfl⟩
    | int i t=>exact ⟨some (i,t),rfl,rfl⟩
  obtain ⟨u,hu1,hu2⟩:∃ u:Option (Int × Tok),partValue u=vu∧u.map (·.1)=hi:=by
    cases pu with
    | none=>exact ⟨none,rfl,rfl⟩
    | int i t=>exact ⟨some (i,t),rfl,rfl⟩
  obtain ⟨o,ho,hc,hd⟩:=hs;refine wpAny_getItem_str_slice (l:=l) (u:=u) (st:=none) ⟨o,ho,hc,by rw [hd,hl1,hu1];rfl⟩ rfl ?_;have ep:slicePicked z l u none=aaL lo hi 1 z.length:=by unfold slicePicked;rw [hl2,hu2];rfl
  unfold sliceMade;rw [ep];unfold cY at hz q;by_cases c:(aaL lo hi 1 z.length).length=z.length
  · rw [if_pos c] at hz q;rw [if_pos (by simp [c])];exact ⟨.str z,H,I,⟨t,rfl⟩,q⟩
  · rw [if_neg c] at hz q;rw [if_neg (by simp [c])];exact ⟨hz,.str _,H,I.tok _,⟨_,rfl⟩,q⟩
end
open PySem PySem.Spec PyProof.Rows
section
variable {prog:Program} {w:World} {A:Around} {E:Value→Shared→Prop} {s:Shared} {I:Addr} {fp wr:List Addr} {G:Array GenState→Array GenState→Prop} {n:Nat} {P:Nat→Value→Prop} {St:Nat→Shared→Prop}
end
end L2
set_option maxHeartbeats 1000000
namespace L2
open PySem PySem.Spec PyProof.Rows
theorem gv {M:Model} {Γ:PySem.Ctx} {p:Pos} {t:Sem Fin} {fs:List Frame} {s:Shared} {e:End} {s':Shared} (h:Runs M Γ p t fs s e s'):s.toks≤s'.toks:=by
  induction h <;> (try simp only [Shared.setGen] at *) <;> lia
theorem lN {M:Model} {Γ:PySem.Ctx} {p:Pos} {g:Nat} {r:Resume} {s:Shared} {res:GenResult} {s':Shared} (h:Wakes M Γ p g r s res s'):s.toks≤s'.toks:=by
  unfold Wakes at h;split at h
  · exact h.elim
  · split at h
    · obtain ⟨e1,s1,hr,_,_,rfl⟩:=h;have:=gv hr;simpa only [Shared.setGen] using this
    · rw [h.2];exact aab _
    · rw [h.2];exact aab _
  · obtain ⟨e1,s1,hr,_,_,rfl⟩:=h;have:=gv hr;simpa only [Shared.setGen] using this
  · rw [h.2];exact aab _
  · rw [h.2];exact aab _
theorem rH {α:Type} {M:Model} {Γ:PySem.Ctx} (n:Nat) (t:Sem α) {Q:α→Pos→Shared→Prop} {E:Value→Pos→Shared→Prop}:∀ (p:Pos) (s:Shared),n≤s.toks→abL M Γ t Q E p s →
    abL M Γ t (fun a p' s'=>n≤s'.toks∧Q a p' s') E p s:=by
  induction t with
  | pure a=>intro p s hn h;simp only [abL] at h ⊢;exact ⟨hn,h⟩
  | raise e=>intro p s hn h;simpa only [abL] using h
  | unsupported w=>intro p s hn h;simp only [abL] at h
  | finish e=>intro p s hn h;simp only [abL] at h
  | rule tag k ih=>intro p s hn h;simp only [abL] at h ⊢;exact ih _ _ _ hn h
  | «at» p' k ih=>intro p s hn h;simp only [abL] at h ⊢;exact ih _ _ _ hn h
  | load a part k ih=>intro p s hn h;simp only [abL] at h ⊢;obtain ⟨o,ho,h⟩:=h;exact ⟨o,ho,ih _ _ _ hn h⟩
  | update a part f k ih=>intro p s hn h;simp only [abL] at h ⊢;exact ⟨h.1,ih _ _ _ (by exact hn) h.2⟩
  | loadIfAlive a k ih=>intro p s hn h;simp only [abL] at h ⊢;exact ih _ _ _ hn h
  | point l k ih=>intro p s hn h;simp only [abL] at h ⊢;exact ih _ _ _ hn h
  | register a k ih=>intro p s hn h;simp only [abL] at h
  | alloc o k ih=>intro p s hn h;simp only [abL] at h ⊢;exact ih _ _ _ (by exact hn) h
  | fresh k ih=>intro p s hn h;simp only [abL] at h ⊢;exact ih _ _ _ (Nat.le_succ_of_le hn) h
  | ask k ih=>intro p s hn h;simp only [abL] at h ⊢;exact ih _ _ _ hn h
  | choose src n k ih=>intro p s hn h;simp only [abL] at h ⊢;exact ⟨h.1,ih _ _ _ (by exact hn) h.2⟩
  | os q l k ih=>intro p s hn h;simp only [abL] at h ⊢;exact ih _ _ _ (by exact hn) h
  | call c hd g l k ih =>
    intro p s hn h;simp only [abL] at h ⊢;obtain ⟨r,s',hr,h⟩:=h;exact ⟨r,s',hr,ih _ _ _ (aaY hn (gv hr)) h⟩
  | handled own k ih=>intro p s hn h;simp only [abL] at h ⊢;exact ih _ _ _ hn h
  | genState g k ih=>intro p s hn h;simp only [abL] at h ⊢;obtain ⟨o,ho,h⟩:=h;exact ⟨o,ho,ih _ _ _ hn h⟩
  | newGen c k ih=>intro p s hn h;simp only [abL] at h ⊢;exact ih _ _ _ (by exact hn) h
  | resume g r l k ih =>
    intro p s hn h;simp only [abL] at h ⊢;obtain ⟨res,s',hw,h⟩:=h;exact ⟨res,s',hw,ih _ _ _ (aaY hn (lN hw)) h⟩
  | yield v g l k ih=>intro p s hn h;simp only [abL] at h
  | stack k ih=>intro p s hn h;simp only [abL] at h ⊢;exact ih _ _ _ hn h
  | fork c k ih=>intro p s hn h;simp only [abL] at h
  | thread k ih=>intro p s hn h;simp only [abL] at h ⊢;exact ih _ _ _ hn h
  | await a f d l k ih=>intro p s hn h;simp only [abL] at h
theorem hX {α:Type} {M:Model} {A:Around} {t:Sem α} {Q:α→Shared→Prop} {E:Value→Shared→Prop} {s:Shared} (hn:s.toks≠0) (h:wpAny M A t Q E s):wpAny M A t (fun a s'=>s'.toks≠0∧Q a s') E s :=
  fun Γ p hΓ=>Sem.wp_mono M Γ t (fun a _ s' q=>⟨Nat.pos_iff_ne_zero.mp q.1,q.2⟩) (fun _ _ _ q=>q) p s (rH 1 t p s (Nat.pos_of_ne_zero hn) (h Γ p hΓ))
def Tk {α:Type} (t:Sem α):Prop:=∀ (M:Model) (Γ:PySem.Ctx) (p:Pos) (s:Shared) (Q:α→Pos→Shared→Prop) (E:Value→Pos→Shared→Prop),abL M Γ t Q E p s→abL M Γ t (fun a p' s'=>1≤s'.toks∧Q a p' s') E p s
theorem Tk.constS {x:Str} {k:Nat} {pos:Pos} {env:Env}:Tk (eval (.Constant (.str x) k pos) env):=by
  intro M Γ p s Q E q;exact ⟨Nat.le_add_left 1 _,q⟩
theorem ph {α:Type} {M:Model} {A:Around} {t:Sem α} {Q:α→Shared→Prop} {E:Value→Shared→Prop} {s:Shared} (ht:Tk t) (h:wpAny M A t Q E s):wpAny M A t (fun a s'=>s'.toks≠0∧Q a s') E s :=
  fun Γ p hΓ=>Sem.wp_mono M Γ t (fun a _ s' q=>⟨Nat.pos_iff_ne_zero.mp q.1,q.2⟩) (fun _ _ _ q=>q) p s (ht M Γ p s _ _ (h Γ p hΓ))
def PEK (X:Cx) (e:Expr) (t:TE):Prop :=
  ∀ (pins:List (Addr × Obj)) (s:Shared) (σ:St) (H:Hp) (Q:VK),Inv X pins σ H s→s.toks≠0→t σ H Q→wpAny (model X.prog X.w) X.A (eval e X.env) (EP X pins σ Q) X.xe s
section
variable {X:Cx} {pos:Pos} {t u:TS}
def uN (K:aaa) (y z:Str) (to:TE):TE:=fun σ H Q=>to σ H fun x H1=>∃ w,x=.str w∧w.length≤1000∧Q (.str (ab1 w y z)) H1
theorem ql {o:Expr} {to:TE} {y z:Str} {k1 k2:Nat} {p1 p2 apos cpos:Pos} (ho:PE X o to) (hyz:(y == z)=false) (hz:z.length≤14)
    (hbase:attributeBase o "replace" X.env (eval o X.env)=eval o X.env:=by rfl)
    (hline:(apos.endLine == cpos.line)=true:=by rfl) :
    PEK X (.Call (.Attribute o "replace" apos) [.Constant (.str y) k1 p1,.Constant (.str z) k2 p2] [] cpos) (uN X.K y z to):=by
  intro pins s σ H Q I hk h;refine wpAny_Call_method_late hbase rfl hline rfl (thn (hX hk (ho pins s σ H _ I h)) fun v s1 ⟨hn,x,H1,I1,r1,q1⟩=>?_);obtain ⟨w,rfl,hw,q1⟩:=q1;obtain ⟨h1,h2⟩:=lQ (T:="str") I1 r1 (by first|exact rfl|exact True.intro);refine ⟨"str","str.replace",PySem.F.plainAttrs_str,PySem.F.slot_str_replace,PySem.F.type_str_replace,h1,h2,?_⟩;refine acm rfl (Calls.evalArgs_plain ?_);show wpAny _ _ (spliced ((false,eval (.Constant (.str y) k1 p1) X.env) :: backTo cpos (starEach [.Constant (.str z) k2 p2] X.env))) _ _ s1;refine abF (acg ?_);show wpAny _ _ (spliced ((false,eval (.Constant (.str z) k2 p2) X.env) :: backTo cpos (starEach [] X.env))) _ _ _;refine abF (acg ?_);refine Calls.spliced_nil ?_;obtain ⟨t0,rfl⟩:=r1;refine PySem.SC.replaceW hn (Nat.succ_ne_zero _) (aaq (acy _)) hyz (by lia) hz fun t' k=>?_;exact ⟨.str _,H1,(I1.tok k),⟨_,rfl⟩,q1⟩
end
open PySem PySem.Spec PyProof.Rows
section
variable {X:Cx}
end
open PySem PySem.Spec PyProof.Rows
section
variable {X:Cx}
end
end L2
namespace PySem
open Builtin Builtin.Str Builtin.Int
section
variable {prog:Program} {w:World} {A:Around} {E:Value→Shared→Prop} {s:Shared} {x:Str} {t:Tok} {Q:Value→Shared→Prop}
  {I:Addr} {fp wr:List Addr} {G:Array GenState→Array GenState→Prop} {n:Nat} {P:Nat→Value→Prop} {St:Nat→Shared→Prop}
end
end PySem
namespace L2
open PySem PySem.Spec PyProof.Rows
section
variable {X:Cx}
end
open PySem PySem.Spec PyProof.Rows
section
variable {X:Cx}
end
open PySem PySem.Spec PyProof.Rows
section
variable {X:Cx} {pins:List (Addr × Obj)} {σ:St} {H:Hp} {s:Shared} {A:Around} {Q:Value→Shared→Prop} {E:Value→Shared→Prop} {b:Bool}
end
section
variable {X:Cx} {a b c d:Expr} {ta tb tc td:TE} {pos:Pos}
end
section
variable {X:Cx}
end
open PySem PySem.Spec PyProof.Rows
section
variable {X:Cx} {o e:Expr} {es:List Expr} {to:TE} {t:TA} {name:Str} {apos cpos:Pos} {T id:String} {r:V→List V→Hp→VK→Prop} {K:aaa}
theorem tY (hK:X.K=K) (pa:PlainAttrs T) (slot:Slot T name id) (hty:typeOf (.builtin id)=pure (.type "method_descriptor")) (hm:MtR X id r) (ho:PE X o to) (ha:PA X (e :: es) t)
    (hbase:attributeBase o name X.env (eval o X.env)=eval o X.env:=by rfl)
    (hfew:((backTo cpos (starEach (e :: es) X.env)).all (fun x=>!x.1) && (backToKw cpos (keywordEach [] X.env)).all (fun x=>x.1.isSome)
      && decide ((e :: es).length+([]:List Keyword).length+(if ([]:List Keyword).isEmpty then 0 else 1) < 30))=true:=by rfl)
    (hline:(apos.endLine == cpos.line)=true:=by rfl) (hs:starEach (e :: es) X.env=(false,eval e X.env) :: starEach es X.env:=by rfl) (hplain:(backTo cpos (starEach es X.env)).any (·.1)=false:=by rfl) :
    PE X (.Call (.Attribute o name apos) (e :: es) [] cpos) (tBM K T r to t):=by
  subst hK;exact fe pa slot hty hm ho ha hbase hfew hline hs hplain
end
open PySem PySem.Spec PyProof.Rows
structure Trn (J:It) (n:Nat) (Kp:Hp→Prop) (item:Nat→V→Hp→Hp→Prop):Prop where
  go:∀ i H,i < n→Kp H→J.go i H
  stop:∀ H,Kp H→J.stop n H
  yld:∀ i H x H',i < n→Kp H→J.yld i H x H'→item i x H H'
theorem Trn.list {K:aaa} {a:Addr} {xs:List V}:Trn (Itl K a) xs.length (fun H=>SqL K H a xs) (fun i x H H'=>H'=H∧xs[i]?=some x) :=
  ⟨fun i H hi q=>⟨xs,xs[i],q,by simp [hi]⟩,fun H q=>⟨xs,q,aab _⟩,fun i H x H' hi q y=>⟨y.1,y.2 xs q⟩⟩
theorem Trn.range {lo:Int} {n:Nat}:Trn (Itr lo n) n (fun _=>True) (fun i x H H'=>H'=H∧x=.int (lo+i)) :=
  ⟨fun i H hi _=>hi,fun H _=>aab _,fun i H x H' hi _ y=>y⟩
theorem Trn.str {z:Str}:Trn (Its z) z.cps.size (fun _=>True) (fun i x H H'=>H'=H∧∃ c,z.cps[i]?=some c∧x=.str ⟨#[c]⟩) :=
  ⟨fun i H hi _=>hi,fun H _=>aab _,fun i H x H' hi _ y=>y⟩
theorem dY {J:It} {n:Nat} {Kp:Hp→Prop} {item:Nat→V→Hp→Hp→Prop} (T:Trn J n Kp item) {cap:List (Option Nat)} {g:TG} {tt:TT} {te:TE} {σ:St} {H:Hp} {Q:VK} (Pv:Nat→List V→Hp→Prop) (h0:Pv 0 [] H) (hk:∀ i ys H,i≤n→Pv i ys H→Kp H∧ys.length < sizeLine)
    (hs:∀ i x ys H H',i < n→item i x H H'→Pv i ys H→∀ Nx:List V→Hp→Prop,(∀ ys' H2,Pv (i+1) ys' H2→Nx ys' H2)→g x (bO cap σ) H' fun σ2 H2=>tt σ2 H2 fun b H3=>if b=true then te σ2 H3 fun v H4=>Nx (ys++[v]) H4 else Nx ys H3)
    (hd:∀ ys H,Pv n ys H→∀ p,H p=none→Q (.ref p) (upd H p (.lst ys))):uJ cap g tt te σ Q J H:=by
  refine ⟨fun i m ys H=>m=n - i∧i≤n∧Pv i ys H,⟨n,by simp,aaT _,h0⟩,?_⟩;rintro i m ys H ⟨rfl,hi,p⟩;by_cases hlt:i < n
  · refine .inr ⟨T.go i H hlt (hk i ys H hi p).1,(hk i ys H hi p).2,fun x H' y=>?_⟩;exact hs i x ys H H' hlt (T.yld i H x H' hlt (hk i ys H hi p).1 y) p (fun ys' H4=>∃ m',m' < n - i∧m'=n - (i+1)∧i+1≤n∧Pv (i+1) ys' H4) fun ys' H2 h=>⟨_,by lia,rfl,hlt,h⟩
  · have e:i=n:=by lia
    subst e;exact .inl ⟨T.stop H (hk _ ys H hi p).1,hd ys H p⟩
theorem hV {X:Cx} {K:aaa} (hK:X.K=K):IxR X (rIx K):=by subst hK;exact ux
open PySem PySem.Spec PyProof.Rows
theorem EqR.pair {K:aaa} {H:Hp} {n:Nat} {p q:Int × Int} {x y:V} (hx:PairIn H p x) (hy:PairIn H q y):EqR K H (n+1) x y (decide (p=q)):=by
  obtain ⟨a,rfl,ha⟩:=hx;obtain ⟨b,rfl,hb⟩:=hy;have:=EqR.tup (K:=K) (n:=n) (e:=fun j=>if j=0 then p.1 == q.1 else p.2 == q.2) (SqT.of ha) (SqT.of hb) fun j x y hx hy=>by
    match j,hx,hy with
    | 0,hx,hy=>simp at hx hy;subst hx hy;exact EqR.flat (K:=K) (H:=H) (n:=n) (x:=.int p.1) (y:=.int q.1) rfl rfl
    | 1,hx,hy=>simp at hx hy;subst hx hy;exact EqR.flat (K:=K) (H:=H) (n:=n) (x:=.int p.2) (y:=.int q.2) rfl rfl
    | j+2,hx,hy=>simp at hx
  have e:((aaQ (min [V.int p.1,V.int p.2].length [V.int q.1,V.int q.2].length)).all (fun j=>if j=0 then p.1 == q.1 else p.2 == q.2) && [V.int p.1,V.int p.2].length == [V.int q.1,V.int q.2].length)=decide (p=q):=by
    obtain ⟨a1,a2⟩:=p;obtain ⟨b1,b2⟩:=q;have : aaQ (min [V.int a1,V.int a2].length [V.int b1,V.int b2].length)=[0,1]:=rfl;rw [this,abM];simp
  rw [e] at this;exact this
theorem om {X:Cx} {pins:List (Addr × Obj)} {σ:St} {H:Hp} {s:Shared} (I:Inv X pins σ H s) {p:Int × Int}:∀ {ps:List (Int × Int)} {us:List V} {its:List Value},PairsIn H ps us→Vals us its →
    ∃ f:Value→Bool,(∀ y∈its,∃ q v,PairIn H q v∧RelV v y∧f y=decide (q=p))∧its.any f=decide (p∈ps):=by
  classical
  intro ps us its h r;refine ⟨fun y=>decide (∃ a,y=Value.ref a∧H a=some (.tup [.int p.1,.int p.2])),?_,?_⟩
  · induction h generalizing its with
    | nil=>cases r;intro y hy;cases hy
    | @cons q v ps us hq _ ih =>
      cases r with
      | cons rv rt =>
        intro y hy;rcases aam.mp hy with rfl|hy
        · refine ⟨q,v,hq,rv,?_⟩;obtain ⟨a,rfl,ha⟩:=hq;cases rv;by_cases c:q=p
          · subst c;rw [decide_eq_true rfl];exact decide_eq_true ⟨a,rfl,ha⟩
          · rw [decide_eq_false c];refine decide_eq_false ?_;rintro ⟨b,e,hb⟩;cases e;rw [ha] at hb;apply c;obtain ⟨q1,q2⟩:=q;obtain ⟨p1,p2⟩:=p;simp at hb;rw [hb.1,hb.2]
        · exact ih rt y hy
  · induction h generalizing its with
    | nil=>cases r;simp
    | @cons q v ps us hq _ ih =>
      cases r with
      | cons rv rt =>
        rw [acA,ih rt];obtain ⟨a,rfl,ha⟩:=hq;cases rv;by_cases c:q=p
        · subst c;have e0:decide (∃ b,Value.ref a=Value.ref b∧H b=some (.tup [.int q.1,.int q.2]))=true:=decide_eq_true ⟨a,rfl,ha⟩;show (decide (∃ b,Value.ref a=Value.ref b∧H b=some (.tup [.int q.1,.int q.2])) || _)=_;rw [e0];simp
        · refine (fun (e0:decide (∃ b,Value.ref a=Value.ref b∧H b=some (HO.tup [.int p.1,.int p.2]))=false)=>?_) ?_
          · show (decide (∃ b,Value.ref a=Value.ref b∧H b=some (.tup [.int p.1,.int p.2])) || _)=_;rw [e0,Bool.false_or,abM,decide_eq_true_eq,decide_eq_true_eq,aam];exact ⟨.inr,fun h=>h.elim (fun e=>absurd e.symm c) id⟩
          · refine decide_eq_false ?_;rintro ⟨b,e,hb⟩;cases e;rw [ha] at hb;apply c;obtain ⟨q1,q2⟩:=q;obtain ⟨p1,p2⟩:=p;simp at hb;rw [hb.1,hb.2]
def vW (K:aaa) (neg:Bool):R2:=fun x y H Q=>∃ (p:Int × Int) (l:Addr) (us:List V) (ps:List (Int × Int)),PairIn H p x∧y=.ref l∧SqL K H l us∧PairsIn H ps us∧Q (.bl (if neg then !decide (p∈ps) else decide (p∈ps))) H
theorem t_ {X:Cx} {K:aaa} (hK:X.K=K) (hu:X.A.units+64 < cLine):OpR X (compareOp .In) (vW K false):=by
  subst hK;intro pins s σ H x y v u Q I rx ry h;obtain ⟨p,l,us,ps,hp,rfl,hq,hps,q⟩:=h;cases ry;obtain ⟨its,r,pl,hz⟩:=I.list hq;obtain ⟨f,hf,ha⟩:=om (p:=p) I hps r;refine SeqAt.in_listAt f pl.isList (fun w hw=>?_) ⟨.bl _,H,I,rfl,?_⟩
  · obtain ⟨q',v',h1,h2,h3⟩:=hf w (by simpa using hw);rw [h3];exact (EqR.pair (K:=X.K) (n:=0) h1 hp).at I h2 rx (by show X.A.units+1+(0+1) < cLine;lia)
  · rw [show its.toArray.any f=its.any f by simp,ha];exact q
open PySem PySem.Spec PyProof.Rows
section
variable {X:Cx}
end
open PySem PySem.Spec PyProof.Rows
section
variable {X:Cx} {a b c d e:Expr} {ta tb tc td te:TE} {pos:Pos}
end
end L2
namespace L2
open PySem PySem.Spec PyProof.Rows PySem.W
def cdO (c:Addr) (qual:Str):HO:=.ext fun h=>h.CodeRec (.ref c) qual
structure LTab (P:Addr) (qual:Str) (H:Hp) (ps:Array Value):Prop where
  tab:H P=some (.tbl ps)
  tri:TriplesOk ps.toList
  cds:∀ pos cv,codeAmong pos ps.toList=some cv→∃ c',cv=.ref c'∧H c'=some (cdO c' qual)
section
variable {X:Cx} {pins:List (Addr × Obj)} {σ:St} {H:Hp} {s:Shared}
end
section
variable {CX:CXT} {P:Program} {w:World} {K:aaa} {mg:Str→Option Value} {base:Heap} {k:Nat}
end
section
variable {X:Cx} {pins pl:List (Addr × Obj)} {σ:St} {H:Hp} {s:Shared}
end
section
variable {X:Cx}
end
end L2
namespace L2
open PySem PySem.Spec PyProof.Rows PySem.W
section
variable {X:Cx} {pins pl:List (Addr × Obj)} {σ:St} {H:Hp} {s:Shared}
end
section
variable {X:Cx}
end
end L2
namespace L2
open PySem PySem.Spec PyProof.Rows PySem.W
structure FunC (K:aaa) (x qual:Str) (st:Stmt) (f:Addr) (fd:FuncData) (c:Addr):Prop where
  ex:∃ (oc:Value) (od:Option Addr) (kV doc pm:Value) (an:Option Addr) (ct:Value) (osl:Array (Option Value)),
    fd=abr x qual (cG st) (bU st) (am st) .none kV doc pm an (.ref c) ct∧K.lookup f=some ⟨oc,od,.func fd,osl⟩∧abS K (.ref c) qual=true
  kp:abe K (.ref f)=true
section
variable {P:Program} {w:World} {K:aaa} {mg:Str→Option Value} {base:Heap}
end
open PySem PySem.Spec PyProof.Rows
open PySem PySem.Spec PyProof.Rows
open PySem PySem.Spec PyProof.Rows
open PySem PySem.Spec PyProof.Rows
section
variable {prog:Program} {w:World} {A:Around} {E:Value→Shared→Prop} {s:Shared}
end
def Ent (P:Program) (w:World) (d:Addr) (o:Obj) (u:HO) (n:Nat) (rw:Nat→V→V→Hp→Prop) (es:Array DictEntry) (ep:Nat):Prop :=
  o.data=.dict es ep∧es.size=n∧∀ H h,HOk P w H h→H d=some (.frz o u)→h.get? d=some o∧∀ i e,es[i]?=some e→∃ k y,RelV k e.key∧RelV y e.val∧rw i k y H
theorem iQ {J:It} {n:Nat} {Kp:Hp→Prop} {item:Nat→V→Hp→Hp→Prop} (T:Trn J n Kp item) {g:TG} {tb:TS} {D:Ends} {σ:St} {H:Hp} (Pv:Nat→St→Hp→Prop) (h0:Pv 0 σ H) (hk:∀ i σ H,i≤n→Pv i σ H→Kp H)
    (hs:∀ i x σ H H',i < n→item i x H H'→Pv i σ H→g x σ H' fun σ2 H2=>tb { D with nx:=Pv (i+1),ct:=Pv (i+1),bk:=D.nx } σ2 H2) (hd:∀ σ H,Pv n σ H→D.nx σ H) :
    ∃ W:Nat→Nat→St→Hp→Prop,(∃ m,W 0 m σ H)∧∀ i m σ H,W i m σ H →
      (J.stop i H∧D.nx σ H)∨(J.go i H∧∃ N:St→Hp→Prop,(∀ σ' H',N σ' H'→∃ m',m' < m∧W (i+1) m' σ' H')∧∀ x H',J.yld i H x H'→g x σ H' fun σ2 H2=>tb { D with nx:=N,ct:=N,bk:=D.nx } σ2 H2):=by
  refine ⟨fun i m σ H=>m=n - i∧i≤n∧Pv i σ H,⟨n,by simp,aaT _,h0⟩,?_⟩;rintro i m σ H ⟨rfl,hi,p⟩;have q:=hk i σ H hi p;by_cases hlt:i < n
  · exact .inr ⟨T.go i H hlt q,Pv (i+1),fun σ' H' p'=>⟨n - (i+1),by lia,rfl,hlt,p'⟩,fun x H' y=>hs i x σ H H' hlt (T.yld i H x H' hlt q y) p⟩
  · have e:i=n:=by lia
    subst e;exact .inl ⟨T.stop H q,hd σ H p⟩
def uI (H:Hp) (d:Addr):Prop:=∀ o v,H d≠some (.frz o v)
end L2
namespace PySem
open Sem (wp)
namespace F
theorem lk_list_keys:typeLookup (.type "list") "keys" = pure none:=by rw [typeLookup_type,builtinLookup_eq_fast];kernel_rfl
end F
section
variable {prog:Program} {w:World} {A:Around} {E:Value→Shared→Prop} {h:Heap} {g:Array GenState} {d:Drawn} {t:Nat} {os:OsState} {a:Addr} {xs:Array Value} {k:Nat}
theorem iJ {Q:Option Value→Shared→Prop} (hh:A.handled=none) (hx:h.get? a=some { cls:=.type "list",dict:=none,data:=.seq xs k,slots:=#[] })
    (hQ:∀ h' t',(∀ b o,h.get? b=some o→h'.get? b=some o)→Q none ⟨h',g,d,t',os⟩) :
    wpAny (model prog w) A (getAttr? (.ref a) "keys") Q E ⟨h,g,d,t,os⟩:=by
  have hT:∀ tk',(⟨h,g,d,tk',os⟩:Shared).TypeIs (.ref a) "list":=fun _=>⟨_,hx,rfl⟩
  have f1:=sub_AttributeError;have f3:=F.slot_list_getattribute.lookup;have f4:=F.slot_list_getattribute.bind (.ref a);have f5:=am_list_getattr_none;unfold getAttr? getAttrBy?
  repeat (any_goals (first|assumption|exact hT _|((with_reducible show wpAny _ _ (call (Value.builtin "list.__getattribute__") _ _) _ _ _);refine call_meets F.slot_list_getattribute (hT _) am_entry_list_getattribute (F.args_list_getattribute_2 _ _) (meets_getattribute_miss_list a xs k #[] "keys" _ F.lk_list_keys (by decide +kernel)) ⟨hx,hh,fun h' tk' e hx'=>?_⟩)|wp_step))
  obtain ⟨t',u',he⟩:=hx'.there;show wpAny _ _ (getattributeRaised _ _ _ _ _ _ _) _ _ _;unfold getattributeRaised
  repeat (any_goals (first|assumption|wp_step))
  exact hQ h' tk' hx'.of.1
end
end PySem
namespace L2
open PySem PySem.Spec PyProof.Rows
section
variable {prog:Program} {w:World} {A:Around} {E:Value→Shared→Prop} {s:Shared}
end
open PySem PySem.Spec PyProof.Rows
section
variable {X:Cx}
end
structure FunD (K:aaa) (x qual:Str) (st:Stmt) (f:Addr) (fd:FuncData) (tD:Addr):Prop where
  ex:∃ (oc:Value) (od:Option Addr) (kV doc pm:Value) (an:Option Addr) (cdv ct:Value) (osl:Array (Option Value)),
    fd=abr x qual (cG st) (bU st) (am st) (.ref tD) kV doc pm an cdv ct∧K.lookup f=some ⟨oc,od,.func fd,osl⟩∧abS K cdv qual=true
  kp:abe K (.ref f)=true
section
variable {P:Program} {w:World} {K:aaa} {mg:Str→Option Value} {base:Heap}
end
open PySem PySem.Spec PyProof.Rows
section
variable {X:Cx} {tg:Expr}
end
open PySem PySem.Spec PyProof.Rows
end L2
namespace L2
open PySem PySem.Spec PyProof.Rows PySem.W
section
variable {prog:Program} {w:World} {A:Around} {E:Value→Shared→Prop} {s:Shared}
end
open PySem PySem.Spec PyProof.Rows
def ul (e l:Nat→Bool) (n m:Nat):Nat→Nat→Bool
  | _,0=>decide (n < m)
  | j,k+1=>if e j=true then ul e l n m (j+1) k else l j
section
open PySem.SeqAt
open PySem.AutoSeq1 (wpAny_loadPart')
open PySem.MeetsSeq PySem.MeetsSeq2 PySem.MeetsSeq3
end
inductive LtR (K:aaa) (H:Hp):Nat→V→V→Bool→Prop
  | int {n:Nat} {a b:Int}:LtR K H n (.int a) (.int b) (decide (a < b))
  | tup {n:Nat} {a b:Addr} {xs ys:List V} {e l:Nat→Bool} (ha:SqT K H a xs) (hb:SqT K H b ys) (h:∀ (j:Nat) x y,xs[j]?=some x→ys[j]?=some y→EqR K H n x y (e j)) (hl:∀ (j:Nat) x y,xs[j]?=some x→ys[j]?=some y→e j=false→LtR K H n x y (l j)) :
      LtR K H (n+1) (.ref a) (.ref b) (ul e l xs.length ys.length 0 (min xs.length ys.length))
section
variable {X:Cx} {pins:List (Addr × Obj)} {σ:St} {H:Hp} {s:Shared}
end
section
variable {X:Cx}
end
open PySem PySem.Spec PyProof.Rows
def Fq (K:aaa) (x:Str) (s:Stmt) (f:Addr):Prop:=aav K mainGlobals x=some (some (.ref f))∧∃ fd,Fun K x x s f fd
theorem Fq.mk4 {K:aaa} {x:Str} {st:Stmt} {f:Addr} {oc:Value} {od an:Option Addr} {osl:Array (Option Value)} {kV doc pm cdv ct:Value} (a:aav K mainGlobals x=some (some (.ref f))) (l:K.lookup f=some ⟨oc,od,.func (abr x x (cG st) (bU st) (am st) .none kV doc pm an cdv ct),osl⟩)
    (c:abS K cdv x=true) (k:abe K (.ref f)=true):Fq K x st f:=⟨a,_,qR l c k⟩
theorem Fq.use {K:aaa} {x:Str} {st:Stmt} {f:Addr} {h:Heap} {mg:Str→Option Value} (q:Fq K x st f) (X:K.In h) (G:h.Ns mainGlobals mg) {ps:List Str}
    (hb:∀ (kV doc pm:Value) (an:Option Addr) (cdv ct:Value) (us:List Value),us.length=ps.length→bindArgs (abr x x (cG st) (bU st) (am st) .none kV doc pm an cdv ct) ⟨us,[]⟩=pure (ps.zip us)):∃ fd,Fun K x x st f fd∧Binds K fd ps []∧mg x=some (.ref f):=by
  obtain ⟨a,fd,F⟩:=q;exact ⟨fd,F,F.binds hb,aaS X G a⟩
open PySem PySem.Spec PyProof.Rows
end L2
namespace Tim
open PySem PyProof.Rows
structure Ord (M:Model) (A:Around) (E:Value→Shared→Prop) (s:Shared) (κ:SortKind) (P:Keyed→Prop) (lt:Keyed→Keyed→Bool):Prop where
  ask:∀ {x y:Keyed} {st:SortSt} {Q:Option Bool→SortSt→Prop},P x→P y→kindOf st=κ→Q (some (lt x y)) st→wpS M A E s (lt' x y) Q st
  asym:∀ {x y:Keyed},P x→P y→lt x y=true→lt y x=false
  trans:∀ {x y z:Keyed},P x→P y→P z→lt y x=false→lt z y=false→lt z x=false
section
variable {M:Model} {A:Around} {E:Value→Shared→Prop} {s:Shared} {κ:SortKind} {P:Keyed→Prop} {lt:Keyed→Keyed→Bool}
theorem km {arr:Array Keyed} {i:Nat} {x:Keyed} {st:SortSt} {Q:Keyed→SortSt→Prop} (h:arr[i]?=some x) (q:Q x st):wpS M A E s (elem' arr i) Q st:=by
  rw [elem'_eq,h];exact wpS_pure q
structure Bnd (B:Nat→Bool) (n k:Nat):Prop where
  le:k≤n
  lo:∀ i,i < k→B i=true
  hi:∀ i,k≤i→i < n→B i=false
end
end Tim
namespace Tim
open PySem PyProof.Rows
def Le (lt:Keyed→Keyed→Bool) (x y:Keyed):Prop:=lt y x=false
structure Mg (lt:Keyed→Keyed→Bool) (a b out:List Keyed) (ia ib:Nat):Prop where
  ha:ia≤a.length
  hb:ib≤b.length
  perm:out.Perm (a.take ia++b.take ib)
  srt:out.Pairwise (Le lt)
  le:∀ x∈out,∀ y,(y∈a.drop ia∨y∈b.drop ib)→Le lt x y
section
variable {lt:Keyed→Keyed→Bool} {a b out:List Keyed} {ia ib:Nat}
end
structure SameS (st st':SortSt):Prop where
  arr:arrOf st'=arrOf st
  pend:pendingOf st'=pendingOf st
  kind:kindOf st'=kindOf st
  fail:failedOf st'=failedOf st
section
variable {M:Model} {A:Around} {E:Value→Shared→Prop} {s:Shared} {κ:SortKind} {P:Keyed→Prop} {lt:Keyed→Keyed→Bool}
theorem nU {a:Array Keyed} {i:Nat} {x:Keyed} (h:a[i]?=some x):a.toList[i]?=some x:=by simpa using h
def below (lt:Keyed→Keyed→Bool) (key:Keyed) (a:Array Keyed) (base:Nat) (i:Nat):Bool:=match a[base+i]? with|some x=>lt x key|none=>false
end
end Tim
namespace Tim
open PySem PyProof.Rows
structure Mh (lt:Keyed→Keyed→Bool) (a b out:List Keyed) (na nb:Nat):Prop where
  ha:na≤a.length
  hb:nb≤b.length
  perm:out.Perm (a.drop na++b.drop nb)
  srt:out.Pairwise fun x y=>Le lt y x
  le:∀ x∈out,∀ y,(y∈a.take na∨y∈b.take nb)→Le lt y x
section
variable {lt:Keyed→Keyed→Bool} {a b out:List Keyed} {na nb:Nat}
end
section
variable {M:Model} {A:Around} {E:Value→Shared→Prop} {s:Shared} {κ:SortKind} {P:Keyed→Prop} {lt:Keyed→Keyed→Bool}
end
end Tim
namespace Tim
open PySem PyProof.Rows
def seg (L:List Keyed) (s n:Nat):List Keyed:=(L.drop s).take n
theorem rO {L:List Keyed} {s n:Nat} (h:s+n≤L.length):(seg L s n).length=n:=by unfold seg;rw [aax,aaI];lia
theorem tN {L:List Keyed} {s n i:Nat} (h:i < n):(seg L s n)[i]?=L[s+i]?:=by
  unfold seg;rw [aca h,List.getElem?_drop]
structure Mrgd (lt:Keyed→Keyed→Bool) (L L':List Keyed) (s n:Nat):Prop where
  ex:∃ R,R.Perm (seg L s n)∧R.Pairwise (Le lt)∧L'=L.take s++R++L.drop (s+n)
section
variable {M:Model} {A:Around} {E:Value→Shared→Prop} {s:Shared} {κ:SortKind} {P:Keyed→Prop} {lt:Keyed→Keyed→Bool}
end
end Tim
namespace Tim
open PySem PyProof.Rows
def vx (a:Array Keyed) (i:Nat):Keyed:=(a[i]?).getD (Value.none,Value.none)
theorem mU {a:Array Keyed} {i:Nat} (h:i < a.size):a[i]?=some (vx a i):=by
  unfold vx;rw [getElem?_pos a i h];rfl
theorem bg {a:Array Keyed} {i:Nat} (h:i < a.size):vx a i∈a.toList:=by
  have:=abg (nU (mU h));exact this
theorem cP {a b:Array Keyed} {i j:Nat} (h:a[i]?=b[j]?):vx a i=vx b j:=by unfold vx;rw [h]
theorem eK {a:Array Keyed} {i j:Nat} (hj:j≤a.size) (k:Nat):vx (mirror a i j ((j - i) / 2)) k=if i≤k∧k < j then vx a (i+j - 1 - k) else vx a k:=by
  have e:=getElem?_mirror_all (i:=i) hj k;by_cases h1:i≤k∧k < j
  · rw [if_pos h1] at e ⊢;exact cP e
  · rw [if_neg h1] at e ⊢;exact cP e
theorem i9 {a:Array Keyed} {src d:Nat} (hs:src < a.size) (hd:d≤src) (k:Nat):vx (bubble a src d) k=if k=src - d then vx a src else if src - d < k∧k≤src then vx a (k - 1) else vx a k:=by
  have e:=getElem?_bubble hs d hd k;by_cases h1:k=src - d
  · rw [if_pos h1] at e ⊢;exact cP e
  · rw [if_neg h1] at e ⊢;by_cases h2:src - d < k∧k≤src
    · rw [if_pos h2] at e ⊢;exact cP e
    · rw [if_neg h2] at e ⊢;exact cP e
section
variable (lt:Keyed→Keyed→Bool)
def Up (a:Array Keyed) (lo n:Nat):Prop:=∀ i j,i < j→j < n→Le lt (vx a (lo+i)) (vx a (lo+j))
def Dn (a:Array Keyed) (lo n:Nat):Prop:=∀ i j,i < j→j < n→Le lt (vx a (lo+j)) (vx a (lo+i))
end
structure Kp (a a':Array Keyed) (lo:Nat):Prop where
  perm:a'.Perm a
  low:∀ k,k < lo→a'[k]?=a[k]?
theorem Kp.refl (a:Array Keyed) (lo:Nat):Kp a a lo:=⟨Array.Perm.refl _,fun _ _=>rfl⟩
theorem Kp.trans {a b c:Array Keyed} {lo:Nat} (h:Kp a b lo) (g:Kp b c lo):Kp a c lo:=⟨g.perm.trans h.perm,fun k hk=>(g.low k hk).trans (h.low k hk)⟩
theorem Kp.size {a b:Array Keyed} {lo:Nat} (h:Kp a b lo):b.size=a.size:=h.perm.size_eq
theorem Kp.all {a b:Array Keyed} {lo:Nat} (h:Kp a b lo) {P:Keyed→Prop} (hP:∀ x∈a.toList,P x):∀ x∈b.toList,P x:=fun x hx=>hP x ((abh.mp h.perm).mem_iff.mp hx)
theorem Kp.mirror {a:Array Keyed} {lo i j:Nat} (hi:lo≤i) (hj:j≤a.size):Kp a (mirror a i j ((j - i) / 2)) lo:=⟨mirror_perm _ _ _ _,fun k hk=>by rw [getElem?_mirror_all hj,if_neg (by lia)]⟩
theorem Kp.bubble {a:Array Keyed} {lo src d:Nat} (hs:src < a.size) (hd:d≤src) (hl:lo≤src - d):Kp a (bubble a src d) lo:=⟨bubble_perm _ _ _,fun k hk=>by rw [getElem?_bubble hs d hd,if_neg (by lia),if_neg (by lia)]⟩
structure SameA (st st':SortSt):Prop where
  pend:pendingOf st'=pendingOf st
  kind:kindOf st'=kindOf st
  fail:failedOf st'=failedOf st
theorem SameA.refl (st:SortSt):SameA st st:=⟨rfl,rfl,rfl⟩
section
variable {M:Model} {A:Around} {E:Value→Shared→Prop} {s:Shared} {κ:SortKind} {P:Keyed→Prop} {lt:Keyed→Keyed→Bool}
theorem bX (O:Ord M A E s κ P lt) {st:SortSt} {i j:Nat} {Q:Option Bool→SortSt→Prop} (hk:kindOf st=κ) (hP:∀ x∈(arrOf st).toList,P x) (hi:i < (arrOf st).size) (hj:j < (arrOf st).size) (h:Q (some (lt (vx (arrOf st) i) (vx (arrOf st) j))) st):wpS M A E s (ltAt' i j) Q st:=by
  rw [ltAt'_eq];refine wpS_bind (wpS_get ?_);exact wpS_bind (km (mU hi) (wpS_bind (km (mU hj) (O.ask (hP _ (bg hi)) (hP _ (bg hj)) hk h))))
theorem cM {st:SortSt} {i j:Nat} {Q:Unit→SortSt→Prop} (h:Q () (setArr st (mirror (arrOf st) i j ((j - i) / 2)))):wpS M A E s (reverseSlice' i j) Q st:=by
  rw [reverseSlice'_eq];exact wpS_modify h
theorem dR (O:Ord M A E s κ P lt) {x:Keyed} (px:P x):Le lt x x:=by
  cases hh:lt x x with
  | false=>exact hh
  | true=>have:=O.asym px px hh;rw [hh] at this;cases this
theorem Up.more (O:Ord M A E s κ P lt) {a:Array Keyed} (hP:∀ x∈a.toList,P x) {lo n:Nat} (hn:lo+n < a.size) (h1:1≤n) (h:Up lt a lo n) (c:Le lt (vx a (lo+n - 1)) (vx a (lo+n))):Up lt a lo (n+1):=fun i j hij hj=>by
  by_cases hjn:j < n
  · exact h i j hij hjn
  · obtain rfl:j=n:=by lia
    by_cases hi:i=j - 1
    · subst hi;rw [show lo+(j - 1)=lo+j - 1 by lia];exact c
    · have:=h i (j - 1) (by lia) (by lia);rw [show lo+(j - 1)=lo+j - 1 by lia] at this;exact O.trans (hP _ (bg (by lia))) (hP _ (bg (by lia))) (hP _ (bg hn)) this c
theorem Dn.more (O:Ord M A E s κ P lt) {a:Array Keyed} (hP:∀ x∈a.toList,P x) {lo n:Nat} (hn:lo+n < a.size) (h1:1≤n) (h:Dn lt a lo n) (c:Le lt (vx a (lo+n)) (vx a (lo+n - 1))):Dn lt a lo (n+1):=fun i j hij hj=>by
  by_cases hjn:j < n
  · exact h i j hij hjn
  · obtain rfl:j=n:=by lia
    by_cases hi:i=j - 1
    · subst hi;rw [show lo+(j - 1)=lo+j - 1 by lia];exact c
    · have:=h i (j - 1) (by lia) (by lia);rw [show lo+(j - 1)=lo+j - 1 by lia] at this;exact O.trans (hP _ (bg hn)) (hP _ (bg (by lia))) (hP _ (bg (by lia))) c this
theorem Dn.turn {a:Array Keyed} {lo n p q:Nat} (h:Dn lt a lo n) (hq:q≤n) (hsz:lo+n≤a.size) (eqv:∀ u v,p≤u→u < q→p≤v→v < q→Le lt (vx a (lo+u)) (vx a (lo+v))):Dn lt (mirror a (lo+p) (lo+q) ((lo+q - (lo+p)) / 2)) lo n:=fun i j hij hj=>by
  rw [eK (by lia),eK (by lia)];have e:∀ k,p≤k→k < q→lo+p+(lo+q) - 1 - (lo+k)=lo+(p+q - 1 - k):=fun k h1 h2=>by lia
  by_cases c1:lo+p≤lo+j∧lo+j < lo+q
  · rw [if_pos c1,e j (by lia) (by lia)];by_cases c2:lo+p≤lo+i∧lo+i < lo+q
    · rw [if_pos c2,e i (by lia) (by lia)];exact eqv _ _ (by lia) (by lia) (by lia) (by lia)
    · rw [if_neg c2];exact h i _ (by lia) (by lia)
  · rw [if_neg c1];by_cases c2:lo+p≤lo+i∧lo+i < lo+q
    · rw [if_pos c2,e i (by lia) (by lia)];exact h _ j (by lia) hj
    · rw [if_neg c2];exact h i j hij hj
theorem Dn.flip {a:Array Keyed} {lo n:Nat} (h:Dn lt a lo n) (hsz:lo+n≤a.size):Up lt (mirror a lo (lo+n) ((lo+n - lo) / 2)) lo n:=fun i j hij hj=>by
  rw [eK (by lia),eK (by lia),if_pos (by lia),if_pos (by lia),show lo+(lo+n) - 1 - (lo+i)=lo+(n - 1 - i) by lia,show lo+(lo+n) - 1 - (lo+j)=lo+(n - 1 - j) by lia];exact h _ _ (by lia) (by lia)
theorem iY (O:Ord M A E s κ P lt) {st:SortSt} {lo nrem:Nat} {Q:Option Nat→SortSt→Prop} (hk:kindOf st=κ) (hP:∀ x∈(arrOf st).toList,P x) (h1:1≤nrem) (hsz:lo+nrem≤(arrOf st).size)
    (q:∀ m st',SameA st st'→Kp (arrOf st) (arrOf st') lo→1≤m→m≤nrem→Up lt (arrOf st') lo m→Q (some m) st'):wpS M A E s (countRun' lo nrem) Q st:=by
  refine wpS_bind (wpS_mono (wpS_forRange (I:=fun x c st'=>st'=st∧c=(none,x)∧Up lt (arrOf st) lo x) (Q:=fun c st'=>st'=st∧∃ n,c=(none,n)∧1≤n∧n≤nrem∧Up lt (arrOf st) lo n∧(n=nrem∨lt (vx (arrOf st) (lo+n)) (vx (arrOf st) (lo+n - 1))=true)) ?step ?fin ⟨rfl,rfl,fun i j hij hj=>by lia⟩) ?post)
  case fin =>
    rintro c st' ⟨rfl,rfl,hs⟩;rw [show max 1 nrem=nrem by lia] at hs ⊢;exact ⟨rfl,nrem,rfl,h1,aab _,hs,.inl rfl⟩
  case step =>
    rintro x c st' hax hxn ⟨rfl,rfl,hs⟩;dsimp only;refine wpS_bind (bX O hk hP (by lia) (by lia) ?_);dsimp only;by_cases d:lt (vx (arrOf st') (lo+x)) (vx (arrOf st') (lo+x - 1))=true
    · rw [if_pos d];exact wpS_pure ⟨rfl,x,rfl,hax,by lia,hs,.inr d⟩
    · rw [if_neg d];have d:lt (vx (arrOf st') (lo+x)) (vx (arrOf st') (lo+x - 1))=false:=by simpa using d
      exact wpS_pure ⟨rfl,rfl,hs.more O hP (by lia) hax d⟩
  case post =>
    rintro c st' ⟨rfl,n,rfl,hn1,hn2,hup,hor⟩;dsimp only;by_cases c0:(n == nrem)=true
    · rw [if_pos c0];exact wpS_pure (q n _ (SameA.refl _) (Kp.refl _ _) hn1 hn2 hup)
    rw [if_neg c0];have c0:n≠nrem:=by simpa using c0
    have hn3:n+1≤nrem:=by lia
    have hlt:=hor.resolve_left c0;have hle:=O.asym (hP _ (bg (by lia))) (hP _ (bg (by lia))) hlt;by_cases cg:n > 1
    · rw [if_pos cg];refine wpS_bind (bX O hk hP (by lia) (by lia) ?_);dsimp only;by_cases d:lt (vx (arrOf st') lo) (vx (arrOf st') (lo+n - 1))=true
      · rw [if_pos d];exact wpS_pure (q n _ (SameA.refl _) (Kp.refl _ _) hn1 hn2 hup)
      rw [if_neg d];have d:lt (vx (arrOf st') lo) (vx (arrOf st') (lo+n - 1))=false:=by simpa using d
      have pv:∀ k,k≤n→P (vx (arrOf st') (lo+k)):=fun k hk=>hP _ (bg (by lia));have pl:=pv (n - 1) (by lia);rw [show lo+(n - 1)=lo+n - 1 by lia] at pl;have p0:=pv 0 (by lia);have top:∀ k,k < n→Le lt (vx (arrOf st') (lo+k)) (vx (arrOf st') (lo+n - 1)):=fun k hk=>by
        by_cases c:k=n - 1
        · rw [c,show lo+(n - 1)=lo+n - 1 by lia];exact dR O pl
        · have:=hup k (n - 1) (by lia) (by lia)
          rwa [show lo+(n - 1)=lo+n - 1 by lia] at this
      have bot:∀ k,k < n→Le lt (vx (arrOf st') (lo+n - 1)) (vx (arrOf st') (lo+k)):=fun k hk=>by
        have d':Le lt (vx (arrOf st') (lo+n - 1)) (vx (arrOf st') (lo+0)):=d;by_cases c:k=0
        · rw [c];exact d'
        · exact O.trans pl p0 (pv k (by lia)) d' (hup 0 k (by lia) hk)
      have eqv:∀ u v,0≤u→u < n→0≤v→v < n→Le lt (vx (arrOf st') (lo+u)) (vx (arrOf st') (lo+v)):=fun u v _ hu _ hv=>O.trans (pv u (by lia)) pl (pv v (by lia)) (top u hu) (bot v hv);have hD0:Dn lt (arrOf st') lo n:=fun i j hij hj=>eqv j i (aaT _) hj (aaT _) (by lia);have hDn:=(hD0.more O hP (by lia) hn1 hle).turn (p:=0) (q:=n) (by lia) (by lia) eqv;rw [Nat.add_zero] at hDn;refine wpS_bind (cM ?_);obtain ⟨st1,est1⟩:∃ st1,st1=setArr st' (mirror (arrOf st') lo (lo+n) ((lo+n - lo) / 2)):=⟨_,rfl⟩
      have hD1:Dn lt (arrOf st1) lo (n+1):=by rw [est1];exact hDn
      have sA1:SameA st' st1:=by rw [est1];exact ⟨rfl,rfl,rfl⟩
      have kp1:Kp (arrOf st') (arrOf st1) lo:=by rw [est1];exact Kp.mirror (aab _) (by lia)
      rw [← est1];refine wpS_bind (wpS_lift (wpAny_rule ⟨rfl,?_⟩));have hz1:=kp1.size;refine wpS_bind (wpS_mono (wpS_forRange (I:=fun x c st2=>SameA st' st2∧Kp (arrOf st') (arrOf st2) lo∧∃ neq,c=(none,x,neq)∧Dn lt (arrOf st2) lo x∧neq+1≤x∧∀ u v,x - (neq+1)≤u→u < x→x - (neq+1)≤v→v < x→Le lt (vx (arrOf st2) (lo+u)) (vx (arrOf st2) (lo+v)))
        (Q:=fun c st2=>SameA st' st2∧Kp (arrOf st') (arrOf st2) lo∧∃ m neq,c=(none,m,neq)∧n+1≤m∧m≤nrem∧Dn lt (arrOf st2) lo m∧neq+1≤m∧∀ u v,m - (neq+1)≤u→u < m→m - (neq+1)≤v→v < m→Le lt (vx (arrOf st2) (lo+u)) (vx (arrOf st2) (lo+v))) ?step2 ?fin2 ⟨sA1,kp1,0,rfl,hD1,by lia,fun u v a1 a2 a3 a4=>by
          have : u=v:=by lia
          subst this;exact dR O (kp1.all hP _ (bg (by lia)))⟩) ?post2)
      case fin2 =>
        rintro c st2 ⟨sA,kp,neq,rfl,hD,a1,a2⟩;rw [show max (n+1) nrem=nrem by lia] at hD a1 a2 ⊢;exact ⟨sA,kp,nrem,neq,rfl,hn3,aab _,hD,a1,a2⟩
      case step2 =>
        rintro x c st2 hax hxn ⟨sA,kp,neq,rfl,hD,a1,a2⟩;dsimp only;have hk2:kindOf st2=κ:=sA.kind.trans hk;have hP2:=kp.all hP;have hz2:=kp.size;refine wpS_bind (bX O hk2 hP2 (by lia) (by lia) ?_);dsimp only;by_cases d:lt (vx (arrOf st2) (lo+x)) (vx (arrOf st2) (lo+x - 1))=true
        · rw [if_pos d];have hD2:=hD.more O hP2 (by lia) (by lia) (O.asym (hP2 _ (bg (by lia))) (hP2 _ (bg (by lia))) d);by_cases c:neq > 0
          · rw [if_pos c];refine wpS_bind (cM (wpS_pure ⟨⟨sA.pend,sA.kind,sA.fail⟩,?_,0,rfl,?_,by lia,fun u v b1 b2 b3 b4=>?_⟩))
            · rw [show lo+x - (neq+1)=lo+(x - (neq+1)) by lia];exact kp.trans (Kp.mirror (by lia) (by lia))
            · rw [show lo+x - (neq+1)=lo+(x - (neq+1)) by lia];exact hD2.turn (by lia) (by lia) a2
            · have : u=v:=by lia
              subst this;refine dR O ?_;refine (kp.trans (Kp.mirror (lo:=lo) (i:=lo+x - (neq+1)) (j:=lo+x) (by lia) (by lia))).all hP _ (bg ?_);rw [mirror_size];lia
          · rw [if_neg c];refine wpS_pure ⟨sA,kp,0,rfl,hD2,by lia,fun u v b1 b2 b3 b4=>?_⟩;have : u=v:=by lia
            subst this;exact dR O (hP2 _ (bg (by lia)))
        · rw [if_neg d];have d:lt (vx (arrOf st2) (lo+x)) (vx (arrOf st2) (lo+x - 1))=false:=by simpa using d
          refine wpS_bind (bX O hk2 hP2 (by lia) (by lia) ?_);dsimp only;by_cases e:lt (vx (arrOf st2) (lo+x - 1)) (vx (arrOf st2) (lo+x))=true
          · rw [if_pos e];exact wpS_pure ⟨sA,kp,x,neq,rfl,hax,by lia,hD,a1,a2⟩
          · rw [if_neg e];have e:lt (vx (arrOf st2) (lo+x - 1)) (vx (arrOf st2) (lo+x))=false:=by simpa using e
            have pv:∀ k,k≤x→P (vx (arrOf st2) (lo+k)):=fun k hk=>hP2 _ (bg (by lia));have px1:=pv (x - 1) (by lia);rw [show lo+(x - 1)=lo+x - 1 by lia] at px1;refine wpS_pure ⟨sA,kp,neq+1,rfl,hD.more O hP2 (by lia) (by lia) e,by lia,fun u v b1 b2 b3 b4=>?_⟩;have toL:∀ k,x - (neq+1)≤k→k < x→Le lt (vx (arrOf st2) (lo+k)) (vx (arrOf st2) (lo+x - 1))∧Le lt (vx (arrOf st2) (lo+x - 1)) (vx (arrOf st2) (lo+k)):=fun k c1 c2=>by
              have z1:=a2 k (x - 1) c1 c2 (by lia) (by lia);have z2:=a2 (x - 1) k (by lia) (by lia) c1 c2;rw [show lo+(x - 1)=lo+x - 1 by lia] at z1 z2;exact ⟨z1,z2⟩
            by_cases cu:u=x
            · by_cases cv:v=x
              · subst cu;subst cv;exact dR O (pv _ (aab _))
              · rw [cu];exact O.trans (pv _ (aab _)) px1 (pv v (by lia)) e (toL v (by lia) (by lia)).2
            · by_cases cv:v=x
              · rw [cv];exact O.trans (pv u (by lia)) px1 (pv _ (aab _)) (toL u (by lia) (by lia)).1 d
              · exact a2 u v (by lia) (by lia) (by lia) (by lia)
      case post2 =>
        rintro c st2 ⟨sA2,kp2,m,neq,rfl,m1,m2,hD2,a1,a2⟩;dsimp only;have hz2:=kp2.size;by_cases cn:neq > 0
        · rw [if_pos cn];refine wpS_bind (cM ?_);have kp3:=kp2.trans (Kp.mirror (lo:=lo) (i:=lo+(m - (neq+1))) (j:=lo+m) (by lia) (by lia));have hD3:=hD2.turn (p:=m - (neq+1)) (q:=m) (aab _) (by lia) a2;rw [show lo+m - (neq+1)=lo+(m - (neq+1)) by lia];have hz3:=kp3.size;refine wpS_bind (cM ?_);have hU:=Dn.flip hD3 (by rw [hz3];lia);have kpR:=kp3.trans (Kp.mirror (lo:=lo) (i:=lo) (j:=lo+m) (aab _) (by rw [hz3];lia));refine wpS_bind (wpS_mono (wpS_forRange (I:=fun x c st4=>SameA st' st4∧arrOf st4=mirror (mirror (arrOf st2) (lo+(m - (neq+1))) (lo+m) ((lo+m - (lo+(m - (neq+1)))) / 2)) lo (lo+m) ((lo+m - lo) / 2)∧c=(none,x)∧Up lt (mirror (mirror (arrOf st2) (lo+(m - (neq+1))) (lo+m) ((lo+m - (lo+(m - (neq+1)))) / 2)) lo (lo+m) ((lo+m - lo) / 2)) lo x) (Q:=fun c st4=>SameA st' st4∧arrOf st4=mirror (mirror (arrOf st2) (lo+(m - (neq+1))) (lo+m) ((lo+m - (lo+(m - (neq+1)))) / 2)) lo (lo+m) ((lo+m - lo) / 2)∧∃ n',c=(none,n')∧1≤n'∧n'≤nrem∧Up lt (mirror (mirror (arrOf st2) (lo+(m - (neq+1))) (lo+m) ((lo+m - (lo+(m - (neq+1)))) / 2)) lo (lo+m) ((lo+m - lo) / 2)) lo n') ?step3 ?fin3 ⟨⟨sA2.pend,sA2.kind,sA2.fail⟩,rfl,rfl,hU⟩) ?post3)
          case post3 =>
            rintro c st4 ⟨sA4,e4,n',rfl,n1',n2',hU'⟩;exact wpS_pure (q n' st4 sA4 (by rw [e4];exact kpR) n1' n2' (by rw [e4];exact hU'))
          case fin3 =>
            rintro c st4 ⟨sA4,e4,rfl,hU'⟩;rw [show max m nrem=nrem by lia] at hU' ⊢;exact ⟨sA4,e4,nrem,rfl,h1,aab _,hU'⟩
          case step3 =>
            rintro x c st4 hax hxn ⟨sA4,e4,rfl,hU'⟩;dsimp only;have hk4:kindOf st4=κ:=sA4.kind.trans hk;have hP4:∀ x∈(arrOf st4).toList,P x:=by rw [e4];exact kpR.all hP
            have hz4:(arrOf st4).size=(arrOf st').size:=by rw [e4];exact kpR.size
            refine wpS_bind (bX O hk4 hP4 (by lia) (by lia) ?_);dsimp only;by_cases d:lt (vx (arrOf st4) (lo+x)) (vx (arrOf st4) (lo+x - 1))=true
            · rw [if_pos d];exact wpS_pure ⟨sA4,e4,x,rfl,by lia,by lia,hU'⟩
            · rw [if_neg d];have d:lt (vx (arrOf st4) (lo+x)) (vx (arrOf st4) (lo+x - 1))=false:=by simpa using d
              refine wpS_pure ⟨sA4,e4,rfl,?_⟩;rw [← e4] at hU' ⊢;exact hU'.more O hP4 (by lia) (by lia) d
        · rw [if_neg cn];have hz3:=hz2;refine wpS_bind (cM ?_);have hU:=Dn.flip hD2 (by rw [hz3];lia);have kpR:=kp2.trans (Kp.mirror (lo:=lo) (i:=lo) (j:=lo+m) (aab _) (by rw [hz3];lia));refine wpS_bind (wpS_mono (wpS_forRange (I:=fun x c st4=>SameA st' st4∧arrOf st4=mirror (arrOf st2) lo (lo+m) ((lo+m - lo) / 2)∧c=(none,x)∧Up lt (mirror (arrOf st2) lo (lo+m) ((lo+m - lo) / 2)) lo x) (Q:=fun c st4=>SameA st' st4∧arrOf st4=mirror (arrOf st2) lo (lo+m) ((lo+m - lo) / 2)∧∃ n',c=(none,n')∧1≤n'∧n'≤nrem∧Up lt (mirror (arrOf st2) lo (lo+m) ((lo+m - lo) / 2)) lo n') ?step3 ?fin3 ⟨⟨sA2.pend,sA2.kind,sA2.fail⟩,rfl,rfl,hU⟩) ?post3)
          case post3 =>
            rintro c st4 ⟨sA4,e4,n',rfl,n1',n2',hU'⟩;exact wpS_pure (q n' st4 sA4 (by rw [e4];exact kpR) n1' n2' (by rw [e4];exact hU'))
          case fin3 =>
            rintro c st4 ⟨sA4,e4,rfl,hU'⟩;rw [show max m nrem=nrem by lia] at hU' ⊢;exact ⟨sA4,e4,nrem,rfl,h1,aab _,hU'⟩
          case step3 =>
            rintro x c st4 hax hxn ⟨sA4,e4,rfl,hU'⟩;dsimp only;have hk4:kindOf st4=κ:=sA4.kind.trans hk;have hP4:∀ x∈(arrOf st4).toList,P x:=by rw [e4];exact kpR.all hP
            have hz4:(arrOf st4).size=(arrOf st').size:=by rw [e4];exact kpR.size
            refine wpS_bind (bX O hk4 hP4 (by lia) (by lia) ?_);dsimp only;by_cases d:lt (vx (arrOf st4) (lo+x)) (vx (arrOf st4) (lo+x - 1))=true
            · rw [if_pos d];exact wpS_pure ⟨sA4,e4,x,rfl,by lia,by lia,hU'⟩
            · rw [if_neg d];have d:lt (vx (arrOf st4) (lo+x)) (vx (arrOf st4) (lo+x - 1))=false:=by simpa using d
              refine wpS_pure ⟨sA4,e4,rfl,?_⟩;rw [← e4] at hU' ⊢;exact hU'.more O hP4 (by lia) (by lia) d
    · rw [if_neg cg];obtain rfl:n=1:=by lia
      have hD1:Dn lt (arrOf st') lo (1+1):=Dn.more O hP (by lia) (aab _) (fun i j hij hj=>by lia) hle;have sA1:=SameA.refl st';have kp1:=Kp.refl (arrOf st') lo;refine wpS_bind (wpS_lift (wpAny_rule ⟨rfl,?_⟩));have hz1:=kp1.size;refine wpS_bind (wpS_mono (wpS_forRange (I:=fun x c st2=>SameA st' st2∧Kp (arrOf st') (arrOf st2) lo∧∃ neq,c=(none,x,neq)∧Dn lt (arrOf st2) lo x∧neq+1≤x∧∀ u v,x - (neq+1)≤u→u < x→x - (neq+1)≤v→v < x→Le lt (vx (arrOf st2) (lo+u)) (vx (arrOf st2) (lo+v)))
        (Q:=fun c st2=>SameA st' st2∧Kp (arrOf st') (arrOf st2) lo∧∃ m neq,c=(none,m,neq)∧1+1≤m∧m≤nrem∧Dn lt (arrOf st2) lo m∧neq+1≤m∧∀ u v,m - (neq+1)≤u→u < m→m - (neq+1)≤v→v < m→Le lt (vx (arrOf st2) (lo+u)) (vx (arrOf st2) (lo+v))) ?step2 ?fin2 ⟨sA1,kp1,0,rfl,hD1,by lia,fun u v a1 a2 a3 a4=>by
          have : u=v:=by lia
          subst this;exact dR O (kp1.all hP _ (bg (by lia)))⟩) ?post2)
      case fin2 =>
        rintro c st2 ⟨sA,kp,neq,rfl,hD,a1,a2⟩;rw [show max (1+1) nrem=nrem by lia] at hD a1 a2 ⊢;exact ⟨sA,kp,nrem,neq,rfl,hn3,aab _,hD,a1,a2⟩
      case step2 =>
        rintro x c st2 hax hxn ⟨sA,kp,neq,rfl,hD,a1,a2⟩;dsimp only;have hk2:kindOf st2=κ:=sA.kind.trans hk;have hP2:=kp.all hP;have hz2:=kp.size;refine wpS_bind (bX O hk2 hP2 (by lia) (by lia) ?_);dsimp only;by_cases d:lt (vx (arrOf st2) (lo+x)) (vx (arrOf st2) (lo+x - 1))=true
        · rw [if_pos d];have hD2:=hD.more O hP2 (by lia) (by lia) (O.asym (hP2 _ (bg (by lia))) (hP2 _ (bg (by lia))) d);by_cases c:neq > 0
          · rw [if_pos c];refine wpS_bind (cM (wpS_pure ⟨⟨sA.pend,sA.kind,sA.fail⟩,?_,0,rfl,?_,by lia,fun u v b1 b2 b3 b4=>?_⟩))
            · rw [show lo+x - (neq+1)=lo+(x - (neq+1)) by lia];exact kp.trans (Kp.mirror (by lia) (by lia))
            · rw [show lo+x - (neq+1)=lo+(x - (neq+1)) by lia];exact hD2.turn (by lia) (by lia) a2
            · have : u=v:=by lia
              subst this;refine dR O ?_;refine (kp.trans (Kp.mirror (lo:=lo) (i:=lo+x - (neq+1)) (j:=lo+x) (by lia) (by lia))).all hP _ (bg ?_);rw [mirror_size];lia
          · rw [if_neg c];refine wpS_pure ⟨sA,kp,0,rfl,hD2,by lia,fun u v b1 b2 b3 b4=>?_⟩;have : u=v:=by lia
            subst this;exact dR O (hP2 _ (bg (by lia)))
        · rw [if_neg d];have d:lt (vx (arrOf st2) (lo+x)) (vx (arrOf st2) (lo+x - 1))=false:=by simpa using d
          refine wpS_bind (bX O hk2 hP2 (by lia) (by lia) ?_);dsimp only;by_cases e:lt (vx (arrOf st2) (lo+x - 1)) (vx (arrOf st2) (lo+x))=true
          · rw [if_pos e];exact wpS_pure ⟨sA,kp,x,neq,rfl,hax,by lia,hD,a1,a2⟩
          · rw [if_neg e];have e:lt (vx (arrOf st2) (lo+x - 1)) (vx (arrOf st2) (lo+x))=false:=by simpa using e
            have pv:∀ k,k≤x→P (vx (arrOf st2) (lo+k)):=fun k hk=>hP2 _ (bg (by lia));have px1:=pv (x - 1) (by lia);rw [show lo+(x - 1)=lo+x - 1 by lia] at px1;refine wpS_pure ⟨sA,kp,neq+1,rfl,hD.more O hP2 (by lia) (by lia) e,by lia,fun u v b1 b2 b3 b4=>?_⟩;have toL:∀ k,x - (neq+1)≤k→k < x→Le lt (vx (arrOf st2) (lo+k)) (vx (arrOf st2) (lo+x - 1))∧Le lt (vx (arrOf st2) (lo+x - 1)) (vx (arrOf st2) (lo+k)):=fun k c1 c2=>by
              have z1:=a2 k (x - 1) c1 c2 (by lia) (by lia);have z2:=a2 (x - 1) k (by lia) (by lia) c1 c2;rw [show lo+(x - 1)=lo+x - 1 by lia] at z1 z2;exact ⟨z1,z2⟩
            by_cases cu:u=x
            · by_cases cv:v=x
              · subst cu;subst cv;exact dR O (pv _ (aab _))
              · rw [cu];exact O.trans (pv _ (aab _)) px1 (pv v (by lia)) e (toL v (by lia) (by lia)).2
            · by_cases cv:v=x
              · rw [cv];exact O.trans (pv u (by lia)) px1 (pv _ (aab _)) (toL u (by lia) (by lia)).1 d
              · exact a2 u v (by lia) (by lia) (by lia) (by lia)
      case post2 =>
        rintro c st2 ⟨sA2,kp2,m,neq,rfl,m1,m2,hD2,a1,a2⟩;dsimp only;have hz2:=kp2.size;by_cases cn:neq > 0
        · rw [if_pos cn];refine wpS_bind (cM ?_);have kp3:=kp2.trans (Kp.mirror (lo:=lo) (i:=lo+(m - (neq+1))) (j:=lo+m) (by lia) (by lia));have hD3:=hD2.turn (p:=m - (neq+1)) (q:=m) (aab _) (by lia) a2;rw [show lo+m - (neq+1)=lo+(m - (neq+1)) by lia];have hz3:=kp3.size;refine wpS_bind (cM ?_);have hU:=Dn.flip hD3 (by rw [hz3];lia);have kpR:=kp3.trans (Kp.mirror (lo:=lo) (i:=lo) (j:=lo+m) (aab _) (by rw [hz3];lia));refine wpS_bind (wpS_mono (wpS_forRange (I:=fun x c st4=>SameA st' st4∧arrOf st4=mirror (mirror (arrOf st2) (lo+(m - (neq+1))) (lo+m) ((lo+m - (lo+(m - (neq+1)))) / 2)) lo (lo+m) ((lo+m - lo) / 2)∧c=(none,x)∧Up lt (mirror (mirror (arrOf st2) (lo+(m - (neq+1))) (lo+m) ((lo+m - (lo+(m - (neq+1)))) / 2)) lo (lo+m) ((lo+m - lo) / 2)) lo x) (Q:=fun c st4=>SameA st' st4∧arrOf st4=mirror (mirror (arrOf st2) (lo+(m - (neq+1))) (lo+m) ((lo+m - (lo+(m - (neq+1)))) / 2)) lo (lo+m) ((lo+m - lo) / 2)∧∃ n',c=(none,n')∧1≤n'∧n'≤nrem∧Up lt (mirror (mirror (arrOf st2) (lo+(m - (neq+1))) (lo+m) ((lo+m - (lo+(m - (neq+1)))) / 2)) lo (lo+m) ((lo+m - lo) / 2)) lo n') ?step3 ?fin3 ⟨⟨sA2.pend,sA2.kind,sA2.fail⟩,rfl,rfl,hU⟩) ?post3)
          case post3 =>
            rintro c st4 ⟨sA4,e4,n',rfl,n1',n2',hU'⟩;exact wpS_pure (q n' st4 sA4 (by rw [e4];exact kpR) n1' n2' (by rw [e4];exact hU'))
          case fin3 =>
            rintro c st4 ⟨sA4,e4,rfl,hU'⟩;rw [show max m nrem=nrem by lia] at hU' ⊢;exact ⟨sA4,e4,nrem,rfl,h1,aab _,hU'⟩
          case step3 =>
            rintro x c st4 hax hxn ⟨sA4,e4,rfl,hU'⟩;dsimp only;have hk4:kindOf st4=κ:=sA4.kind.trans hk;have hP4:∀ x∈(arrOf st4).toList,P x:=by rw [e4];exact kpR.all hP
            have hz4:(arrOf st4).size=(arrOf st').size:=by rw [e4];exact kpR.size
            refine wpS_bind (bX O hk4 hP4 (by lia) (by lia) ?_);dsimp only;by_cases d:lt (vx (arrOf st4) (lo+x)) (vx (arrOf st4) (lo+x - 1))=true
            · rw [if_pos d];exact wpS_pure ⟨sA4,e4,x,rfl,by lia,by lia,hU'⟩
            · rw [if_neg d];have d:lt (vx (arrOf st4) (lo+x)) (vx (arrOf st4) (lo+x - 1))=false:=by simpa using d
              refine wpS_pure ⟨sA4,e4,rfl,?_⟩;rw [← e4] at hU' ⊢;exact hU'.more O hP4 (by lia) (by lia) d
        · rw [if_neg cn];have hz3:=hz2;refine wpS_bind (cM ?_);have hU:=Dn.flip hD2 (by rw [hz3];lia);have kpR:=kp2.trans (Kp.mirror (lo:=lo) (i:=lo) (j:=lo+m) (aab _) (by rw [hz3];lia));refine wpS_bind (wpS_mono (wpS_forRange (I:=fun x c st4=>SameA st' st4∧arrOf st4=mirror (arrOf st2) lo (lo+m) ((lo+m - lo) / 2)∧c=(none,x)∧Up lt (mirror (arrOf st2) lo (lo+m) ((lo+m - lo) / 2)) lo x) (Q:=fun c st4=>SameA st' st4∧arrOf st4=mirror (arrOf st2) lo (lo+m) ((lo+m - lo) / 2)∧∃ n',c=(none,n')∧1≤n'∧n'≤nrem∧Up lt (mirror (arrOf st2) lo (lo+m) ((lo+m - lo) / 2)) lo n') ?step3 ?fin3 ⟨⟨sA2.pend,sA2.kind,sA2.fail⟩,rfl,rfl,hU⟩) ?post3)
          case post3 =>
            rintro c st4 ⟨sA4,e4,n',rfl,n1',n2',hU'⟩;exact wpS_pure (q n' st4 sA4 (by rw [e4];exact kpR) n1' n2' (by rw [e4];exact hU'))
          case fin3 =>
            rintro c st4 ⟨sA4,e4,rfl,hU'⟩;rw [show max m nrem=nrem by lia] at hU' ⊢;exact ⟨sA4,e4,nrem,rfl,h1,aab _,hU'⟩
          case step3 =>
            rintro x c st4 hax hxn ⟨sA4,e4,rfl,hU'⟩;dsimp only;have hk4:kindOf st4=κ:=sA4.kind.trans hk;have hP4:∀ x∈(arrOf st4).toList,P x:=by rw [e4];exact kpR.all hP
            have hz4:(arrOf st4).size=(arrOf st').size:=by rw [e4];exact kpR.size
            refine wpS_bind (bX O hk4 hP4 (by lia) (by lia) ?_);dsimp only;by_cases d:lt (vx (arrOf st4) (lo+x)) (vx (arrOf st4) (lo+x - 1))=true
            · rw [if_pos d];exact wpS_pure ⟨sA4,e4,x,rfl,by lia,by lia,hU'⟩
            · rw [if_neg d];have d:lt (vx (arrOf st4) (lo+x)) (vx (arrOf st4) (lo+x - 1))=false:=by simpa using d
              refine wpS_pure ⟨sA4,e4,rfl,?_⟩;rw [← e4] at hU' ⊢;exact hU'.more O hP4 (by lia) (by lia) d
end
end Tim
namespace Tim
open PySem PyProof.Rows
section
variable {M:Model} {A:Around} {E:Value→Shared→Prop} {s:Shared} {κ:SortKind} {P:Keyed→Prop} {lt:Keyed→Keyed→Bool}
theorem o_ (O:Ord M A E s κ P lt) {st:SortSt} {lo n ok:Nat} {Q:Bool→SortSt→Prop} (hk:kindOf st=κ) (hP:∀ x∈(arrOf st).toList,P x) (hsz:lo+n≤(arrOf st).size) (hok:ok≤n) (hs:Up lt (arrOf st) lo ok)
    (q:∀ st',SameA st st'→Kp (arrOf st) (arrOf st') lo→Up lt (arrOf st') lo n→Q true st'):wpS M A E s (binarySort' lo n ok) Q st:=by
  refine wpS_bind (wpS_mono (wpS_forRange (I:=fun k c st'=>c=(none,())∧SameA st st'∧Kp (arrOf st) (arrOf st') lo∧Up lt (arrOf st') lo (min k n))
    (Q:=fun c st'=>c=(none,())∧SameA st st'∧Kp (arrOf st) (arrOf st') lo∧Up lt (arrOf st') lo n) ?step ?fin ?init) ?post)
  case post =>
    rintro c st' ⟨rfl,sA,kp,hs'⟩;exact wpS_pure (q st' sA kp hs')
  case init =>
    refine ⟨rfl,SameA.refl _,Kp.refl _ _,fun i j hij hj=>?_⟩;exact hs i j hij (by lia)
  case fin =>
    rintro c st' ⟨hc,sA,kp,hs'⟩;refine ⟨hc,sA,kp,?_⟩
    rwa [show min (max (max ok 1) n) n=n by lia] at hs'
  case step =>
    rintro k c st' hak hkn ⟨rfl,sA,kp,hs'⟩;rw [show min k n=k by lia] at hs';have hk':kindOf st'=κ:=sA.kind.trans hk;have hP':=kp.all hP;have hz:=kp.size;have pv:∀ i,i≤k→P (vx (arrOf st') (lo+i)):=fun i hi=>hP' _ (bg (by lia));refine wpS_bind (wpS_mono (wpS_forRange (I:=fun x c st''=>st''=st'∧∃ l r,c=(none,l,r)∧l≤r∧r≤k∧r - l≤k - x ∧
        (∀ i,i < l→Le lt (vx (arrOf st') (lo+i)) (vx (arrOf st') (lo+k)))∧(∀ i,r≤i→i < k→Le lt (vx (arrOf st') (lo+k)) (vx (arrOf st') (lo+i))))
      (Q:=fun c st''=>st''=st'∧∃ l r,c=(none,l,r)∧l≤k ∧
        (∀ i,i < l→Le lt (vx (arrOf st') (lo+i)) (vx (arrOf st') (lo+k)))∧(∀ i,l≤i→i < k→Le lt (vx (arrOf st') (lo+k)) (vx (arrOf st') (lo+i)))) ?istep ?ifin ?iinit) ?ipost)
    case iinit=>exact ⟨rfl,0,k,rfl,by lia,by lia,by lia,fun i hi=>by lia,fun i h1 h2=>by lia⟩
    case ifin =>
      rintro c st'' ⟨rfl,l,r,rfl,hlr,hrk,hm,hlo,hhi⟩;have : l=r:=by lia
      subst this;exact ⟨rfl,l,l,rfl,hrk,hlo,hhi⟩
    case istep =>
      rintro x c st'' _ hxk ⟨rfl,l,r,rfl,hlr,hrk,hm,hlo,hhi⟩;dsimp only;by_cases hge:l ≥ r
      · rw [if_pos hge];have : l=r:=by lia
        subst this;exact wpS_pure ⟨rfl,l,l,rfl,hrk,hlo,hhi⟩
      · rw [if_neg hge];refine wpS_bind (bX O hk' hP' (by lia) (by lia) ?_);dsimp only;have pm:=pv ((l+r) / 2) (by lia);by_cases d:lt (vx (arrOf st'') (lo+k)) (vx (arrOf st'') (lo+(l+r) / 2))=true
        · rw [if_pos d];have d':=O.asym (pv k (aab _)) pm d;refine wpS_pure ⟨rfl,l,(l+r) / 2,rfl,by lia,by lia,by lia,hlo,fun i h1 h2=>?_⟩;by_cases c:i=(l+r) / 2
          · rw [c];exact d'
          · exact O.trans (pv k (aab _)) pm (pv i (by lia)) d' (hs' _ _ (by lia) h2)
        · rw [if_neg d];have d:lt (vx (arrOf st'') (lo+k)) (vx (arrOf st'') (lo+(l+r) / 2))=false:=by simpa using d
          refine wpS_pure ⟨rfl,(l+r) / 2+1,r,rfl,by lia,by lia,by lia,fun i h1=>?_,hhi⟩;by_cases c:i=(l+r) / 2
          · rw [c];exact d
          · exact O.trans (pv i (by lia)) pm (pv k (aab _)) (hs' _ _ (by lia) (by lia)) d
    case ipost =>
      rintro c st'' ⟨rfl,l,r,rfl,hlk,hlo,hhi⟩;show wpS _ _ _ _ (do moveDown' (lo+k) (lo+l);pure (ForInStep.yield (none,()))) _ _;rw [moveDown'_eq];have hks:lo+k < (arrOf st'').size:=by lia
      refine wpS_bind (wpS_modify (wpS_pure ⟨rfl,⟨sA.pend,sA.kind,sA.fail⟩,kp.trans (Kp.bubble hks (by lia) (by lia)),?_⟩));rw [show min (k+1) n=k+1 by lia];intro i j hij hj;show Le lt (vx (bubble (arrOf st'') (lo+k) (lo+k - (lo+l))) (lo+i)) (vx (bubble (arrOf st'') (lo+k) (lo+k - (lo+l))) (lo+j));rw [i9 hks (by lia),i9 hks (by lia),show lo+k - (lo+k - (lo+l))=lo+l by lia];by_cases ci:lo+i=lo+l
      · rw [if_pos ci,if_neg (by lia),if_pos (by lia),show lo+j - 1=lo+(j - 1) by lia];exact hhi _ (by lia) (by lia)
      · rw [if_neg ci];by_cases cj:lo+j=lo+l
        · rw [if_pos cj,if_neg (by lia)];exact hlo _ (by lia)
        · rw [if_neg cj];by_cases c1:lo+l < lo+i∧lo+i≤lo+k
          · rw [if_pos c1,if_pos (by lia),show lo+i - 1=lo+(i - 1) by lia,show lo+j - 1=lo+(j - 1) by lia];exact hs' _ _ (by lia) (by lia)
          · rw [if_neg c1];by_cases c2:lo+l < lo+j∧lo+j≤lo+k
            · rw [if_pos c2,show lo+j - 1=lo+(j - 1) by lia];exact hs' _ _ (by lia) (by lia)
            · rw [if_neg c2];exact hs' _ _ hij (by lia)
end
def Runs (lt:Keyed→Keyed→Bool) (a:Array Keyed):List (Nat × Nat × Nat)→Nat→Nat→Prop
  | [],f,t=>f=t
  | (s,n,_) :: r,f,t=>s=f∧1≤n∧Up lt a s n∧Runs lt a r (s+n) t
section
variable {lt:Keyed→Keyed→Bool} {a a':Array Keyed}
theorem Runs.le:∀ {l:List (Nat × Nat × Nat)} {f t:Nat},Runs lt a l f t→f+l.length≤t
  | [],f,t,h=>by have : f=t:=h;simp;lia
  | (s,n,p) :: r,f,t,h=>by
    obtain ⟨rfl,h1,_,h2⟩:=h;have:=Runs.le h2;simp only [aar];lia
theorem Runs.app:∀ {l1 l2:List (Nat × Nat × Nat)} {f t:Nat},Runs lt a (l1++l2) f t↔∃ m,Runs lt a l1 f m∧Runs lt a l2 m t
  | [],l2,f,t=>⟨fun h=>⟨f,rfl,h⟩,fun ⟨m,e,h⟩=>by have e:f=m:=e;subst e;exact h⟩
  | (s,n,p) :: r,l2,f,t=>by
    show (s=f∧1≤n∧Up lt a s n∧Runs lt a (r++l2) (s+n) t)↔_;rw [Runs.app];constructor
    · rintro ⟨e,h1,h2,m,h3,h4⟩;exact ⟨m,⟨e,h1,h2,h3⟩,h4⟩
    · rintro ⟨m,⟨e,h1,h2,h3⟩,h4⟩;exact ⟨e,h1,h2,m,h3,h4⟩
theorem Up.keep {s n:Nat} (h:Up lt a s n) (e:∀ k,s≤k→k < s+n→a'[k]?=a[k]?):Up lt a' s n:=fun i j hij hj=>by
  rw [cP (e (s+i) (by lia) (by lia)),cP (e (s+j) (by lia) (by lia))];exact h i j hij hj
theorem Runs.keep:∀ {l:List (Nat × Nat × Nat)} {f t:Nat},Runs lt a l f t→(∀ k,f≤k→k < t→a'[k]?=a[k]?)→Runs lt a' l f t
  | [],f,t,h,_=>h
  | (s,n,p) :: r,f,t,h,e=>by
    obtain ⟨rfl,h1,h2,h3⟩:=h;have:=h3.le;exact ⟨rfl,h1,h2.keep fun k a b=>e k a (by lia),Runs.keep h3 fun k a b=>e k (by lia) b⟩
theorem sZ {s n:Nat} (hn:s+n≤a.size):Up lt a s n↔(seg a.toList s n).Pairwise (Le lt):=by
  have len:(seg a.toList s n).length=n:=rO (by rw [abi];exact hn);have at_:∀ i (hi:i < n),(seg a.toList s n)[i]'(by lia)=vx a (s+i):=fun i hi=>by
    have h1:=tN (L:=a.toList) (s:=s) (n:=n) hi;rw [nU (mU (a:=a) (i:=s+i) (by lia)),aaj (by lia)] at h1;exact aaZ h1
  rw [List.pairwise_iff_getElem];constructor
  · intro h i j hi hj hij;rw [at_ i (by lia),at_ j (by lia)];exact h i j hij (by lia)
  · intro h i j hij hj;have:=h i j (by lia) (by lia) hij;rw [at_ i (by lia),at_ j hj] at this;exact this
end
end Tim
namespace Tim
open PySem PyProof.Rows
structure SI (κ:SortKind) (lt:Keyed→Keyed→Bool) (a₀:Array Keyed) (st:SortSt) (lo:Nat):Prop where
  kind:kindOf st=κ
  fail:failedOf st=none
  perm:(arrOf st).Perm a₀
  runs:Runs lt (arrOf st) (pendingOf st).toList 0 lo
  le:lo≤a₀.size
theorem SI.size {κ:SortKind} {lt:Keyed→Keyed→Bool} {a₀:Array Keyed} {st:SortSt} {lo:Nat} (h:SI κ lt a₀ st lo):(arrOf st).size=a₀.size:=h.perm.size_eq
section
variable {M:Model} {A:Around} {E:Value→Shared→Prop} {s:Shared} {κ:SortKind} {P:Keyed→Prop} {lt:Keyed→Keyed→Bool} {a₀:Array Keyed}
theorem hG {σ α:Type} {c:Prop} [Decidable c] {x y:StateT σ Sem α} {Q:α→σ→Prop} {st:σ} (h1:c→wpS M A E s x Q st) (h2:¬ c→wpS M A E s y Q st):wpS M A E s (if c then x else y) Q st:=by
  by_cases h:c
  · rw [if_pos h];exact h1 h
  · rw [if_neg h];exact h2 h
theorem SI.all {st:SortSt} {lo:Nat} (h:SI κ lt a₀ st lo) (hP:∀ x∈a₀.toList,P x):∀ x∈(arrOf st).toList,P x:=fun x hx=>hP x ((abh.mp h.perm).mem_iff.mp hx)
end
end Tim
namespace Tim
open PySem PyProof.Rows
section
variable {prog:Program} {w:World} {A:Around} {E:Value→Shared→Prop} {s:Shared}
end
end Tim
namespace L2
open PySem PySem.Spec PyProof.Rows
open PySem PySem.Spec PyProof.Rows
open PySem PySem.Spec PyProof.Rows
section
variable {prog:Program} {w:World} {A:Around} {E:Value→Shared→Prop} {s:Shared}
end
end L2
namespace L2
open PySem
def vB (xs:Array Nat):Prop:=xs.toList.Pairwise (· < ·)
def Okm (m:Nat):Prop:=m=7∨m=15∨m=31∨m=63∨m=127∨m=255∨m=511∨m=1023
def lp (m:Nat):Nat→Nat→Nat→Nat × Nat
  | 0,i,p=>(i,p)
  | L+1,i,p=>lp m L ((i * 5+1+p / 32) % (m+1)) (p / 32)
end L2
namespace L2
open PySem
end L2
namespace L2
open PySem
structure GT (n:Nat) (b:Bool) (t:SetTable):Prop where
  okm:Okm t.mask
  dum:t.dummies=#[]
  pl:t.plain=true
  rise:vB t.place
  size:t.place.size=n
  led:t.led=b
  room:n * 5 < t.mask * 3
structure GT1 (n:Nat) (b:Bool) (t:SetTable):Prop where
  okm:Okm t.mask
  dum:t.dummies=#[]
  pl:t.plain=true
  rise:vB t.place
  size:t.place.size=n
  led:t.led=b
  room:(n - 1) * 5 < t.mask * 3
open PySem PySem.Spec PyProof.Rows
section
variable {prog:Program} {w:World} {A:Around} {E:Value→Shared→Prop} {s:Shared}
end
end L2
set_option maxHeartbeats 3200000
namespace L2
open PySem PySem.Spec PyProof.Rows
section
variable {prog:Program} {w:World} {A:Around} {E:Value→Shared→Prop} {s:Shared}
variable {R:Result→Shared→Prop} {I:Addr} {fp wr:List Addr} {G:Array GenState→Array GenState→Prop} {n:Nat} {P:Nat→Value→Prop} {St:Nat→Shared→Prop}
end
section
variable {prog:Program} {w:World} {A:Around} {E:Value→Shared→Prop} {s:Shared}
end
open PySem PySem.Spec PyProof.Rows
section
variable {prog:Program} {w:World} {A:Around} {E:Value→Shared→Prop} {s:Shared}
end
end L2
namespace PySem.F
end PySem.F
namespace L2
open PySem PySem.Spec PyProof.Rows
section
variable {prog:Program} {w:World} {A:Around} {E:Value→Shared→Prop} {s:Shared}
end
open PySem PySem.Spec PyProof.Rows
section
variable {prog:Program} {w:World} {A:Around} {E:Value→Shared→Prop} {s:Shared}
end
open PySem PySem.Spec PyProof.Rows
end L2
namespace PySem.F
end PySem.F
namespace L2
open PySem PySem.Spec PyProof.Rows
structure SI (prog:Program) (w:World) (h:Heap) (a:Addr) (o:Obj) (es:Array (Int × Value)) (ep:Nat) (t:SetTable):Prop where
  at':h.get? a=some o
  ex:o.ExactSet
  dat:o.data=.set es ep t
  fit:t.fits es.size=true
  els:ElemsOf (intKind prog w) es.toList
  few:es.size < scanBound
section
variable {prog:Program} {w:World} {A:Around} {E:Value→Shared→Prop} {s:Shared}
end
open PySem PySem.Spec PyProof.Rows
section
variable {prog:Program} {w:World} {A:Around} {E:Value→Shared→Prop} {s:Shared}
end
open PySem PySem.Spec PyProof.Rows
section
variable {prog:Program} {w:World} {A:Around} {E:Value→Shared→Prop} {s:Shared}
end
open PySem PySem.Spec PyProof.Rows
section
variable {prog:Program} {w:World} {A:Around} {E:Value→Shared→Prop} {s:Shared}
end
open PySem PySem.Spec PyProof.Rows
section
variable {prog:Program} {w:World} {A:Around} {E:Value→Shared→Prop} {s:Shared}
end
open PySem PySem.Spec PyProof.Rows
section
variable {prog:Program} {w:World} {A:Around} {E:Value→Shared→Prop} {s:Shared}
end
open PySem PySem.Spec PyProof.Rows
open PySem PySem.Spec PyProof.Rows
open PySem PySem.Spec PyProof.Rows
open PySem PySem.Spec PyProof.Rows
open PySem PySem.Spec PyProof.Rows
section
variable {X:Cx}
end
open PySem PySem.Spec PyProof.Rows
open PySem PySem.Spec PyProof.Rows
section
open PySem.SeqAt
open PySem.AutoSeq1 (wpAny_loadPart')
open PySem.MeetsSeq PySem.MeetsSeq2 PySem.MeetsSeq3
end
inductive LtQ (K:aaa) (H:Hp):Nat→V→V→Bool→Prop
  | int {n:Nat} {a b:Int}:LtQ K H n (.int a) (.int b) (decide (a < b))
  | lst {n:Nat} {a b:Addr} {xs ys:List V} {e l:Nat→Bool} (ha:SqL K H a xs) (hb:SqL K H b ys) (h:∀ (j:Nat) x y,xs[j]?=some x→ys[j]?=some y→EqR K H n x y (e j)) (hl:∀ (j:Nat) x y,xs[j]?=some x→ys[j]?=some y→e j=false→LtQ K H n x y (l j)) :
      LtQ K H (n+1) (.ref a) (.ref b) (ul e l xs.length ys.length 0 (min xs.length ys.length))
section
variable {X:Cx} {pins:List (Addr × Obj)} {σ:St} {H:Hp} {s:Shared}
end
end L2
namespace Tim
open PySem PyProof.Rows
section
variable {prog:Program} {w:World} {A:Around} {E:Value→Shared→Prop} {s:Shared}
end
end Tim
namespace L2
open PySem PySem.Spec PyProof.Rows
section
variable {prog:Program} {w:World} {A:Around} {E:Value→Shared→Prop} {s:Shared}
end
def toV:Value→V
  | .ref a=>.ref a
  | _=>.non
theorem ja:∀ {us:List V} {vs:List Value},Vals us vs→(∀ x∈us,∃ a,x=V.ref a)→us=vs.map toV∧∀ v∈vs,∃ a,v=Value.ref a
  | _,_,.nil,_=>⟨rfl,fun _ h=>nomatch h⟩
  | _,_,.cons r t,h=>by
    obtain ⟨a,e⟩:=h _ aag;subst e;cases r;obtain ⟨h1,h2⟩:=ja t fun x hx=>h x (aaf _ hx);refine ⟨by rw [h1];rfl,fun v hv=>?_⟩;rcases aam.mp hv with rfl|hv
    · exact ⟨_,rfl⟩
    · exact h2 v hv
theorem jc:∀ {vs:List Value},(∀ v∈vs,∃ a,v=Value.ref a)→Vals (vs.map toV) vs
  | [],_=>.nil
  | v :: vs,h=>by
    obtain ⟨a,rfl⟩:=h v aag;exact .cons rfl (jc fun x hx=>h x (aaf _ hx))
theorem eQ (vs:List Value):(pairsOf vs).toList.map (·.2)=vs∧∀ x∈(pairsOf vs).toList,x.1=x.2∧x.1∈vs:=by
  have e:(pairsOf vs).toList=vs.zip vs:=by unfold pairsOf;simp
  rw [e];refine ⟨by rw [List.map_snd_zip];exact aab _,fun x hx=>?_⟩
  induction vs with
  | nil=>cases hx
  | cons v vs ih =>
    rcases aam.mp hx with rfl|hx
    · exact ⟨rfl,aag⟩
    · have:=ih (by unfold pairsOf;simp) hx;exact ⟨this.1,aaf _ this.2⟩
structure Rnk (K:aaa) (H:Hp) (n:Nat) (us:List V) (kf:V→Int):Prop where
  two:∀ x∈us,∃ t k wv ks,x=.ref t∧H t=some (.tup [.ref k,wv])∧H k=some (.lst ks)
  cmp:∀ t t' k k' wv wv',V.ref t∈us→V.ref t'∈us→H t=some (.tup [.ref k,wv])→H t'=some (.tup [.ref k',wv']) →
    EqR K H n (.ref k) (.ref k') (decide (kf (.ref t)=kf (.ref t')))∧(kf (.ref t)≠kf (.ref t')→LtQ K H n (.ref k) (.ref k') (decide (kf (.ref t) < kf (.ref t'))))∧(kf (.ref t)=kf (.ref t')→EqR K H n wv wv' true)
open PySem PySem.Spec PyProof.Rows
section
variable {X:Cx} {tg:Expr}
end
section
variable {X:Cx}
end
open PySem PySem.Spec PyProof.Rows
open PySem PySem.Spec PyProof.Rows
section
variable {X:Cx} {pos:Pos}
end
end L2
namespace L2
open PySem PySem.Spec PyProof.Rows PySem.W
section
variable {X:Cx} {pins pl:List (Addr × Obj)} {σ:St} {H:Hp} {s:Shared}
end
section
variable {X:Cx}
end
end L2
namespace L2
open PySem PySem.Spec PyProof.Rows PySem.W
section
variable {X:Cx} {pins pl:List (Addr × Obj)} {σ:St} {H:Hp} {s:Shared}
end
section
variable {X:Cx}
end
open PySem PySem.Spec PyProof.Rows
inductive Thw (H:Hp):Hp→Hp→Prop
  | refl (H1:Hp):Thw H H1 H1
  | step {H1 H2:Hp} {d:Addr} {o:Obj} {u:HO} (h:Thw H H1 H2) (nf:uI H d) (e:H2 d=some (.frz o u)):Thw H H1 (upd H2 d u)
open PySem PySem.Spec PyProof.Rows
open PySem PySem.Spec PyProof.Rows
section
variable {X:Cx} {tg:Expr}
end
open PySem PySem.Spec PyProof.Rows
section
variable {prog:Program} {w:World} {A:Around} {E:Value→Shared→Prop} {R:Result→Shared→Prop} {s:Shared}
end
section
variable {prog:Program} {w:World}
end
section
variable {X:Cx}
end
open PySem PySem.Spec PyProof.Rows
section
variable {M:Model} {A:Around} {E:Value→Shared→Prop} {s:Shared}
end
section
variable {X:Cx}
end
open PySem PySem.Spec PyProof.Rows
open PySem PySem.Spec PyProof.Rows
section
variable {X:Cx} {pins:List (Addr × Obj)} {σ:St} {H:Hp} {s:Shared}
end
end L2
namespace L2
open PySem
variable {X:Cx}
end L2
namespace L2
open PySem PyProof.Rows PySem.W
open PySem PySem.Spec PyProof.Rows
variable {X:Cx} {pins:List Value} {s:Shared} {σ:St} {H:Hp}
end L2
namespace Tim
open PySem PyProof.Rows
def nC:Nat→Nat→Nat→Nat:=sortPriv% PySem.Builtin.minRun
theorem nA:∀ n,n < 64→min (n - 0) (nC n n 0)=n
  | 0,_=>rfl
  | n+1,h=>by
    show min (n+1 - 0) (if n+1 < 64 then n+1+0 else _)=n+1;rw [if_pos h];lia
section
variable {M:Model} {A:Around} {E:Value→Shared→Prop} {s:Shared} {κ:SortKind} {P:Keyed→Prop} {lt:Keyed→Keyed→Bool} {a₀:Array Keyed}
theorem iX (O:Ord M A E s κ P lt) (hP:∀ x∈a₀.toList,P x) {st:SortSt} {Q:Unit→SortSt→Prop} (hk:kindOf st=κ) (hf:failedOf st=none) (hp:pendingOf st=#[]) (ha:arrOf st=a₀) (h2:2≤a₀.size) (h64:a₀.size < 64)
    (q:∀ st',(arrOf st').Perm a₀→failedOf st'=none→(arrOf st').toList.Pairwise (Le lt)→Q () st'):wpS M A E s sortRuns' Q st:=by
  have s0:SI κ lt a₀ st 0:=⟨hk,hf,by rw [ha],by rw [hp];exact rfl,aaT _⟩
  refine wpS_bind (wpS_get ?_);dsimp only;have hsz0:(arrOf st).size=a₀.size:=by rw [ha]
  generalize hN:(arrOf st).size=N at hsz0;refine wpS_bind (wpS_mono (wpS_forRange (I:=fun x c st'=>∃ lo,c=(none,lo)∧SI κ lt a₀ st' lo∧x≤lo∧((lo=0∧pendingOf st'=#[])∨(N≤lo∧(pendingOf st').size=1))) (Q:=fun c st'=>∃ lo,c=(none,lo)∧SI κ lt a₀ st' lo∧N≤lo∧(pendingOf st').size=1) ?step ?fin ⟨0,rfl,s0,aab _,.inl ⟨rfl,hp⟩⟩) ?post)
  case fin =>
    rintro c st' ⟨lo,rfl,S,hx,hl⟩;rcases hl with ⟨rfl,_⟩|⟨h1,h2'⟩
    · lia
    · exact ⟨lo,rfl,S,h1,h2'⟩
  case step =>
    rintro x c st1 _ hxn ⟨lo,rfl,S1,hx,hl⟩;dsimp only;rcases hl with ⟨rfl,hp1⟩|⟨h1,h2'⟩
    case inr=>exact hG (fun ge=>wpS_pure ⟨lo,rfl,S1,h1,h2'⟩) fun ge=>absurd h1 ge
    refine hG (fun ge=>by exfalso;have ge:N≤0:=ge;lia) fun ge=>?_;have hz1:=S1.size;refine wpS_bind (iY O S1.kind (S1.all hP) (by lia) (by lia) fun m st2 sA kp m1 m2 hU0=>?_);dsimp only;have S2:SI κ lt a₀ st2 0:=⟨sA.kind.trans S1.kind,sA.fail.trans S1.fail,kp.perm.trans S1.perm,by rw [sA.pend];exact S1.runs.keep fun k _ hk=>kp.low k hk,S1.le⟩
    have hz2:=S2.size;have hp2:pendingOf st2=#[]:=sA.pend.trans hp1;have push:∀ (st3:SortSt) (fo:Nat),SI κ lt a₀ st3 0→pendingOf st3=#[]→fo=N→Up lt (arrOf st3) 0 fo→SI κ lt a₀ (SortSt.mk' (kindOf st3) (arrOf st3) ((pendingOf st3).push (0,fo,0)) (gallopOf st3) (failedOf st3)) (0+fo)∧(pendingOf (SortSt.mk' (kindOf st3) (arrOf st3) ((pendingOf st3).push (0,fo,0)) (gallopOf st3) (failedOf st3))).size=1:=fun st3 fo h3 h4 h5 u3=>⟨⟨h3.kind,h3.fail,h3.perm,by
        show Runs lt (arrOf st3) ((pendingOf st3).push (0,fo,0)).toList 0 (0+fo);rw [Array.toList_push];exact Runs.app.mpr ⟨0,h3.runs,rfl,by lia,u3,rfl⟩,by lia⟩,by show ((pendingOf st3).push _).size=1;rw [h4];rfl⟩
    refine hG (fun cm=>?_) fun cm=>?_
    · refine wpS_bind (wpS_lift (wpAny_rule ⟨rfl,?_⟩));refine wpS_bind (o_ O S2.kind (S2.all hP) (by lia) (by lia) hU0 fun st3 sA3 kp3 hU3=>?_);simp only [Bool.not_true,Bool.false_eq_true,if_false];have S3:SI κ lt a₀ st3 0:=⟨sA3.kind.trans S2.kind,sA3.fail.trans S2.fail,kp3.perm.trans S2.perm,by rw [sA3.pend];exact S2.runs.keep fun k _ hk=>kp3.low k hk,S2.le⟩
      have hp3:pendingOf st3=#[]:=sA3.pend.trans hp2;refine wpS_bind (wpS_get ?_);generalize hfo:min (N - 0) _=fo at hU3 ⊢;have hn:fo=N:=hfo.symm.trans (nA N (by lia));cases hb:(pendingOf st3).back? with
      | none =>
        dsimp only;obtain ⟨k1,k2⟩:=push st3 fo S3 hp3 hn hU3;exact wpS_bind (wpS_modify (wpS_pure ⟨_,rfl,k1,by lia,.inr ⟨by lia,k2⟩⟩))
      | some pb=>rw [hp3] at hb;cases hb
    · have hn:m=N:=by
        have cm:¬ m < nC N N 0:=cm;have:=nA N (by lia)
        lia
      refine wpS_bind (wpS_get ?_);cases hb:(pendingOf st2).back? with
      | none =>
        dsimp only;obtain ⟨k1,k2⟩:=push st2 m S2 hp2 hn hU0;exact wpS_bind (wpS_modify (wpS_pure ⟨_,rfl,k1,by lia,.inr ⟨by lia,k2⟩⟩))
      | some pb=>rw [hp2] at hb;cases hb
  case post =>
    rintro c st1 ⟨lo,rfl,S1,hlo,hsz1⟩;dsimp only;have hle:=S1.le;obtain rfl:lo=N:=by lia
    refine wpS_bind (wpS_mono (wpS_forRange (I:=fun x c st'=>c=(none,())∧SI κ lt a₀ st' lo∧(pendingOf st').size=1) (Q:=fun c st'=>c=(none,())∧SI κ lt a₀ st' lo∧(pendingOf st').size=1) ?fs ?ff ⟨rfl,S1,hsz1⟩) ?fp)
    case ff=>exact fun c st' h=>h
    case fs =>
      rintro x c st' _ hx ⟨rfl,S,hx2⟩;refine wpS_bind (wpS_get ?_);exact hG (fun c=>wpS_pure ⟨rfl,S,hx2⟩) fun c=>absurd (show (pendingOf st').size≤1 by lia) c
    case fp =>
      rintro c st' ⟨rfl,S,h1⟩;refine wpS_pure (q st' S.perm S.fail ?_);have hr:=S.runs;have hl:(pendingOf st').toList.length≤1:=by rw [abi];lia
      have hz:=S.size
      match hh:(pendingOf st').toList,hl,hr with
      | [],_,hr=>have : 0=lo:=hr;lia
      | [(s',n,p)],_,hr =>
        obtain ⟨rfl,_,hu,e⟩:=hr;have e:0+n=lo:=e;have hu:=(sZ (by lia)).mp hu;have : seg (arrOf st').toList 0 n=(arrOf st').toList:=by
          unfold seg;rw [ab5,aao (by rw [abi];lia)]
        rw [this] at hu;exact hu
end
section
variable {prog:Program} {w:World} {A:Around} {E:Value→Shared→Prop} {s:Shared}
theorem sort_byS {a:Addr} {vs:List Value} {n:Nat} {κ:SortKind} {Pl:Keyed→Prop} {lt:Keyed→Keyed→Bool} {P:PySem.Fin→Shared→Prop} (ho:s.heap.get? a=some (seqObj "list" vs.toArray n)) (h2:2≤vs.length) (h64:vs.length < 64) (hz:vs.length≤sizeLine)
    (hκ:∀ h':Heap,(∀ b o,b≠a→s.heap.get? b=some o→h'.get? b=some o)→∀ Q:SortKind→Shared→Prop,Q κ { s with heap:=h' }→wpAny (model prog w) A (keyKind' vs.toArray) Q E { s with heap:=h' })
    (O:∀ h':Heap,(∀ b o,b≠a→s.heap.get? b=some o→h'.get? b=some o)→Ord (model prog w) A E { s with heap:=h' } κ Pl lt) (pool:∀ x∈(pairsOf vs).toList,Pl x)
    (h:∀ arr:Array Keyed,arr.Perm (pairsOf vs)→arr.toList.Pairwise (Le lt)→P (.done (.ret .none)) { s with heap:=sortedHeap s.heap a vs (arr.map (·.2)) }) :
    wpAny (model prog w) A (Builtin.«list.sort» ⟨[.ref a],[]⟩) P E s:=by
  have la:a < s.heap.objs.size:=aak ho;have sz:vs.toArray.size=vs.length:=by simp
  rw [list_sort_plain];refine wpAny_bind (listItems_at ho rfl (wpAny_bind (listUpdate_at ho rfl ?_ (by rw [sz];exact hz) (by show (#[]:Array Value).size≤_;simp))));obtain ⟨ep,h1⟩:∃ ep,(s.heap.update a (aa9 fun _=>#[])).get? a=some (seqObj "list" #[] ep):=⟨_,get?_update_seq ho fun _=>#[]⟩
  refine wpAny_bind (seqEpoch_at h1 rfl (wpAny_bind (wpAny_newTuple ?_ (by simpa using hz))));refine wpAny_bind (wpAny_newList (wpAny_holding ?_) (aaT _));have h2':(((s.heap.update a (aa9 fun _=>#[])).push (seqObj "tuple" vs.toArray 0)).push (seqObj "list" #[] 0)).get? a=some (seqObj "list" #[] ep):=by
    rw [abk _ _ _ (by rw [size_push',abt];exact aaq (abx la)),abk _ _ _ (by rw [abt];exact aaq la)];exact h1
  have old:∀ b o,b≠a→s.heap.get? b=some o→(((s.heap.update a (aa9 fun _=>#[])).push (seqObj "tuple" vs.toArray 0)).push (seqObj "list" #[] 0)).get? b=some o:=fun b o hb q=>by
    have lb:b < s.heap.objs.size:=aak q;rw [abk _ _ _ (by rw [size_push',abt];exact aaq (abx lb)),abk _ _ _ (by rw [abt];exact aaq lb)];rw [Heap.get?_update_ne _ _ _ _ hb];exact q
  have two:¬ vs.toArray.size < 2:=by rw [sz];lia
  rw [if_neg two,if_neg two];refine wpAny_bind (hκ _ old _ ?_);refine wpAny_bind (wpAny_mono (iX (a₀:=pairsOf vs) (O _ old) pool (st:=SortSt.mk' κ (vs.toArray.zip vs.toArray) #[] 7 none) (Q:=fun _ st'=>(arrOf st').Perm (pairsOf vs)∧failedOf st'=none∧(arrOf st').toList.Pairwise (Le lt)) rfl rfl rfl rfl (by rw [pairsOf_size];lia) (by rw [pairsOf_size];lia) fun st' b1 b2 b3=>⟨b1,b2,b3⟩) ?_ fun _ _ e=>e);rintro ⟨⟨⟩,st'⟩ s' ⟨rfl,hp,hf,hs⟩;have szp:(arrOf st').size=vs.length:=hp.size_eq.trans (pairsOf_size _);refine wpAny_bind (seqEpoch_at h2' rfl (wpAny_bind (listUpdate_at h2' rfl ?_ (aaT _) (by show (Array.map _ (arrOf st')).size≤_;rw [Array.size_map,szp];lia))));dsimp only;rw [hf];simp only [bne_self_eq_false,Bool.false_eq_true,if_false];exact wpAny_pure (h _ hp hs)
end
end Tim
namespace L2
open PySem PySem.Spec PyProof.Rows
section
variable {prog:Program} {w:World} {A:Around} {E:Value→Shared→Prop} {s:Shared}
theorem lZ {l:Addr} {vs:List Value} {κ:SortKind} {Pl:Keyed→Prop} {lt:Keyed→Keyed→Bool} {Q:Value→Shared→Prop} (hl:s.heap.IsList l vs.toArray) (h2:2≤vs.length) (h64:vs.length < 64) (hz:vs.length≤sizeLine)
    (hκ:∀ h':Heap,(∀ b o,s.heap.get? b=some o→h'.get? b=some o)→∀ Q:SortKind→Shared→Prop,Q κ { s with heap:=h' }→wpAny (model prog w) A.in1.in1 (keyKind' vs.toArray) Q E { s with heap:=h' })
    (O:∀ h':Heap,(∀ b o,s.heap.get? b=some o→h'.get? b=some o)→Tim.Ord (model prog w) A.in1.in1 E { s with heap:=h' } κ Pl lt) (pool:∀ x∈(pairsOf vs).toList,Pl x)
    (h:∀ arr:Array Keyed,arr.Perm (pairsOf vs)→arr.toList.Pairwise (Tim.Le lt)→Q (.ref (s.heap.objs.size+1)) { s with heap:=sortedAll s.heap vs (arr.map (·.2)) }):wpAny (model prog w) A (call (.builtin "sorted") [.ref l]) Q E s:=by
  apply Calls.call_function_entry kind_sorted plain_sorted entry_sorted (args_sorted1 _);unfold Builtin.«sorted»;refine wpAny_bind (m:=checkCount "sorted" 1 1 _) (wpAny_pure (wpAny_bind (collect_list hl (wpAny_bind (wpAny_newList ?_ hz)) hz)));have e0:((s.heap.push (seqObj "list" #[] 0)).update s.heap.objs.size (aa9 (·++vs.toArray))).objs.size=s.heap.objs.size+1:=by rw [abt,size_push']
  have hoL:(((s.heap.push (seqObj "list" #[] 0)).update s.heap.objs.size (aa9 (·++vs.toArray))).push (seqObj "list" vs.toArray 0)).get? (s.heap.objs.size+1)=some (seqObj "list" vs.toArray 0):=by rw [← e0];exact aaF _ rfl
  have old:∀ b o,s.heap.get? b=some o→(((s.heap.push (seqObj "list" #[] 0)).update s.heap.objs.size (aa9 (·++vs.toArray))).push (seqObj "list" vs.toArray 0)).get? b=some o:=fun b o q=>by
    have lb:b < s.heap.objs.size:=aak q;rw [abk _ _ _ (by rw [e0];exact aaq (abx lb)),Heap.get?_update_ne _ _ _ _ (aaq lb),abk _ _ _ (aaq lb)];exact q
  show wpAny _ _ _ _ _ { s with heap:=(((s.heap.push (seqObj "list" #[] 0)).update s.heap.objs.size (aa9 (·++vs.toArray))).push (seqObj "list" vs.toArray 0)) };rw [e0];have nb:∀ b o,s.heap.get? b=some o→b≠s.heap.objs.size+1:=fun b o q=>by
    have lb:b < s.heap.objs.size:=aak q;exact aaq (abx lb)
  exact wpAny_bind (wpAny_holding (wpAny_call_entry slot_list_sort ⟨_,hoL,rfl⟩ entry_list_sort (Tim.sort_byS hoL h2 h64 hz (fun h' k=>hκ h' fun b o q=>k b o (nb b o q) (old b o q)) (fun h' k=>O h' fun b o q=>k b o (nb b o q) (old b o q)) pool fun arr o1 o2=>⟨_,rfl,wpAny_pure ⟨_,rfl,h arr o1 o2⟩⟩) (args_list_sort _)))
end
def cX:List Int→List Int→Bool
  | x :: xs,y :: ys=>if x=y then cX xs ys else decide (x < y)
  | [],_ :: _=>true
  | _,_=>false
theorem jm:∀ {xs ys:List Int},cX xs ys=true→cX ys xs=false
  | x :: xs,y :: ys,h=>by
    rw [cX] at h ⊢;by_cases c:x=y
    · rw [if_pos c] at h;rw [if_pos c.symm];exact jm h
    · rw [if_neg c] at h;rw [if_neg (abc c)];have h:=of_decide_eq_true h;exact decide_eq_false (by lia)
  | [],_ :: _,_=>rfl
  | [],[],h=>by simp [cX] at h
  | _ :: _,[],h=>by simp [cX] at h
theorem lq:∀ {xs ys zs:List Int},xs.length=ys.length→ys.length=zs.length→cX xs ys=false→cX ys zs=false→cX xs zs=false
  | x :: xs,y :: ys,z :: zs,e1,e2,h1,h2=>by
    rw [cX] at h1 h2 ⊢;by_cases c:x=y
    · rw [if_pos c] at h1;by_cases d:y=z
      · rw [if_pos d] at h2;rw [if_pos (c.trans d)];exact lq (by simpa using e1) (by simpa using e2) h1 h2
      · rw [if_neg d] at h2;rw [if_neg (by lia)];have h2:=of_decide_eq_false h2;exact decide_eq_false (by lia)
    · rw [if_neg c] at h1;have h1:=of_decide_eq_false h1;by_cases d:y=z
      · rw [if_neg (by lia)];exact decide_eq_false (by lia)
      · rw [if_neg d] at h2;have h2:=of_decide_eq_false h2;rw [if_neg (by lia)];exact decide_eq_false (by lia)
  | [],[],[],_,_,_,_=>rfl
  | [],[],_ :: _,_,e,_,_=>by simp at e
  | [],_ :: _,_,e,_,_,_=>by simp at e
  | _ :: _,[],_,e,_,_,_=>by simp at e
  | _ :: _,_ :: _,[],_,e,_,_=>by simp at e
theorem qE {prog:Program} {w:World} {A:Around} {s:Shared} {C:Bool→Shared→Prop}:∀ (xs ys:List Int) (us vs:List Value) (i:Nat),Vals (xs.map V.int) us→Vals (ys.map V.int) vs→xs.length=ys.length→C (cX xs ys) s→PySem.W.KatLex prog w A true false C (us.zip vs) i s
  | [],[],us,vs,i,ru,rv,_,h=>by
    cases ru;cases rv;exact PySem.W.kat_nil h
  | x :: xs,y :: ys,us,vs,i,ru,rv,e,h=>by
    cases ru with
    | cons r1 ru =>
    cases rv with
    | cons r2 rv =>
    obtain ⟨t,rfl⟩:=r1;obtain ⟨u,rfl⟩:=r2;show PySem.W.KatLex prog w A true false C ((.int x t,.int y u) :: List.zip _ _) i s;refine PySem.W.kat_cons (acl x t y u prog w _ _ ?_);rw [cX] at h;by_cases c:x=y
    · rw [if_pos c] at h;rw [show (x == y)=true from beq_iff_eq.mpr c];exact PySem.W.kat_yes (qE xs ys _ _ (i+1) ru rv (by simpa using e) h)
    · rw [if_neg c] at h;rw [show (x == y)=false from beq_eq_false_iff_ne.mpr c];refine PySem.W.kat_no ?_;cases i with
      | zero=>exact oneLt_int h
      | succ i=>exact PySem.W.kat_one _ _ (lt_int h)
  | [],_ :: _,_,_,_,_,_,e,_=>by simp at e
  | _ :: _,[],_,_,_,_,_,e,_=>by simp at e
def IntsIn (H:Hp):List (List Int)→List V→Prop:=Paired fun ks u=>∃ t,u=.ref t∧H t=some (.tup (ks.map V.int))
def vI:V→Int
  | .int i=>i
  | _=>0
def kx (H:Hp):V→List Int
  | .ref t=>match H t with
    | some (.tup xs)=>xs.map vI
    | _=>[]
  | _=>[]
theorem vc {H:Hp} {ks:List Int} {t:Addr} (h:H t=some (.tup (ks.map V.int))):kx H (.ref t)=ks:=by
  show (match H t with|some (.tup xs)=>xs.map vI|_=>[])=ks;rw [h];show (ks.map V.int).map vI=ks;rw [abp];exact List.map_id' ks
theorem IntsIn.keys {H:Hp} {kss:List (List Int)} {us:List V} (h:IntsIn H kss us):us.map (kx H)=kss∧∀ u∈us,∃ t,u=.ref t∧H t=some (.tup ((kx H u).map V.int))∧kx H u∈kss:=by
  induction h with
  | nil=>exact ⟨rfl,fun _ h=>nomatch h⟩
  | cons a _ ih =>
    obtain ⟨t,rfl,e⟩:=a;have k:=vc e;refine ⟨by rw [aau,k,ih.1],fun u hu=>?_⟩;rcases aam.mp hu with rfl|hu
    · exact ⟨t,rfl,by rw [k];exact e,by rw [k];exact aag⟩
    · obtain ⟨t',h1,h2,h3⟩:=ih.2 u hu;exact ⟨t',h1,h2,aaf _ h3⟩
theorem IntsIn.back {H:Hp}:∀ {us:List V},(∀ u∈us,∃ t,u=.ref t∧H t=some (.tup ((kx H u).map V.int)))→IntsIn H (us.map (kx H)) us
  | [],_=>.nil
  | u :: us,h=>.cons (h u aag) (IntsIn.back fun x hx=>h x (aaf _ hx))
theorem fZ {X:Cx}:cf X (.builtin "sorted") (fun xs H Q=>∃ (p:Addr) (us:List V) (kss:List (List Int)) (m:Nat),xs=[.ref p]∧H p=some (.lst us)∧IntsIn H kss us∧(∀ ks∈kss,ks.length=m+1)∧us.length < 64 ∧
    ∀ (q:Addr) (us':List V) (kss':List (List Int)),H q=none→IntsIn H kss' us'→kss'.Perm kss→kss'.Pairwise (fun a b=>cX b a=false)→Q (.ref q) (upd H q (.lst us'))):=by
  intro pins s σ H xs us Q I r h;obtain ⟨p,vs,kss,m,rfl,hH,hi,hm,h64,q⟩:=h;obtain ⟨u,rfl,ru⟩:=cZ r;cases ru;obtain ⟨z,its,m',rv,hl,e⟩:=I.lstM hH;obtain ⟨hk,hu⟩:=hi.keys;obtain ⟨ev,hrf⟩:=ja rv fun x hx=>by
    obtain ⟨t,e,_⟩:=hu x hx;exact ⟨t,e⟩
  by_cases h2:its.length < 2
  · refine Srt.sorted_small (vs:=its) ⟨_,e,rfl,_,rfl⟩ h2 ?_;have eo:(pairsOf its).map (·.2)=its.toArray:=by
      match its,h2 with
      | [],_=>simp [pairsOf]
      | [v],_=>simp [pairsOf]
    rw [eo];obtain ⟨c,hc⟩:=sortedAll_at s.heap its its.toArray;have I1:=I.laid (a:=s.heap.objs.size+1) (o:=.lst vs) (t':=s.toks) (fun b o q=>sortedAll_old (vs:=its) (out:=its.toArray) q) (abR _) ⟨z,its,c,rv,hc⟩;refine ⟨.ref _,_,I1,rfl,q _ vs kss (I.hok.fresh (abR _)) hi (List.Perm.refl _) ?_⟩;have hlk:kss.length < 2:=by rw [← hk,aac];lia
    match kss,hlk with
    | [],_=>exact List.Pairwise.nil
    | [a],_=>exact List.pairwise_singleton _ _
  have at_:∀ v∈its,∃ t o arr c,v=.ref t∧H t=some (.tup ((kx H (toV v)).map V.int))∧(kx H (toV v)).length=m+1∧s.heap.get? t=some o∧o.cls=.type "tuple"∧o.data=.seq arr c∧Vals ((kx H (toV v)).map V.int) arr.toList:=fun v hv=>by
    obtain ⟨a,rfl⟩:=hrf v hv;have hmm:V.ref a∈vs:=by rw [ev];exact List.mem_map.mpr ⟨_,hv,rfl⟩
    obtain ⟨t,e1,e2,e3⟩:=hu _ hmm;cases e1;obtain ⟨_,its',r',o,g1,g2,c,g3⟩:=I.hok a _ e2;exact ⟨a,o,_,c,rfl,e2,hm _ e3,g1,g2,g3,(by rw [List.toList_toArray];exact r')⟩
  refine lZ (vs:=its) (κ:=tuples' true) (Pl:=fun x=>x.1∈its) (lt:=fun x y=>cX (kx H (toV x.1)) (kx H (toV y.1))) ⟨_,e,rfl,_,rfl⟩ (by lia) (by lia) (by lia) (fun h' old Q hQ=>?_) (fun h' old=>?_) (fun x hx=>((eQ its).2 x hx).2) fun arr o1 o2=>?_
  · have kt:∀ l:List Value,(∀ v∈l,v∈its)→∃ fs,PySem.W.KatTups h' l fs∧fs.length=l.length∧∀ v∈fs,∃ i t,v=Value.int i t:=fun l=>by
      induction l with
      | nil=>exact fun _=>⟨[],.nil,rfl,fun _ h=>nomatch h⟩
      | cons v l ih =>
        intro hv;obtain ⟨fs,f1,f2,f3⟩:=ih fun x hx=>hv x (aaf _ hx);obtain ⟨t,o,arr,c,rfl,e2,e3,g1,g2,g3,r4⟩:=at_ v (hv v aag);obtain ⟨i,ks,ek⟩:∃ i ks,kx H (toV (.ref t))=i :: ks:=by
          cases hh:kx H (toV (.ref t)) with
          | nil=>rw [hh] at e3;cases e3
          | cons i ks=>exact ⟨i,ks,rfl⟩
        rw [ek] at r4;obtain ⟨arr⟩:=arr;cases r4 with
        | cons r1 r4 =>
        obtain ⟨tk,rfl⟩:=r1;refine ⟨.int i tk :: fs,.cons (old _ _ g1) g2 g3 rfl f1,congrArg (·+1) f2,fun v hv=>?_⟩;rcases aam.mp hv with rfl|hv
        · exact ⟨i,tk,rfl⟩
        · exact f3 v hv
    obtain ⟨fs,f1,f2,f3⟩:=kt its fun _ h=>h;refine PySem.W.kat_kind (s:={ s with heap:=h' }) (T:=.type "int") f1 (by lia) (fun v hv=>by obtain ⟨i,t,rfl⟩:=f3 v hv;exact PySem.W.Looks.of_pure rfl) (by decide) hQ
  · refine ⟨fun {x y st Q'} hx hy hk hq=>?_,fun {x y} _ _ h=>jm h,fun {x y z} hx hy hz h1 h2=>?_⟩
    · obtain ⟨x1,x2⟩:=x;obtain ⟨y1,y2⟩:=y;obtain ⟨t,o,arr,c,rfl,e2,e3,g1,g2,g3,r4⟩:=at_ x1 hx;obtain ⟨t',o',arr',c',rfl,e2',e3',g1',g2',g3',r4'⟩:=at_ y1 hy;rw [lt'_eq];refine wpS_bind (wpS_get ?_);rw [hk];refine wpS_bind (wpS_lift (wpAny_attempt ?_));refine PySem.W.kat_lt (old _ _ g1) g3 (old _ _ g1') g3' ?_;have l1:arr.size=m+1:=by
        have l:=r4.length;rw [aac,abi] at l;exact l.symm.trans e3
      have l2:arr'.size=m+1:=by
        have l:=r4'.length;rw [aac,abi] at l;exact l.symm.trans e3'
      rw [decide_eq_false (show ¬ arr.size < arr'.size by lia)];exact qE _ _ _ _ 0 r4 r4' (e3.trans e3'.symm) ⟨rfl,wpS_pure hq⟩
    · obtain ⟨_,_,_,_,_,_,e1,_⟩:=at_ x.1 hx;obtain ⟨_,_,_,_,_,_,e2,_⟩:=at_ y.1 hy;obtain ⟨_,_,_,_,_,_,e3,_⟩:=at_ z.1 hz;exact lq (e3.trans e2.symm) (e2.trans e1.symm) h2 h1
  · have pv:(arr.map (·.2)).toList.Perm its:=by
      rw [Array.toList_map];have:=(abh.mp o1).map (·.2)
      rwa [(eQ its).1] at this
    have so:(arr.map (·.2)).toList.Pairwise fun x y=>cX (kx H (toV y)) (kx H (toV x))=false:=by
      rw [Array.toList_map,List.pairwise_map];refine o2.imp_of_mem fun {x y} hx hy h=>?_;have ex:=((eQ its).2 x ((abh.mp o1).mem_iff.mp hx)).1;have ey:=((eQ its).2 y ((abh.mp o1).mem_iff.mp hy)).1;rw [← ex,← ey];exact h
    generalize arr.map (·.2)=out at pv so;obtain ⟨c,hc⟩:=sortedAll_at s.heap its out;have len:out.toList.length=its.length:=pv.length_eq;have I1:=I.laid (a:=s.heap.objs.size+1) (o:=.lst (out.toList.map toV)) (t':=s.toks) (fun b o q=>sortedAll_old (vs:=its) (out:=out) q) (abR _) ⟨by rw [aac,len];lia,out.toList,c,jc fun v hv=>hrf v (pv.mem_iff.mp hv),(by rw [Array.toArray_toList];exact hc)⟩;have pu:(out.toList.map toV).Perm vs:=by rw [ev];exact pv.map toV
    refine ⟨.ref _,_,I1,rfl,q _ _ ((out.toList.map toV).map (kx H)) (I.hok.fresh (abR _)) (IntsIn.back fun u hu'=>?_) ?_ ?_⟩
    · obtain ⟨t,e1,e2,_⟩:=hu u (pu.mem_iff.mp hu');exact ⟨t,e1,e2⟩
    · rw [← hk];exact pu.map _
    · rw [abp,List.pairwise_map];exact so
open PySem PySem.Spec PyProof.Rows
section
variable {prog:Program} {w:World} {A:Around} {E:Value→Shared→Prop} {s:Shared}
abbrev PrI:=Addr × (Int × Tok) × Value
def kvI (x:PrI):Key × Value:=(.inl x.2.1.1,x.2.2)
theorem oH {rs:List (Key × Value)} {i:Nat} {r:Key × Value} (h:rs[i]?=some r):merged [] (rs.take (i+1))=stored (merged [] (rs.take i)) r.1 r.2:=by
  unfold merged;rw [aaN,h];show ((rs.take i)++[r]).foldl _ _=_;rw [List.foldl_append];rfl
theorem jk:∀ (rs acc:List (Key × Value)),(merged acc rs).length≤acc.length+rs.length
  | [],acc=>aab _
  | r :: rs,acc=>by
    have a1:=jk rs (stored acc r.1 r.2);have a2:=stored_length_le acc r.1 r.2;show (merged (stored acc r.1 r.2) rs).length≤_;rw [aar];lia
theorem nV {it l d:Addr} {items:List Value} {Q:Value→Shared→Prop} (hh:A.handled=none) (hdi:d≠it) (hli:l≠it) (hld:l≠d) (h₀:Heap) (xs:List PrI) (hx:items=xs.map fun x=>.ref x.1) (hsz:xs.length≤1000)
    (hT:∀ x∈xs,x.1≠it∧x.1≠d∧IsTup h₀ x.1 #[.int x.2.1.1 x.2.1.2,x.2.2])
    (hQ:∀ h' t',h'.DictOf (bh prog w) d (merged [] (xs.map kvI))→(∀ b o,b≠it→b≠d→h₀.get? b=some o→h'.get? b=some o)→Q .none { s with heap:=h',toks:=t' }) :
    ∀ (k i:Nat) (h:Heap) (t:Nat),k+i=xs.length→h.IsListIter it l i→h.IsList l items.toArray→h.DictOf (bh prog w) d (merged [] ((xs.map kvI).take i))→(∀ b o,b≠it→b≠d→h₀.get? b=some o→h.get? b=some o) →
      codeAny (model prog w) A (.builtin "dict.update.loop" ⟨[.ref d,.ref it,rawInt i,.none],[]⟩) (wants Q E) { s with heap:=h,toks:=t }:=by
  have hlen:items.length=xs.length:=by rw [hx,aac]
  intro k
  induction k with
  | zero =>
    intro i h t hk hit hl hd kp;have hi:i=xs.length:=by lia
    refine codeAny_builtin eJ ?_;rw [Around.under_plainId eD];unfold Builtin.«dict.update.loop»;show wpAny _ _ (pyNext (.ref it) >>= _) _ _ _;refine wpAny_bind (wpAny_pyNext_list_end (A:=A.in1) (s:={ s with heap:=h,toks:=t }) hh hit hl (by simp;lia) fun h' eb=>wpAny_bind (wpAny_pure (wpAny_pure (hQ h' t ?_ fun b o b2 b3 z=>eb b o b2 (kp b o b2 b3 z)))));rw [aao (by simp;lia)] at hd;exact hd.extBut eb hdi
  | succ k ih =>
    intro i h t hk hit hl hd kp;have hlt:i < xs.length:=by lia
    have hxi:xs[i]?=some xs[i]:=aaj hlt;have hii:items.toArray[i]?=some (.ref xs[i].1):=by rw [hx];simp [hlt]
    obtain ⟨n1,n2,hP⟩:=hT xs[i] (ab6 hlt);refine codeAny_builtin eJ ?_;rw [Around.under_plainId eD];unfold Builtin.«dict.update.loop»;show wpAny _ _ (pyNext (.ref it) >>= _) _ _ _;refine wpAny_bind (wpAny_pyNext_list_item (A:=A.in1) (s:={ s with heap:=h,toks:=t }) hit hl hii fun h' hit' sb=>?_);have sb:act it h h':=sb;refine wpAny_bind (wpAny_holding ?_);refine wpAny_bind (wpAny_tryCatch ?_);obtain ⟨oT,hoT,hcT,kT,hdT⟩:=hP;have hT':h'.get? xs[i].1=some oT:=(sb.2 _ n1).trans (kp _ _ n1 n2 hoT);unfold Builtin.Dict.pairItems;refine wpAny_bind (wpAny_typeOf (T:="tuple") ⟨_,hT',hcT⟩ ?_);rw [if_pos (by decide +kernel)];unfold seqItems?;refine wpAny_bind (wpAny_bind (wpAny_load hT' ?_));rw [hdT];refine wpAny_pure (wpAny_pure ?_);have hd':h'.DictOf (bh prog w) d (merged [] ((xs.map kvI).take i)):=by
      obtain ⟨o,es,ep,ho,r⟩:=hd;exact ⟨o,es,ep,(sb.2 d hdi).trans ho,r⟩
    have e2:(xs.map kvI)[i]?=some (kvI xs[i]):=by rw [aaU,hxi];rfl
    refine wpAny_holding (wpAny_dictSet_pairs (knd:=bh prog w) (s:={ s with heap:=h',toks:=t }) (k:=.inl xs[i].2.1.1) (by simp [bh,nG,Value.isInt]) hd' (fun h2 hd2 hs2=>wpAny_pure ⟨Code.quiet_builtin _ (by decide +kernel),?_⟩) ?_)
    · have hs2:act d h' h2:=hs2;have hd2:h2.DictOf (bh prog w) d (stored (merged [] ((xs.map kvI).take i)) (kvI xs[i]).1 (kvI xs[i]).2):=hd2;rw [← oH e2] at hd2;refine ih (i+1) h2 _ (by lia) ?_ ?_ hd2 ?_
      · exact hit'.at fun o x=>(hs2.2 it (abc hdi)).trans x
      · exact hl.at fun o x=>(hs2.2 l hld).trans ((sb.2 l hli).trans x)
      · exact fun b o b2 b3 z=>(hs2.2 b b3).trans ((sb.2 b b2).trans (kp b o b2 b3 z))
    · have:=jk ((xs.map kvI).take i) [];rw [aax,aac,aaX] at this;have:=ay hsz;lia
theorem hE {l:Addr} {n:Nat} (xs:List PrI) {Q:Value→Shared→Prop} (hh:A.handled=none) (hl:s.heap.get? l=some { cls:=.type "list",dict:=none,data:=.seq (xs.map fun x=>Value.ref x.1).toArray n,slots:=#[] }) (hsz:xs.length≤1000)
    (hT:∀ x∈xs,IsTup s.heap x.1 #[.int x.2.1.1 x.2.1.2,x.2.2])
    (h:∀ h' t',h'.DictOf (bh prog w) s.heap.objs.size (merged [] (xs.map kvI))→(∀ b o,s.heap.get? b=some o→h'.get? b=some o)→Q (.ref s.heap.objs.size) { s with heap:=h',toks:=t' }) :
    wpAny (model prog w) A (call (.type "dict") [.ref l]) Q E s:=by
  refine callType_codes (Q₁:=fun obj s₁=>obj=.ref s.heap.objs.size∧s₁={ s with heap:=s.heap.push { cls:=.type "dict",data:=.dict #[] } }) F.kt_called_dict (F.kt_typeCall_dict_1 _) F.entry_dict_init (kt_code_dict_new _ ⟨rfl,rfl⟩) ?_;rintro obj s₁ ⟨rfl,rfl⟩;have hnew:(s.heap.push { cls:=.type "dict",data:=.dict #[] }).DictOf (bh prog w) s.heap.objs.size []:=Heap.DictOf.new s.heap;have kp:∀ b o,s.heap.get? b=some o→(s.heap.push { cls:=.type "dict",data:=.dict #[] }).get? b=some o:=fun b o q=>aal _ q;have hll:l < s.heap.objs.size:=aak hl;have hl':=kp _ _ hl;refine ⟨hnew.typeIs,F.args_dict_init_2 _ _,?_⟩;unfold Builtin.«dict.__init__»;refine wpAny_bind ?_;unfold Builtin.Dict.selfAndRest;refine wpAny_bind (wpAny_notOrdered_dict hnew.typeIs ?_);show wpAny _ _ (pure (s.heap.objs.size,[Value.ref l])) _ _ _;refine wpAny_pure ?_;show wpAny _ _ (Builtin.Dict.updateFrom "dict.__init__" s.heap.objs.size (.ref l) [] .none) _ _ _;unfold Builtin.Dict.updateFrom;refine wpAny_bind (wpAny_typeOf (T:="list") ⟨_,hl',rfl⟩ ?_);rw [if_pos (by decide +kernel)];refine wpAny_bind (iJ (A:=A.in1.in1) hh hl' fun h1 t1 k1=>?_);rw [if_pos (by rfl)];refine wpAny_bind (wpAny_rule ?_);have hl1:=k1 _ _ hl';have iL:h1.IsList l (xs.map fun x=>Value.ref x.1).toArray:=⟨_,hl1,rfl,_,rfl⟩
  refine wpAny_bind (wpAny_pyIter_list (s:={ s with heap:=h1,toks:=t1 }) iL (wpAny_pure ⟨Code.quiet_builtin _ (by decide +kernel),?_⟩));have k2:∀ b o,s.heap.get? b=some o→h1.get? b=some o:=fun b o q=>k1 _ _ (kp _ _ q);have dlt:s.heap.objs.size < h1.objs.size:=aak (k1 _ _ (aaF _ rfl));have lt1:∀ b,b < s.heap.objs.size→b≠h1.objs.size∧b≠s.heap.objs.size:=fun b hb=>⟨aaq (Nat.lt_trans hb dlt),aaq hb⟩
  have hd1:h1.DictOf (bh prog w) s.heap.objs.size []:=by
    obtain ⟨o,es,ep,ho,r⟩:=hnew;exact ⟨o,es,ep,k1 _ _ ho,r⟩
  refine nV (A:=A.in1) (s:={ s with heap:=h1,toks:=t1 }) (l:=l) (items:=xs.map fun x=>Value.ref x.1) (Q:=fun r s₂=>r=.none∧Q (.ref s.heap.objs.size) s₂) hh (aaq dlt) (lt1 l hll).1 (lt1 l hll).2 s.heap xs rfl hsz (fun x hx=>?_) (fun h2 t2 hd2 kk=>⟨rfl,h h2 t2 hd2 fun b o q=>kk b o (lt1 b (aak q)).1 (lt1 b (aak q)).2 q⟩) xs.length 0 _ t1 (by lia) ⟨_,aaF _ rfl,rfl,rfl⟩ (iL.at fun o x=>aal _ x) ?_ fun b o _ _ q=>aal _ (k2 _ _ q)
  · have hP:=hT x hx;have p1:x.1 < s.heap.objs.size:=by obtain ⟨o,e,_⟩:=hP;exact aak e
    exact ⟨(lt1 _ p1).1,(lt1 _ p1).2,hP⟩
  · rw [List.take_zero];obtain ⟨o,es,ep,ho,r⟩:=hd1;exact ⟨o,es,ep,aal _ ho,r⟩
end
theorem rz {P:Program} {w:World} {H:Hp} {h:Heap} (ok:HOk P w H h):∀ {ps:List (Int × Int)} {us:List V} {ws:List Value},PairsIn H ps us→Vals us ws→∃ xs:List PrI,ws=xs.map (fun x=>Value.ref x.1)∧KV (ps.map fun p=>((.inl p.1:Key),V.int p.2)) (xs.map kvI)∧∀ x∈xs,IsTup h x.1 #[.int x.2.1.1 x.2.1.2,x.2.2]
  | _,_,_,.nil,.nil=>⟨[],rfl,.nil,fun _ h=>nomatch h⟩
  | _,_,_,.cons ⟨a,e,k⟩ t,.cons r rr=>by
    obtain ⟨xs,e1,e2,e3⟩:=rz ok t rr;subst e;cases r;obtain ⟨_,its,rv,pt⟩:=(show ObjOk P w H h a (.tup [.int _,.int _]) from ok _ _ k)
    obtain ⟨u1,u2,rfl,⟨t1,rfl⟩,⟨t2,rfl⟩⟩:=hZ rv;refine ⟨(a,(_,t1),.int _ t2) :: xs,by rw [e1];rfl,.cons ⟨rfl,⟨t2,rfl⟩⟩ e2,fun x hx=>?_⟩;rcases aam.mp hx with rfl|hx
    · exact pt
    · exact e3 x hx
theorem jl:∀ (rs acc:List (Key × V)),(cW acc rs).length≤acc.length+rs.length
  | [],acc=>aab _
  | r :: rs,acc=>by
    have a1:=jl rs (gY acc r.1 r.2);have a2:(gY acc r.1 r.2).length≤acc.length+1:=by
      unfold gY;split
      · rw [aac];lia
      · rw [aah];exact aab _
    show (cW (gY acc r.1 r.2) rs).length≤_;rw [aar];lia
theorem mO {X:Cx} (hc:X.calm=true):cf X (.type "dict") (fun xs H Q=>∃ (l:Addr) (us:List V) (ps:List (Int × Int)),xs=[.ref l]∧H l=some (.lst us)∧PairsIn H ps us∧us.length≤1000∧∀ d,H d=none→Q (.ref d) (upd H d (.dK (cW [] (ps.map fun p=>((.inl p.1:Key),V.int p.2)))))):=by
  intro pins s σ H xs us Q I r h;obtain ⟨l,vs,ps,rfl,hl,hp,hz,q⟩:=h;obtain ⟨u,rfl,rx⟩:=cZ r;cases rx;obtain ⟨z,its,n,rv,gl⟩:=(show ObjOk X.prog X.w H s.heap l (.lst _) from I.hok l _ hl)
  obtain ⟨ys,rfl,rk,al⟩:=rz I.hok hp rv;have ly:=rv.length;have lp:ps.length=vs.length:=abJ hp;rw [aac] at ly;refine hE ys (I.ok.hd hc) gl (by lia) al fun h' t' dd hk=>?_;refine ⟨.ref s.heap.objs.size,_,I.laid (a:=s.heap.objs.size) (o:=.dK (cW [] (ps.map fun p=>((.inl p.1:Key),V.int p.2)))) (t':=t') hk (aab _) ?_,rfl,q _ (I.hok.fresh (aab _))⟩;have h1:=jl (ps.map fun p=>((.inl p.1:Key),V.int p.2)) [];rw [aaX,aac] at h1;have:=ay hz;have hb':sysModules < s.heap.objs.size:=I.big;exact ⟨by lia,by simpa using abX hb',_,KV.merge rk .nil,dd⟩
open PySem PySem.Spec PyProof.Rows
def PAK (X:Cx) (es:List Expr) (t:TA):Prop :=
  ∀ (pos:Pos) (pins:List (Addr × Obj)) (s:Shared) (σ:St) (H:Hp) (Q:List V→Hp→Prop),Inv X pins σ H s→s.toks≠0→t σ H Q→wpAny (model X.prog X.w) X.A (spliced (backTo pos (starEach es X.env))) (AP X pins σ Q) X.xe s
section
variable {X:Cx} {e:Expr} {es:List Expr} {te:TE} {t:TA}
theorem PA.k (h:PA X es t):PAK X es t:=fun pos pins s σ H Q I _ q=>h pos pins s σ H Q I q
theorem u8 (hk:Tk (eval e X.env)) (ha:PE X e te) (hr:PAK X es t) (hs:starEach (e :: es) X.env=(false,eval e X.env) :: starEach es X.env:=by rfl):PA X (e :: es) (mW te t):=by
  intro pos pins s σ H Q I h;rw [hs];show wpAny _ _ (spliced ((false,eval e X.env) :: backTo pos (starEach es X.env))) _ _ s;refine abF (thn (ph hk (ha pins s σ H _ I h)) fun u s1 ⟨hn,x,H1,I1,r1,q1⟩=>?_);exact thn (hr pos pins s1 σ H1 _ I1 hn q1) fun us s2 ⟨xs,H2,I2,r2,q2⟩=>⟨x :: xs,H2,I2,.cons r1 r2,q2⟩
theorem jf (ha:PEK X e te) (hr:PAK X es t) (hs:starEach (e :: es) X.env=(false,eval e X.env) :: starEach es X.env:=by rfl):PAK X (e :: es) (mW te t):=by
  intro pos pins s σ H Q I hk h;rw [hs];show wpAny _ _ (spliced ((false,eval e X.env) :: backTo pos (starEach es X.env))) _ _ s;refine abF (thn (hX hk (ha pins s σ H _ I hk h)) fun u s1 ⟨hn,x,H1,I1,r1,q1⟩=>?_);exact thn (hr pos pins s1 σ H1 _ I1 hn q1) fun us s2 ⟨xs,H2,I2,r2,q2⟩=>⟨x :: xs,H2,I2,.cons r1 r2,q2⟩
theorem iq (ha:PE X e te) (hr:PAK X es t) (hs:starEach (e :: es) X.env=(false,eval e X.env) :: starEach es X.env:=by rfl):PAK X (e :: es) (mW te t) :=
  jf (fun pins s σ H Q I _ q=>ha pins s σ H Q I q) hr hs
end
open PySem PySem.Spec PyProof.Rows
theorem rY {X:Cx} {a:Expr} {ta:TE} {pos:Pos} (ha:PE X a ta):PE X (.UnaryOp .Not a pos) (fun σ H Q=>ta σ H fun x H'=>∃ k,uE X.K x H' k∧Q (.bl (!k)) H'):=by
  intro pins s σ H Q I h;refine UnaryOp_ (thn (ha pins s σ H _ I h) fun v s1 ⟨x,H1,I1,r1,k,tr,q1⟩=>?_);exact not_of (thn (pE pins s1 σ H1 x v _ I1 r1 ⟨k,tr,q1⟩) fun b s2 ⟨H2,I2,q2⟩=>⟨.bl (!b),H2,I2,rfl,q2⟩)
theorem Same.upd {H H1:Hp} {p:Addr} {o:HO} (a:Same H H1) (h:H p=none):Same H (L2.upd H1 p o):=fun b u q=>by
  rw [aq (ao q h)];exact a b u q
end L2
namespace Put
open PySem L2
def top (i:Nat):Stmt:=PySem.Challenge.pw_putsigns_k04_ways_by_their_stretches.main.body.getD i (.Pass ⟨0,0,0,0⟩)
inductive Sg where
  | plus|minus|times
  deriving DecidableEq
def Sg.str:Sg→Str
  | .plus=>"+"
  | .minus=>"-"
  | .times=>"*"
inductive Wy where
  | num (i:Int)
  | node (g:Sg) (l r:Wy)
  deriving DecidableEq
def Wy.size:Wy→Nat
  | .num _=>1
  | .node _ l r=>l.size+r.size
def Wy.knots:Wy→Nat
  | .num _=>1
  | .node _ l r=>l.knots+r.knots+1
theorem Wy.size_pos:∀ w:Wy,1≤w.size
  | .num _=>aab _
  | .node _ l r=>by have:=l.size_pos;show 1≤l.size+r.size;lia
def WyIn (H:Hp):Wy→V→Prop
  | .num i,v=>v=.int i
  | .node g l r,v=>∃ a vl vr,v=.ref a∧H a=some (.tup [.str g.str,vl,vr])∧WyIn H l vl∧WyIn H r vr
def Tups (H H':Hp):Prop:=∀ b xs,H b=some (.tup xs)→H' b=some (.tup xs)
theorem Tups.of {H H':Hp} (a:Same H H'):Tups H H':=fun b xs h=>a b _ h
theorem Tups.but {H H':Hp} {w:Addr} {xs:List V} (a:But w H H') (h:H w=some (.lst xs)):Tups H H':=fun b ys q=>a b _ (fun e=>by rw [e,h] at q;cases q) q
theorem Tups.trans {H H1 H2:Hp} (a:Tups H H1) (b:Tups H1 H2):Tups H H2:=fun c xs h=>b c xs (a c xs h)
theorem WyIn.mono {H H':Hp} (t:Tups H H'):∀ {w:Wy} {v:V},WyIn H w v→WyIn H' w v
  | .num _,_,h=>h
  | .node g l r,v,h=>by
    obtain ⟨a,vl,vr,e,h1,h2,h3⟩:=h;exact ⟨a,vl,vr,e,t _ _ h1,WyIn.mono t h2,WyIn.mono t h3⟩
def WyAll (H:Hp) (ws:List Wy) (vs:List V):Prop:=Paired (fun w v=>WyIn H w v) ws vs
theorem WyAll.mono {H H':Hp} (t:Tups H H'):∀ {ws:List Wy} {vs:List V},WyAll H ws vs→WyAll H' ws vs
  | _,_,.nil=>.nil
  | _,_,.cons a b=>.cons (a.mono t) (WyAll.mono t b)
theorem WyAll.snoc {H:Hp} {w:Wy} {v:V} (h:WyIn H w v):∀ {ws:List Wy} {vs:List V},WyAll H ws vs→WyAll H (ws++[w]) (vs++[v])
  | _,_,.nil=>.cons h .nil
  | _,_,.cons a b=>.cons a (WyAll.snoc h b)
theorem WyAll.length {H:Hp}:∀ {ws:List Wy} {vs:List V},WyAll H ws vs→ws.length=vs.length
  | _,_,.nil=>rfl
  | _,_,.cons _ b=>congrArg (·+1) (WyAll.length b)
def fM (ws:List Wy):Nat:=(ws.map Wy.size).sum
def dN (ws:List Wy):Nat:=(ws.map Wy.knots).sum
theorem fq (ws:List Wy) (w:Wy):fM (ws++[w])=fM ws+w.size:=by simp [fM]
theorem eF (ws:List Wy) (w:Wy):dN (ws++[w])=dN ws+w.knots:=by simp [dN]
theorem cL:∀ ws:List Wy,ws.length≤fM ws
  | []=>aab _
  | w :: r=>by
    have a:=cL r;have b:=w.size_pos;show r.length+1≤(w.size :: r.map Wy.size).sum;rw [acB];have : fM r=(r.map Wy.size).sum:=rfl;lia
theorem WyAll.last {H:Hp} {ws:List Wy} {vs:List V} (h:WyAll H ws vs) (ne:vs≠[]):∃ ws' w vs' v,ws=ws'++[w]∧vs=vs'++[v]∧WyAll H ws' vs'∧WyIn H w v:=by
  induction h with
  | nil=>exact absurd rfl ne
  | @cons w v ws vs a b ih =>
    cases b with
    | nil=>exact ⟨[],w,[],v,rfl,rfl,.nil,a⟩
    | cons a' b' =>
      obtain ⟨ws',w',vs',v',e1,e2,h1,h2⟩:=ih (by simp);exact ⟨w :: ws',w',v :: vs',v',by rw [e1];rfl,by rw [e2];rfl,.cons a h1,h2⟩
structure Bu (K:aaa) (mg:Str→Option Value):Prop where
  ilen:mg "len" = none
  iisinstance : mg "isinstance" = none
  iint:mg "int" = none
  ibool:mg "bool" = none
  istr:mg "str" = none
  ituple:mg "tuple" = none
  ilist:mg "list" = none
  isorted:mg "sorted" = none
  irange:mg "range" = none
  irepr:mg "repr" = none
  ienumerate:mg "enumerate" = none
  isum:mg "sum" = none
  iall:mg "all" = none
  imin:mg "min" = none
  imax:mg "max" = none
  iabs:mg "abs" = none
  idivmod:mg "divmod" = none
  idict:mg "dict" = none
  iset:mg "set" = none
  ireversed:mg "reversed" = none
  iany:mg "any" = none
  izip:mg "zip" = none
structure Co (K:aaa) (mg:Str→Option Value) (tk:Tok) (aS:Addr):Prop where
  gMOST_NUMBERS:mg "MOST_NUMBERS" = some (.int 9 tk)
  gSIGNS:mg "SIGNS" = some (.ref aS)
  sSIGNS:∀ H,SqT K H aS [.str "+",.str "-",.str "*"]
section
variable {P:Program} {w:World} {K:aaa} {mg:Str→Option Value} {base:Heap} {f:Addr} {fd:FuncData}
def cA (K:aaa):Sp:=fun vs H Q _=>∃ x n,vs=[x]∧TyOf K H x (.type n)∧Q (.bl (decide (n = "int"))) H
abbrev fA:Stmt:=top 16
theorem kE:FnScope ["thing"] ["thing"] (am fA):=⟨rfl,rfl,rfl,by decide +kernel,rfl,by decide +kernel,by decide +kernel⟩
theorem kY (F:Fun K "is_whole" "is_whole" fA f fd) (B:Bu K mg):FnOk P w K mg base CX0 1 f fd ["thing"] (cA K):=by
  refine F.ok kE (fun vs H Q E h=>?_) (fun cdv A outer s H vs Q E hr h=>?_)
  · obtain ⟨x,n,rfl,_⟩:=h;rfl
  obtain ⟨x,n,rfl,ty,q⟩:=h;refine ⟨_,(@ai _ _ _ (@av _ _ _ _ (@dJ _ _ _ _ _ _ _ (@aj _ _ _ _ _ _ _ _ _ (@aG _ ("int")) rfl B.iisinstance aad (@aa _ _ _ _ _ (pv 0) (@aa _ _ _ _ _ (@bj _ _ (.ty "int") _ _ rfl B.iint abY rfl (by decide) (by decide)) ae (by rfl)) (by rfl)) (by decide) (by decide) (by rfl) (by rfl)) (@fG _ _ _ _ _ (@qo _ _ _ _ (@aj _ _ _ _ _ _ _ _ _ (@aG _ ("bool")) rfl B.iisinstance aad (@aa _ _ _ _ _ (pv 0) (@aa _ _ _ _ _ (@bj _ _ (.ty "bool") _ _ rfl B.ibool PyProof.Rows.boot_bool rfl (by decide) (by decide)) ae (by rfl)) (by rfl)) (by decide) (by decide) (by rfl) (by rfl))))))),?_⟩;cases ty with
  | non=>exact ⟨_,rfl,_,_,false,rfl,.non,rfl,false,rfl,aC q⟩
  | bl y=>exact ⟨_,rfl,_,_,true,rfl,.bl y,rfl,true,rfl,aI ⟨_,rfl,_,_,true,rfl,.bl y,rfl,true,rfl,q⟩⟩
  | int i=>exact ⟨_,rfl,_,_,true,rfl,.int i,rfl,true,rfl,aI ⟨_,rfl,_,_,false,rfl,.int i,rfl,false,rfl,q⟩⟩
  | str y=>exact ⟨_,rfl,_,_,false,rfl,.str y,rfl,false,rfl,aC q⟩
  | flt y=>exact ⟨_,rfl,_,_,false,rfl,.flt y,rfl,false,rfl,aC q⟩
  | lst e=>exact ⟨_,rfl,_,_,false,rfl,.lst e,rfl,false,rfl,aC q⟩
  | frz e=>exact ⟨_,rfl,_,_,false,rfl,.frz e,rfl,false,rfl,aC q⟩
  | tup e=>exact ⟨_,rfl,_,_,false,rfl,.tup e,rfl,false,rfl,aC q⟩
  | dK e=>exact ⟨_,rfl,_,_,false,rfl,.dK e,rfl,false,rfl,aC q⟩
  | dT e=>exact ⟨_,rfl,_,_,false,rfl,.dT e,rfl,false,rfl,aC q⟩
def d6 (z:Str):Bool:=inV (.str z) [.str "+",.str "-",.str "*"]
theorem qM (g:Sg):d6 g.str=true:=by cases g <;> decide +kernel
def lV:Sp:=fun vs H Q _=>∃ z,vs=[.str z]∧Q (.bl (d6 z)) H
abbrev eN:Stmt:=top 18
theorem ig:FnScope ["thing"] ["thing"] (am eN):=⟨rfl,rfl,rfl,by decide +kernel,rfl,by decide +kernel,by decide +kernel⟩
theorem mf {tk:Tok} {aS:Addr} (F:Fun K "is_sign" "is_sign" eN f fd) (B:Bu K mg) (B':Co K mg tk aS):FnOk P w K mg base CX0 1 f fd ["thing"] lV:=by
  refine F.ok ig (fun vs H Q E h=>?_) (fun cdv A outer s H vs Q E hr h=>?_)
  · obtain ⟨x,rfl,_⟩:=h;rfl
  obtain ⟨z,rfl,q⟩:=h;refine ⟨_,(ai (av (dJ (aj (aG (n:="str")) rfl B.iisinstance aad (aa (pv 0) (aa (bj (v:=.ty "str") rfl B.istr abK rfl) ae))) (fG (cE ji (pv 0) (bB (v:=.ref aS) rfl B'.gSIGNS rfl) (by with_unfolding_all rfl)))))),?_⟩;exact ⟨_,rfl,_,_,true,rfl,.str z,rfl,true,rfl,aI ⟨_,rfl,aS,_,rfl,.inr (B'.sSIGNS H),rfl,rfl,q⟩⟩
open PySem L2
theorem jW {α:Type} (xs:List α) (x:α):(xs++[x])[(xs++[x]).length - 1]?=some x:=by simp
theorem pA (xs:List V) (x:V):(xs++[x]).dropLast=xs:=by simp
theorem aK {n:Nat} (h:n≤1000):n≤sizeLine:=Nat.le_of_lt (ay h)
def jJ:Sp:=fun vs H Q _=>∃ w v,vs=[v]∧WyIn H w v∧w.size≤9∧∀ H',Same H H'→Q (.bl true) H'
abbrev ik:Stmt:=top 19
theorem dv:FnScope ["thing","waiting","numbers","part"] ["thing"] (am ik):=⟨rfl,rfl,rfl,by decide +kernel,rfl,by decide +kernel,by decide +kernel⟩
theorem ox {tk:Tok} {aS:Addr} (F:Fun K "is_way" "is_way" ik f fd) (B:Bu K mg) (B':Co K mg tk aS) (C_is_whole:Cal P w K mg base "is_whole" 1 ["thing"] (cA K)) (C_is_sign:Cal P w K mg base "is_sign" 1 ["thing"] lV) :
    FnOk P w K mg base CX0 2 f fd ["thing"] jJ:=by
  refine F.ok dv (fun vs H Q E h=>?_) (fun cdv A outer s H vs Q E hr h=>?_)
  · obtain ⟨x,v,rfl,_⟩:=h;rfl
  obtain ⟨wy,v,rfl,hw,h9,q⟩:=h;refine ⟨_,(@ag _ _ _ _ _ (@au _ _ (1) _ _ _ _ (dv).nd rfl (Or.inl rfl) (@aw _ _ _ _ (@aa _ _ _ _ _ (pv 0) ae (by rfl))) (by rfl) (by first|exact .inl rfl|exact .inr rfl|assumption)) (@ag _ _ _ _ _ (@au _ _ (2) _ _ _ _ (dv).nd rfl (Or.inl rfl) af (by rfl) (by first|exact .inl rfl|exact .inr rfl|assumption)) (@ag _ _ _ _ _ (@kN _ _ _ _ _ _ abq (@PW.pt _ _ _ (@gB _ _ _ _ _ _ _ (@kM _ _ _ (pv 1) (fun _=>rfl)) (@fR _ _ _ _ (@aD _ _ _ _ _ _ _ _ kU (@ar _ _ _ _ _ _ _ _ bI (pv 2) (@aj _ _ _ _ _ _ _ _ _ ax rfl B.ilen aaE (@aa _ _ _ _ _ (pv 1) ae (by rfl)) (by decide) (by decide) (by rfl) (by rfl))) (@bB _ _ (.int 9) _ _ rfl B'.gMOST_NUMBERS ⟨_,rfl⟩ (by decide)) (aJ _))))) (@ag _ _ _ _ _ (@au _ _ (3) _ _ _ _ (dv).nd rfl (Or.inl rfl) (@ma _ _ _ _ _ _ _ _ _ aaH abZ ab0 mo (pv 1) (by rfl) (by rfl)) (by rfl) (by first|exact .inl rfl|exact .inr rfl|assumption)) (@ai _ _ _ (@br _ _ _ _ _ _ _ _ (@bf _ _ _ (@ak _ _ _ _ _ _ _ _ _ _ _ C_is_whole hr (by lia) rfl (@aa _ _ _ _ _ (pv 3) ae (by rfl)) (by decide) (by rfl) (by rfl)) (by intro _;rfl)) (@ai _ _ _ (@tT _ _ (2) _ _ _ _ _ _ (dv).nd rfl (Or.inl rfl) af uy (by first|exact .inl rfl|exact .inr rfl|assumption))) (@ai _ _ _ (@br _ _ _ _ _ _ _ _ (@PW.pt _ _ _ (@gB _ _ _ _ _ _ _ (@bf _ _ _ (@aj _ _ _ _ _ _ _ _ _ (@aG _ ("tuple")) rfl B.iisinstance aad (@aa _ _ _ _ _ (pv 3) (@aa _ _ _ _ _ (@bj _ _ (.ty "tuple") _ _ rfl B.ituple abf rfl (by decide) (by decide)) ae (by rfl)) (by rfl)) (by decide) (by decide) (by rfl) (by rfl)) (by intro _;rfl)) (@gB _ _ _ _ _ _ _ (@aD _ _ _ _ _ _ _ _ fg (@aj _ _ _ _ _ _ _ _ _ ax rfl B.ilen aaE (@aa _ _ _ _ _ (pv 3) ae (by rfl)) (by decide) (by decide) (by rfl) (by rfl)) af (aJ _)) (@fR _ _ _ _ (@bf _ _ _ (@ak _ _ _ _ _ _ _ _ _ _ _ C_is_sign hr (by lia) rfl (@aa _ _ _ _ _ (@aE _ _ _ _ _ _ _ ix_tup (pv 3) af (fun _ _=>rfl)) ae (by rfl)) (by decide) (by rfl) (by rfl)) (by intro _;rfl)))))) (@ag _ _ _ _ _ (@da _ _ _ _ (@fe _ _ _ _ _ _ _ _ _ _ _ _ aaH aba abb cO (pv 1) (@aa _ _ _ _ _ (@aE _ _ _ _ _ _ _ ix_tup (pv 3) af (fun _ _=>rfl)) ae (by rfl)) (by rfl) (by rfl) (by rfl) (by rfl) (by rfl)) (by rfl)) (@ai _ _ _ (@da _ _ _ _ (@fe _ _ _ _ _ _ _ _ _ _ _ _ aaH aba abb cO (pv 1) (@aa _ _ _ _ _ (@aE _ _ _ _ _ _ _ ix_tup (pv 3) af (fun _ _=>rfl)) ae (by rfl)) (by rfl) (by rfl) (by rfl) (by rfl) (by rfl)) (by rfl)))) (@ai _ _ _ (@av _ _ _ _ dc)))))))) (@ai _ _ _ (@av _ _ _ _ (rY (pv 1))))))),?_⟩;refine ⟨_,rfl,(by show 1≤sizeLine;decide),fun p hp=>?_⟩;refine ⟨fun m σ H'=>∃ (n:Nat) (ws:List Wy) (vs:List V) (part:Option V),σ=[some v,some (.ref p),some (.int n),part]∧H' p=some (.lst vs)∧WyAll H' ws vs∧Same H H'∧n+fM ws≤9∧m=dN ws,?_,?_⟩
  · exact ⟨_,0,[wy],[v],_,rfl,upd_same,.cons (hw.mono (Tups.of (Same.new hp _))) .nil,Same.new hp _,by simpa [fM] using h9,rfl⟩
  rintro m σ H' ⟨n,ws,vs,part,rfl,hH,hall,hS,hn,rfl⟩;by_cases ne:vs=[]
  · subst ne;refine ⟨_,rfl,false,.inl ⟨[],SqL.of hH,rfl⟩,aC (aC ?_)⟩;exact ⟨_,rfl,false,.inl ⟨[],SqL.of hH,rfl⟩,q H' hS⟩
  obtain ⟨ws',w',vs',v',rfl,rfl,hall',hw'⟩:=hall.last ne;have hl:=hall.length;have hle:=cL (ws'++[w']);rw [fq] at hn hle;have hlen:((n:Int)+((vs'++[v']).length:Nat)≤9):=by lia
  refine ⟨_,rfl,true,.inl ⟨_,SqL.of hH,by simp⟩,aI ⟨_,rfl,_,rfl,p,_,rfl,.inl (SqL.of hH),_,_,rfl,rfl,_,_,rfl,rfl,true,congrArg V.bl (decide_eq_true hlen),aI ⟨fun σ' H'=>∃ m',m' < dN (ws'++[w'])∧_,fun _ _ h=>h,?_⟩⟩⟩;refine ⟨_,rfl,.inl ⟨rfl,_,SqL.of hH⟩,p,_,v',rfl,rfl,hH,jW _ _,?_⟩;rw [pA];have hT:Tups H' (upd H' p (.lst vs')):=fun b xs z=>by rw [aq (fun e=>by rw [e,hH] at z;cases z)];exact z
  have hp0:H p=none:=hp;have hS2:Same H (upd H' p (.lst vs')):=hS.upd hp0;rw [eF];cases w' with
  | num i =>
    cases hw';refine ⟨_,rfl,_,"int",rfl,.int i,true,rfl,aI ⟨_,rfl,_,_,rfl,rfl,?_⟩⟩;refine ⟨dN ws',acy _,n+1,ws',vs',_,rfl,upd_same,hall'.mono hT,hS2,?_,rfl⟩;have : n+(fM ws'+1)≤9:=hn;lia
  | node g l r =>
    obtain ⟨a,vl,vr,rfl,ha,hl',hr'⟩:=hw';have ha2:upd H' p (.lst vs') a=some (.tup [.str g.str,vl,vr]):=hT _ _ ha;refine ⟨_,rfl,_,"tuple",rfl,.tup ha2,false,rfl,aC ?_⟩;refine ⟨_,rfl,_,_,true,rfl,.tup ha2,rfl,true,rfl,aI ⟨_,rfl,a,_,rfl,.inr (SqT.of ha2),rfl,_,rfl,aI ?_⟩⟩;refine ⟨_,rfl,a,_,_,_,rfl,rfl,SqT.of ha2,rfl,_,rfl,true,congrArg V.bl (qM g),aI ?_⟩;have hsz:vs'.length≤9:=by
      have:=hall'.length;have z:=cL ws';lia
    refine ⟨_,rfl,.inl ⟨rfl,_,SqL.of upd_same⟩,_,rfl,a,_,_,_,rfl,rfl,SqT.of ha2,rfl,p,_,_,rfl,rfl,upd_same,(ay (by lia)),?_⟩;have hT2:Tups (upd H' p (.lst vs')) (upd (upd H' p (.lst vs')) p (.lst (vs'++[vl]))):=fun b xs z=>by rw [aq (fun e=>by rw [e,upd_same] at z;cases z)];exact z
    refine ⟨_,rfl,.inl ⟨rfl,_,SqL.of upd_same⟩,_,rfl,a,_,_,_,rfl,rfl,SqT.of (hT2 _ _ ha2),rfl,p,_,_,rfl,rfl,upd_same,(ay (by rw [aah,abo];lia)),?_⟩;have hT3:Tups (upd (upd H' p (.lst vs')) p (.lst (vs'++[vl]))) (upd (upd (upd H' p (.lst vs')) p (.lst (vs'++[vl]))) p (.lst (vs'++[vl]++[vr]))):=fun b xs z=>by rw [aq (fun e=>by rw [e,upd_same] at z;cases z)];exact z
    have hTT:=(hT.trans hT2).trans hT3;refine ⟨dN (ws'++[l]++[r]),?_,n,ws'++[l]++[r],vs'++[vl]++[vr],_,rfl,upd_same,((hall'.mono hTT).snoc (hl'.mono hTT)).snoc (hr'.mono hTT),(hS2.upd hp0).upd hp0,?_,rfl⟩
    · rw [eF,eF];show dN ws'+l.knots+r.knots < dN ws'+(l.knots+r.knots+1);lia
    · rw [fq,fq];have : n+(fM ws'+(l.size+r.size))≤9:=hn;lia
def gh:Sp:=fun vs H Q _=>∃ w v,vs=[v]∧WyIn H w v∧w.size≤9∧∀ H',Same H H'→Q .non H'
abbrev fv:Stmt:=top 21
theorem kA:FnScope ["thing"] ["thing"] (am fv):=⟨rfl,rfl,rfl,by decide +kernel,rfl,by decide +kernel,by decide +kernel⟩
theorem kW (F:Fun K "need_way" "need_way" fv f fd) (C_is_way:Cal P w K mg base "is_way" 2 ["thing"] jJ):FnOk P w K mg base CX0 3 f fd ["thing"] gh:=by
  refine F.ok kA (fun vs H Q E h=>?_) (fun cdv A outer s H vs Q E hr h=>?_)
  · obtain ⟨x,v,rfl,_⟩:=h;rfl
  obtain ⟨wy,v,rfl,hw,h9,q⟩:=h;refine ⟨_,(@ai _ _ _ (@br _ _ _ _ _ _ _ _ (@bQ _ _ _ _ (@bf _ _ _ (@ak _ _ _ _ _ _ _ _ _ _ _ C_is_way hr (by lia) rfl (@aa _ _ _ _ _ (pv 0) ae (by rfl)) (by decide) (by rfl) (by rfl)) (by intro _;rfl))) (@ai _ _ _ p_) aV)),?_⟩;exact ⟨_,rfl,wy,v,rfl,hw,h9,fun H' hS=>⟨true,rfl,aC (q H' hS)⟩⟩
def Wy.nums:Wy→List Int
  | .num i=>[i]
  | .node _ l r=>l.nums++r.nums
theorem Wy.nums_len:∀ w:Wy,w.nums.length=w.size
  | .num _=>rfl
  | .node _ l r=>by show (l.nums++r.nums).length=l.size+r.size;rw [aah,l.nums_len,r.nums_len]
def Wy.deep:Wy→Nat
  | .num _=>1
  | .node _ l r=>max l.deep r.deep+1
theorem Wy.deep_le:∀ w:Wy,w.deep≤w.size
  | .num _=>aab _
  | .node _ l r=>by have a:=l.deep_le;have b:=r.deep_le;have c:=l.size_pos;have d:=r.size_pos;show max l.deep r.deep+1≤l.size+r.size;lia
def jH (n:Nat):Sp:=fun vs H Q _=>∃ w v,vs=[v]∧WyIn H w v∧w.size≤20∧w.deep≤n∧∀ p H',Same H H'→H p=none→H' p=some (.lst (w.nums.map V.int))→Q (.ref p) H'
abbrev cU:Stmt:=top 23
theorem bT:FnScope ["way","sign","left","right"] ["way"] (am cU):=⟨rfl,rfl,rfl,by decide +kernel,rfl,by decide +kernel,by decide +kernel⟩
theorem g9 (F:Fun K "list_numbers" "list_numbers" cU f fd) (bF:Binds K fd ["way"] []) (mF:mg "list_numbers" = some (.ref f)) (C_is_whole:Cal P w K mg base "is_whole" 1 ["thing"] (cA K)) :
    ∀ n,FnOk P w K mg base CX0 (n+1) f fd ["way"] (jH n):=by
  intro n
  induction n with
  | zero =>
    refine ⟨fun vs H Q E h=>?_,fun A outer s H args us vs Q E _ _ _ _ h=>?_⟩
    · obtain ⟨x,v,rfl,_⟩:=h;rfl
    · obtain ⟨wy,v,_,_,_,hd,_⟩:=h;cases wy <;> exact absurd hd (by simp [Wy.deep])
  | succ n ih =>
    have C_list_numbers:Cal P w K mg base "list_numbers" (n+1) ["way"] (jH n):=⟨f,fd,ih,bF,F.kp,mF⟩
    refine F.ok bT (fun vs H Q E h=>?_) (fun cdv A outer s H vs Q E hr h=>?_)
    · obtain ⟨x,v,rfl,_⟩:=h;rfl
    obtain ⟨wy,v,rfl,hw,h20,hd,q⟩:=h;refine ⟨_,(@ag _ _ _ _ _ (@br _ _ _ _ _ _ _ _ (@bf _ _ _ (@ak _ _ _ _ _ _ _ _ _ _ _ C_is_whole hr (by lia) rfl (@aa _ _ _ _ _ (pv 0) ae (by rfl)) (by decide) (by rfl) (by rfl)) (by intro _;rfl)) (@ai _ _ _ (@av _ _ _ _ (@aw _ _ _ _ (@aa _ _ _ _ _ (pv 0) ae (by rfl))))) aV) (@ag _ _ _ _ _ (@io _ _ _ _ _ _ (pv 0) (@pg_tup _ _ _ _ _ _ rfl (@a9 _ _ _ _ _ (@aB _ _ (1) _ (bT).nd rfl (Or.inl rfl) (.inl rfl)) (@a9 _ _ _ _ _ (@aB _ _ (2) _ (bT).nd rfl (Or.inl rfl) (.inl rfl)) (@a9 _ _ _ _ _ (@aB _ _ (3) _ (bT).nd rfl (Or.inl rfl) (.inl rfl)) dI (by rfl)) (by rfl)) (by rfl)) (by rfl) (by rfl)) (by rfl) (by rfl) (by rfl)) (@ai _ _ _ (@av _ _ _ _ (@ar _ _ _ _ _ _ _ _ bo (@ak _ _ _ _ _ _ _ _ _ _ _ C_list_numbers hr (by lia) rfl (@aa _ _ _ _ _ (pv 2) ae (by rfl)) (by decide) (by rfl) (by rfl)) (@ak _ _ _ _ _ _ _ _ _ _ _ C_list_numbers hr (by lia) rfl (@aa _ _ _ _ _ (pv 3) ae (by rfl)) (by decide) (by rfl) (by rfl))))))),?_⟩;cases wy with
    | num i =>
      cases hw;refine ⟨_,rfl,_,"int",rfl,.int i,true,rfl,aI ⟨_,rfl,(by show 1≤sizeLine;decide),fun p hp=>?_⟩⟩;exact q p _ (Same.new hp _) hp upd_same
    | node g l r =>
      obtain ⟨a,vl,vr,rfl,ha,hl,hr'⟩:=hw;refine ⟨_,rfl,_,"tuple",rfl,.tup ha,false,rfl,aC ?_⟩;have d:max l.deep r.deep+1≤n+1:=hd;have z:l.size+r.size≤20:=h20;have zl:=l.size_pos;have zr:=r.size_pos;refine ⟨_,rfl,a,_,rfl,SqT.of ha,rfl,_,_,rfl,_,_,rfl,_,_,rfl,rfl,?_⟩;refine ⟨_,rfl,l,vl,rfl,hl,by lia,by lia,fun p H1 g1 n1 e1=>?_⟩;refine ⟨_,rfl,r,vr,rfl,hr'.mono (Tups.of g1),by lia,by lia,fun p2 H2 g2 n2 e2=>?_⟩;refine ⟨p,p2,_,_,rfl,rfl,g2 _ _ e1,e2,aK (by rw [aac,aac,l.nums_len,r.nums_len];lia),fun p3 n3=>?_⟩;refine q p3 _ ((g1.trans g2).trans (Same.new n3 _)) ((g1.trans g2).free n3) ?_;rw [upd_same];show some (HO.lst (l.nums.map V.int++r.nums.map V.int))=some (HO.lst ((l.nums++r.nums).map V.int));rw [aaO]
def Wy.sgs:Wy→List Sg
  | .num _=>[]
  | .node g l r=>l.sgs++g :: r.sgs
def ah:List Sg→Str
  | []=>""
  | g :: r=>g.str++ah r
theorem ko (x:Str):("":Str)++x=x:=by
  cases x with|mk c=>show Str.mk (#[]++c)=_;simp
theorem gg (x y z:Str):x++y++z=x++(y++z):=by
  obtain ⟨a⟩:=x;obtain ⟨b⟩:=y;obtain ⟨c⟩:=z;show Str.mk ((a++b)++c)=Str.mk (a++(b++c));rw [Array.append_assoc]
theorem ie:∀ xs ys:List Sg,ah (xs++ys)=ah xs++ah ys
  | [],ys=>(ko _).symm
  | g :: r,ys=>by show g.str++ah (r++ys)=g.str++ah r++ah ys;rw [ie r ys,gg]
theorem tI (g:Sg):g.str.length=1:=by cases g <;> rfl
theorem dC (x y:Str):(x++y).length=x.length+y.length:=by
  cases x;cases y;show (_++_:Array Nat).size=_;rw [Array.size_append];rfl
theorem ck:∀ xs:List Sg,(ah xs).length=xs.length
  | []=>rfl
  | g :: r=>by show (g.str++ah r).length=r.length+1;rw [dC,tI,ck r];lia
theorem Wy.sgs_len:∀ w:Wy,w.sgs.length+1=w.size
  | .num _=>rfl
  | .node g l r=>by have a:=l.sgs_len;have b:=r.sgs_len;show (l.sgs++g :: r.sgs).length+1=l.size+r.size;rw [aah,aar];lia
end
open PySem L2
def Wel (H:Hp) (w:Addr) (M:Int):Prop:=∃ a b c,H w=some (.lst [.int a,.int b,.int c])∧0≤c∧c≤M
theorem Wel.keep {H H':Hp} {w:Addr} {M M':Int} (h:Wel H w M) (s:Same H H') (m:M≤M'):Wel H' w M':=by
  obtain ⟨a,b,c,e,h0,h1⟩:=h;exact ⟨a,b,c,s _ _ e,h0,by lia⟩
theorem Wel.more {H:Hp} {w:Addr} {M M':Int} (h:Wel H w M) (m:M≤M'):Wel H w M':=h.keep (Same.refl H) m
theorem But.free {w p:Addr} {H H':Hp} {M:Int} (b:But w H H') (h:Wel H' w M) (n:H' p=none):H p=none:=by
  cases q:H p with
  | none=>rfl
  | some o =>
    by_cases e:p=w
    · subst e;obtain ⟨_,_,_,z,_⟩:=h;rw [z] at n;cases n
    · rw [b p o e q] at n;cases n
theorem Wel.ne {w p:Addr} {H:Hp} {M:Int} (h:Wel H w M) (n:H p=none):p≠w:=fun e=>by
  subst e;obtain ⟨_,_,_,z,_⟩:=h;rw [z] at n;cases n
theorem Wel.tups {w:Addr} {H H':Hp} {M:Int} (h:Wel H w M) (b:But w H H'):Tups H H':=by
  obtain ⟨_,_,_,z,_⟩:=h;exact Tups.but b z
section
variable {P:Program} {w:World} {K:aaa} {mg:Str→Option Value} {base:Heap} {f:Addr} {fd:FuncData}
theorem lh (x m:Int) (h:0 < m):0≤x % m∧x % m < m:=⟨Int.emod_nonneg x (by lia),Int.emod_lt_of_pos x h⟩
def jI:Sp:=fun vs H Q _=>∃ cell k,vs=[.int cell,.int k]∧0≤k∧k≤1000000000∧∀ r,0≤r→Q (.int r) H
abbrev dH:Stmt:=top 33
theorem df:FnScope ["cell","k","number"] ["cell","k"] (am dH):=⟨rfl,rfl,rfl,by decide +kernel,rfl,by decide +kernel,by decide +kernel⟩
theorem qt (F:Fun K "_law_mixed" "_law_mixed" dH f fd):FnOk P w K mg base CX0 1 f fd ["cell","k"] jI:=by
  refine F.ok df (fun vs H Q E h=>?_) (fun cdv A outer s H vs Q E hr h=>?_)
  · obtain ⟨x,v,rfl,_⟩:=h;rfl
  obtain ⟨cell,k,rfl,h0,h1,q⟩:=h;refine ⟨_,(@ag _ _ _ _ _ (@au _ _ (2) _ _ _ _ (df).nd rfl (Or.inl rfl) (@ar _ _ _ _ _ _ _ _ gE (@ar _ _ _ _ _ _ _ _ bI (@ar _ _ _ _ _ _ _ _ bI (@ar _ _ _ _ _ _ _ _ gE (pv 0) af) (@ar _ _ _ _ _ _ _ _ gC (@ar _ _ _ _ _ _ _ _ gC af (pv 1)) (pv 1))) (@ar _ _ _ _ _ _ _ _ gC af (pv 1))) af) (by rfl) (by first|exact .inl rfl|exact .inr rfl|assumption)) (@ag _ _ _ _ _ (@au _ _ (2) _ _ _ _ (df).nd rfl (Or.inl rfl) (@ar _ _ _ _ _ _ _ _ gE (@ar _ _ _ _ _ _ _ _ gC (pv 2) (pv 2)) af) (by rfl) (by first|exact .inl rfl|exact .inr rfl|assumption)) (@ai _ _ _ (@av _ _ _ _ (@ar _ _ _ _ _ _ _ _ iz (@ar _ _ _ _ _ _ _ _ gE (@ar _ _ _ _ _ _ _ _ gC (pv 2) (@ar _ _ _ _ _ _ _ _ bI (pv 2) af)) af) af))))),?_⟩;refine ⟨_,rfl,_,_,rfl,rfl,(show (0:Int) < 2147483629 by decide),_,rfl,_,_,rfl,rfl,.inl ⟨by decide,by decide⟩,_,rfl,_,_,rfl,rfl,.inr ⟨by lia,by lia⟩,_,_,rfl,rfl,_,rfl,_,_,rfl,rfl,.inl ⟨by decide,by decide⟩,
    _,_,rfl,rfl,_,_,rfl,rfl,(show (0:Int) < 2147483629 by decide),?_⟩
  have hb:=lh (cell % 2147483629+1000003 * k * k+7919 * k) 2147483629 (by decide);revert hb;generalize (cell % 2147483629+1000003 * k * k+7919 * k) % 2147483629=n1;intro hb;refine ⟨_,rfl,_,rfl,_,_,rfl,rfl,.inl ⟨by lia,by lia⟩,_,_,rfl,rfl,(show (0:Int) < 2147483587 by decide),?_⟩;have hc:=lh (n1 * n1) 2147483587 (by decide);revert hc;generalize n1 * n1 % 2147483587=n2;intro hc;refine ⟨_,rfl,_,rfl,_,_,rfl,rfl,_,_,rfl,rfl,.inl ⟨by lia,by lia⟩,_,_,rfl,rfl,(show (0:Int) < 2147483563 by decide),_,_,rfl,rfl,⟨by decide,by decide⟩,?_⟩;have hd:=lh (n2 * (n2+40961)) 2147483563 (by decide);exact q _ (by lia)
def lU:Sp:=fun vs H Q _=>∃ cell,vs=[.int cell]∧∀ p a b H',Same H H'→H p=none→H' p=some (.lst [.int a,.int b,.int 0])→Q (.ref p) H'
abbrev ej:Stmt:=top 34
theorem jM:FnScope ["cell"] ["cell"] (am ej):=⟨rfl,rfl,rfl,by decide +kernel,rfl,by decide +kernel,by decide +kernel⟩
theorem se (F:Fun K "_law_well" "_law_well" ej f fd) (B:Bu K mg):FnOk P w K mg base CX0 1 f fd ["cell"] lU:=by
  refine F.ok jM (fun vs H Q E h=>?_) (fun cdv A outer s H vs Q E hr h=>?_)
  · obtain ⟨x,rfl,_⟩:=h;rfl
  obtain ⟨cell,rfl,q⟩:=h;refine ⟨_,(@ai _ _ _ (@av _ _ _ _ (@aw _ _ _ _ (@aa _ _ _ _ _ (@ar _ _ _ _ _ _ _ _ gC (pv 0) (@dy _ _ _ _ _ _ _ _ _ o6 rfl B.iint abY (@aa _ _ _ _ _ (@cE _ _ _ _ _ _ _ _ u_ (pv 0) (@ar _ _ _ _ _ _ _ _ md af af) (aJ _)) ae (by rfl)) (by decide) (by decide) (by rfl) (by rfl))) (@aa _ _ _ _ _ (pv 0) (@aa _ _ _ _ _ af ae (by rfl)) (by rfl)) (by rfl))))),?_⟩;refine ⟨_,rfl,_,rfl,_,_,rfl,rfl,⟨by decide,by decide,by decide⟩,_,_,rfl,rfl,.inr ⟨_,rfl,_,_,rfl,rfl,.inr ?_,_,rfl,(by show 3≤sizeLine;decide),fun p hp=>q p _ _ _ (Same.new hp _) hp upd_same⟩⟩;constructor <;> split <;> decide
def d_:Sp:=fun vs H Q _=>∃ w m M,vs=[.ref w,.int m]∧0 < m∧m < 2 ^ 63∧Wel H w M∧M < 1000000000∧∀ r H',0≤r→r < m→But w H H'→Wel H' w (M+1)→Q (.int r) H'
abbrev eC:Stmt:=top 35
theorem fO:FnScope ["well","many","got"] ["well","many"] (am eC):=⟨rfl,rfl,rfl,by decide +kernel,rfl,by decide +kernel,by decide +kernel⟩
theorem sj (F:Fun K "_law_draw" "_law_draw" eC f fd) (C__law_mixed:Cal P w K mg base "_law_mixed" 1 ["cell","k"] jI):FnOk P w K mg base CX0 2 f fd ["well","many"] d_:=by
  refine F.ok fO (fun vs H Q E h=>?_) (fun cdv A outer s H vs Q E hr h=>?_)
  · obtain ⟨x,m,M,rfl,_⟩:=h;rfl
  obtain ⟨wl,m,M,rfl,h0,h1,⟨a,b,c,e,c0,c1⟩,hM,q⟩:=h;refine ⟨_,(@ag _ _ _ _ _ (@br _ _ _ _ _ _ _ _ (@aD _ _ _ _ _ _ _ _ sV (@aE _ _ _ _ _ _ _ ix_list (pv 0) af (fun _ _=>rfl)) af (aJ _)) (@ag _ _ _ _ _ (@au _ _ (2) _ _ _ _ (fO).nd rfl (Or.inl rfl) (@ar _ _ _ _ _ _ _ _ gE (@aE _ _ _ _ _ _ _ ix_list (pv 0) af (fun _ _=>rfl)) (pv 1)) (by rfl) (by first|exact .inl rfl|exact .inr rfl|assumption)) (@ag _ _ _ _ _ (@io _ _ _ _ _ _ (@ar _ _ _ _ _ _ _ _ iz (@aE _ _ _ _ _ _ _ ix_list (pv 0) af (fun _ _=>rfl)) (pv 1)) (@qi _ _ _ _ _ _ _ (pv 0) af ky (by intro _;rfl)) (by rfl) (by rfl) (by rfl)) (@ai _ _ _ (@av _ _ _ _ (pv 2))))) aV) (@ag _ _ _ _ _ (@io _ _ _ _ _ _ (@ar _ _ _ _ _ _ _ _ bI (@aE _ _ _ _ _ _ _ ix_list (pv 0) af (fun _ _=>rfl)) af) (@qi _ _ _ _ _ _ _ (pv 0) af ky (by intro _;rfl)) (by rfl) (by rfl) (by rfl)) (@ai _ _ _ (@av _ _ _ _ (@ar _ _ _ _ _ _ _ _ gE (@ak _ _ _ _ _ _ _ _ _ _ _ C__law_mixed hr (by lia) rfl (@aa _ _ _ _ _ (@aE _ _ _ _ _ _ _ ix_list (pv 0) af (fun _ _=>rfl)) (@aa _ _ _ _ _ (@aE _ _ _ _ _ _ _ ix_list (pv 0) af (fun _ _=>rfl)) ae (by rfl)) (by rfl)) (by decide) (by rfl) (by rfl)) (pv 1)))))),?_⟩;refine ⟨_,rfl,wl,_,_,_,rfl,rfl,SqL.of e,rfl,_,_,rfl,rfl,_,rfl,oP (fun _=>?_) (fun _=>?_)⟩
  · refine ⟨_,rfl,wl,_,_,_,rfl,rfl,SqL.of e,rfl,_,rfl,_,_,rfl,rfl,h0,?_⟩;refine ⟨_,rfl,wl,_,_,_,rfl,rfl,SqL.of e,rfl,_,rfl,_,_,rfl,rfl,⟨h0,by lia⟩,_,rfl,wl,_,_,0,rfl,rfl,e,rfl,?_⟩;refine ⟨_,rfl,?_⟩;have z:=lh a m h0;exact q _ _ z.1 z.2 But.put ⟨_,_,_,upd_same,c0,by lia⟩
  · refine ⟨_,rfl,wl,_,_,_,rfl,rfl,SqL.of e,rfl,_,_,rfl,rfl,_,rfl,wl,_,_,2,rfl,rfl,e,rfl,?_⟩;refine ⟨_,rfl,wl,_,_,_,rfl,rfl,SqL.of upd_same,rfl,_,rfl,wl,_,_,_,rfl,rfl,SqL.of upd_same,rfl,_,_,rfl,by lia,by lia,fun r hr0=>?_⟩;refine ⟨_,rfl,_,_,rfl,rfl,h0,?_⟩;have z:=lh r m h0;exact q _ _ z.1 z.2 But.put ⟨_,_,_,upd_same,by lia,by lia⟩
def h_:Sp:=fun vs H Q _=>∃ w M,vs=[.ref w]∧Wel H w M∧M < 999999000∧∀ i H',-1000000000000 < i→i < 1000000000000→But w H H'→Wel H' w (M+7)→Q (.int i) H'
theorem at6 {a b c d e f':Int} {k:Int} (h0:0≤k) (h1:k < 6) (P:Int→Prop) (pa:P a) (pb:P b) (pc:P c) (pd:P d) (pe:P e) (pf:P f'):∃ z,atI [V.int a,.int b,.int c,.int d,.int e,.int f'] k=some (.int z)∧P z:=by
  have : k=0∨k=1∨k=2∨k=3∨k=4∨k=5:=by lia
  rcases this with rfl|rfl|rfl|rfl|rfl|rfl
  · exact ⟨a,rfl,pa⟩
  · exact ⟨b,rfl,pb⟩
  · exact ⟨c,rfl,pc⟩
  · exact ⟨d,rfl,pd⟩
  · exact ⟨e,rfl,pe⟩
  · exact ⟨f',rfl,pf⟩
theorem v7 {k:Int} (h0:0≤k) (h1:k < 10):∃ z:Int,atI [V.int 0,.int 0,.int 0,.int 1,.int 1,.int 2,.int 2,.int 3,.int 4,.int 5] k=some (.int z)∧0≤z∧z < 6:=by
  have : k=0∨k=1∨k=2∨k=3∨k=4∨k=5∨k=6∨k=7∨k=8∨k=9:=by lia
  rcases this with rfl|rfl|rfl|rfl|rfl|rfl|rfl|rfl|rfl|rfl <;> exact ⟨_,rfl,by decide,by decide⟩
abbrev dk:Stmt:=top 36
theorem cR:FnScope ["well","some"] ["well"] (am dk):=⟨rfl,rfl,rfl,by decide +kernel,rfl,by decide +kernel,by decide +kernel⟩
theorem ow (F:Fun K "_law_number" "_law_number" dk f fd) (C__law_draw:Cal P w K mg base "_law_draw" 2 ["well","many"] d_):FnOk P w K mg base CX0 3 f fd ["well"] h_:=by
  refine F.ok cR (fun vs H Q E h=>?_) (fun cdv A outer s H vs Q E hr h=>?_)
  · obtain ⟨x,M,rfl,_⟩:=h;rfl
  obtain ⟨wl,M,rfl,hw,hM,q⟩:=h;refine ⟨_,(@ag _ _ _ _ _ (@au _ _ (1) _ _ _ _ (cR).nd rfl (Or.inl rfl) (@aw _ _ _ _ (@aa _ _ _ _ _ (@ak _ _ _ _ _ _ _ _ _ _ _ C__law_draw hr (by lia) rfl (@aa _ _ _ _ _ (pv 0) (@aa _ _ _ _ _ af ae (by rfl)) (by rfl)) (by decide) (by rfl) (by rfl)) (@aa _ _ _ _ _ (@ak _ _ _ _ _ _ _ _ _ _ _ C__law_draw hr (by lia) rfl (@aa _ _ _ _ _ (pv 0) (@aa _ _ _ _ _ af ae (by rfl)) (by rfl)) (by decide) (by rfl) (by rfl)) (@aa _ _ _ _ _ (@ar _ _ _ _ _ _ _ _ cw af (@ak _ _ _ _ _ _ _ _ _ _ _ C__law_draw hr (by lia) rfl (@aa _ _ _ _ _ (pv 0) (@aa _ _ _ _ _ af ae (by rfl)) (by rfl)) (by decide) (by rfl) (by rfl))) (@aa _ _ _ _ _ (@ak _ _ _ _ _ _ _ _ _ _ _ C__law_draw hr (by lia) rfl (@aa _ _ _ _ _ (pv 0) (@aa _ _ _ _ _ (@ar _ _ _ _ _ _ _ _ md af af) ae (by rfl)) (by rfl)) (by decide) (by rfl) (by rfl)) ae (by rfl)) (by rfl)) (by rfl)) (by rfl))) (by rfl) (by first|exact .inl rfl|exact .inr rfl|assumption)) (@ag _ _ _ _ _ (@au _ _ (1) _ _ _ _ (cR).nd rfl (Or.inl rfl) (@ar _ _ _ _ _ _ _ _ bo (pv 1) (@aw _ _ _ _ (@aa _ _ _ _ _ (@ar _ _ _ _ _ _ _ _ cw af (@ak _ _ _ _ _ _ _ _ _ _ _ C__law_draw hr (by lia) rfl (@aa _ _ _ _ _ (pv 0) (@aa _ _ _ _ _ (@ar _ _ _ _ _ _ _ _ md af af) ae (by rfl)) (by rfl)) (by decide) (by rfl) (by rfl))) (@aa _ _ _ _ _ (@ak _ _ _ _ _ _ _ _ _ _ _ C__law_draw hr (by lia) rfl (@aa _ _ _ _ _ (pv 0) (@aa _ _ _ _ _ af ae (by rfl)) (by rfl)) (by decide) (by rfl) (by rfl)) ae (by rfl)) (by rfl)))) (by rfl) (by first|exact .inl rfl|exact .inr rfl|assumption)) (@ai _ _ _ (@av _ _ _ _ (@aE _ _ _ _ _ _ _ ix_list (pv 1) (@aE _ _ _ _ _ _ _ ix_list (@aw _ _ _ _ (@aa _ _ _ _ _ af (@aa _ _ _ _ _ af (@aa _ _ _ _ _ af (@aa _ _ _ _ _ af (@aa _ _ _ _ _ af (@aa _ _ _ _ _ af (@aa _ _ _ _ _ af (@aa _ _ _ _ _ af (@aa _ _ _ _ _ af (@aa _ _ _ _ _ af ae (by rfl)) (by rfl)) (by rfl)) (by rfl)) (by rfl)) (by rfl)) (by rfl)) (by rfl)) (by rfl)) (by rfl))) (@ak _ _ _ _ _ _ _ _ _ _ _ C__law_draw hr (by lia) rfl (@aa _ _ _ _ _ (pv 0) (@aa _ _ _ _ _ af ae (by rfl)) (by rfl)) (by decide) (by rfl) (by rfl)) (fun _ _=>rfl)) (fun _ _=>rfl)))))),?_⟩;refine ⟨_,rfl,wl,10,M,rfl,by decide,by decide,hw,by lia,fun r1 H1 a1 b1 g1 w1=>?_⟩;refine ⟨_,rfl,wl,4,_,rfl,by decide,by decide,w1,by lia,fun r2 H2 a2 b2 g2 w2=>?_⟩;refine ⟨_,rfl,wl,10,_,rfl,by decide,by decide,w2,by lia,fun r3 H3 a3 b3 g3 w3=>⟨_,_,rfl,rfl,?_⟩⟩;refine ⟨_,rfl,_,_,rfl,rfl,⟨by decide,by decide,by decide⟩,wl,1000000000000,_,rfl,by decide,by decide,w3,by lia,fun r4 H4 a4 b4 g4 w4=>?_⟩;refine ⟨(by show 4≤sizeLine;decide),fun p1 n1=>?_⟩;have w4':Wel (upd H4 p1 (.lst [.int r1,.int r2,.int (0 - r3),.int r4])) wl _:=w4.keep (Same.new n1 _) (aat _);refine ⟨_,rfl,_,rfl,_,_,rfl,rfl,⟨by decide,by decide,by decide⟩,wl,1000000000000,_,rfl,by decide,by decide,w4',by lia,fun r5 H5 a5 b5 g5 w5=>⟨_,_,rfl,rfl,?_⟩⟩;refine ⟨_,rfl,wl,100,_,rfl,by decide,by decide,w5,by lia,fun r6 H6 a6 b6 g6 w6=>?_⟩;refine ⟨(by show 2≤sizeLine;decide),fun p2 n2=>?_⟩;have ne1:p1≠wl:=w4.ne n1;have e1:H6 p1=some (.lst [.int r1,.int r2,.int (0 - r3),.int r4]):=g6 _ _ ne1 (g5 _ _ ne1 upd_same);have w6':Wel (upd H6 p2 (.lst [.int (0 - r5),.int r6])) wl _:=w6.keep (Same.new n2 _) (aat _);refine ⟨p1,p2,_,_,rfl,rfl,Same.new n2 _ _ _ e1,upd_same,(by show 6≤sizeLine;decide),fun p3 n3=>?_⟩;have w7:=w6'.keep (Same.new n3 (.lst ([.int r1,.int r2,.int (0 - r3),.int r4]++[.int (0 - r5),.int r6]))) (aat _);refine ⟨_,rfl,(by show 10≤sizeLine;decide),fun p4 n4=>?_⟩;have w8:=w7.keep (Same.new n4 (.lst [.int 0,.int 0,.int 0,.int 1,.int 1,.int 2,.int 2,.int 3,.int 4,.int 5])) (aat _);refine ⟨_,rfl,wl,10,_,rfl,by decide,by decide,w8,by lia,fun r7 H7 a7 b7 g7 w9=>?_⟩;have ne3:p3≠wl:=w6'.ne n3;have ne4:p4≠wl:=w7.ne n4;obtain ⟨z,hz,z0,z1⟩:=v7 a7 b7;refine ⟨p4,_,_,_,rfl,rfl,SqL.of (g7 _ _ ne4 upd_same),hz,?_⟩;obtain ⟨y,hy,y0,y1⟩:=at6 (a:=r1) (b:=r2) (c:=0 - r3) (d:=r4) (e:=0 - r5) (f':=r6) z0 z1 (fun i=>-1000000000000 < i∧i < 1000000000000) (by lia) (by lia) (by lia) (by lia) (by lia) (by lia);refine ⟨p3,_,_,_,rfl,rfl,SqL.of (g7 _ _ ne3 (Same.new n4 _ _ _ upd_same)),hy,?_⟩;refine q y H7 y0 y1 ?_ (w9.more (by lia));exact ((((((((((g1.trans g2).trans g3).trans g4).trans (But.new n1 _)).trans g5).trans g6).trans (But.new n2 _)).trans (But.new n3 _)).trans (But.new n4 _)).trans g7)
open PySem L2
def jB (ns:List Int):Prop:=∀ i∈ns,-1000000000000 < i∧i < 1000000000000
def pN:Sp:=fun vs H Q _=>∃ w n M,vs=[.ref w,.int n]∧0≤n∧n≤20∧Wel H w M∧M < 999990000 ∧
  ∀ p ns H',But w H H'→Wel H' w (M+200)→H p=none→H' p=some (.lst (ns.map V.int))→(ns.length:Int)=n→jB ns→Q (.ref p) H'
abbrev fC:Stmt:=top 37
theorem kF:FnScope ["well","many"] ["well","many"] (am fC):=⟨rfl,rfl,rfl,by decide +kernel,rfl,by decide +kernel,by decide +kernel⟩
theorem rP (i:Int) (k:Nat):(aaB k [V.int i]).flatten=(aaB k i).map V.int:=by
  induction k with
  | zero=>rfl
  | succ k ih=>rw [abn,abw,ih];rfl
theorem ue (F:Fun K "_law_row" "_law_row" fC f fd) (B:Bu K mg) (C__law_draw:Cal P w K mg base "_law_draw" 2 ["well","many"] d_) (C__law_number:Cal P w K mg base "_law_number" 3 ["well"] h_) :
    FnOk P w K mg base CX0 4 f fd ["well","many"] pN:=by
  refine F.ok kF (fun vs H Q E h=>?_) (fun cdv A outer s H vs Q E hr h=>?_)
  · obtain ⟨x,m,M,rfl,_⟩:=h;rfl
  obtain ⟨wl,n,M,rfl,h0,h1,hw,hM,q⟩:=h;refine ⟨_,(@ag _ _ _ _ _ (@br _ _ _ _ _ _ _ _ (@aD _ _ _ _ _ _ _ _ fg (@ak _ _ _ _ _ _ _ _ _ _ _ C__law_draw hr (by lia) rfl (@aa _ _ _ _ _ (pv 0) (@aa _ _ _ _ _ af ae (by rfl)) (by rfl)) (by decide) (by rfl) (by rfl)) af (aJ _)) (@ai _ _ _ (@av _ _ _ _ (@ar _ _ _ _ _ _ _ _ qp (@aw _ _ _ _ (@aa _ _ _ _ _ (@ak _ _ _ _ _ _ _ _ _ _ _ C__law_number hr (by lia) rfl (@aa _ _ _ _ _ (pv 0) ae (by rfl)) (by decide) (by rfl) (by rfl)) ae (by rfl))) (pv 1)))) aV) (@ai _ _ _ (@av _ _ _ _ (@dU _ _ _ _ _ _ _ _ (["k","well"]) ([none,some 0]) _ _ _ _ rfl (@eP _ _ _ _ _ _ rfl B.irange (@aa _ _ _ _ _ (pv 1) ae (by rfl)) (by rfl)) rfl ⟨rfl,trivial⟩ ⟨⟨rfl,Or.inl rfl,Or.inl rfl⟩,trivial⟩ (fun _ _ _ _=>⟨(@aB _ _ (0) _ (show abl (["k","well"]:List Str) by decide +kernel) rfl (Or.inl rfl) (.inr rfl)),b_,(@ak _ _ _ _ _ _ _ _ _ _ _ C__law_number hr (by lia) rfl (@aa _ _ _ _ _ (pv 1) ae (by rfl)) (by decide) (by rfl) (by rfl))⟩) (by rfl) (by rfl) (by rfl) (by rfl) (by intro _;rfl))))),?_⟩;refine ⟨_,rfl,wl,8,M,rfl,by decide,by decide,hw,by lia,fun r1 H1 a1 b1 g1 w1=>⟨rfl,_,rfl,oP (fun _=>?_) (fun _=>?_)⟩⟩
  · refine ⟨_,rfl,wl,_,rfl,w1,by lia,fun i H2 i0 i1 g2 w2=>⟨(by show 1≤sizeLine;decide),fun p1 n1=>?_⟩⟩;refine ⟨_,rfl,p1,n,_,rfl,rfl,upd_same,by lia,by lia,aK (by show 1 * n.toNat≤1000;lia),fun p2 n2=>?_⟩;have w3:=w2.keep (Same.new n1 (.lst [.int i])) (aat _);have w4:=w3.keep (Same.new n2 (.lst (aaB n.toNat [V.int i]).flatten)) (aat _);refine q p2 (aaB n.toNat i) _ (((g1.trans g2).trans (But.new n1 _)).trans (But.new n2 _)) (w4.more (by lia)) (But.free ((g1.trans g2).trans (But.new n1 (.lst [.int i]))) w3 n2) ?_ (by rw [acu];lia) ?_
    · rw [upd_same,rP]
    · intro z hz;rw [List.eq_of_mem_replicate hz];exact ⟨i0,i1⟩
  · refine ⟨_,rfl,n,rfl,by lia,by lia,?_⟩;refine ⟨fun i m ys H'=>i≤n.toNat∧m=n.toNat - i∧∃ ns:List Int,ys=ns.map V.int∧ns.length=i∧jB ns∧But wl H H'∧Wel H' wl (M+1+7 * i),⟨_,aaT _,rfl,[],rfl,rfl,(fun _ z=>nomatch z),g1,w1.more (by lia)⟩,?_⟩;rintro i m ys H' ⟨hi,rfl,ns,rfl,hl,hs,hb,hw'⟩;by_cases hlt:i < n.toNat
    · refine .inr ⟨hlt,ay (by rw [aac];lia),fun x H2 y=>?_⟩;obtain ⟨rfl,rfl⟩:=y;refine ⟨_,rfl,wl,_,rfl,hw',by lia,fun z H3 z0 z1 g3 w3=>?_⟩;refine ⟨n.toNat - (i+1),by lia,hlt,rfl,ns++[z],by rw [aaO];rfl,by rw [aah,abo,hl],?_,hb.trans g3,w3.more (by lia)⟩;intro u hu;rcases aaz.mp hu with hu|hu
      · exact hs u hu
      · rw [aaG.mp hu];exact ⟨z0,z1⟩
    · refine .inl ⟨Nat.not_lt.mp hlt,fun p hp=>?_⟩;refine q p ns _ (hb.trans (But.new hp _)) ((hw'.keep (Same.new hp _) (aat _)).more (by lia)) (But.free hb hw' hp) upd_same (by lia) hs
theorem lT (x y:Str):(x++y).cps.toList=x.cps.toList++y.cps.toList:=by
  obtain ⟨a⟩:=x;obtain ⟨b⟩:=y;show (a++b).toList=_;rw [abP]
def Sg.code:Sg→Nat
  | .plus=>43
  | .minus=>45
  | .times=>42
theorem c_ (g:Sg):g.str=⟨#[g.code]⟩:=by cases g <;> rfl
theorem fN:∀ gs:List Sg,(ah gs).cps.toList=gs.map Sg.code
  | []=>rfl
  | g :: r=>by
    show (g.str++ah r).cps.toList=g.code :: r.map Sg.code;rw [lT,fN r,c_];rfl
theorem vA {gs:List Sg} {k:Int} (h0:0≤k) (h1:k < (gs.length:Nat)):∃ g:Sg,atI (ah gs).cps.toList k=some g.code∧g∈gs:=by
  obtain ⟨j,rfl⟩:=ach h0;have hj:j < gs.length:=by lia
  refine ⟨gs[j],eY ?_,ab6 hj⟩;rw [fN,aaU,aaj hj];rfl
def Wy.within (gs:List Sg):Wy→Prop
  | .num _=>True
  | .node g l r=>g∈gs∧l.within gs∧r.within gs
def mX (n:Nat):Sp:=fun vs H Q _=>∃ w r gs ns M,vs=[.ref w,.ref r,.str (ah gs)]∧H r=some (.lst (ns.map V.int))∧r≠w∧1≤ns.length∧ns.length≤n∧n≤20∧1≤gs.length∧gs.length≤3∧Wel H w M∧M+4 * ns.length - 4 < 999999000 ∧
  ∀ v wy H',WyIn H' wy v→wy.nums=ns→wy.within gs→But w H H'→Wel H' w (M+4 * ns.length - 4)→Q v H'
theorem at3 {a b c:Int} {k:Int} (h0:0≤k) (h1:k < 3) (P:Int→Prop) (pa:P a) (pb:P b) (pc:P c):∃ z,atI [V.int a,.int b,.int c] k=some (.int z)∧P z:=by
  have : k=0∨k=1∨k=2:=by lia
  rcases this with rfl|rfl|rfl
  · exact ⟨a,rfl,pa⟩
  · exact ⟨b,rfl,pb⟩
  · exact ⟨c,rfl,pc⟩
theorem rf (ns:List Int) (c:Nat) (h:c≤ns.length):d7 (ns.map V.int) none (some (c:Int))=(ns.take c).map V.int:=by
  have hl:(ns.map V.int).length=ns.length:=aac _;have e0:HT.sIx ns.length 0 none=0:=by simp [HT.sIx]
  have e1:HT.sIx ns.length ns.length (some (c:Int))=c:=by
    simp only [HT.sIx];split <;> lia
  unfold d7;rw [hl,e0,e1,ab5,List.map_take];rfl
theorem rg (ns:List Int) (c:Nat) (h:c≤ns.length):d7 (ns.map V.int) (some (c:Int)) none=(ns.drop c).map V.int:=by
  have hl:(ns.map V.int).length=ns.length:=aac _;have e0:HT.sIx ns.length ns.length none=ns.length:=by simp [HT.sIx]
  have e1:HT.sIx ns.length 0 (some (c:Int))=c:=by
    simp only [HT.sIx];split <;> lia
  unfold d7;rw [hl,e0,e1,List.map_drop,aao (by rw [aaI,hl];exact aab _)]
abbrev fB:Stmt:=top 39
theorem eh:FnScope ["well","row","signs","cut","sign"] ["well","row","signs"] (am fB):=⟨rfl,rfl,rfl,by decide +kernel,rfl,by decide +kernel,by decide +kernel⟩
theorem uc (F:Fun K "_law_way" "_law_way" fB f fd) (bF:Binds K fd ["well","row","signs"] []) (mF:mg "_law_way" = some (.ref f)) (B:Bu K mg) (C__law_draw:Cal P w K mg base "_law_draw" 2 ["well","many"] d_) :
    ∀ n,FnOk P w K mg base CX0 (n+2) f fd ["well","row","signs"] (mX n):=by
  intro n
  induction n with
  | zero =>
    refine ⟨fun vs H Q E h=>?_,fun A outer s H args us vs Q E _ _ _ _ h=>?_⟩
    · obtain ⟨x,r,gs,ns,M,rfl,_⟩:=h;rfl
    · obtain ⟨x,r,gs,ns,M,_,_,_,h1,h2,_⟩:=h;lia
  | succ n ih =>
    have C__law_way:Cal P w K mg base "_law_way" (n+2) ["well","row","signs"] (mX n):=⟨f,fd,ih,bF,F.kp,mF⟩
    refine F.ok eh (fun vs H Q E h=>?_) (fun cdv A outer s H vs Q E hr h=>?_)
    · obtain ⟨x,r,gs,ns,M,rfl,_⟩:=h;rfl
    obtain ⟨wl,r,gs,ns,M,rfl,er,nr,h1,h2,h20,g1,g3,hw,hM,q⟩:=h;refine ⟨_,(@ag _ _ _ _ _ (@br _ _ _ _ _ _ _ _ (@aD _ _ _ _ _ _ _ _ fg (@aj _ _ _ _ _ _ _ _ _ ax rfl B.ilen aaE (@aa _ _ _ _ _ (pv 1) ae (by rfl)) (by decide) (by decide) (by rfl) (by rfl)) af (aJ _)) (@ai _ _ _ (@av _ _ _ _ (@aE _ _ _ _ _ _ _ ix_list (pv 1) af (fun _ _=>rfl)))) aV) (@ag _ _ _ _ _ (@au _ _ (3) _ _ _ _ (eh).nd rfl (Or.inl rfl) (@aE _ _ _ _ _ _ _ ix_list (@aw _ _ _ _ (@aa _ _ _ _ _ (@ar _ _ _ _ _ _ _ _ bI af (@ak _ _ _ _ _ _ _ _ _ _ _ C__law_draw hr (by lia) rfl (@aa _ _ _ _ _ (pv 0) (@aa _ _ _ _ _ (@ar _ _ _ _ _ _ _ _ cw (@aj _ _ _ _ _ _ _ _ _ ax rfl B.ilen aaE (@aa _ _ _ _ _ (pv 1) ae (by rfl)) (by decide) (by decide) (by rfl) (by rfl)) af) ae (by rfl)) (by rfl)) (by decide) (by rfl) (by rfl))) (@aa _ _ _ _ _ af (@aa _ _ _ _ _ (@ar _ _ _ _ _ _ _ _ cw (@aj _ _ _ _ _ _ _ _ _ ax rfl B.ilen aaE (@aa _ _ _ _ _ (pv 1) ae (by rfl)) (by decide) (by decide) (by rfl) (by rfl)) af) ae (by rfl)) (by rfl)) (by rfl))) (@ar _ _ _ _ _ _ _ _ iz (@ak _ _ _ _ _ _ _ _ _ _ _ C__law_draw hr (by lia) rfl (@aa _ _ _ _ _ (pv 0) (@aa _ _ _ _ _ af ae (by rfl)) (by rfl)) (by decide) (by rfl) (by rfl)) af) (fun _ _=>rfl)) (by rfl) (by first|exact .inl rfl|exact .inr rfl|assumption)) (@ag _ _ _ _ _ (@au _ _ (4) _ _ _ _ (eh).nd rfl (Or.inl rfl) (@aE _ _ _ _ _ _ _ jY (pv 2) (@ak _ _ _ _ _ _ _ _ _ _ _ C__law_draw hr (by lia) rfl (@aa _ _ _ _ _ (pv 0) (@aa _ _ _ _ _ (@aj _ _ _ _ _ _ _ _ _ dQ rfl B.ilen aaE (@aa _ _ _ _ _ (pv 2) ae (by rfl)) (by decide) (by decide) (by rfl) (by rfl)) ae (by rfl)) (by rfl)) (by decide) (by rfl) (by rfl)) (fun _ _=>rfl)) (by rfl) (by first|exact .inl rfl|exact .inr rfl|assumption)) (@ai _ _ _ (@av _ _ _ _ (@aX _ _ _ _ _ (@aa _ _ _ _ _ (pv 4) (@aa _ _ _ _ _ (@ak _ _ _ _ _ _ _ _ _ _ _ C__law_way hr (by lia) rfl (@aa _ _ _ _ _ (pv 0) (@aa _ _ _ _ _ (@bu _ _ _ _ _ _ _ _ _ _ bS (pv 1) bE (@bD _ _ _ (pv 3))) (@aa _ _ _ _ _ (pv 2) ae (by rfl)) (by rfl)) (by rfl)) (by decide) (by rfl) (by rfl)) (@aa _ _ _ _ _ (@ak _ _ _ _ _ _ _ _ _ _ _ C__law_way hr (by lia) rfl (@aa _ _ _ _ _ (pv 0) (@aa _ _ _ _ _ (@bu _ _ _ _ _ _ _ _ _ _ bS (pv 1) (@bD _ _ _ (pv 3)) bE) (@aa _ _ _ _ _ (pv 2) ae (by rfl)) (by rfl)) (by rfl)) (by decide) (by rfl) (by rfl)) ae (by rfl)) (by rfl)) (by rfl)))))))),?_⟩;have hl:(ns.map V.int).length=ns.length:=aac _;refine ⟨_,rfl,r,_,rfl,.inl (SqL.of er),rfl,_,rfl,oP (fun c=>?_) (fun c=>?_)⟩
    · have c':V.int (((ns.map V.int).length:Nat):Int)=V.int 1:=of_decide_eq_true c;have c2:(((ns.map V.int).length:Nat):Int)=1:=by injection c'
      rw [hl] at c2
      match ns,c2,er,q with
      | [i],_,er,q =>
        exact ⟨_,rfl,r,_,_,_,rfl,rfl,SqL.of er,rfl,q _ (.num i) H rfl rfl trivial But.refl (hw.more (by show M≤M+4 * ((1:Nat):Int) - 4;lia))⟩
    have c2:ns.length≠1:=fun e=>c (by rw [hl,e];rfl);refine ⟨_,rfl,_,rfl,r,_,rfl,.inl (SqL.of er),_,_,rfl,rfl,wl,((ns.map V.int).length:Int) - 1,M,rfl,by rw [hl];lia,by rw [hl];lia,hw,by lia,fun r1 H1 a1 b1 k1 w1=>?_⟩;rw [hl] at b1;have er1:=k1 _ _ nr er;refine ⟨_,_,rfl,rfl,_,rfl,r,_,rfl,.inl (SqL.of er1),_,_,rfl,rfl,(by show 3≤sizeLine;decide),fun p1 n1=>?_⟩;have w1':=w1.keep (Same.new n1 (.lst [.int (1+r1),.int 1,.int (((ns.map V.int).length:Int) - 1)])) (aat _);refine ⟨_,rfl,wl,5,_,rfl,by decide,by decide,w1',by lia,fun r2 H2 a2 b2 k2 w2=>?_⟩;have z2:0≤r2 / 2∧r2 / 2 < 3:=by lia
    obtain ⟨cut,hc,c0,c1⟩:=at3 (a:=1+r1) (b:=1) (c:=((ns.map V.int).length:Int) - 1) z2.1 z2.2 (fun i=>1≤i∧i < (ns.length:Int)) (by lia) (by lia) (by rw [hl];lia);have ne1:p1≠wl:=w1.ne n1;refine ⟨_,_,rfl,rfl,⟨by decide,by decide⟩,p1,_,_,_,rfl,rfl,SqL.of (k2 _ _ ne1 upd_same),hc,?_⟩;have hgl:=ck gs;refine ⟨_,rfl,_,rfl,_,rfl,_,rfl,aK (by lia),wl,((ah gs).length:Int),_,rfl,by lia,by lia,w2,by lia,fun r3 H3 a3 b3 k3 w3=>?_⟩;obtain ⟨g,hg,gm⟩:=vA (gs:=gs) a3 (by lia);refine ⟨_,_,_,rfl,rfl,aK (by lia),hg,?_⟩;obtain ⟨cn,rfl⟩:=ach (show 0≤cut by lia);have hcl:cn≤ns.length:=by lia
    have kk:But wl H H3:=((k1.trans (But.new n1 _)).trans k2).trans k3;have er3:=kk _ _ nr er;refine ⟨_,rfl,_,rfl,_,rfl,_,rfl,cn,rfl,r,_,rfl,SqL.of er3,fun p2 n2=>?_⟩;rw [rf ns cn hcl];have lt:(ns.take cn).length=cn:=by rw [aax];lia
    have ld:(ns.drop cn).length=ns.length - cn:=by rw [aaI]
    have w4:=w3.keep (Same.new n2 (.lst ((ns.take cn).map V.int))) (aat _);refine ⟨_,rfl,wl,p2,gs,ns.take cn,_,rfl,upd_same,w3.ne n2,by lia,by lia,by lia,g1,g3,w4,by lia,fun vl wyl H4 i4 e4 t4 k4 w5=>?_⟩;have kk4:But wl H H4:=(kk.trans (But.new n2 _)).trans k4;have er4:=kk4 _ _ nr er;refine ⟨_,rfl,_,rfl,_,rfl,cn,rfl,r,_,rfl,SqL.of er4,fun p3 n3=>?_⟩;rw [rg ns cn hcl];have w6:=w5.keep (Same.new n3 (.lst ((ns.drop cn).map V.int))) (aat _);refine ⟨_,rfl,wl,p3,gs,ns.drop cn,_,rfl,upd_same,w5.ne n3,by lia,by lia,by lia,g1,g3,w6,by lia,fun vr wyr H5 i5 e5 t5 k5 w7=>?_⟩;refine ⟨(by show 3≤sizeLine;decide),fun p4 n4=>?_⟩;have T45:Tups H4 H5:=(Tups.of (Same.new n3 _)).trans (w6.tups k5);have T5:Tups H5 (upd H5 p4 (.tup [.str ⟨#[g.code]⟩,vl,vr])):=Tups.of (Same.new n4 _);refine q _ (.node g wyl wyr) _ ⟨p4,vl,vr,rfl,?_,i4.mono (T45.trans T5),i5.mono T5⟩ ?_ ⟨gm,t4,t5⟩ (((kk4.trans (But.new n3 _)).trans k5).trans (But.new n4 _)) ?_
    · rw [upd_same,c_]
    · show wyl.nums++wyr.nums=ns;rw [e4,e5,acv]
    · refine (w7.keep (Same.new n4 _) (aat _)).more ?_;lia
end
open PySem L2
def Wy.strs:Wy→Int→List (Int × Int)
  | .num _,_=>[]
  | .node _ l r,f=>(f,f+l.size+r.size - 1) :: l.strs f++r.strs (f+l.size)
theorem Wy.strs_len:∀ (w:Wy) (f:Int),(w.strs f).length+1=w.size
  | .num _,_=>rfl
  | .node _ l r,f=>by
    have a:=l.strs_len f;have b:=r.strs_len (f+l.size);show ((f,f+l.size+r.size - 1) :: l.strs f++r.strs (f+l.size)).length+1=l.size+r.size;rw [aah,aar];lia
theorem Wy.strs_in:∀ (w:Wy) (f:Int) (p:Int × Int),p∈w.strs f→f≤p.1∧p.1 < p.2∧p.2 < f+w.size
  | .num _,_,_,h=>nomatch h
  | .node _ l r,f,p,h=>by
    have zl:=l.size_pos;have zr:=r.size_pos;have e:((l.size+r.size:Nat):Int)=l.size+r.size:=by lia
    show f≤p.1∧p.1 < p.2∧p.2 < f+((l.size+r.size:Nat):Int);have h':p∈(f,f+(l.size:Int)+r.size - 1) :: l.strs f++r.strs (f+l.size):=h;rcases aaz.mp h' with h1|h1
    · rcases aam.mp h1 with rfl|h1
      · refine ⟨aat _,?_,?_⟩ <;> (dsimp only;lia)
      · have:=l.strs_in f p h1;lia
    · have:=r.strs_in _ p h1;lia
theorem Wy.strs_nodup:∀ (w:Wy) (f:Int),(w.strs f).Nodup
  | .num _,_=>List.nodup_nil
  | .node _ l r,f=>by
    have zl:=l.size_pos;have zr:=r.size_pos;show ((f,f+(l.size:Int)+r.size - 1) :: l.strs f++r.strs (f+l.size)).Nodup;refine List.nodup_append.mpr ⟨List.nodup_cons.mpr ⟨fun h=>?_,l.strs_nodup f⟩,r.strs_nodup _,fun p hp q hq e=>?_⟩
    · have:=l.strs_in f _ h;dsimp only at this;lia
    · subst e;have b:=r.strs_in _ p hq;rcases aam.mp hp with rfl|hp
      · dsimp only at b;lia
      · have:=l.strs_in f p hp;lia
theorem Wy.strs_fine (w:Wy) (f:Int) (h0:0≤f) (h1:f+w.size < 1000):vE (w.strs f) :=
  ⟨fun p hp=>by have:=w.strs_in f p hp;lia,w.strs_nodup f⟩
theorem PairsIn.mono {H H':Hp} (t:Tups H H'):∀ {ps:List (Int × Int)} {vs:List V},PairsIn H ps vs→PairsIn H' ps vs
  | _,_,.nil=>.nil
  | _,_,.cons ⟨a,e,h⟩ b=>.cons ⟨a,e,t _ _ h⟩ (PairsIn.mono t b)
theorem PairsIn.app {H:Hp} {ps qs:List (Int × Int)} {vs us:List V} (a:PairsIn H ps vs) (b:PairsIn H qs us):PairsIn H (ps++qs) (vs++us):=by
  induction a with
  | nil=>exact b
  | cons x _ ih=>exact .cons x ih
theorem PairsIn.len {H:Hp} {ps:List (Int × Int)} {vs:List V} (a:PairsIn H ps vs):ps.length=vs.length:=abJ a
section
variable {P:Program} {w:World} {K:aaa} {mg:Str→Option Value} {base:Heap} {f:Addr} {fd:FuncData}
def mZ (n:Nat):Sp:=fun vs H Q _=>∃ (w:Wy) (v:V) (fi:Int),vs=[v,.int fi]∧WyIn H w v∧w.size≤20∧w.deep≤n∧∀ p us H',Same H H'→H p=none→H' p=some (.lst us)→PairsIn H' (w.strs fi) us→Q (.ref p) H'
abbrev cq:Stmt:=top 25
theorem a_:FnScope ["way","first","sign","left","right","cut","last"] ["way","first"] (am cq):=⟨rfl,rfl,rfl,by decide +kernel,rfl,by decide +kernel,by decide +kernel⟩
theorem fT (F:Fun K "list_stretches" "list_stretches" cq f fd) (bF:Binds K fd ["way","first"] []) (mF:mg "list_stretches" = some (.ref f)) (B:Bu K mg) (C_is_whole:Cal P w K mg base "is_whole" 1 ["thing"] (cA K))
    (C_list_numbers:Cal P w K mg base "list_numbers" 21 ["way"] (jH 20)):∀ n,FnOk P w K mg base CX0 (n+22) f fd ["way","first"] (mZ n):=by
  intro n
  induction n with
  | zero =>
    refine ⟨fun vs H Q E h=>?_,fun A outer s H args us vs Q E _ _ _ _ h=>?_⟩
    · obtain ⟨x,v,fi,rfl,_⟩:=h;rfl
    · obtain ⟨wy,v,fi,_,_,_,hd,_⟩:=h;cases wy <;> exact absurd hd (by simp [Wy.deep])
  | succ n ih =>
    have C_list_stretches:Cal P w K mg base "list_stretches" (n+22) ["way","first"] (mZ n):=⟨f,fd,ih,bF,F.kp,mF⟩
    refine F.ok a_ (fun vs H Q E h=>?_) (fun cdv A outer s H vs Q E hr h=>?_)
    · obtain ⟨x,v,fi,rfl,_⟩:=h;rfl
    obtain ⟨wy,v,fi,rfl,hw,h20,hd,q⟩:=h;refine ⟨_,(@ag _ _ _ _ _ (@br _ _ _ _ _ _ _ _ (@bf _ _ _ (@ak _ _ _ _ _ _ _ _ _ _ _ C_is_whole hr (by lia) rfl (@aa _ _ _ _ _ (pv 0) ae (by rfl)) (by decide) (by rfl) (by rfl)) (by intro _;rfl)) (@ai _ _ _ (@av _ _ _ _ (@aw _ _ _ _ ae))) aV) (@ag _ _ _ _ _ (@io _ _ _ _ _ _ (pv 0) (@pg_tup _ _ _ _ _ _ rfl (@a9 _ _ _ _ _ (@aB _ _ (2) _ (a_).nd rfl (Or.inl rfl) (.inl rfl)) (@a9 _ _ _ _ _ (@aB _ _ (3) _ (a_).nd rfl (Or.inl rfl) (.inl rfl)) (@a9 _ _ _ _ _ (@aB _ _ (4) _ (a_).nd rfl (Or.inl rfl) (.inl rfl)) dI (by rfl)) (by rfl)) (by rfl)) (by rfl) (by rfl)) (by rfl) (by rfl) (by rfl)) (@ag _ _ _ _ _ (@au _ _ (5) _ _ _ _ (a_).nd rfl (Or.inl rfl) (@ar _ _ _ _ _ _ _ _ bI (pv 1) (@aj _ _ _ _ _ _ _ _ _ ax rfl B.ilen aaE (@aa _ _ _ _ _ (@ak _ _ _ _ _ _ _ _ _ _ _ C_list_numbers hr (by lia) rfl (@aa _ _ _ _ _ (pv 3) ae (by rfl)) (by decide) (by rfl) (by rfl)) ae (by rfl)) (by decide) (by decide) (by rfl) (by rfl))) (by rfl) (by first|exact .inl rfl|exact .inr rfl|assumption)) (@ag _ _ _ _ _ (@au _ _ (6) _ _ _ _ (a_).nd rfl (Or.inl rfl) (@ar _ _ _ _ _ _ _ _ cw (@ar _ _ _ _ _ _ _ _ bI (pv 5) (@aj _ _ _ _ _ _ _ _ _ ax rfl B.ilen aaE (@aa _ _ _ _ _ (@ak _ _ _ _ _ _ _ _ _ _ _ C_list_numbers hr (by lia) rfl (@aa _ _ _ _ _ (pv 4) ae (by rfl)) (by decide) (by rfl) (by rfl)) ae (by rfl)) (by decide) (by decide) (by rfl) (by rfl))) af) (by rfl) (by first|exact .inl rfl|exact .inr rfl|assumption)) (@ai _ _ _ (@av _ _ _ _ (@ar _ _ _ _ _ _ _ _ bo (@ar _ _ _ _ _ _ _ _ bo (@aw _ _ _ _ (@aa _ _ _ _ _ (@aX _ _ _ _ _ (@aa _ _ _ _ _ (pv 1) (@aa _ _ _ _ _ (pv 6) ae (by rfl)) (by rfl))) ae (by rfl))) (@ak _ _ _ _ _ _ _ _ _ _ _ C_list_stretches hr (by lia) rfl (@aa _ _ _ _ _ (pv 3) (@aa _ _ _ _ _ (pv 1) ae (by rfl)) (by rfl)) (by decide) (by rfl) (by rfl))) (@ak _ _ _ _ _ _ _ _ _ _ _ C_list_stretches hr (by lia) rfl (@aa _ _ _ _ _ (pv 4) (@aa _ _ _ _ _ (pv 5) ae (by rfl)) (by rfl)) (by decide) (by rfl) (by rfl))))))))),?_⟩;cases wy with
    | num i =>
      cases hw;refine ⟨_,rfl,_,"int",rfl,.int i,true,rfl,aI ⟨(by show 0≤sizeLine;decide),fun p hp=>?_⟩⟩;exact q p _ _ (Same.new hp _) hp upd_same .nil
    | node g l r =>
      obtain ⟨a,vl,vr,rfl,ha,hl,hr'⟩:=hw;refine ⟨_,rfl,_,"tuple",rfl,.tup ha,false,rfl,aC ?_⟩;have d:max l.deep r.deep+1≤n+1:=hd;have z:l.size+r.size≤20:=h20;have zl:=l.size_pos;have zr:=r.size_pos;have dl:=l.deep_le;have dr:=r.deep_le;refine ⟨_,rfl,a,_,rfl,SqT.of ha,rfl,_,_,rfl,_,_,rfl,_,_,rfl,rfl,?_⟩;refine ⟨_,rfl,_,rfl,l,vl,rfl,hl,by lia,by lia,fun p1 H1 g1 n1 e1=>⟨p1,_,rfl,.inl (SqL.of e1),_,_,rfl,rfl,?_⟩⟩;refine ⟨_,rfl,_,rfl,r,vr,rfl,hr'.mono (Tups.of g1),by lia,by lia,fun p2 H2 g2 n2 e2=>⟨p2,_,rfl,.inl (SqL.of e2),_,_,rfl,rfl,_,_,rfl,rfl,?_⟩⟩;rw [aac,aac,l.nums_len,r.nums_len];refine ⟨_,rfl,_,rfl,(by show 2≤sizeLine;decide),fun p3 n3=>⟨(by show 1≤sizeLine;decide),fun p4 n4=>?_⟩⟩;have g3:=Same.new n3 (.tup [.int fi,.int (fi+(l.size:Int)+(r.size:Int) - 1)]);have g4:=Same.new n4 (.lst [.ref p3]);have G4:=((g1.trans g2).trans g3).trans g4;refine ⟨_,rfl,_,rfl,l,vl,fi,rfl,hl.mono (Tups.of G4),by lia,by lia,fun p5 us5 H5 g5 n5 e5 i5=>?_⟩;have l5:=PairsIn.len i5;have sl:=l.strs_len fi;have sr:=r.strs_len (fi+l.size);refine ⟨p4,p5,_,_,rfl,rfl,g5 _ _ upd_same,e5,aK (by show 1+us5.length≤1000;lia),fun p6 n6=>?_⟩;have g6:=Same.new n6 (.lst ([.ref p3]++us5));have G6:=(G4.trans g5).trans g6;refine ⟨_,rfl,_,rfl,r,vr,fi+l.size,rfl,hr'.mono (Tups.of G6),by lia,by lia,fun p7 us7 H7 g7 n7 e7 i7=>?_⟩;have l7:=PairsIn.len i7;refine ⟨p6,p7,_,_,rfl,rfl,g7 _ _ upd_same,e7,aK (by rw [aah,abo];lia),fun p8 n8=>?_⟩;have g8:=Same.new n8 (.lst ([.ref p3]++us5++us7));have G8:=(G6.trans g7).trans g8;refine q p8 _ _ G8 ((G6.trans g7).free n8) upd_same ?_;have c3:PairIn (upd H7 p8 (.lst ([.ref p3]++us5++us7))) (fi,fi+(l.size:Int)+(r.size:Int) - 1) (.ref p3):=⟨p3,rfl,g8 _ _ (g7 _ _ (g6 _ _ (g5 _ _ (g4 _ _ upd_same))))⟩
      exact PairsIn.app (.cons c3 (PairsIn.mono (Tups.of ((g6.trans g7).trans g8)) i5)) (PairsIn.mono (Tups.of g8) i7)
def cB:Sp:=fun vs H Q _=>∃ w v,vs=[v]∧WyIn H w v∧w.size≤9∧∀ p qs us H',Same H H'→H p=none→H' p=some (.lst us)→PairsIn H' qs us→qs.Perm (w.strs 0)→(qs.map e_).Pairwise (· < ·)→Q (.ref p) H'
abbrev cT:Stmt:=top 24
theorem gX:FnScope ["way"] ["way"] (am cT):=⟨rfl,rfl,rfl,by decide +kernel,rfl,by decide +kernel,by decide +kernel⟩
theorem gZ (F:Fun K "stretches_of" "stretches_of" cT f fd) (B:Bu K mg) (C_need_way:Cal P w K mg base "need_way" 3 ["thing"] gh) (C_list_stretches:Cal P w K mg base "list_stretches" 42 ["way","first"] (mZ 20)) :
    FnOk P w K mg base CX0 43 f fd ["way"] cB:=by
  refine F.ok gX (fun vs H Q E h=>?_) (fun cdv A outer s H vs Q E hr h=>?_)
  · obtain ⟨x,v,rfl,_⟩:=h;rfl
  obtain ⟨wy,v,rfl,hw,h9,q⟩:=h;refine ⟨_,(@ag _ _ _ _ _ (@da _ _ _ _ (@ak _ _ _ _ _ _ _ _ _ _ _ C_need_way hr (by lia) rfl (@aa _ _ _ _ _ (pv 0) ae (by rfl)) (by decide) (by rfl) (by rfl)) (by rfl)) (@ai _ _ _ (@av _ _ _ _ (@aj _ _ _ _ _ _ _ _ _ (@kg _ rfl) rfl B.isorted ace (@aa _ _ _ _ _ (@ak _ _ _ _ _ _ _ _ _ _ _ C_list_stretches hr (by lia) rfl (@aa _ _ _ _ _ (pv 0) (@aa _ _ _ _ _ af ae (by rfl)) (by rfl)) (by decide) (by rfl) (by rfl)) ae (by rfl)) (by decide) (by decide) (by rfl) (by rfl))))),?_⟩;refine ⟨_,rfl,wy,v,rfl,hw,h9,fun H1 g1=>?_⟩;have dl:=wy.deep_le;refine ⟨_,rfl,wy,v,0,rfl,hw.mono (Tups.of g1),by lia,by lia,fun p us H2 g2 n2 e2 i2=>?_⟩;have sl:=wy.strs_len 0;refine ⟨p,us,wy.strs 0,rfl,e2,i2,by lia,wy.strs_fine 0 (aat _) (by lia),fun p3 qs us3 n3 pm pw i3=>?_⟩;exact q p3 qs us3 _ ((g1.trans g2).trans (Same.new n3 _)) ((g1.trans g2).free n3) upd_same (PairsIn.mono (Tups.of (Same.new n3 _)) i3) pm pw
end
open PySem L2
abbrev PS:=List (Int × Int)
def nsl (ns:List Int) (f l:Int):List Int:=(ns.drop f.toNat).take (l - f+1).toNat
def gsl (gs:List Sg) (f l:Int):List Sg:=(gs.drop f.toNat).take (l - f).toNat
def At (ns:List Int) (gs:List Sg) (w:Wy) (f:Int):Prop:=0≤f∧w.nums=nsl ns f (f+w.size - 1)∧w.sgs=gsl gs f (f+w.size - 1)
theorem pF {α:Type} (xs:List α) (a b c:Nat):(xs.drop a).take b++(xs.drop (a+b)).take c=(xs.drop a).take (b+c):=by
  rw [← List.drop_drop,List.take_add]
theorem At.l {ns:List Int} {gs:List Sg} {g:Sg} {l r:Wy} {f:Int} (h:At ns gs (.node g l r) f):At ns gs l f:=by
  obtain ⟨h0,h1,h2⟩:=h;have zl:=l.size_pos;have zr:=r.size_pos;have nl:=l.nums_len;have nr:=r.nums_len;have sl:=l.sgs_len;have sr:=r.sgs_len;have ez:(Wy.node g l r).size=l.size+r.size:=rfl;rw [ez] at h1 h2;have h1:l.nums++r.nums=_:=h1;have h2:l.sgs++g :: r.sgs=_:=h2;refine ⟨h0,?_,?_⟩
  · have:=congrArg (List.take l.size) h1;rw [List.take_append_of_le_length (by lia),aao (by lia)] at this;rw [this];unfold nsl;rw [List.take_take];congr 1;lia
  · have:=congrArg (List.take l.sgs.length) h2;rw [List.take_append_of_le_length (by lia),aao (by lia)] at this;rw [this];unfold gsl;rw [List.take_take];congr 1;lia
theorem At.r {ns:List Int} {gs:List Sg} {g:Sg} {l r:Wy} {f:Int} (h:At ns gs (.node g l r) f):At ns gs r (f+l.size)∧gs[(f+l.size - 1).toNat]?=some g:=by
  obtain ⟨h0,h1,h2⟩:=h;have zl:=l.size_pos;have zr:=r.size_pos;have nl:=l.nums_len;have nr:=r.nums_len;have sl:=l.sgs_len;have sr:=r.sgs_len;have ez:(Wy.node g l r).size=l.size+r.size:=rfl;rw [ez] at h1 h2;have h1:l.nums++r.nums=_:=h1;have h2:l.sgs++g :: r.sgs=_:=h2;have e1:(f+l.size).toNat=f.toNat+l.size:=by lia
  refine ⟨⟨by lia,?_,?_⟩,?_⟩
  · have:=congrArg (List.drop l.size) h1;rw [List.drop_append_of_le_length (by lia),abC (by lia),abA] at this;rw [this];unfold nsl;rw [List.drop_take,List.drop_drop,e1];congr 1;lia
  · have:=congrArg (List.drop (l.sgs.length+1)) h2;rw [List.drop_append,abC (by lia),show l.sgs.length+1 - l.sgs.length=1 by lia,abA,List.drop_one,List.tail_cons] at this;rw [this];unfold gsl;rw [List.drop_take,List.drop_drop,e1];congr 1
    · lia
    · congr 1;lia
  · have:=congrArg (fun x=>x[l.sgs.length]?) h2;simp only [ab3 (aab _),Nat.sub_self,List.getElem?_cons_zero] at this;unfold gsl at this;rw [aca (by lia),List.getElem?_drop] at this;rw [this];congr 1;lia
theorem nT {ns:List Int} {gs:List Sg} {g:Sg} {l r:Wy} {f:Int} (hl:At ns gs l f) (hr:At ns gs r (f+l.size)) (hg:gs[(f+l.size - 1).toNat]?=some g):At ns gs (.node g l r) f:=by
  obtain ⟨h0,h1,h2⟩:=hl;obtain ⟨_,h3,h4⟩:=hr;have zl:=l.size_pos;have zr:=r.size_pos;have ez:(Wy.node g l r).size=l.size+r.size:=rfl;refine ⟨h0,?_,?_⟩
  · show l.nums++r.nums=_;rw [h1,h3,ez];unfold nsl;rw [show (f+(l.size:Int)).toNat=f.toNat+(f+(l.size:Int) - 1 - f+1).toNat by lia,pF];congr 1;lia
  · show l.sgs++g :: r.sgs=_;rw [h2,h4,ez];unfold gsl;have e:g :: (gs.drop (f+(l.size:Int)).toNat).take (f+(l.size:Int)+(r.size:Int) - 1 - (f+(l.size:Int))).toNat=(gs.drop (f.toNat+(f+(l.size:Int) - 1 - f).toNat)).take (r.size:Nat):=by
      rw [show f.toNat+(f+(l.size:Int) - 1 - f).toNat=(f+(l.size:Int) - 1).toNat by lia];have hi:(f+(l.size:Int) - 1).toNat < gs.length:=(aaJ.mp hg).1;rw [ab4 hi,(aaJ.mp hg).2,show (f+(l.size:Int) - 1).toNat+1=(f+(l.size:Int)).toNat by lia];obtain ⟨k,hk⟩:∃ k,r.size=k+1:=⟨r.size - 1,by lia⟩
      rw [hk,ab8];congr 2;lia
    rw [e,pF];congr 1;lia
def part (ps:PS) (p:Int × Int):Bool:=decide (p.1=p.2) || decide (p∈ps)
def fh (f l:Int):List Int:=(aaQ (l - f).toNat).map fun (k:Nat)=>f+k
def jn (ns:List Int) (gs:List Sg) (ps:PS):Nat→Int→Int→Option Wy
  | 0,_,_=>none
  | n+1,f,l=>if f=l then (ns[f.toNat]?).map Wy.num else
    match (fh f l).find? (fun c=>part ps (f,c) && part ps (c+1,l)) with
    | none=>none
    | some c=>match jn ns gs ps n f c,jn ns gs ps n (c+1) l,gs[c.toNat]? with
      | some a,some b,some g=>some (.node g a b)
      | _,_,_=>none
theorem cuts_mem {f l c:Int}:c∈fh f l↔f≤c∧c < l:=by
  unfold fh;constructor
  · intro h;obtain ⟨k,hk,rfl⟩:=abI.mp h;have:=abv.mp hk;lia
  · rintro ⟨h1,h2⟩;exact List.mem_map.mpr ⟨(c - f).toNat,abv.mpr (by lia),by lia⟩
theorem lC {ns:List Int} {gs:List Sg} {ps:PS}:∀ {n:Nat} {f l:Int} {w:Wy},jn ns gs ps n f l=some w→0≤f→f≤l→At ns gs w f∧f+w.size - 1=l
  | 0,f,l,w,h,_,_=>by simp [jn] at h
  | n+1,f,l,w,h,h0,h1=>by
    rw [jn] at h;by_cases c:f=l
    · rw [if_pos c] at h;obtain ⟨x,hx,rfl⟩:=aaV.mp h;subst c;have e:f+((Wy.num x).size:Int) - 1=f:=by show f+1 - 1=f;lia
      refine ⟨⟨h0,?_,?_⟩,e⟩
      · rw [e];unfold nsl;show [x]=_;rw [show (f - f+1).toNat=1 by lia,List.take_one];rw [List.head?_drop,hx];rfl
      · rw [e];unfold gsl;rw [show (f - f).toNat=0 by lia];rfl
    · rw [if_neg c] at h;cases hf:(fh f l).find? (fun c=>part ps (f,c) && part ps (c+1,l)) with
      | none=>rw [hf] at h;simp at h
      | some k =>
        rw [hf] at h;have hk:=cuts_mem.mp (List.mem_of_find?_eq_some hf);simp only at h;cases ha:jn ns gs ps n f k with
        | none=>rw [ha] at h;simp at h
        | some a =>
          cases hb:jn ns gs ps n (k+1) l with
          | none=>rw [ha,hb] at h;simp at h
          | some b =>
            cases hg:gs[k.toNat]? with
            | none=>rw [ha,hb,hg] at h;simp at h
            | some g =>
              rw [ha,hb,hg] at h;simp only [ab2] at h;subst h;obtain ⟨a1,a2⟩:=lC ha h0 hk.1;obtain ⟨b1,b2⟩:=lC hb (by lia) (by lia);have ek:k+1=f+a.size:=by lia
              refine ⟨nT a1 (by rw [← ek];exact b1) (by rw [show f+(a.size:Int) - 1=k by lia];exact hg),?_⟩;show f+((a.size+b.size:Nat):Int) - 1=l;lia
def Lam (ps:PS):Prop:=∀ p∈ps,∀ q∈ps,¬ (p.1 < q.1∧q.1≤p.2∧p.2 < q.2)
theorem iG:∀ (w:Wy) (f:Int),Lam (w.strs f)
  | .num _,f=>fun p h=>nomatch h
  | .node g l r,f=>fun p hp q hq=>by
    have zl:=l.size_pos;have zr:=r.size_pos;have cs:∀ x:Int × Int,x∈(Wy.node g l r).strs f→x=(f,f+l.size+r.size - 1)∨x∈l.strs f∨x∈r.strs (f+l.size):=fun x hx=>by
      have hx:x∈(f,f+(l.size:Int)+r.size - 1) :: l.strs f++r.strs (f+l.size):=hx;rcases aaz.mp hx with h|h
      · rcases aam.mp h with h|h
        · exact .inl h
        · exact .inr (.inl h)
      · exact .inr (.inr h)
    rcases cs p hp with rfl|hp|hp <;> rcases cs q hq with rfl|hq|hq
    · simp only;lia
    · have:=l.strs_in f q hq;simp only;lia
    · have:=r.strs_in _ q hq;simp only;lia
    · have:=l.strs_in f p hp;simp only;lia
    · exact iG l f p hp q hq
    · have:=l.strs_in f p hp;have:=r.strs_in _ q hq;lia
    · have:=r.strs_in _ p hp;simp only;lia
    · have:=r.strs_in _ p hp;have:=l.strs_in f q hq;lia
    · exact iG r _ p hp q hq
theorem pJ {g:Sg} {l r:Wy} {f:Int}:(f,f+((Wy.node g l r).size:Int) - 1)∈(Wy.node g l r).strs f:=by
  have e:((Wy.node g l r).size:Int)=l.size+r.size:=by show ((l.size+r.size:Nat):Int)=_;lia
  rw [e,show f+((l.size:Int)+r.size) - 1=f+l.size+r.size - 1 by lia];exact aaD _ aag
theorem ny {ps:PS} {v:Wy} {f:Int} (h:∀ p∈v.strs f,p∈ps):part ps (f,f+v.size - 1)=true:=by
  unfold part;cases v with
  | num i=>rw [decide_eq_true (show f=f+((Wy.num i).size:Int) - 1 by show f=f+1 - 1;lia)];rfl
  | node g l r=>rw [decide_eq_true (h _ pJ),Bool.or_true]
theorem hR {ps:PS} {p:Int × Int} (h:part ps p=true):p.1=p.2∨p∈ps:=by
  unfold part at h;rcases (Bool.or_eq_true _ _).mp h with h|h
  · exact .inl (of_decide_eq_true h)
  · exact .inr (of_decide_eq_true h)
theorem lG {α:Type} {p:α→Bool} {c:α}:∀ {xs:List α},c∈xs→p c=true→(∀ x∈xs,p x=true→x=c)→xs.find? p=some c
  | x :: xs,hm,hc,hu=>by
    rw [List.find?_cons];cases hx:p x with
    | true=>rw [hu x aag hx]
    | false =>
      rcases aam.mp hm with rfl|hm
      · rw [hx] at hc;cases hc
      · exact lG hm hc fun y hy=>hu y (aaf _ hy)
theorem my {ns:List Int} {gs:List Sg} {ps:PS} (lam:Lam ps):∀ {n:Nat} {v:Wy} {f:Int},v.deep≤n→At ns gs v f→(∀ p∈v.strs f,p∈ps)→jn ns gs ps n f (f+v.size - 1)=some v
  | 0,v,f,hd,_,_=>by cases v <;> simp [Wy.deep] at hd
  | n+1,.num i,f,hd,ha,hp=>by
    have e:f+((Wy.num i).size:Int) - 1=f:=by show f+1 - 1=f;lia
    rw [e,jn,if_pos rfl];have:=ha.2.1;rw [e] at this;unfold nsl at this;rw [show (f - f+1).toNat=1 by lia,List.take_one,List.head?_drop] at this;have this:[i]=(ns[f.toNat]?).toList:=this;cases hx:ns[f.toNat]? with
    | none=>rw [hx] at this;cases this
    | some x =>
      rw [hx] at this;have : i=x:=by simpa using this
      rw [this];rfl
  | n+1,.node g l r,f,hd,ha,hp=>by
    have zl:=l.size_pos;have zr:=r.size_pos;have dd:max l.deep r.deep+1≤n+1:=hd;have ez:((Wy.node g l r).size:Int)=l.size+r.size:=by show ((l.size+r.size:Nat):Int)=_;lia
    obtain ⟨har,hg⟩:=ha.r;have hl:∀ p∈l.strs f,p∈ps:=fun p h=>hp p (aaD _ (aaf _ h));have hr:∀ p∈r.strs (f+l.size),p∈ps:=fun p h=>hp p (aae _ h);have j1:=my lam (n:=n) (by lia) ha.l hl;have j2:=my lam (n:=n) (by lia) har hr;have p1:=ny hl;have p2:=ny hr;rw [jn,if_neg (by lia)];have hf:(fh f (f+((Wy.node g l r).size:Int) - 1)).find? (fun c=>part ps (f,c) && part ps (c+1,f+((Wy.node g l r).size:Int) - 1))=some (f+l.size - 1):=by
      refine lG (cuts_mem.mpr (by lia)) ?_ fun c hc hcc=>?_
      · rw [p1,show f+(l.size:Int) - 1+1=f+l.size by lia,show f+((Wy.node g l r).size:Int) - 1=f+l.size+r.size - 1 by lia,p2];rfl
      · have hc:=cuts_mem.mp hc;obtain ⟨q1,q2⟩:=(aa1 _ _).mp hcc;have q1:=hR q1;have q2:=hR q2;have p1:=hR p1;have p2:=hR p2;simp only at q1 q2 p1 p2;by_cases c1:c < f+l.size - 1
        · exfalso
          rcases q2 with q2|q2
          · lia
          · rcases p1 with p1|p1
            · lia
            · exact lam _ p1 _ q2 (by simp only;lia)
        · by_cases c2:f+l.size - 1 < c
          · exfalso
            rcases q1 with q1|q1
            · lia
            · rcases p2 with p2|p2
              · lia
              · exact lam _ q1 _ p2 (by simp only;lia)
          · lia
    rw [hf];simp only;rw [j1,show f+(l.size:Int) - 1+1=f+l.size by lia,show f+((Wy.node g l r).size:Int) - 1=f+l.size+r.size - 1 by lia,j2,hg]
open PySem L2
abbrev Blk:=Int × Int × Wy
def inr (p:Int × Int) (b:Blk):Bool:=decide (p.1≤b.1) && decide (b.2.1≤p.2)
def bA (gs:List Sg) (bs:List Blk) (p:Int × Int):Option (List Blk) :=
  match bs.filter (inr p) with
  | [x,y]=>if x.1=p.1∧y.2.1=p.2 then (match gs[x.2.1.toNat]? with
      | some g=>some (bs.filter (fun b=>decide (b.2.1 < p.1))++[(p.1,p.2,.node g x.2.2 y.2.2)]++bs.filter (fun b=>decide (p.2 < b.1)))
      | none=>none) else none
  | _=>none
def Ch (ns:List Int) (gs:List Sg):Int→List Blk→Int→Prop
  | f,[],e=>f=e
  | f,b :: bs,e=>b.1=f∧b.2.1=f+b.2.2.size - 1∧At ns gs b.2.2 f∧Ch ns gs (b.2.1+1) bs e
def kH (bs:List Blk):PS:=bs.flatMap fun b=>b.2.2.strs b.1
theorem Ch.ge {ns:List Int} {gs:List Sg}:∀ {bs:List Blk} {f e:Int},Ch ns gs f bs e→∀ b∈bs,f≤b.1∧b.1≤b.2.1
  | b :: bs,f,e,h,x,hx=>by
    obtain ⟨h1,h2,_,h4⟩:=h;have z:=b.2.2.size_pos;rcases aam.mp hx with rfl|hx
    · lia
    · have:=Ch.ge h4 x hx;lia
theorem dB {α:Type} {p:α→Bool} {xs:List α} (h:∀ x∈xs,p x=false):xs.filter p=[]:=List.filter_eq_nil_iff.mpr fun x hx=>by rw [h x hx];simp
theorem iR {α:Type} {p:α→Bool} {xs:List α} (h:∀ x∈xs,p x=true):xs.filter p=xs:=List.filter_eq_self.mpr h
theorem mM {ns:List Int} {gs:List Sg} {p:Int × Int} {x y:Blk} (hxp:x.1=p.1) (hyp:y.2.1=p.2):∀ {bs:List Blk} {f e:Int},Ch ns gs f bs e→bs.filter (inr p)=[x,y] →
    bs=bs.filter (fun b=>decide (b.2.1 < p.1))++x :: y :: bs.filter (fun b=>decide (p.2 < b.1))
  | [],f,e,_,h=>by simp at h
  | b :: bs,f,e,hc,h=>by
    obtain ⟨h1,h2,_,h4⟩:=hc;have z:=b.2.2.size_pos;have ge:=Ch.ge h4;rw [List.filter_cons] at h;by_cases c:inr p b=true
    · rw [if_pos c] at h;obtain ⟨e0,hh⟩:=List.cons.inj h;subst e0;obtain ⟨c1,c2⟩:=(aa1 _ _).mp c;have c1:=of_decide_eq_true c1;have c2:=of_decide_eq_true c2;have ym:y∈bs:=(aci.mp (by rw [hh];exact aaG.mpr rfl:y∈bs.filter (inr p))).1;cases bs with
      | nil=>cases ym
      | cons y' bs =>
        obtain ⟨k1,k2,_,k4⟩:=h4;have z':=y'.2.2.size_pos;have ge':=Ch.ge k4;have yy:y=y':=by
          rcases aam.mp ym with e|e
          · exact e
          · exfalso
            have g:=ge' y e;rw [List.filter_cons,if_pos (show inr p y'=true by unfold inr;rw [decide_eq_true (by lia),decide_eq_true (by lia)];rfl)] at hh;obtain ⟨e1,e2⟩:=List.cons.inj hh;subst e1;lia
        subst yy;have r1:∀ b∈bs,p.2 < b.1:=fun b hb=>by have:=ge' b hb;lia
        rw [aaK (by simp;lia),aaK (by simp;lia),dB (fun b hb=>by have:=ge' b hb;have:=r1 b hb;simp;lia)];rw [aaK (by simp;lia),aaK (by simp;lia),iR (fun b hb=>by have:=r1 b hb;simpa using this)];rfl
    · rw [if_neg c] at h;have xm:x∈bs:=(aci.mp (by rw [h];exact aag)).1;have ym:y∈bs:=(aci.mp (by rw [h];exact aaf _ (aaG.mpr rfl))).1;have gx:=ge x xm;have gy:=ge y ym;have yi:=(aci.mp (by rw [h];exact aaf _ (aaG.mpr rfl):y∈bs.filter (inr p))).2;have yi1:=of_decide_eq_true ((aa1 _ _).mp yi).1;rw [abQ (by simp;lia),aaK (by simp;lia)];rw [aa6,← mM hxp hyp h4 h]
theorem Ch.app {ns:List Int} {gs:List Sg}:∀ {as:List Blk} {f m e:Int} {bs:List Blk},Ch ns gs f as m→Ch ns gs m bs e→Ch ns gs f (as++bs) e
  | [],f,m,e,bs,h,k=>by cases h;exact k
  | a :: as,f,m,e,bs,⟨h1,h2,h3,h4⟩,k=>⟨h1,h2,h3,Ch.app h4 k⟩
theorem Ch.cut {ns:List Int} {gs:List Sg}:∀ {as:List Blk} {f e:Int} {bs:List Blk},Ch ns gs f (as++bs) e→∃ m,Ch ns gs f as m∧Ch ns gs m bs e
  | [],f,e,bs,h=>⟨f,rfl,h⟩
  | a :: as,f,e,bs,⟨h1,h2,h3,h4⟩=>by
    obtain ⟨m,k1,k2⟩:=Ch.cut h4;exact ⟨m,⟨h1,h2,h3,k1⟩,k2⟩
theorem qy {ns:List Int} {gs:List Sg} {bs bs':List Blk} {p:Int × Int} {e:Int} (hc:Ch ns gs 0 bs e) (h:bA gs bs p=some bs'):Ch ns gs 0 bs' e∧(kH bs').Perm (p :: kH bs)∧bs'.length+1=bs.length:=by
  unfold bA at h;split at h
  · rename_i x y hf;by_cases c:x.1=p.1∧y.2.1=p.2
    · rw [if_pos c] at h;cases hg:gs[x.2.1.toNat]? with
      | none=>rw [hg] at h;simp at h
      | some g =>
        rw [hg] at h;simp only [ab2] at h;have cut:=mM c.1 c.2 hc hf;generalize bs.filter (fun b=>decide (b.2.1 < p.1))=A at cut h;generalize bs.filter (fun b=>decide (p.2 < b.1))=B at cut h;subst h;subst cut;obtain ⟨m,k1,k2⟩:=Ch.cut hc;obtain ⟨x1,x2,x3,y1,y2,y3,k3⟩:=k2;have zx:=x.2.2.size_pos;have zy:=y.2.2.size_pos;have e1:x.2.1+1=m+x.2.2.size:=by lia
        have nn:At ns gs (.node g x.2.2 y.2.2) m:=nT x3 (by rw [← e1];exact y3) (by rw [← x2];exact hg);have ez:((Wy.node g x.2.2 y.2.2).size:Int)=x.2.2.size+y.2.2.size:=by show ((_+_:Nat):Int)=_;lia
        refine ⟨?_,?_,?_⟩
        · rw [aaM];refine Ch.app k1 ⟨by simp only;lia,by simp only;lia,nn,?_⟩;show Ch ns gs (p.2+1) B e;rw [← c.2];exact k3
        · have st:(Wy.node g x.2.2 y.2.2).strs m=p :: (x.2.2.strs m++y.2.2.strs (m+x.2.2.size)):=by
            show (m,m+(x.2.2.size:Int)+y.2.2.size - 1) :: x.2.2.strs m++y.2.2.strs (m+x.2.2.size)=_;rw [show ((m,m+(x.2.2.size:Int)+y.2.2.size - 1):Int × Int)=p from Prod.ext (by simp only;lia) (by simp only;lia)];rfl
          unfold kH;simp only [aaM,List.flatMap_append,List.flatMap_cons,List.flatMap_nil,abA];rw [show p.1=m by lia,st,x1,y1,e1];rw [aa6,aaM];exact List.perm_middle
        · simp only [aah,aar,aaX];lia
    · rw [if_neg c] at h;cases h
  · cases h
theorem mq {ns:List Int} {gs:List Sg}:∀ {L:PS} {bs bs':List Blk} {e:Int},Ch ns gs 0 bs e→L.foldlM (bA gs) bs=some bs'→Ch ns gs 0 bs' e∧(kH bs').Perm (L++kH bs)∧bs'.length+L.length=bs.length
  | [],bs,bs',e,hc,h=>by
    simp only [List.foldlM_nil,Option.pure_def,ab2] at h;subst h;exact ⟨hc,List.Perm.refl _,rfl⟩
  | p :: L,bs,bs',e,hc,h=>by
    rw [abu] at h;cases hm:bA gs bs p with
    | none=>rw [hm] at h;simp at h
    | some b1 =>
      rw [hm] at h;obtain ⟨k1,k2,k3⟩:=qy hc hm;obtain ⟨j1,j2,j3⟩:=mq k1 h;refine ⟨j1,j2.trans ?_,by rw [aar];lia⟩;exact ((List.Perm.append_left L k2).trans List.perm_middle)
def fr (P:PS):Wy→Int→List Blk
  | .num i,f=>[(f,f,.num i)]
  | .node g l r,f=>if (f,f+l.size+r.size - 1)∈P then [(f,f+l.size+r.size - 1,.node g l r)] else fr P l f++fr P r (f+l.size)
theorem nJ {P:PS}:∀ {w:Wy} {f:Int},∀ b∈fr P w f,f≤b.1∧b.1≤b.2.1∧b.2.1 < f+w.size
  | .num i,f,b,h=>by
    rw [fr,List.mem_singleton] at h;subst h;refine ⟨aat _,aat _,?_⟩;show f < f+1;lia
  | .node g l r,f,b,h=>by
    have zl:=l.size_pos;have zr:=r.size_pos;have ez:((Wy.node g l r).size:Int)=l.size+r.size:=by show ((l.size+r.size:Nat):Int)=_;lia
    rw [fr] at h;split at h
    · rw [List.mem_singleton] at h;subst h;simp only;lia
    · rcases aaz.mp h with h|h
      · have:=nJ b h;lia
      · have:=nJ b h;lia
theorem fX {P P':PS}:∀ {w:Wy} {f:Int},(∀ q∈w.strs f,q∈P↔q∈P')→fr P w f=fr P' w f
  | .num i,f,_=>rfl
  | .node g l r,f,h=>by
    have t:(f,f+(l.size:Int)+r.size - 1)∈(Wy.node g l r).strs f:=aaD _ aag;rw [fr,fr,fX (fun q hq=>h q (aaD _ (aaf _ hq))),fX (fun q hq=>h q (aae _ hq))];simp only [h _ t]
theorem mD {P:PS} {w:Wy} {f:Int} (h:∀ q∈w.strs f,q∈P):fr P w f=[(f,f+w.size - 1,w)]:=by
  cases w with
  | num i=>rw [fr];show _=[(f,f+1 - 1,_)];rw [show f+1 - 1=f by lia]
  | node g l r =>
    have ez:((Wy.node g l r).size:Int)=l.size+r.size:=by show ((l.size+r.size:Nat):Int)=_;lia
    have t:(f,f+(l.size:Int)+r.size - 1)∈(Wy.node g l r).strs f:=aaD _ aag;rw [fr,if_pos (h _ t),ez,show f+((l.size:Int)+r.size) - 1=f+l.size+r.size - 1 by lia]
structure Stp (gs:List Sg) (p:Int × Int) (F G:List Blk):Prop where
  ex:∃ A B x y g,F=A++x :: y :: B∧G=A++(p.1,p.2,.node g x.2.2 y.2.2) :: B∧x.1=p.1∧x.1≤x.2.1∧x.2.1+1=y.1∧y.1≤y.2.1∧y.2.1=p.2∧gs[x.2.1.toNat]?=some g∧(∀ b∈A,b.1≤b.2.1∧b.2.1 < p.1)∧∀ b∈B,p.2 < b.1∧b.1≤b.2.1
theorem Stp.run {gs:List Sg} {p:Int × Int} {F G:List Blk} (h:Stp gs p F G):bA gs F p=some G:=by
  obtain ⟨A,B,x,y,g,rfl,rfl,x1,x2,x3,y2,y3,hg,hA,hB⟩:=h;have f1:(A++x :: y :: B).filter (inr p)=[x,y]:=by
    rw [abV,dB (fun b hb=>by have:=hA b hb;unfold inr;rw [decide_eq_false (by lia),acq]),abA];rw [abQ (by unfold inr;rw [decide_eq_true (by lia),decide_eq_true (by lia)];rfl),abQ (by unfold inr;rw [decide_eq_true (by lia),decide_eq_true (by lia)];rfl)];rw [dB (fun b hb=>by have:=hB b hb;unfold inr;rw [decide_eq_false (show ¬ b.2.1≤p.2 by lia),acp])]
  unfold bA;rw [f1];simp only;rw [if_pos ⟨x1,y3⟩,hg];simp only [ab2];rw [abV,iR (fun b hb=>by have:=hA b hb;simpa using this.2),aaK (by simp;lia),aaK (by simp;lia),dB (fun b hb=>by have:=hB b hb;simp;lia),abz];rw [abV,dB (fun b hb=>by have:=hA b hb;simp;lia),aaK (by simp;lia),aaK (by simp;lia),iR (fun b hb=>by have:=hB b hb;simpa using this.1),abA,aaM];rfl
def dz (p:Int × Int):Int:=p.2 - p.1
theorem j5 {ns:List Int} {gs:List Sg} {P:PS} {p:Int × Int}:∀ {w:Wy} {f:Int},At ns gs w f→p∈w.strs f→p∉P→(∀ q∈w.strs f,q∈P→dz q≤dz p)→(∀ q∈w.strs f,dz q < dz p→q∈P)→Stp gs p (fr P w f) (fr (p :: P) w f)
  | .num i,f,_,hp,_,_,_=>nomatch hp
  | .node g l r,f,ha,hp,hn,h1,h2=>by
    have zl:=l.size_pos;have zr:=r.size_pos;have t:(f,f+(l.size:Int)+r.size - 1)∈(Wy.node g l r).strs f:=aaD _ aag;have tl:∀ q∈l.strs f,q∈(Wy.node g l r).strs f:=fun q hq=>aaD _ (aaf _ hq);have tr:∀ q∈r.strs (f+l.size),q∈(Wy.node g l r).strs f:=fun q hq=>aae _ hq;obtain ⟨har,hg⟩:=ha.r;by_cases c:p=(f,f+(l.size:Int)+r.size - 1)
    · subst c;rw [fr,if_neg hn,fr,if_pos aag];rw [mD (fun q hq=>h2 q (tl q hq) (by have:=l.strs_in f q hq;unfold dz;dsimp only;lia)),mD (fun q hq=>h2 q (tr q hq) (by have:=r.strs_in _ q hq;unfold dz;dsimp only;lia))];exact ⟨[],[],_,_,g,rfl,rfl,rfl,by dsimp only;lia,by dsimp only;lia,by dsimp only;lia,rfl,hg,(fun b hb=>nomatch hb),fun b hb=>nomatch hb⟩
    · have hp':p∈l.strs f∨p∈r.strs (f+l.size):=by
        have hx:p∈(f,f+(l.size:Int)+r.size - 1) :: l.strs f++r.strs (f+l.size):=hp;rcases aaz.mp hx with h|h
        · rcases aam.mp h with h|h
          · exact absurd h c
          · exact .inl h
        · exact .inr h
      have lp:dz p < dz (f,f+(l.size:Int)+r.size - 1):=by
        unfold dz;rcases hp' with h|h
        · have:=l.strs_in f p h;simp only;lia
        · have:=r.strs_in _ p h;simp only;lia
      have tn:(f,f+(l.size:Int)+r.size - 1)∉P:=fun z=>by have:=h1 _ t z;lia
      rw [fr,if_neg tn,fr,if_neg (fun z=>by rcases aam.mp z with z|z;exact c z.symm;exact tn z)];rcases hp' with h|h
      · have pi:=l.strs_in f p h;obtain ⟨A,B,x,y,g',e1,e2,k⟩:=(j5 ha.l h hn (fun q hq=>h1 q (tl q hq)) (fun q hq=>h2 q (tl q hq))).ex;rw [fX (P:=p :: P) (P':=P) (w:=r) (fun q hq=>⟨fun z=>by rcases aam.mp z with z|z;(subst z;have:=r.strs_in _ q hq;lia);exact z,aaf _⟩)];refine ⟨A,B++fr P r (f+l.size),x,y,g',by rw [e1,aaM];rfl,by rw [e2,aaM];rfl,k.1,k.2.1,k.2.2.1,k.2.2.2.1,k.2.2.2.2.1,k.2.2.2.2.2.1,k.2.2.2.2.2.2.1,fun b hb=>?_⟩;rcases aaz.mp hb with hb|hb
        · exact k.2.2.2.2.2.2.2 b hb
        · have:=nJ b hb;lia
      · have pi:=r.strs_in _ p h;obtain ⟨A,B,x,y,g',e1,e2,k⟩:=(j5 har h hn (fun q hq=>h1 q (tr q hq)) (fun q hq=>h2 q (tr q hq))).ex;rw [fX (P:=p :: P) (P':=P) (w:=l) (fun q hq=>⟨fun z=>by rcases aam.mp z with z|z;(subst z;have:=l.strs_in _ q hq;lia);exact z,aaf _⟩)];refine ⟨fr P l f++A,B,x,y,g',by rw [e1,aaM],by rw [e2,aaM],k.1,k.2.1,k.2.2.1,k.2.2.2.1,k.2.2.2.2.1,k.2.2.2.2.2.1,fun b hb=>?_,k.2.2.2.2.2.2.2⟩;rcases aaz.mp hb with hb|hb
        · have:=nJ b hb;lia
        · exact k.2.2.2.2.2.2.1 b hb
theorem qS {ns:List Int} {gs:List Sg} {w:Wy} (ha:At ns gs w 0):∀ {L P:PS},(P.reverse++L).Perm (w.strs 0)→(P.reverse++L).Pairwise (fun a b=>dz a≤dz b)→L.foldlM (bA gs) (fr P w 0)=some [(0,(w.size:Int) - 1,w)]
  | [],P,hp,_=>by
    rw [abz] at hp;rw [List.foldlM_nil,mD (fun q hq=>List.mem_reverse.mp (hp.mem_iff.mpr hq)),Int.zero_add];rfl
  | p :: L,P,hp,hs=>by
    have nd:=hp.nodup_iff.mpr (w.strs_nodup 0);have hpw:p∈w.strs 0:=hp.mem_iff.mp (aae _ aag);have hnp:p∉P:=fun z=>(List.nodup_append.mp nd).2.2 p (List.mem_reverse.mpr z) p aag rfl;have sp:=List.pairwise_append.mp hs;have st:=j5 (P:=P) ha hpw hnp (fun q _ hq=>sp.2.2 q (List.mem_reverse.mpr hq) p aag) (fun q hq hl=>by
      rcases aaz.mp (hp.mem_iff.mpr hq) with z|z
      · exact List.mem_reverse.mp z
      · exfalso
        rcases aam.mp z with z|z
        · subst z;lia
        · have:=(acF.mp sp.2.1).1 q z;lia)
    rw [abu,st.run];refine qS ha (L:=L) (P:=p :: P) ?_ ?_
    · rw [abN,aaM];exact hp
    · rw [abN,aaM];exact hs
open PySem L2
def lv:List Int→Int→List Blk
  | [],_=>[]
  | x :: xs,f=>(f,f,.num x) :: lv xs (f+1)
theorem qD:∀ (xs ys:List Int) (f:Int),lv (xs++ys) f=lv xs f++lv ys (f+xs.length)
  | [],ys,f=>by simp [lv]
  | x :: xs,ys,f=>by
    rw [aa6,lv,lv,qD xs ys,aa6,aar,show f+1+(xs.length:Int)=f+((xs.length+1:Nat):Int) by lia]
theorem iF:∀ (xs:List Int) (f:Int),(lv xs f).length=xs.length
  | [],_=>rfl
  | x :: xs,f=>by rw [lv,aar,aar,iF xs]
theorem mE:∀ (w:Wy) (f:Int),fr [] w f=lv w.nums f
  | .num i,f=>rfl
  | .node g l r,f=>by
    rw [fr,if_neg (fun z=>nomatch z),mE l,mE r];show _=lv (l.nums++r.nums) f;rw [qD,l.nums_len]
theorem qC {ns:List Int} {gs:List Sg}:∀ (k:Nat) (f:Nat),f+k=ns.length→Ch ns gs f (lv (ns.drop f) f) ns.length
  | 0,f,h=>by
    rw [abC (by lia)];show (f:Int)=ns.length;lia
  | k+1,f,h=>by
    have hf:f < ns.length:=by lia
    rw [ab4 hf,lv];have e:(f:Int)+((Wy.num ns[f]).size:Int) - 1=f:=by show (f:Int)+1 - 1=f;lia
    refine ⟨rfl,e.symm,⟨by lia,?_,?_⟩,?_⟩
    · rw [e];unfold nsl;show [ns[f]]=_;rw [show ((f:Int) - f+1).toNat=1 by lia,List.take_one,List.head?_drop,show ((f:Int)).toNat=f by lia,aaj hf];rfl
    · rw [e];unfold gsl;rw [show ((f:Int) - f).toNat=0 by lia];rfl
    · have:=qC (ns:=ns) (gs:=gs) k (f+1) (by lia);exact this
theorem nh:∀ (xs:List Int) (f:Int),kH (lv xs f)=[]
  | [],_=>rfl
  | x :: xs,f=>by
    unfold kH;rw [lv,List.flatMap_cons];exact nh xs (f+1)
theorem Lam.perm {ps qs:PS} (h:ps.Perm qs) (k:Lam ps):Lam qs:=fun p hp q hq=>k p (h.mem_iff.mpr hp) q (h.mem_iff.mpr hq)
theorem sO {ns:List Int} {gs:List Sg} {ps L:PS} (h1:1≤ns.length) (h9:ns.length≤9) (hn:ps.length+1=ns.length) (hL:L.Perm ps) (hs:L.Pairwise (fun a b=>dz a≤dz b)) :
    (∃ w,jn ns gs ps 10 0 ((ns.length:Int) - 1)=some w∧w.size=ns.length∧(w.strs 0).Perm ps∧L.foldlM (bA gs) (lv ns 0)=some [(0,(ns.length:Int) - 1,w)]) ∨
    ((∀ w,jn ns gs ps 10 0 ((ns.length:Int) - 1)=some w→¬ (w.strs 0).Perm ps)∧L.foldlM (bA gs) (lv ns 0)=none):=by
  by_cases c:∃ w,At ns gs w 0∧w.size=ns.length∧(w.strs 0).Perm ps
  · obtain ⟨w,ha,hz,hp⟩:=c;have dl:=w.deep_le;have j:=my (Lam.perm hp (iG w 0)) (n:=10) (by lia) ha (fun p hq=>hp.mem_iff.mp hq);rw [show (0:Int)+w.size - 1=(ns.length:Int) - 1 by lia] at j;have m:=qS ha (L:=L) (P:=[]) (hL.trans hp.symm) hs;have en:w.nums=ns:=by
      rw [ha.2.1];unfold nsl;rw [show (0:Int).toNat=0 from rfl,ab5,aao (by lia)]
    rw [mE,en,hz] at m;exact .inl ⟨w,j,hz,hp,m⟩
  · refine .inr ⟨fun w hj hp=>?_,?_⟩
    · obtain ⟨a,b⟩:=lC hj (aat _) (by lia);exact c ⟨w,a,by lia,hp⟩
    · cases hm:L.foldlM (bA gs) (lv ns 0) with
      | none=>rfl
      | some bs =>
        exfalso
        have ch:=qC (ns:=ns) (gs:=gs) ns.length 0 (by lia);obtain ⟨k1,k2,k3⟩:=mq ch hm;rw [nh,abz] at k2;rw [iF,aaI] at k3;have ll:=hL.length_eq
        match bs,k1,k2,k3 with
        | [],_,_,k3=>simp at k3;lia
        | [b],k1,k2,_ =>
          obtain ⟨b1,b2,b3,b4⟩:=k1;have b4:b.2.1+1=(ns.length:Int):=b4;have b1:b.1=((0:Nat):Int):=b1;unfold kH at k2;rw [List.flatMap_cons,List.flatMap_nil,abz,b1] at k2;exact c ⟨b.2.2,b3,by lia,k2.trans hL⟩
        | _ :: _ :: _,_,_,k3=>simp at k3;lia
open PySem L2
mutual
def szD:PyData→Nat
  | .list ds=>szAll ds+1
  | .tuple ds=>szAll ds+1
  | .none=>1
  | .bool _=>1
  | .int _=>1
  | .str _=>1
  | .dict _=>1
def szAll:List PyData→Nat
  | []=>0
  | d :: ds=>szD d+szAll ds
end
mutual
def OkD:PyData→Prop
  | .none=>True
  | .bool _=>True
  | .int i=>i.natAbs < 10 ^ 40
  | .str x=>(reprText x).length≤20
  | .list ds=>OkAll ds
  | .tuple ds=>OkAll ds
  | .dict kvs=>kvs=[]
def OkAll:List PyData→Prop
  | []=>True
  | d :: ds=>OkD d∧OkAll ds
end
mutual
theorem jQ : ∀ d:PyData,OkD d→d.showable=true
  | .none,h=>by simp [aa5]
  | .bool _,h=>by simp [aa5]
  | .int i,h=>by
    simp only [OkD] at h;have z:(10:Nat) ^ 13 < 2 ^ 140:=by decide
    have : i.natAbs.log2 < 140:=by
      by_cases c:i.natAbs=0
      · rw [c];decide
      · exact (Nat.log2_lt c).mpr (by lia)
    simp only [aa5];exact decide_eq_true (by lia)
  | .str _,h=>by simp [aa5]
  | .list ds,h=>by simp only [OkD] at h;simp only [aa5];exact ok_showAll ds h
  | .tuple ds,h=>by simp only [OkD] at h;simp only [aa5];exact ok_showAll ds h
  | .dict kvs,h=>by simp only [OkD] at h;subst h;simp [aa5,aco]
theorem ok_showAll:∀ ds:List PyData,OkAll ds→ack ds=true
  | [],h=>by simp [ack]
  | d :: ds,h=>by
    simp only [OkAll] at h;simp only [ack,jQ d h.1,ok_showAll ds h.2,Bool.and_self]
end
mutual
theorem qu:∀ d:PyData,OkD d→d.shown.length+5≤60 * szD d
  | .none,h=>by show 4+5≤60 * szD .none;simp [szD]
  | .bool b,h=>by cases b <;> (simp only [szD];decide)
  | .int i,h=>by
    simp only [OkD] at h;have e:=int_text_length_le10 (a:=i) (k:=40) (by decide) h;simp only [szD];show (Str.ofString (toString i)).length+5≤60;rw [ofString_length];lia
  | .str x,h=>by
    simp only [OkD] at h;simp only [szD,acw];lia
  | .list ds,h=>by
    simp only [OkD] at h;have a:=ok_lenAll ds h;have b:=listText_len_le (abO ds);have c:=PyData.shownAll_length ds;simp only [szD,acw];lia
  | .tuple ds,h=>by
    simp only [OkD] at h;have a:=ok_lenAll ds h;have b:=tupleText_len_le (abO ds);have c:=PyData.shownAll_length ds;simp only [szD,acw];lia
  | .dict kvs,h=>by
    simp only [OkD] at h;subst h;simp only [szD];show (acw (.dict [])).length+5≤60;decide +kernel
theorem ok_lenAll:∀ ds:List PyData,OkAll ds→((abO ds).map (·.length)).sum+5 * ds.length≤60 * szAll ds
  | [],h=>by simp [abO,szAll]
  | d :: ds,h=>by
    simp only [OkAll] at h;have a:=qu d h.1;have b:=ok_lenAll ds h.2;simp only [abO,szAll,aau,acB,aar];lia
end
mutual
theorem rN:∀ d:PyData,1≤szD d
  | .none=>by simp [szD]
  | .bool _=>by simp [szD]
  | .int _=>by simp [szD]
  | .str _=>by simp [szD]
  | .list _=>by simp [szD]
  | .tuple _=>by simp [szD]
  | .dict _=>by simp [szD]
end
def bx:PyData→Bool
  | .int _=>true
  | _=>false
def bV:PyData→Bool
  | .list ds=>decide (1≤ds.length) && decide (ds.length≤9) && ds.all bx
  | _=>false
theorem j7 {H:Hp}:∀ {ds:List PyData} {vs:List V},DatAll H ds vs→∀ {i:Nat} {x:V},vs[i]?=some x→∃ d,ds[i]?=some d∧Dat H d x
  | [],vs,h,i,x,e=>by simp only [DatAll] at h;subst h;simp at e
  | d :: ds,vs,h,i,x,e=>by
    simp only [DatAll] at h;obtain ⟨v,r,rfl,h1,h2⟩:=h;cases i with
    | zero=>simp at e;subst e;exact ⟨d,rfl,h1⟩
    | succ i=>exact j7 h2 (by simpa using e)
theorem eG (d:PyData):decide (jC d = "int")=bx d:=by cases d <;> rfl
def aZ:PyData→Bool
  | .tuple [a,b]=>bx a && bx b
  | _=>false
theorem vt {H:Hp} {ds:List PyData} {xs:List V} (h:DatAll H ds xs) (h2:xs.length=2):∃ l r y z,ds=[l,r]∧xs=[y,z]∧Dat H l y∧Dat H r z:=by
  have hl:=h.len
  cases ds with
  | nil => simp at hl;lia
  | cons l ds => cases ds with
    | nil => simp at hl;lia
    | cons r ds => cases ds with
      | cons _ _ => simp at hl;lia
      | nil =>
        simp only [DatAll] at h;obtain ⟨y,_,rfl,h1,z,_,rfl,h2',rfl⟩:=h;exact ⟨l,r,y,z,rfl,rfl,h1,h2'⟩
structure Xc (K:aaa) (mg:Str→Option Value) (aP aR:Addr):Prop where
  mPutError:mg "PutError" = some (.ref aP)
  mNoRow:mg "NoRow" = some (.ref aR)
  eNoRow:EC K aR
  uNoRow:Und K aR aP
def mR:PyData→Prop
  | .str z=>z.cps.all (· < 128)=true∧z.length≤100
  | _=>True
def d5 (k:Int):PyData→Bool
  | .str z=>decide ((z.length:Int)=k) && z.cps.toList.all (fun c=>d6 ⟨#[c]⟩)
  | _=>false
def dZ (k:Int):PyData→Bool
  | .list ds=>decide ((ds.length:Int)=k) && ds.all aZ
  | _=>false
def fW:PyData→Bool
  | .str _=>true
  | _=>false
theorem nF {d:PyData} {K:aaa}:aaC K (.type (jC d)) (.type "str")=some (fW d):=by cases d <;> rfl
section
variable {P:Program} {w:World} {K:aaa} {mg:Str→Option Value} {base:Heap} {f:Addr} {fd:FuncData}
def sgD:PyData→Bool
  | .str z=>d6 z
  | _=>false
def jF:Sp:=fun vs H Q _=>∃ d v,vs=[v]∧Dat H d v∧Q (.bl (sgD d)) H
theorem kZ {tk:Tok} {aS:Addr} (F:Fun K "is_sign" "is_sign" eN f fd) (B:Bu K mg) (B':Co K mg tk aS):FnOk P w K mg base CX0 1 f fd ["thing"] jF:=by
  refine F.ok ig (fun vs H Q E h=>?_) (fun cdv A outer s H vs Q E hr h=>?_)
  · obtain ⟨d,x,rfl,_⟩:=h;rfl
  obtain ⟨d,v,rfl,hd,q⟩:=h;refine ⟨_,(@ai _ _ _ (@av _ _ _ _ (@dJ _ _ _ _ _ _ _ (@aj _ _ _ _ _ _ _ _ _ (@aG _ ("str")) rfl B.iisinstance aad (@aa _ _ _ _ _ (pv 0) (@aa _ _ _ _ _ (@bj _ _ (.ty "str") _ _ rfl B.istr abK rfl (by decide) (by decide)) ae (by rfl)) (by rfl)) (by decide) (by decide) (by rfl) (by rfl)) (@fG _ _ _ _ _ (@cE _ _ _ _ _ _ _ _ ji (pv 0) (@bB _ _ (.ref aS) _ _ rfl B'.gSIGNS rfl (by decide)) (by with_unfolding_all rfl)))))),?_⟩;cases d with
  | str z =>
    simp only [Dat] at hd;subst hd;exact ⟨_,rfl,_,_,true,rfl,.str z,rfl,true,rfl,aI ⟨_,rfl,aS,_,rfl,.inr (B'.sSIGNS H),rfl,rfl,q⟩⟩
  | none=>exact ⟨_,rfl,_,_,false,rfl,hd.ty,rfl,false,rfl,aC q⟩
  | bool b=>exact ⟨_,rfl,_,_,false,rfl,hd.ty,rfl,false,rfl,aC q⟩
  | int i=>exact ⟨_,rfl,_,_,false,rfl,hd.ty,rfl,false,rfl,aC q⟩
  | list ds=>exact ⟨_,rfl,_,_,false,rfl,hd.ty,rfl,false,rfl,aC q⟩
  | tuple ds=>exact ⟨_,rfl,_,_,false,rfl,hd.ty,rfl,false,rfl,aC q⟩
  | dict ds=>exact ⟨_,rfl,_,_,false,rfl,hd.ty,rfl,false,rfl,aC q⟩
def bG:PyData→Bool
  | .list _=>true
  | _=>false
theorem vb {d:PyData} (h:bG d=false):bV d=false:=by cases d <;> first|rfl|simp [bG] at h
theorem iI {d:PyData} {K:aaa}:aaC K (.type (jC d)) (.type "list")=some (bG d):=by cases d <;> rfl
def jK:Sp:=fun vs H Q _=>∃ d v,vs=[v]∧Dat H d v∧∀ H',Same H H'→Q (.bl (bV d)) H'
abbrev im:Stmt:=top 17
theorem og:FnScope ["thing"] ["thing"] (am im):=⟨rfl,rfl,rfl,by decide +kernel,rfl,by decide +kernel,by decide +kernel⟩
theorem oy {tk:Tok} {aS:Addr} (F:Fun K "is_row" "is_row" im f fd) (B:Bu K mg) (B':Co K mg tk aS) (C_is_whole:Cal P w K mg base "is_whole" 1 ["thing"] (cA K)):FnOk P w K mg base CX0 2 f fd ["thing"] jK:=by
  refine F.ok og (fun vs H Q E h=>?_) (fun cdv A outer s H vs Q E hr h=>?_)
  · obtain ⟨x,v,rfl,_⟩:=h;rfl
  obtain ⟨d,v,rfl,hd,q⟩:=h;refine ⟨_,(@ag _ _ _ _ _ (@br _ _ _ _ _ _ _ _ (@PW.pt _ _ _ (@cH _ _ _ _ _ _ _ (@bQ _ _ _ _ (@bf _ _ _ (@aj _ _ _ _ _ _ _ _ _ (@aG _ ("list")) rfl B.iisinstance aad (@aa _ _ _ _ _ (pv 0) (@aa _ _ _ _ _ (@bj _ _ (.ty "list") _ _ rfl B.ilist abT rfl (by decide) (by decide)) ae (by rfl)) (by rfl)) (by decide) (by decide) (by rfl) (by rfl)) (by intro _;rfl))) (@cK _ _ _ _ (@bQ _ _ _ _ (@pY _ _ _ _ _ _ _ _ _ _ _ _ kU kU af (@aj _ _ _ _ _ _ _ _ _ ax rfl B.ilen aaE (@aa _ _ _ _ _ (pv 0) ae (by rfl)) (by decide) (by decide) (by rfl) (by rfl)) (@bB _ _ (.int 9) _ _ rfl B'.gMOST_NUMBERS ⟨_,rfl⟩ (by decide)) (by with_unfolding_all rfl)))))) (@ai _ _ _ (@av _ _ _ _ dc)) aV) (@ai _ _ _ (@av _ _ _ _ (@aj _ _ _ _ _ _ _ _ _ (@iU _ rfl) rfl B.iall acx (@aa _ _ _ _ _ (@dU _ _ _ _ _ _ _ _ (["number"]) ([none]) _ _ _ _ rfl (@bM _ _ _ _ (pv 0)) rfl trivial trivial (fun _ _ _ _=>⟨(@aB _ _ (0) _ (show abl (["number"]:List Str) by decide +kernel) rfl (Or.inl rfl) (.inr rfl)),b_,(@ak _ _ _ _ _ _ _ _ _ _ _ C_is_whole hr (by lia) rfl (@aa _ _ _ _ _ (pv 0) ae (by rfl)) (by decide) (by rfl) (by rfl))⟩) (by rfl) (by rfl) (by rfl) (by rfl) (by intro _;rfl)) ae (by rfl)) (by decide) (by decide) (by rfl) (by rfl))))),?_⟩;by_cases hl:bG d=true
  · cases d with
    | list ds =>
      have hd0:=hd;simp only [Dat] at hd;obtain ⟨a,xs,rfl,ea,hall⟩:=hd;have hlen:=hall.len;refine ⟨_,rfl,_,_,true,rfl,.lst ea,rfl,true,rfl,aC ?_⟩;by_cases c1:1≤xs.length
      · refine ⟨_,rfl,a,_,rfl,.inl (SqL.of ea),_,_,rfl,rfl,true,congrArg V.bl (decide_eq_true (by lia)),aI ?_⟩;by_cases c2:xs.length≤9
        · refine ⟨_,_,rfl,rfl,true,congrArg V.bl (decide_eq_true (by lia)),aC ?_⟩;refine ⟨_,rfl,a,rfl,⟨_,SqL.of ea⟩,?_⟩;refine sy (xs:=xs) (fun i ys H'=>H'=H∧ys=((ds.take i).map bx).map V.bl) ⟨rfl,rfl⟩ (fun i ys H' hi p=>⟨by rw [p.1];exact SqL.of ea,by rw [p.2,aac,aac,aax];exact ay (by lia)⟩) (fun i x ys H' hx p nx=>?_) (fun ys H' p p5 n5=>?_)
          · obtain ⟨rfl,rfl⟩:=p;obtain ⟨dd,h1,h2⟩:=j7 hall hx;refine ⟨_,rfl,x,_,rfl,h2.ty,nx ⟨rfl,?_⟩⟩;rw [eG,aaN,h1,aaO,aaO];rfl
          obtain ⟨rfl,rfl⟩:=p;rw [aao (by lia)];refine ⟨p5,_,rfl,SqL.of upd_same,?_⟩;have e:((ds.map bx).all id)=bV (.list ds):=by
            show _=(decide (1≤ds.length) && decide (ds.length≤9) && ds.all bx)
            rw [decide_eq_true (show 1≤ds.length by lia),decide_eq_true (show ds.length≤9 by lia),List.all_map];rfl
          rw [e];exact q _ (Same.new n5 _)
        · refine ⟨_,_,rfl,rfl,false,congrArg V.bl (decide_eq_false (by lia)),aI ?_⟩;have z:=q H (Same.refl _);rw [show bV (.list ds)=false by
            show (decide (1≤ds.length) && decide (ds.length≤9) && ds.all bx)=false;rw [decide_eq_false (show ¬ ds.length≤9 by lia)];simp] at z
          exact z
      · refine ⟨_,rfl,a,_,rfl,.inl (SqL.of ea),_,_,rfl,rfl,false,congrArg V.bl (decide_eq_false (by lia)),aC ⟨false,rfl,aI ?_⟩⟩;have z:=q H (Same.refl _);rw [show bV (.list ds)=false by
          show (decide (1≤ds.length) && decide (ds.length≤9) && ds.all bx)=false;rw [decide_eq_false (show ¬ 1≤ds.length by lia)];simp] at z
        exact z
    | _=>simp [bG] at hl
  · have hl':bG d=false:=by simpa using hl
    refine ⟨_,rfl,_,_,false,rfl,hd.ty,by rw [iI,hl'],false,rfl,aI ?_⟩;have z:=q H (Same.refl _);rw [vb hl'] at z;exact z
def gk:Sp:=fun vs H Q _=>∃ d v,vs=[v]∧Dat H d v∧Q (.bl (aZ d)) H
abbrev gt:Stmt:=top 29
theorem l8:FnScope ["thing"] ["thing"] (am gt):=⟨rfl,rfl,rfl,by decide +kernel,rfl,by decide +kernel,by decide +kernel⟩
theorem k_ (F:Fun K "is_pair" "is_pair" gt f fd) (B:Bu K mg) (C_is_whole:Cal P w K mg base "is_whole" 1 ["thing"] (cA K)):FnOk P w K mg base CX0 2 f fd ["thing"] gk:=by
  refine F.ok l8 (fun vs H Q E h=>?_) (fun cdv A outer s H vs Q E hr h=>?_)
  · obtain ⟨p,v,rfl,_⟩:=h;rfl
  obtain ⟨d,v,rfl,hd,q⟩:=h;refine ⟨_,(@ai _ _ _ (@av _ _ _ _ (@dJ _ _ _ _ _ _ _ (@aj _ _ _ _ _ _ _ _ _ (@aG _ ("tuple")) rfl B.iisinstance aad (@aa _ _ _ _ _ (pv 0) (@aa _ _ _ _ _ (@bj _ _ (.ty "tuple") _ _ rfl B.ituple abf rfl (by decide) (by decide)) ae (by rfl)) (by rfl)) (by decide) (by decide) (by rfl) (by rfl)) (@dJ _ _ _ _ _ _ _ (@cE _ _ _ _ _ _ _ _ fg (@aj _ _ _ _ _ _ _ _ _ ax rfl B.ilen aaE (@aa _ _ _ _ _ (pv 0) ae (by rfl)) (by decide) (by decide) (by rfl) (by rfl)) af (aJ _)) (@dJ _ _ _ _ _ _ _ (@ak _ _ _ _ _ _ _ _ _ _ _ C_is_whole hr (by lia) rfl (@aa _ _ _ _ _ (@aE _ _ _ _ _ _ _ ix_tup (pv 0) af (fun _ _=>rfl)) ae (by rfl)) (by decide) (by rfl) (by rfl)) (@fG _ _ _ _ _ (@ak _ _ _ _ _ _ _ _ _ _ _ C_is_whole hr (by lia) rfl (@aa _ _ _ _ _ (@aE _ _ _ _ _ _ _ ix_tup (pv 0) af (fun _ _=>rfl)) ae (by rfl)) (by decide) (by rfl) (by rfl)))))))),?_⟩;cases d with
  | tuple ds =>
    have ty:=hd.ty (K:=K);simp only [Dat] at hd;obtain ⟨a,xs,rfl,ha,hxs⟩:=hd;refine ⟨_,rfl,_,_,true,rfl,ty,rfl,true,rfl,aI ⟨_,rfl,a,_,rfl,.inr (SqT.of ha),rfl,decide (V.int (xs.length:Nat)=V.int 2),rfl,?_⟩⟩;have lx:=hxs.len;by_cases c:xs.length=2
    · obtain ⟨l,r,y,z,rfl,rfl,h1,h2⟩:=vt hxs c;refine iK rfl ⟨_,rfl,a,_,_,_,rfl,rfl,SqT.of ha,rfl,_,_,rfl,h1.ty,_,rfl,?_⟩;have e:aZ (.tuple [l,r])=(bx l && bx r):=rfl;rw [eG];rw [e] at q;cases c1:bx l with
      | true =>
        rw [c1,Bool.true_and] at q;refine aI ⟨_,rfl,a,_,_,_,rfl,rfl,SqT.of ha,rfl,_,_,rfl,h2.ty,?_⟩;rw [eG];exact q
      | false =>
        rw [c1,acq] at q;exact aC q
    · refine gR (fun e=>c (by injection e with e;lia)) ?_;have e:aZ (.tuple ds)=false:=by
        match ds,lx with
        | [],_=>rfl
        | [_],_=>rfl
        | [_,_],lx=>exact absurd lx.symm (by intro z;exact c z)
        | _ :: _ :: _ :: _,_=>rfl
      rw [e] at q;exact q
  | none=>exact ⟨_,rfl,_,_,false,rfl,hd.ty,rfl,false,rfl,aC q⟩
  | bool b=>exact ⟨_,rfl,_,_,false,rfl,hd.ty,rfl,false,rfl,aC q⟩
  | int i=>exact ⟨_,rfl,_,_,false,rfl,hd.ty,rfl,false,rfl,aC q⟩
  | str i=>exact ⟨_,rfl,_,_,false,rfl,hd.ty,rfl,false,rfl,aC q⟩
  | list ds=>exact ⟨_,rfl,_,_,false,rfl,hd.ty,rfl,false,rfl,aC q⟩
  | dict ds=>exact ⟨_,rfl,_,_,false,rfl,hd.ty,rfl,false,rfl,aC q⟩
def dD (aR:Addr):Sp:=fun vs H Q E=>∃ d v,vs=[v]∧Dat H d v∧(bV d=true→∀ H',Same H H'→Q .non H')∧(bV d=false→∀ H',Same H H'→E (.ref aR) none H')
abbrev fz:Stmt:=top 20
theorem kC:FnScope ["thing"] ["thing"] (am fz):=⟨rfl,rfl,rfl,by decide +kernel,rfl,by decide +kernel,by decide +kernel⟩
theorem jR {aP aR:Addr} (F:Fun K "need_row" "need_row" fz f fd) (XC:Xc K mg aP aR) (C_is_row:Cal P w K mg base "is_row" 2 ["thing"] jK):FnOk P w K mg base (CX1 P w) 3 f fd ["thing"] (dD aR):=by
  refine Fun.ok1 F kC (fun vs H Q E h=>?_) (fun cdv A outer s H vs Q E hr h=>?_)
  · obtain ⟨d,v,rfl,_⟩:=h;rfl
  obtain ⟨d,v,rfl,hd,q1,q2⟩:=h;refine ⟨_,(@ai _ _ _ (@br _ _ _ _ _ _ _ _ (@bQ _ _ _ _ (@bf _ _ _ (@ak _ _ _ _ _ _ _ _ _ _ _ C_is_row hr (by lia) rfl (@aa _ _ _ _ _ (pv 0) ae (by rfl)) (by decide) (by rfl) (by rfl)) (by intro _;rfl))) (@ai _ _ _ (@pZ _ _ _ _ _ _ _ _ _ _ rz1 XC.eNoRow rfl rfl XC.mNoRow (by rfl) (by decide))) aV)),?_⟩;refine ⟨_,rfl,d,v,rfl,hd,fun H1 g1=>?_⟩;cases c:bV d with
  | true=>exact ⟨true,rfl,aC (q1 c H1 g1)⟩
  | false=>exact ⟨false,rfl,aI (q2 c H1 g1)⟩
def m_:Sp:=fun vs H Q _=>∃ d v k,vs=[v,.int k]∧Dat H d v∧mR d∧∀ H',Same H H'→Q (.bl (d5 k d)) H'
abbrev bP:Stmt:=top 27
theorem ed:FnScope ["thing","joints"] ["thing","joints"] (am bP):=⟨rfl,rfl,rfl,by decide +kernel,rfl,by decide +kernel,by decide +kernel⟩
theorem uj (F:Fun K "are_signs_between" "are_signs_between" bP f fd) (B:Bu K mg) (C_is_sign:Cal P w K mg base "is_sign" 1 ["thing"] jF):FnOk P w K mg base CX0 2 f fd ["thing","joints"] m_:=by
  refine F.ok ed (fun vs H Q E h=>?_) (fun cdv A outer s H vs Q E hr h=>?_)
  · obtain ⟨d,v,k,rfl,_⟩:=h;rfl
  obtain ⟨d,v,k,rfl,hd,ha,q⟩:=h;refine ⟨_,(@ag _ _ _ _ _ (@br _ _ _ _ _ _ _ _ (@PW.pt _ _ _ (@cH _ _ _ _ _ _ _ (@bQ _ _ _ _ (@bf _ _ _ (@aj _ _ _ _ _ _ _ _ _ (@aG _ ("str")) rfl B.iisinstance aad (@aa _ _ _ _ _ (pv 0) (@aa _ _ _ _ _ (@bj _ _ (.ty "str") _ _ rfl B.istr abK rfl (by decide) (by decide)) ae (by rfl)) (by rfl)) (by decide) (by decide) (by rfl) (by rfl)) (by intro _;rfl))) (@cK _ _ _ _ (@aD _ _ _ _ _ _ _ _ dW (@aj _ _ _ _ _ _ _ _ _ dQ rfl B.ilen aaE (@aa _ _ _ _ _ (pv 0) ae (by rfl)) (by decide) (by decide) (by rfl) (by rfl)) (pv 1) (aJ _))))) (@ai _ _ _ (@av _ _ _ _ dc)) aV) (@ai _ _ _ (@av _ _ _ _ (@aj _ _ _ _ _ _ _ _ _ (@iU _ rfl) rfl B.iall acx (@aa _ _ _ _ _ (@dU _ _ _ _ _ _ _ _ (["sign"]) ([none]) _ _ _ _ rfl (@qh _ _ _ _ (pv 0)) rfl trivial trivial (fun _ _ _ _=>⟨(@aB _ _ (0) _ (show abl (["sign"]:List Str) by decide +kernel) rfl (Or.inl rfl) (.inr rfl)),b_,(@ak _ _ _ _ _ _ _ _ _ _ _ C_is_sign hr (by lia) rfl (@aa _ _ _ _ _ (pv 0) ae (by rfl)) (by decide) (by rfl) (by rfl))⟩) (by rfl) (by rfl) (by rfl) (by rfl) (by intro _;rfl)) ae (by rfl)) (by decide) (by decide) (by rfl) (by rfl))))),?_⟩;by_cases hs:fW d=true
  · cases d with
    | str z =>
      simp only [Dat] at hd;subst hd;have e0:d5 k (.str z)=(decide ((z.length:Int)=k) && z.cps.toList.all (fun c=>d6 ⟨#[c]⟩)):=rfl;rw [e0] at q;have hz:z.length=z.cps.toList.length:=by simp [Str.length]
      have hzs:z.length=z.cps.size:=rfl;have hz100:=ha.2;refine ⟨_,rfl,_,_,true,rfl,.str z,rfl,true,rfl,aC ⟨_,rfl,_,rfl,aK (by lia),?_⟩⟩;refine ⟨_,rfl,rfl,(!decide (V.int (z.length:Nat)=V.int k)),rfl,?_⟩;by_cases c:(z.length:Int)=k
      · rw [decide_eq_true c,Bool.true_and] at q;rw [decide_eq_true (by rw [c])];refine aC ⟨_,rfl,_,rfl,ha.1,?_⟩;refine dY (Trn.str (z:=z)) (fun i ys H'=>H'=H∧ys=((z.cps.toList.take i).map (fun c=>d6 ⟨#[c]⟩)).map V.bl) ⟨rfl,rfl⟩ (fun i ys H' hi p=>by rw [p.2];exact ⟨trivial,ay (by rw [aac,aac,aax];lia)⟩) (fun i x ys H1 H' hi hx p Nx nx=>?_) (fun ys H' p p5 n5=>?_)
        · obtain ⟨rfl,rfl⟩:=p;obtain ⟨rfl,cc,hc,rfl⟩:=hx;refine ⟨_,rfl,.str ⟨#[cc]⟩,_,rfl,(by simp only [Dat]),nx _ _ ⟨rfl,?_⟩⟩;rw [aaN,show z.cps.toList[i]?=some cc by simpa using hc,aaO,aaO];rfl
        obtain ⟨rfl,rfl⟩:=p;rw [aao (by lia)];refine ⟨p5,_,rfl,SqL.of upd_same,?_⟩;rw [List.all_map];exact q _ (Same.new n5 _)
      · rw [decide_eq_false c,acq] at q;rw [decide_eq_false (fun e=>c (by injection e))];exact aI (q H (Same.refl _))
    | _=>simp [fW] at hs
  · have hs':fW d=false:=by simpa using hs
    refine ⟨_,rfl,_,_,false,rfl,hd.ty,by rw [nF,hs'],false,rfl,aI ?_⟩;have z:=q H (Same.refl _);rw [show d5 k d=false by cases d <;> first|rfl|simp [fW] at hs'] at z;exact z
def mY:Sp:=fun vs H Q _=>∃ d v k,vs=[v,.int k]∧Dat H d v∧szD d≤900∧∀ H',Same H H'→Q (.bl (dZ k d)) H'
theorem mv:∀ ds:List PyData,ds.length≤szAll ds
  | []=>aab _
  | d :: ds=>by
    have:=mv ds;have:=rN d;simp only [aar,szAll];lia
abbrev cJ:Stmt:=top 28
theorem gq:FnScope ["thing","joints"] ["thing","joints"] (am cJ):=⟨rfl,rfl,rfl,by decide +kernel,rfl,by decide +kernel,by decide +kernel⟩
theorem ud (F:Fun K "are_stretches" "are_stretches" cJ f fd) (B:Bu K mg) (C_is_pair:Cal P w K mg base "is_pair" 2 ["thing"] gk):FnOk P w K mg base CX0 3 f fd ["thing","joints"] mY:=by
  refine F.ok gq (fun vs H Q E h=>?_) (fun cdv A outer s H vs Q E hr h=>?_)
  · obtain ⟨d,v,k,rfl,_⟩:=h;rfl
  obtain ⟨d,v,k,rfl,hd,hsz,q⟩:=h;refine ⟨_,(@ag _ _ _ _ _ (@br _ _ _ _ _ _ _ _ (@PW.pt _ _ _ (@cH _ _ _ _ _ _ _ (@bQ _ _ _ _ (@bf _ _ _ (@aj _ _ _ _ _ _ _ _ _ (@aG _ ("list")) rfl B.iisinstance aad (@aa _ _ _ _ _ (pv 0) (@aa _ _ _ _ _ (@bj _ _ (.ty "list") _ _ rfl B.ilist abT rfl (by decide) (by decide)) ae (by rfl)) (by rfl)) (by decide) (by decide) (by rfl) (by rfl)) (by intro _;rfl))) (@cK _ _ _ _ (@aD _ _ _ _ _ _ _ _ dW (@aj _ _ _ _ _ _ _ _ _ ax rfl B.ilen aaE (@aa _ _ _ _ _ (pv 0) ae (by rfl)) (by decide) (by decide) (by rfl) (by rfl)) (pv 1) (aJ _))))) (@ai _ _ _ (@av _ _ _ _ dc)) aV) (@ai _ _ _ (@av _ _ _ _ (@aj _ _ _ _ _ _ _ _ _ (@iU _ rfl) rfl B.iall acx (@aa _ _ _ _ _ (@dU _ _ _ _ _ _ _ _ (["pair"]) ([none]) _ _ _ _ rfl (@bM _ _ _ _ (pv 0)) rfl trivial trivial (fun _ _ _ _=>⟨(@aB _ _ (0) _ (show abl (["pair"]:List Str) by decide +kernel) rfl (Or.inl rfl) (.inr rfl)),b_,(@ak _ _ _ _ _ _ _ _ _ _ _ C_is_pair hr (by lia) rfl (@aa _ _ _ _ _ (pv 0) ae (by rfl)) (by decide) (by rfl) (by rfl))⟩) (by rfl) (by rfl) (by rfl) (by rfl) (by intro _;rfl)) ae (by rfl)) (by decide) (by decide) (by rfl) (by rfl))))),?_⟩;by_cases hl:bG d=true
  · cases d with
    | list ds =>
      simp only [Dat] at hd;obtain ⟨a,us,rfl,ea,hall⟩:=hd;have hlen:=hall.len;have l9:=mv ds;simp only [szD] at hsz;have e0:dZ k (.list ds)=(decide ((ds.length:Int)=k) && ds.all aZ):=rfl;rw [e0] at q;refine ⟨_,rfl,_,_,true,rfl,.lst ea,rfl,true,rfl,aC ⟨_,rfl,a,_,rfl,.inl (SqL.of ea),_,rfl,rfl,(!decide (V.int (us.length:Nat)=V.int k)),rfl,?_⟩⟩;by_cases c:(us.length:Int)=k
      · rw [decide_eq_true (show (ds.length:Int)=k by lia),Bool.true_and] at q;rw [decide_eq_true (by rw [c])];refine aC ⟨_,rfl,a,rfl,⟨_,SqL.of ea⟩,?_⟩;refine dY (Trn.list (xs:=us)) (fun i ys H'=>H'=H∧ys=((ds.take i).map aZ).map V.bl) ⟨rfl,rfl⟩ (fun i ys H' hi p=>by rw [p.1,p.2];exact ⟨SqL.of ea,ay (by rw [aac,aac,aax];lia)⟩) (fun i x ys H1 H' hi hx p Nx nx=>?_) (fun ys H' p p5 n5=>?_)
        · obtain ⟨rfl,rfl⟩:=p;obtain ⟨rfl,hx⟩:=hx;obtain ⟨dd,g1,g2⟩:=j7 hall hx;refine ⟨_,rfl,dd,_,rfl,g2,nx _ _ ⟨rfl,?_⟩⟩;rw [aaN,g1,aaO,aaO];rfl
        obtain ⟨rfl,rfl⟩:=p;rw [aao (by lia)];refine ⟨p5,_,rfl,SqL.of upd_same,?_⟩;rw [List.all_map];exact q _ (Same.new n5 _)
      · rw [decide_eq_false (show ¬ (ds.length:Int)=k by lia),acq] at q;rw [decide_eq_false (fun e=>c (by injection e))];exact aI (q H (Same.refl _))
    | _=>simp [bG] at hl
  · have hl':bG d=false:=by simpa using hl
    refine ⟨_,rfl,_,_,false,rfl,hd.ty,by rw [iI,hl'],false,rfl,aI ?_⟩;have z:=q H (Same.refl _);rw [show dZ k d=false by cases d <;> first|rfl|simp [bG] at hl'] at z;exact z
end
open PySem L2
def j_ (p:Int × Int):List Int:=(aaQ (p.2 - p.1).toNat).map fun (k:Nat)=>p.1+(k:Int)
theorem PairIn.mono {H H':Hp} {p:Int × Int} {v:V} (t:Tups H H') (h:PairIn H p v):PairIn H' p v:=by
  obtain ⟨a,e,h⟩:=h;exact ⟨a,e,t _ _ h⟩
def CutIn (H:Hp) (p:Int × Int) (c:Int) (v:V):Prop:=∃ a x y,v=.ref a∧H a=some (.tup [x,y])∧PairIn H (p.1,c) x∧PairIn H (c+1,p.2) y
theorem CutIn.mono {H H':Hp} {p:Int × Int} {c:Int} {v:V} (t:Tups H H') (h:CutIn H p c v):CutIn H' p c v:=by
  obtain ⟨a,x,y,e,h1,h2,h3⟩:=h;exact ⟨a,x,y,e,t _ _ h1,PairIn.mono t h2,PairIn.mono t h3⟩
theorem Paired.snoc {α β:Type} {F:α→β→Prop} {as:List α} {us:List β} {a:α} {u:β} (h:Paired F as us) (x:F a u):Paired F (as++[a]) (us++[u]):=by
  induction h with
  | nil=>exact .cons x .nil
  | cons y _ ih=>exact .cons y ih
theorem Paired.at {α β:Type} {F:α→β→Prop}:∀ {as:List α} {us:List β},Paired F as us→∀ {j:Nat} {x:β},us[j]?=some x→∃ a,as[j]?=some a∧F a x
  | _,_,.nil,j,x,h=>by simp at h
  | _,_,.cons a _,0,x,h=>by simp at h;subst h;exact ⟨_,rfl,a⟩
  | _,_,.cons _ b,j+1,x,h=>by
    obtain ⟨p,h1,h2⟩:=Paired.at b (j:=j) (x:=x) (by simpa using h);exact ⟨p,by simpa using h1,h2⟩
theorem lF {α:Type} {p:α→Bool} {c:α}:∀ {xs:List α} {i:Nat},(∀ x∈xs.take i,p x=false)→xs[i]?=some c→p c=true→xs.find? p=some c
  | [],i,_,h,_=>by simp at h
  | x :: xs,0,_,h,hc=>by
    have : x=c:=by simpa using h
    subst this;rw [List.find?_cons,hc]
  | x :: xs,i+1,hp,h,hc=>by
    rw [List.find?_cons,hp x (by rw [ab8];exact aag)];exact lF (fun y hy=>hp y (by rw [ab8];exact aaf _ hy)) (by simpa using h) hc
theorem re (p:Int × Int):j_ p=fh p.1 p.2:=rfl
theorem pU:∀ {gs:List Sg} {i:Nat} {g:Sg},gs[i]?=some g→(ah gs).cps.toList[i]?=some (g.str.cps.toList.getD 0 0)
  | [],i,g,h=>by simp at h
  | a :: gs,0,g,h=>by
    have : a=g:=by simpa using h
    subst this;have e:(ah (a :: gs)).cps.toList=a.str.cps.toList++(ah gs).cps.toList:=by
      show ((a.str++ah gs).cps).toList=_;rw [show (a.str++ah gs).cps=a.str.cps++(ah gs).cps from rfl,abP]
    rw [e];cases a <;> rfl
  | a :: gs,i+1,g,h=>by
    have e:(ah (a :: gs)).cps.toList=a.str.cps.toList++(ah gs).cps.toList:=by
      show ((a.str++ah gs).cps).toList=_;rw [show (a.str++ah gs).cps=a.str.cps++(ah gs).cps from rfl,abP]
    have l1:a.str.cps.toList.length=1:=by cases a <;> rfl
    rw [e,ab3 (by lia),l1];exact pU (by simpa using h)
theorem pR (g:Sg):(⟨#[g.str.cps.toList.getD 0 0]⟩:Str)=g.str:=by cases g <;> rfl
section
variable {P:Program} {w:World} {K:aaa} {mg:Str→Option Value} {base:Heap} {f:Addr} {fd:FuncData}
def lY:Sp:=fun vs H Q _=>∃ p v,vs=[v]∧PairIn H p v∧0≤p.1∧p.1≤p.2∧p.2 < 100∧∀ a us H',Same H H'→H a=none→H' a=some (.lst us)→Paired (CutIn H' p) (j_ p) us→Q (.ref a) H'
abbrev gu:Stmt:=top 22
theorem ft:FnScope ["stretch","first","last"] ["stretch"] (am gu):=⟨rfl,rfl,rfl,by decide +kernel,rfl,by decide +kernel,by decide +kernel⟩
theorem mn (F:Fun K "cuts_of" "cuts_of" gu f fd) (B:Bu K mg):FnOk P w K mg base CX0 1 f fd ["stretch"] lY:=by
  refine F.ok ft (fun vs H Q E h=>?_) (fun cdv A outer s H vs Q E hr h=>?_)
  · obtain ⟨p,v,rfl,_⟩:=h;rfl
  obtain ⟨p,v,rfl,⟨a,rfl,ha⟩,h1,h2,h3,q⟩:=h;refine ⟨_,(@ag _ _ _ _ _ (@io _ _ _ _ _ _ (pv 0) (@pg_tup _ _ _ _ _ _ rfl (@a9 _ _ _ _ _ (@aB _ _ (1) _ (ft).nd rfl (Or.inr rfl) (.inl rfl)) (@a9 _ _ _ _ _ (@aB _ _ (2) _ (ft).nd rfl (Or.inr rfl) (.inl rfl)) dI (by rfl)) (by rfl)) (by rfl) (by rfl)) (by rfl) (by rfl) (by rfl)) (@ai _ _ _ (@av _ _ _ _ (@dU _ _ _ _ _ _ _ _ (["cut","first","last"]) ([none,some 1,some 2]) _ _ _ _ rfl (@oj _ _ _ _ _ _ _ rfl B.irange (@aa _ _ _ _ _ (pv 1) (@aa _ _ _ _ _ (pv 2) ae (by rfl)) (by rfl)) (by rfl) (by rfl)) rfl ⟨rfl,⟨rfl,trivial⟩⟩ ⟨⟨rfl,Or.inl rfl,Or.inl rfl⟩,⟨⟨rfl,Or.inl rfl,Or.inl rfl⟩,trivial⟩⟩ (fun _ _ _ _=>⟨(@aB _ _ (0) _ (show abl (["cut","first","last"]:List Str) by decide +kernel) rfl (Or.inl rfl) (.inr rfl)),b_,(@aX _ _ _ _ _ (@aa _ _ _ _ _ (@aX _ _ _ _ _ (@aa _ _ _ _ _ (pv 1) (@aa _ _ _ _ _ (pv 0) ae (by rfl)) (by rfl))) (@aa _ _ _ _ _ (@aX _ _ _ _ _ (@aa _ _ _ _ _ (@ar _ _ _ _ _ _ _ _ bI (pv 0) af) (@aa _ _ _ _ _ (pv 2) ae (by rfl)) (by rfl))) ae (by rfl)) (by rfl)))⟩) (by rfl) (by rfl) (by rfl) (by rfl) (by intro _;rfl))))),?_⟩;refine ⟨_,rfl,a,_,rfl,SqT.of ha,rfl,_,_,rfl,_,_,rfl,rfl,?_⟩;refine ⟨_,rfl,_,rfl,p.1,p.2,rfl,⟨by lia,by lia,by lia,by lia⟩,?_⟩;refine dY (Trn.range (lo:=p.1) (n:=(p.2 - p.1).toNat)) (fun i ys H'=>Same H H'∧Paired (CutIn H' p) ((j_ p).take i) ys) ⟨Same.refl _,.nil⟩ (fun i ys H' hi z=>⟨trivial,ay (by have:=z.2.length;rw [← this,aax];lia)⟩) (fun i x ys H0 H' hi hx z Nx nx=>?_) (fun ys H' z p5 n5=>?_)
  · obtain ⟨rfl,rfl⟩:=hx;obtain ⟨S,hp⟩:=z;have t2:(2:Nat)≤sizeLine:=by decide
    refine ⟨_,rfl,_,rfl,t2,fun t ht=>?_⟩;have st:=Same.new ht (.tup [.int p.1,.int (p.1+(i:Int))]);refine ⟨_,rfl,_,_,rfl,rfl,_,rfl,t2,fun u hu=>⟨t2,fun v hv=>nx _ _ ?_⟩⟩;have su:=Same.new hu (.tup [.int (p.1+(i:Int)+1),.int p.2]);have sv:=Same.new hv (.tup [.ref t,.ref u]);have S3:=(st.trans su).trans sv;refine ⟨S.trans S3,?_⟩;have e:(j_ p).take (i+1)=(j_ p).take i++[p.1+(i:Int)]:=by
      rw [aaN];have : (j_ p)[i]?=some (p.1+(i:Int)):=by
        unfold j_;rw [aaU,List.getElem?_range hi];rfl
      rw [this];rfl
    rw [e];exact Paired.snoc (Paired.mapP hp fun _ _ h=>CutIn.mono (Tups.of S3) h) ⟨v,_,_,rfl,upd_same,⟨t,rfl,sv _ _ (su _ _ upd_same)⟩,⟨u,rfl,sv _ _ upd_same⟩⟩
  · obtain ⟨S,hp⟩:=z;rw [aao (by simp [j_])] at hp;have s5:=Same.new n5 (.lst ys);exact q p5 ys _ (S.trans s5) (S.free n5) upd_same (Paired.mapP hp fun _ _ h=>CutIn.mono (Tups.of s5) h)
def lW:Sp:=fun vs H Q _=>∃ p v a us ps,vs=[v,.ref a]∧PairIn H p v∧H a=some (.lst us)∧PairsIn H ps us∧us.length≤100∧Q (.bl (part ps p)) H
abbrev gr:Stmt:=top 31
theorem l6:FnScope ["stretch","stretches"] ["stretch","stretches"] (am gr):=⟨rfl,rfl,rfl,by decide +kernel,rfl,by decide +kernel,by decide +kernel⟩
theorem mh (F:Fun K "is_part" "is_part" gr f fd):FnOk P w K mg base CX0 1 f fd ["stretch","stretches"] lW:=by
  refine F.ok l6 (fun vs H Q E h=>?_) (fun cdv A outer s H vs Q E hr h=>?_)
  · obtain ⟨p,v,a,us,ps,rfl,_⟩:=h;rfl
  obtain ⟨p,v,a,us,ps,rfl,hp0,ha,hps,hl,q⟩:=h;refine ⟨_,(@ai _ _ _ (@av _ _ _ _ (@u5 _ _ _ _ _ _ _ (@cE _ _ _ _ _ _ _ _ fg (@aE _ _ _ _ _ _ _ ix_tup (pv 0) af (fun _ _=>rfl)) (@aE _ _ _ _ _ _ _ ix_tup (pv 0) af (fun _ _=>rfl)) (aJ _)) (@fG _ _ _ _ _ (@cE _ _ _ _ _ _ _ _ (@t_ _ _ rfl hr.units) (pv 0) (pv 1) (by with_unfolding_all rfl)))))),?_⟩;obtain ⟨t,rfl,ht⟩:=id hp0;refine ⟨_,rfl,t,_,_,_,rfl,rfl,SqT.of ht,rfl,_,rfl,t,_,_,_,rfl,rfl,SqT.of ht,rfl,rfl,decide (V.int p.1=V.int p.2),rfl,?_⟩;by_cases c:p.1=p.2
  · have e:part ps p=true:=by unfold part;rw [decide_eq_true c];rfl
    rw [e] at q;rw [decide_eq_true (by rw [c])];exact aI q
  · have e:part ps p=decide (p∈ps):=by unfold part;rw [decide_eq_false c,Bool.false_or]
    rw [e] at q;rw [decide_eq_false (fun z=>c (by injection z))];exact aC ⟨_,rfl,_,rfl,p,a,us,ps,hp0,rfl,SqL.of ha,hps,q⟩
def Jo (H:Hp):Option Wy→V→Prop
  | some w,u=>WyIn H w u
  | none,u=>u=.non
theorem Jo.mono {H H':Hp} {o:Option Wy} {u:V} (t:Tups H H') (h:Jo H o u):Jo H' o u:=by
  cases o with
  | none=>exact h
  | some w=>exact WyIn.mono t h
theorem mx {H:Hp} {o:Option Wy} {u:V} (h:Jo H o u):decide (u=.non)=o.isNone:=by
  cases o with
  | none=>rw [show u=.non from h];rfl
  | some w =>
    cases w with
    | num i=>rw [show u=.int i from h];rfl
    | node g l r =>
      obtain ⟨a,_,_,rfl,_⟩:=h;rfl
def ic (n:Nat):Sp:=fun vs H Q _=>∃ (r:Addr) (ns:List Int) (gs:List Sg) (a:Addr) (us:List V) (ps:PS) (v:V) (p:Int × Int),vs=[.ref r,.str (ah gs),.ref a,v]∧H r=some (.lst (ns.map V.int))∧ns.length≤9∧gs.length+1=ns.length∧H a=some (.lst us)∧PairsIn H ps us∧us.length≤100∧PairIn H p v∧0≤p.1∧p.1≤p.2∧p.2 < ns.length∧p.2 - p.1 < n ∧
  ∀ u H',Same H H'→Jo H' (jn ns gs ps n p.1 p.2) u→Q u H'
abbrev cV:Stmt:=top 30
theorem bC:FnScope ["row","between","stretches","stretch","before","behind","left","right"] ["row","between","stretches","stretch"] (am cV):=⟨rfl,rfl,rfl,by decide +kernel,rfl,by decide +kernel,by decide +kernel⟩
theorem si (F:Fun K "join_stretch" "join_stretch" cV f fd) (bF:Binds K fd ["row","between","stretches","stretch"] []) (mF:mg "join_stretch" = some (.ref f)) (B:Bu K mg) (C_cuts_of:Cal P w K mg base "cuts_of" 1 ["stretch"] lY) (C_is_part:Cal P w K mg base "is_part" 1 ["stretch","stretches"] lW) :
    ∀ n,FnOk P w K mg base CX0 (n+2) f fd ["row","between","stretches","stretch"] (ic n):=by
  intro n
  induction n with
  | zero =>
    refine ⟨fun vs H Q E h=>?_,fun A outer s H args us vs Q E _ _ _ _ h=>?_⟩
    · obtain ⟨r,ns,gs,a,us,ps,v,p,rfl,_⟩:=h;rfl
    · obtain ⟨r,ns,gs,a,us,ps,v,p,_,_,_,_,_,_,_,_,_,h1,_,h2,_⟩:=h;lia
  | succ n ih =>
    have C_join_stretch:Cal P w K mg base "join_stretch" (n+2) ["row","between","stretches","stretch"] (ic n):=⟨f,fd,ih,bF,F.kp,mF⟩
    refine F.ok bC (fun vs H Q E h=>?_) (fun cdv A outer s H vs Q E hr h=>?_)
    · obtain ⟨r,ns,gs,a,us,ps,v,p,rfl,_⟩:=h;rfl
    obtain ⟨r,ns,gs,a,us,ps,v,p,rfl,er,h9,hg,ea,hps,hl,hp0,p0,p1,p2,pn,q⟩:=h;refine ⟨_,(@ag _ _ _ _ _ (@br _ _ _ _ _ _ _ _ (@aD _ _ _ _ _ _ _ _ fg (@aE _ _ _ _ _ _ _ ix_tup (pv 3) af (fun _ _=>rfl)) (@aE _ _ _ _ _ _ _ ix_tup (pv 3) af (fun _ _=>rfl)) (aJ _)) (@ai _ _ _ (@av _ _ _ _ (@aE _ _ _ _ _ _ _ ix_list (pv 0) (@aE _ _ _ _ _ _ _ ix_tup (pv 3) af (fun _ _=>rfl)) (fun _ _=>rfl)))) aV) (@ag _ _ _ _ _ (@fF _ _ _ _ _ _ _ _ abq rfl (@bM _ _ _ _ (@ak _ _ _ _ _ _ _ _ _ _ _ C_cuts_of hr (by lia) rfl (@aa _ _ _ _ _ (pv 3) ae (by rfl)) (by decide) (by rfl) (by rfl))) (@pg_tup _ _ _ _ _ _ rfl (@a9 _ _ _ _ _ (@aB _ _ (4) _ (bC).nd rfl (Or.inl rfl) (.inl rfl)) (@a9 _ _ _ _ _ (@aB _ _ (5) _ (bC).nd rfl (Or.inl rfl) (.inl rfl)) dI (by rfl)) (by rfl)) (by rfl) (by rfl)) (@ai _ _ _ (@br _ _ _ _ _ _ _ _ (@PW.pt _ _ _ (@gB _ _ _ _ _ _ _ (@bf _ _ _ (@ak _ _ _ _ _ _ _ _ _ _ _ C_is_part hr (by lia) rfl (@aa _ _ _ _ _ (pv 4) (@aa _ _ _ _ _ (pv 2) ae (by rfl)) (by rfl)) (by decide) (by rfl) (by rfl)) (by intro _;rfl)) (@fR _ _ _ _ (@bf _ _ _ (@ak _ _ _ _ _ _ _ _ _ _ _ C_is_part hr (by lia) rfl (@aa _ _ _ _ _ (pv 5) (@aa _ _ _ _ _ (pv 2) ae (by rfl)) (by rfl)) (by decide) (by rfl) (by rfl)) (by intro _;rfl))))) (@ag _ _ _ _ _ (@au _ _ (6) _ _ _ _ (bC).nd rfl (Or.inl rfl) (@ak _ _ _ _ _ _ _ _ _ _ _ C_join_stretch hr (by lia) rfl (@aa _ _ _ _ _ (pv 0) (@aa _ _ _ _ _ (pv 1) (@aa _ _ _ _ _ (pv 2) (@aa _ _ _ _ _ (pv 4) ae (by rfl)) (by rfl)) (by rfl)) (by rfl)) (by decide) (by rfl) (by rfl)) (by rfl) (by first|exact .inl rfl|exact .inr rfl|assumption)) (@ag _ _ _ _ _ (@au _ _ (7) _ _ _ _ (bC).nd rfl (Or.inl rfl) (@ak _ _ _ _ _ _ _ _ _ _ _ C_join_stretch hr (by lia) rfl (@aa _ _ _ _ _ (pv 0) (@aa _ _ _ _ _ (pv 1) (@aa _ _ _ _ _ (pv 2) (@aa _ _ _ _ _ (pv 5) ae (by rfl)) (by rfl)) (by rfl)) (by rfl)) (by decide) (by rfl) (by rfl)) (by rfl) (by first|exact .inl rfl|exact .inr rfl|assumption)) (@ai _ _ _ (@av _ _ _ _ (@kP _ _ _ _ _ _ _ _ (@PW.pt _ _ _ (@cH _ _ _ _ _ _ _ (@aD _ _ _ _ _ _ _ _ iy (pv 6) bw (aJ _)) (@cK _ _ _ _ (@aD _ _ _ _ _ _ _ _ iy (pv 7) bw (aJ _))))) bw (@aX _ _ _ _ _ (@aa _ _ _ _ _ (@aE _ _ _ _ _ _ _ jY (pv 1) (@aE _ _ _ _ _ _ _ ix_tup (pv 4) af (fun _ _=>rfl)) (fun _ _=>rfl)) (@aa _ _ _ _ _ (pv 6) (@aa _ _ _ _ _ (pv 7) ae (by rfl)) (by rfl)) (by rfl)))))))) aV)) (by intro _;rfl)) (@ai _ _ _ (@av _ _ _ _ bw)))),?_⟩;obtain ⟨t,rfl,ht⟩:=id hp0;have zl:(ah gs).length=gs.length:=ck gs;rw [jn] at q;refine ⟨_,rfl,t,_,_,_,rfl,rfl,SqT.of ht,rfl,_,rfl,t,_,_,_,rfl,rfl,SqT.of ht,rfl,rfl,decide (V.int p.1=V.int p.2),rfl,?_⟩;by_cases c:p.1=p.2
    · rw [if_pos c] at q;rw [decide_eq_true (by rw [c])];have hi:p.1.toNat < ns.length:=by lia
      refine aI ⟨_,rfl,_,rfl,t,_,_,_,rfl,rfl,SqT.of ht,rfl,r,_,_,.int (ns[p.1.toNat]'hi),rfl,rfl,SqL.of er,?_,?_⟩
      · have:=eY (xs:=ns.map V.int) (j:=p.1.toNat) (v:=.int (ns[p.1.toNat]'hi)) (by rw [aaU,aaj hi];rfl)
        rwa [show ((p.1.toNat:Nat):Int)=p.1 by lia] at this
      · rw [aaj hi] at q;exact q _ H (Same.refl _) rfl
    · rw [if_neg c] at q;rw [decide_eq_false (fun z=>c (by injection z))];refine aC ⟨_,rfl,p,_,rfl,hp0,p0,p1,by lia,fun ac ucs H1 s1 nac eac hcs=>?_⟩;have hlc:ucs.length≤100:=by have:=hcs.length;rw [j_,aac,List.length_range] at this;lia
      refine ⟨ac,rfl,⟨_,SqL.of eac⟩,iQ (Trn.list (xs:=ucs)) (fun i σ H'=>∃ c5 c6 c7 c8,σ=[some (.ref r),some (.str (ah gs)),some (.ref a),some (.ref t),c5,c6,c7,c8]∧Same H1 H'∧∀ x∈(fh p.1 p.2).take i,(part ps (p.1,x) && part ps (x+1,p.2))=false) ⟨_,_,_,_,rfl,Same.refl _,fun x hx=>by simp at hx⟩ (fun i σ H' hi z=>?_) (fun i x σ K0' K0 hi it z=>?_) (fun σ K9 z=>?_)⟩
      · obtain ⟨_,_,_,_,rfl,S,_⟩:=z;exact SqL.of (S _ _ eac)
      · obtain ⟨c5,c6,c7,c8,rfl,S,hpre⟩:=z;obtain ⟨rfl,hx⟩:=it;obtain ⟨cc,hcc,hcin⟩:=Paired.at hcs hx;rw [re] at hcc;have hcm:=cuts_mem.mp (abg hcc);obtain ⟨tt,b1,b2,rfl,ett,hb1,hb2⟩:=hcin.mono (Tups.of S);have S0:=s1.trans S;have ea0:=S0 _ _ ea;have hps0:=PairsIn.mono (Tups.of S0) hps;refine ⟨tt,_,rfl,SqT.of ett,rfl,_,_,rfl,_,_,rfl,rfl,?_⟩;refine ⟨_,rfl,_,rfl,(p.1,cc),b1,a,us,ps,rfl,hb1,ea0,hps0,hl,part ps (p.1,cc),rfl,?_⟩;have no:(part ps (p.1,cc) && part ps (cc+1,p.2))=false→∀ x∈(fh p.1 p.2).take (i+1),(part ps (p.1,x) && part ps (x+1,p.2))=false:=fun e x hx=>by
          rw [aaN,hcc] at hx;rcases aaz.mp hx with hx|hx
          · exact hpre x hx
          · have : x=cc:=by simpa using hx
            rw [this];exact e
        cases e1:part ps (p.1,cc) with
        | false=>exact aC ⟨_,_,_,_,rfl,S,no (by rw [e1];rfl)⟩
        | true =>
          refine aI ⟨_,rfl,_,rfl,(cc+1,p.2),b2,a,us,ps,rfl,hb2,ea0,hps0,hl,part ps (cc+1,p.2),rfl,?_⟩;cases e2:part ps (cc+1,p.2) with
          | false=>exact aC ⟨_,_,_,_,rfl,S,no (by rw [e1,e2];rfl)⟩
          | true =>
            have hf:(fh p.1 p.2).find? (fun c=>part ps (p.1,c) && part ps (c+1,p.2))=some cc:=lF hpre hcc (by rw [e1,e2];rfl);rw [hf] at q;simp only at q;refine aI ⟨_,rfl,_,rfl,_,rfl,_,rfl,r,ns,gs,a,us,ps,b1,(p.1,cc),rfl,S0 _ _ er,h9,hg,ea0,hps0,hl,hb1,p0,hcm.1,(by simp only;lia),(by simp only;lia),fun u1 H3 s3 j1=>?_⟩;have S3:=S0.trans s3;have hb23:=PairIn.mono (Tups.of s3) hb2;refine ⟨_,rfl,_,rfl,_,rfl,_,rfl,r,ns,gs,a,us,ps,b2,(cc+1,p.2),rfl,S3 _ _ er,h9,hg,S3 _ _ ea,PairsIn.mono (Tups.of S3) hps,hl,hb23,(by simp only;lia),(by simp only;lia),p2,(by simp only;lia),fun u2 H4 s4 j2=>?_⟩;have S4:=S3.trans s4;have j1':=j1.mono (Tups.of s4);have hgi:cc.toNat < gs.length:=by lia
            have hgg:gs[cc.toNat]?=some gs[cc.toNat]:=aaj hgi;rw [hgg] at q;refine ⟨_,rfl,rfl,decide (u1=.non),rfl,?_⟩;rw [mx j1'];cases ho1:jn ns gs ps n p.1 cc with
            | none =>
              rw [ho1] at q;exact aI (aI (q _ H4 S4 rfl))
            | some w1 =>
              refine aC ⟨_,rfl,rfl,decide (u2=.non),rfl,?_⟩;rw [mx j2];rw [ho1] at q j1';cases ho2:jn ns gs ps n (cc+1) p.2 with
              | none =>
                rw [ho2] at q;exact aI (q _ H4 S4 rfl)
              | some w2 =>
                rw [ho2] at q j2;obtain ⟨tb1,rfl,etb1⟩:=PairIn.mono (Tups.of (s3.trans s4)) hb1;refine aC ⟨_,rfl,_,rfl,tb1,_,_,_,rfl,rfl,SqT.of etb1,rfl,_,_,_,rfl,rfl,aK (by lia),(show atI (ah gs).cps.toList cc=some _ from by
                  have:=eY (xs:=(ah gs).cps.toList) (pU hgg)
                  rwa [show ((cc.toNat:Nat):Int)=cc by lia] at this),?_⟩
                rw [pR];refine ⟨_,rfl,_,rfl,(by show 3≤sizeLine;decide),fun pt nt=>?_⟩;have s5:=Same.new nt (.tup [.str (gs[cc.toNat]).str,u1,u2]);exact q _ _ (S4.trans s5) ⟨pt,u1,u2,rfl,upd_same,WyIn.mono (Tups.of s5) j1',WyIn.mono (Tups.of s5) j2⟩
      · obtain ⟨_,_,_,_,rfl,S,hpre⟩:=z;have hlx:=hcs.length;rw [re] at hlx;rw [← hlx,List.take_length] at hpre;have hf:(fh p.1 p.2).find? (fun c=>part ps (p.1,c) && part ps (c+1,p.2))=none:=List.find?_eq_none.mpr fun x hx=>by rw [hpre x hx];simp
        rw [hf] at q;exact q _ K9 (s1.trans S) rfl
end
open PySem L2
def pD (p:Int × Int):PyData:=.tuple [.int p.1,.int p.2]
theorem PairIn.dat {H:Hp} {p:Int × Int} {v:V} (h:PairIn H p v):Dat H (pD p) v:=by
  obtain ⟨a,rfl,ha⟩:=h;simp only [pD,Dat,DatAll];exact ⟨a,_,rfl,ha,_,_,rfl,rfl,_,_,rfl,rfl,rfl⟩
theorem PairsIn.dat {H:Hp} {ps:List (Int × Int)} {us:List V} (h:PairsIn H ps us):DatAll H (ps.map pD) us:=by
  induction h with
  | nil=>simp only [aa4,DatAll]
  | cons a _ ih=>simp only [aau,DatAll];exact ⟨_,_,rfl,PairIn.dat a,ih⟩
def jO (ns:List Int) (gs:List Sg) (ps:PS):Option Wy:=match jn ns gs ps 10 0 ((ns.length:Int) - 1) with
  | some w=>if (w.strs 0).isPerm ps=true then some w else none
  | none=>none
def res (ns:List Int):Option (List Sg × PS)→Option Wy
  | none=>none
  | some (gs,ps)=>jO ns gs ps
def Cs (ns:List Int) (e g:PyData):Option (List Sg × PS)→Prop
  | none=>d5 ((ns.length:Int) - 1) e=false∨dZ ((ns.length:Int) - 1) g=false
  | some (gs,ps)=>e=.str (ah gs)∧g=.list (ps.map pD)∧gs.length+1=ns.length∧ps.length+1=ns.length
theorem sT {c:Nat} (h:d6 ⟨#[c]⟩=true):∃ g:Sg,(⟨#[c]⟩:Str)=g.str:=by
  unfold d6 inV at h;rw [List.any_eq_true] at h;obtain ⟨y,hy,e⟩:=h;simp only [aam,abE,or_false] at hy;rcases hy with rfl|rfl|rfl
  · have e2:=of_decide_eq_true (show decide (("+":Str)=(⟨#[c]⟩:Str))=true by simpa [eqV] using e);exact ⟨.plus,e2.symm⟩
  · have e2:=of_decide_eq_true (show decide (("-":Str)=(⟨#[c]⟩:Str))=true by simpa [eqV] using e);exact ⟨.minus,e2.symm⟩
  · have e2:=of_decide_eq_true (show decide (("*":Str)=(⟨#[c]⟩:Str))=true by simpa [eqV] using e);exact ⟨.times,e2.symm⟩
theorem ng:∀ {l:List Nat},l.all (fun c=>d6 ⟨#[c]⟩)=true→∃ gs:List Sg,(⟨l.toArray⟩:Str)=ah gs∧gs.length=l.length
  | [],_=>⟨[],rfl,rfl⟩
  | c :: l,h=>by
    rw [List.all_cons,aa1] at h;obtain ⟨g,hg⟩:=sT h.1;obtain ⟨gs,h1,h2⟩:=ng h.2;refine ⟨g :: gs,?_,by simp [h2]⟩;show _=g.str++ah gs;rw [← hg,← h1];show (⟨(c :: l).toArray⟩:Str)=⟨#[c]++l.toArray⟩
    congr 1;apply Array.toList_inj.mp;simp
theorem jh:∀ {ds:List PyData},ds.all aZ=true→∃ ps:PS,ds=ps.map pD
  | [],_=>⟨[],rfl⟩
  | d :: ds,h=>by
    rw [List.all_cons,aa1] at h;obtain ⟨ps,e⟩:=jh h.2;have key:∃ i j,d=.tuple [.int i,.int j]:=by
      cases d with
      | tuple l =>
        match l with
        | [a,b]=>cases a <;> cases b <;> first|exact ⟨_,_,rfl⟩|(have:=h.1;simp [aZ,bx] at this)
        | []=>have:=h.1;simp [aZ] at this
        | [_]=>have:=h.1;simp [aZ] at this
        | _ :: _ :: _ :: _=>have:=h.1;simp [aZ] at this
      | _=>have:=h.1;simp [aZ] at this
    obtain ⟨i,j,rfl⟩:=key;exact ⟨(i,j) :: ps,by rw [aau,e];rfl⟩
theorem vz (ns:List Int) (h1:1≤ns.length) (e g:PyData):∃ cs,Cs ns e g cs:=by
  by_cases c:d5 ((ns.length:Int) - 1) e=true∧dZ ((ns.length:Int) - 1) g=true
  · obtain ⟨c1,c2⟩:=c;cases e with
    | str z =>
      cases g with
      | list ds =>
        obtain ⟨a1,a2⟩:=(aa1 _ _).mp (show (decide ((z.length:Int)=(ns.length:Int) - 1) && z.cps.toList.all (fun c=>d6 ⟨#[c]⟩))=true from c1);obtain ⟨b1,b2⟩:=(aa1 _ _).mp (show (decide ((ds.length:Int)=(ns.length:Int) - 1) && ds.all aZ)=true from c2);have a1:=of_decide_eq_true a1;have b1:=of_decide_eq_true b1;obtain ⟨gs,g1,g2⟩:=ng a2;obtain ⟨ps,rfl⟩:=jh b2;have hz:z.cps.toList.length=z.length:=by simp [Str.length]
        rw [aac] at b1;exact ⟨some (gs,ps),by rw [← g1],rfl,by lia,by lia⟩
      | _=>cases c2
    | _=>cases c1
  · refine ⟨none,?_⟩;show d5 ((ns.length:Int) - 1) e=false∨dZ ((ns.length:Int) - 1) g=false;cases x:d5 ((ns.length:Int) - 1) e with
    | false=>exact .inl rfl
    | true =>
      cases y:dZ ((ns.length:Int) - 1) g with
      | false=>exact .inr rfl
      | true=>exact absurd ⟨x,y⟩ c
theorem rE:∀ gs:List Sg,(ah gs).cps.toList.all (fun c=>d6 ⟨#[c]⟩)=true
  | []=>by decide +kernel
  | g :: gs=>by
    have e:(ah (g :: gs)).cps.toList=g.str.cps.toList++(ah gs).cps.toList:=by
      show ((g.str++ah gs).cps).toList=_;rw [show (g.str++ah gs).cps=g.str.cps++(ah gs).cps from rfl,abP]
    rw [e,abW,rE gs,Bool.and_true];cases g <;> decide +kernel
theorem rA {k:Int} (gs:List Sg) (h:(gs.length:Int)=k):d5 k (.str (ah gs))=true:=by
  show (decide (((ah gs).length:Int)=k) && (ah gs).cps.toList.all (fun c=>d6 ⟨#[c]⟩))=true;rw [rE,ck,decide_eq_true h];rfl
theorem pH {k:Int} (ps:PS) (h:(ps.length:Int)=k):dZ k (.list (ps.map pD))=true:=by
  show (decide (((ps.map pD).length:Int)=k) && (ps.map pD).all aZ)=true;rw [aac,decide_eq_true h,List.all_map,Bool.true_and];exact List.all_eq_true.mpr fun p _=>rfl
theorem gJ {H:Hp}:∀ {ps:PS} {us:List V},DatAll H (ps.map pD) us→PairsIn H ps us
  | [],us,h=>by simp only [aa4,DatAll] at h;subst h;exact .nil
  | p :: ps,us,h=>by
    simp only [aau,DatAll,pD,Dat] at h;obtain ⟨v,r,rfl,⟨a,_,rfl,ea,_,_,rfl,rfl,_,_,rfl,rfl,rfl⟩,h2⟩:=h;exact .cons ⟨a,rfl,ea⟩ (gJ h2)
theorem nM:∀ ps qs:PS,acj (ps.map pD) (qs.map pD)=decide (ps=qs)
  | [],[]=>by simp [acj]
  | [],q :: qs=>by simp [acj]
  | p :: ps,[]=>by simp [acj]
  | p :: ps,q :: qs=>by
    simp only [aau,acj,nM ps qs,pD,PyData.eqv,Bool.and_true];by_cases c:p=q
    · subst c;by_cases d:ps=qs
      · subst d;simp
      · simp [d]
    · have : ¬ (p.1=q.1∧p.2=q.2):=fun z=>c (Prod.ext z.1 z.2);rw [decide_eq_false (show ¬ p :: ps=q :: qs from fun z=>c (List.cons.inj z).1)];by_cases c1:p.1=q.1
      · have c2:¬ p.2=q.2:=fun z=>this ⟨c1,z⟩;simp [c1,c2]
      · simp [c1]
def p2 (p:Int × Int):List Int:=[p.1,p.2]
theorem qG {p q:Int × Int} (h1:cX (p2 p) (p2 q)=false) (h2:cX (p2 q) (p2 p)=false):p=q:=by
  unfold p2 at h1 h2;simp only [cX] at h1 h2;by_cases c:p.1=q.1
  · rw [if_pos c] at h1;rw [if_pos c.symm] at h2;by_cases d:p.2=q.2
    · exact Prod.ext c d
    · rw [if_neg d] at h1;rw [if_neg (abc d)] at h2;have:=of_decide_eq_false h1;have:=of_decide_eq_false h2;lia
  · rw [if_neg c] at h1;rw [if_neg (abc c)] at h2;have:=of_decide_eq_false h1;have:=of_decide_eq_false h2;lia
theorem ku {α:Type} {R:α→α→Prop} (anti:∀ a b,R a b→R b a→a=b):∀ {xs ys:List α},xs.Perm ys→xs.Pairwise R→ys.Pairwise R→xs=ys
  | [],ys,h,_,_=>(List.nil_perm.mp h).symm
  | x :: xs,[],h,_,_=>absurd h.length_eq (by simp)
  | x :: xs,y :: ys,h,hx,hy=>by
    have hx':=acF.mp hx;have hy':=acF.mp hy;have e:x=y:=by
      rcases aam.mp (h.mem_iff.mp aag) with e|e
      · exact e
      · rcases aam.mp (h.mem_iff.mpr aag) with e'|e'
        · exact e'.symm
        · exact anti _ _ (hx'.1 y e') (hy'.1 x e)
    subst e;rw [ku anti (List.Perm.cons_inv h) hx'.2 hy'.2]
theorem sD {p q:Int × Int} (hp:0≤p.2∧p.2 < 1000) (hq:0≤q.2∧q.2 < 1000) (h:e_ p < e_ q):cX (p2 q) (p2 p)=false:=by
  unfold e_ at h;unfold p2;simp only [cX];by_cases c:q.1=p.1
  · rw [if_pos c];by_cases d:q.2=p.2
    · rw [if_pos d]
    · rw [if_neg d];exact decide_eq_false (by lia)
  · rw [if_neg c];exact decide_eq_false (by lia)
theorem iN {H:Hp}:∀ {kss:List (List Int)} {us:List V},IntsIn H kss us→(∀ ks∈kss,∃ p,ks=p2 p)→∃ ps:PS,kss=ps.map p2∧PairsIn H ps us
  | _,_,.nil,_=>⟨[],rfl,.nil⟩
  | _,_,.cons a t,h=>by
    obtain ⟨ps,e,hp⟩:=iN t fun ks hk=>h ks (aaf _ hk);obtain ⟨p,e1⟩:=h _ aag;obtain ⟨t',e2,e3⟩:=a;subst e1;exact ⟨p :: ps,by rw [aau,e],.cons ⟨t',e2,e3⟩ hp⟩
theorem iu {H:Hp}:∀ {ps:PS} {us:List V},PairsIn H ps us→IntsIn H (ps.map p2) us
  | _,_,.nil=>.nil
  | _,_,.cons ⟨t,e,h⟩ r=>.cons ⟨t,e,h⟩ (iu r)
theorem rX {a b:PS} (h:(a.map p2).Perm (b.map p2)):a.Perm b:=by
  have inj:∀ x y:Int × Int,p2 x=p2 y→x=y:=fun x y e=>by
    unfold p2 at e;simp only [List.cons.injEq,and_true] at e;exact Prod.ext e.1 e.2
  have:=h.map (fun l:List Int=>((l.getD 0 0,l.getD 1 0):Int × Int));rw [abp,abp] at this;have e:∀ c:PS,c.map ((fun l:List Int=>((l.getD 0 0,l.getD 1 0):Int × Int)) ∘ p2)=c:=fun c=>by
    induction c with
    | nil=>rfl
    | cons x c ih=>rw [aau,ih];rfl
  rwa [e,e] at this
theorem jV:∀ ps:PS,aby (ps.map pD)=true
  | []=>by simp [aby]
  | p :: ps=>by simp only [aau,aby,jV ps,Bool.and_true,pD];simp [PyData.canLay0,aby]
theorem dP:∀ ps:PS,aap (ps.map pD)≤1
  | []=>by simp [aap]
  | p :: ps=>by
    have:=dP ps;simp only [aau,aap,pD,aas];lia
section
variable {P:Program} {w:World} {K:aaa} {mg:Str→Option Value} {base:Heap} {f:Addr} {fd:FuncData}
def tG (aR:Addr):Sp:=fun vs H Q E=>∃ d v e b g t,vs=[v,b,t]∧Dat H d v∧Dat H e b∧Dat H g t∧mR e∧szD g≤900∧(bV d=false→∀ H',Same H H'→E (.ref aR) none H') ∧
  (bV d=true→∃ (r:Addr) (ns:List Int) (cs:Option (List Sg × PS)),v=.ref r∧H r=some (.lst (ns.map V.int))∧1≤ns.length∧ns.length≤9∧Cs ns e g cs∧∀ u H',Same H H'→Jo H' (res ns cs) u→Q u H')
abbrev fP:Stmt:=top 26
theorem gn:FnScope ["row","between","stretches","joints","way"] ["row","between","stretches"] (am fP):=⟨rfl,rfl,rfl,by decide +kernel,rfl,by decide +kernel,by decide +kernel⟩
theorem jj {aR:Addr} (F:Fun K "way_by" "way_by" fP f fd) (B:Bu K mg) (C_need_row:mQ P w K mg base "need_row" 3 ["thing"] (dD aR)) (C_are_signs_between:Cal P w K mg base "are_signs_between" 2 ["thing","joints"] m_) (C_are_stretches:Cal P w K mg base "are_stretches" 3 ["thing","joints"] mY)
    (C_join_stretch:Cal P w K mg base "join_stretch" 12 ["row","between","stretches","stretch"] (ic 10)) (C_stretches_of:Cal P w K mg base "stretches_of" 43 ["way"] cB):FnOk P w K mg base (CX1 P w) 44 f fd ["row","between","stretches"] (tG aR):=by
  refine Fun.ok1 F gn (fun vs H Q E h=>?_) (fun cdv A outer s H vs Q E hr h=>?_)
  · obtain ⟨d,v,e,b,g,t,rfl,_⟩:=h;rfl
  obtain ⟨d,v,e,b,g,t,rfl,hd,he,hg,has,hsz,q1,q2⟩:=h;refine ⟨_,(@ag _ _ _ _ _ (@da _ _ _ _ (@r9 _ _ _ _ _ _ _ _ _ _ _ _ C_need_row u6 hr (by lia) rfl (@aa _ _ _ _ _ (pv 0) ae (by rfl)) (by decide) (by rfl) (by rfl)) (by rfl)) (PSs.nox (ag (au (i:=3) (gn).nd rfl (Or.inl rfl) (ar cw (aj ax rfl B.ilen aaE (aa (pv 0) ae)) af)) (ag (br (PW.pt (cH (bQ (bf (ak C_are_signs_between hr (by lia) rfl (aa (pv 1) (aa (pv 3) ae))))) (cK (bQ (bf (ak C_are_stretches hr (by lia) rfl (aa (pv 2) (aa (pv 3) ae)))))))) (ai (av bw)) aV) (ag (au (i:=4) (gn).nd rfl (Or.inl rfl) (ak C_join_stretch hr (by lia) rfl (aa (pv 0) (aa (pv 1) (aa (pv 2) (aa (aX (aa af (aa (pv 3) ae))) ae)))))) (ag (br (PW.pt (cH (aD iy (pv 4) bw (aJ _)) (cK (aD (qq hr.units) (ak C_stretches_of hr (by lia) rfl (aa (pv 4) ae)) (aj fZ rfl B.isorted ace (aa (pv 2) ae)) (aJ _))))) (ai (av bw)) aV) (ai (av (pv 4))))))))),?_⟩;refine ⟨_,rfl,d,v,rfl,hd,fun c H1 s1=>?_,q1⟩;obtain ⟨r,ns,cs,rfl,er,h1,h9,hcs,q⟩:=q2 c;have er1:=s1 _ _ er;refine ⟨_,rfl,r,_,rfl,.inl (SqL.of er1),_,_,rfl,rfl,?_⟩;rw [aac];have he1:=Dat.mono s1 _ _ he;have hg1:=Dat.mono s1 _ _ hg;refine ⟨_,rfl,_,rfl,e,b,_,rfl,he1,has,fun H2 s2=>?_⟩;have S2:=s1.trans s2;have hg2:=Dat.mono s2 _ _ hg1;cases hb:d5 ((ns.length:Int) - 1) e with
  | false =>
    refine ⟨false,rfl,aI (aI ?_)⟩;cases cs with
    | none=>exact q _ H2 S2 rfl
    | some gp =>
      exfalso
      obtain ⟨e1,_,e3,_⟩:=hcs;subst e1;have : d5 ((ns.length:Int) - 1) (.str (ah gp.1))=true:=rA gp.1 (by lia);rw [hb] at this;cases this
  | true =>
  refine ⟨true,rfl,aC ⟨_,rfl,_,rfl,g,t,_,rfl,hg2,hsz,fun H3 s3=>?_⟩⟩;have S3:=S2.trans s3;cases hs:dZ ((ns.length:Int) - 1) g with
  | false =>
    refine ⟨false,rfl,aI ?_⟩;cases cs with
    | none=>exact q _ H3 S3 rfl
    | some gp =>
      exfalso
      obtain ⟨_,e1,_,e3⟩:=hcs;subst e1;have : dZ ((ns.length:Int) - 1) (.list (gp.2.map pD))=true:=pH gp.2 (by lia);rw [hs] at this;cases this
  | true =>
  refine ⟨true,rfl,aC ?_⟩;cases cs with
  | none =>
    exfalso
    rcases hcs with z|z
    · rw [hb] at z;cases z
    · rw [hs] at z;cases z
  | some gp =>
  obtain ⟨gs,ps⟩:=gp;obtain ⟨rfl,rfl,hgl,hpl⟩:=hcs;have eb:b=.str (ah gs):=by simpa only [Dat] using he
  subst eb;simp only [Dat] at hg;obtain ⟨a,us,rfl,ea,hall⟩:=hg;have hps:=gJ hall;have hlu:=hps.length;have er3:=S3 _ _ er;have ea3:=S3 _ _ ea;have hps3:=PairsIn.mono (Tups.of S3) hps;refine ⟨_,rfl,_,rfl,_,rfl,_,rfl,(by show 2≤sizeLine;decide),fun pt nt=>?_⟩;have s4:=Same.new nt (.tup [.int 0,.int ((ns.length:Int) - 1)]);have ept:upd H3 pt (.tup [.int 0,.int ((ns.length:Int) - 1)]) pt=some (.tup [.int 0,.int ((ns.length:Int) - 1)]):=upd_same;generalize upd H3 pt (.tup [.int 0,.int ((ns.length:Int) - 1)])=H4 at s4 ept ⊢;refine ⟨r,ns,gs,a,us,ps,.ref pt,(0,(ns.length:Int) - 1),rfl,s4 _ _ er3,h9,hgl,s4 _ _ ea3,PairsIn.mono (Tups.of s4) hps3,by lia,⟨pt,rfl,ept⟩,aat _,by simp only;lia,by simp only;lia,by simp only;lia,fun u H5 s5 ju=>?_⟩;have S5:=(S3.trans s4).trans s5;simp only at ju;refine ⟨_,rfl,rfl,decide (u=.non),rfl,?_⟩;rw [mx ju];have rq:res ns (some (gs,ps))=jO ns gs ps:=rfl;rw [rq] at q;unfold jO at q;cases hj:jn ns gs ps 10 0 ((ns.length:Int) - 1) with
  | none =>
    rw [hj] at q;exact aI (aI (q _ H5 S5 rfl))
  | some wy =>
    rw [hj] at q ju;simp only at q;obtain ⟨_,hz⟩:=lC hj (aat _) (by lia);have hzz:wy.size=ns.length:=by lia
    refine aC ⟨_,rfl,wy,u,rfl,ju,by lia,fun pq qs uq H6 s6 npq epq hqs permq srtq=>?_⟩;have S6:=S5.trans s6;refine ⟨_,rfl,a,us,ps.map p2,1,rfl,S6 _ _ ea,iu (PairsIn.mono (Tups.of S6) hps),(fun ks hk=>by obtain ⟨p,_,rfl⟩:=abI.mp hk;rfl),by lia,fun pr ur kss npr hir permr srtr=>?_⟩;obtain ⟨rs,rfl,hrs⟩:=iN hir fun ks hk=>by
      obtain ⟨p,_,e⟩:=abI.mp (permr.mem_iff.mp hk);exact ⟨p,e.symm⟩
    have s7:=Same.new npr (.lst ur);have hq7:=PairsIn.mono (Tups.of s7) hqs;have hr7:=PairsIn.mono (Tups.of s7) hrs;have dq:=dP qs;refine ⟨.list (qs.map pD),.list (rs.map pD),by simp only [Dat];exact ⟨pq,uq,rfl,s7 _ _ epq,PairsIn.dat hq7⟩,by simp only [Dat];exact ⟨pr,ur,rfl,upd_same,PairsIn.dat hr7⟩,by simp only [PyData.canLay0,jV],by simp only [PyData.canLay0,jV],by simp only [aas];lia,?_⟩;have ev:PyData.eqv (.list (qs.map pD)) (.list (rs.map pD))=decide (qs=rs):=by simp only [PyData.eqv,nM]
    rw [ev];have prs:rs.Perm ps:=rX permr;have fine:=wy.strs_fine 0 (aat _) (by lia);have eqp:(qs=rs)↔(wy.strs 0).Perm ps:=by
      constructor
      · intro e;exact (permq.symm.trans (by rw [e])).trans prs
      · intro e;have pq':qs.Perm rs:=(permq.trans e).trans prs.symm;have sq:qs.Pairwise (fun a b=>cX (p2 b) (p2 a)=false):=by
          have:=List.pairwise_map.mp srtq;exact this.imp_of_mem fun {x y} hx hy h=>sD (fine.1 _ (permq.mem_iff.mp hx)) (fine.1 _ (permq.mem_iff.mp hy)) h
        exact ku (fun a b h1 h2=>qG h2 h1) pq' sq (List.pairwise_map.mp srtr)
    by_cases cp:(wy.strs 0).Perm ps
    · rw [if_pos (List.isPerm_iff.mpr cp)] at q;refine ⟨false,by rw [decide_eq_true (eqp.mpr cp)];rfl,aC ⟨_,rfl,q _ _ (S6.trans s7) ?_⟩⟩;exact WyIn.mono (Tups.of (s6.trans s7)) ju
    · rw [if_neg (fun z=>cp (List.isPerm_iff.mp z))] at q;exact ⟨true,by rw [decide_eq_false (fun z=>cp (eqp.mp z))];rfl,aI (q _ _ (S6.trans s7) rfl)⟩
end
open PySem L2
theorem Trn.enum {K:aaa} {a:Addr} {xs:List V}:Trn (uK K a) xs.length (fun H=>SqL K H a xs) (fun i x H H'=>∃ p y,H p=none∧x=.ref p∧H'=upd H p (.tup [.int i,y])∧xs[i]?=some y) :=
  ⟨fun i H hi q=>⟨xs,xs[i],q,by simp [hi]⟩,fun H q=>⟨xs,q,aab _⟩,fun i H x H' hi q y=>by
    obtain ⟨p,z,n,e1,e2,e3⟩:=y;exact ⟨p,z,n,e1,e2,e3 xs q⟩⟩
def BlkIn (H:Hp) (b:Blk) (v:V):Prop:=∃ t x,v=.ref t∧H t=some (.tup [.int b.1,.int b.2.1,x])∧WyIn H b.2.2 x
theorem BlkIn.mono {H H':Hp} {b:Blk} {v:V} (t:Tups H H') (h:BlkIn H b v):BlkIn H' b v:=by
  obtain ⟨a,x,e,h1,h2⟩:=h;exact ⟨a,x,e,t _ _ h1,h2.mono t⟩
abbrev BlksIn (H:Hp):List Blk→List V→Prop:=Paired (BlkIn H)
theorem BlksIn.mono {H H':Hp} (t:Tups H H'):∀ {bs:List Blk} {us:List V},BlksIn H bs us→BlksIn H' bs us
  | _,_,.nil=>.nil
  | _,_,.cons a r=>.cons (a.mono t) (BlksIn.mono t r)
theorem Paired.app2 {α β:Type} {F:α→β→Prop} {as bs:List α} {us vs:List β} (a:Paired F as us) (b:Paired F bs vs):Paired F (as++bs) (us++vs):=by
  induction a with
  | nil=>exact b
  | cons x _ ih=>exact .cons x ih
def t3 (p:Int × Int):List Int:=[p.2 - p.1,p.1,p.2]
theorem nI {H:Hp}:∀ {kss:List (List Int)} {us:List V},IntsIn H kss us→(∀ ks∈kss,∃ p,ks=t3 p)→∃ ps:PS,kss=ps.map t3
  | _,_,.nil,_=>⟨[],rfl⟩
  | _,_,.cons a t,h=>by
    obtain ⟨ps,e⟩:=nI t fun ks hk=>h ks (aaf _ hk);obtain ⟨p,e1⟩:=h _ aag;exact ⟨p :: ps,by rw [aau,e,e1]⟩
theorem rW {a b:PS} (h:(a.map t3).Perm (b.map t3)):a.Perm b:=by
  have:=h.map (fun l:List Int=>((l.getD 1 0,l.getD 2 0):Int × Int));rw [abp,abp] at this;have e:∀ c:PS,c.map ((fun l:List Int=>((l.getD 1 0,l.getD 2 0):Int × Int)) ∘ t3)=c:=fun c=>by
    induction c with
    | nil=>rfl
    | cons x c ih=>rw [aau,ih];rfl
  rwa [e,e] at this
theorem sx {a b:Int × Int} (h:cX (t3 b) (t3 a)=false):dz a≤dz b:=by
  unfold t3 at h;rw [cX] at h;unfold dz;by_cases c:b.2 - b.1=a.2 - a.1
  · lia
  · rw [if_neg c] at h;have:=of_decide_eq_false h;lia
theorem sK {ns:List Int} {gs:List Sg} {ps L:PS} (h1:1≤ns.length) (h9:ns.length≤9) (hn:ps.length+1=ns.length) (hL:L.Perm ps) (hs:L.Pairwise (fun a b=>dz a≤dz b)):L.foldlM (bA gs) (lv ns 0)=(jO ns gs ps).map fun w=>[(0,(ns.length:Int) - 1,w)]:=by
  unfold jO;rcases sO (gs:=gs) h1 h9 hn hL hs with ⟨w,j,_,p,m⟩|⟨no,m⟩
  · rw [j];simp only;rw [if_pos (List.isPerm_iff.mpr p),m];rfl
  · rw [m];cases hj:jn ns gs ps 10 0 ((ns.length:Int) - 1) with
    | none=>rfl
    | some w =>
      simp only;rw [if_neg (fun z=>no w hj (List.isPerm_iff.mp z))];rfl
theorem oV {gs:List Sg} {L:PS} {bs bs':List Blk} {i:Nat} {p:Int × Int} (hp:L[i]?=some p) (h:(L.take i).foldlM (bA gs) bs=some bs'):(L.take (i+1)).foldlM (bA gs) bs=bA gs bs' p:=by
  rw [aaN,hp];show ((L.take i)++[p]).foldlM (bA gs) bs=_;rw [abG,h];show (List.foldlM (bA gs) bs' [p])=_;rw [abu];cases bA gs bs' p <;> rfl
theorem oW {gs:List Sg} {L:PS} {bs:List Blk} {i:Nat} (h:(L.take i).foldlM (bA gs) bs=none):L.foldlM (bA gs) bs=none:=by
  conv=>lhs;rw [← acv i L]
  rw [abG,h];rfl
theorem mH {p:Blk→Bool} {bs:List Blk} {i:Nat} {bb:Blk} (h:bs[i]?=some bb) (c:p bb=true):(bs.take (i+1)).filter p=(bs.take i).filter p++[bb]:=by
  rw [aaN,h,abV];show _++[bb].filter p=_;rw [abQ c];rfl
theorem mI {p:Blk→Bool} {bs:List Blk} {i:Nat} {bb:Blk} (h:bs[i]?=some bb) (c:p bb=false):(bs.take (i+1)).filter p=(bs.take i).filter p:=by
  rw [aaN,h,abV];show _++[bb].filter p=_;rw [aaK (by rw [c];simp)];simp
theorem oG {gs:List Sg} {bs:List Blk} {p:Int × Int} (h:(bs.filter (inr p)).length≠2):bA gs bs p=none:=by
  unfold bA;split
  · rename_i x y hf;rw [hf] at h;exact absurd rfl h
  · rfl
theorem lg {gs:List Sg} {bs:List Blk} {p:Int × Int} {x y:Blk} (hf:bs.filter (inr p)=[x,y]) (h:¬ (x.1=p.1∧y.2.1=p.2)):bA gs bs p=none:=by
  unfold bA;rw [hf];simp only;rw [if_neg h]
theorem oE {gs:List Sg} {bs:List Blk} {p:Int × Int} {x y:Blk} {g:Sg} (hf:bs.filter (inr p)=[x,y]) (h1:x.1=p.1) (h2:y.2.1=p.2) (hg:gs[x.2.1.toNat]?=some g):bA gs bs p=some (bs.filter (fun b=>decide (b.2.1 < p.1))++[(p.1,p.2,.node g x.2.2 y.2.2)]++bs.filter (fun b=>decide (p.2 < b.1))):=by
  unfold bA;rw [hf];simp only;rw [if_pos ⟨h1,h2⟩,hg]
theorem sY {ns:List Int} {gs:List Sg}:∀ {bs:List Blk} {f e:Int},Ch ns gs f bs e→f≤e
  | [],f,e,h=>by have : f=e:=h;lia
  | b :: bs,f,e,⟨_,h2,_,h4⟩=>by
    have:=sY h4;have:=b.2.2.size_pos;lia
theorem qB:∀ (ns:List Int) (f:Int) (i:Nat),(lv ns f)[i]?=(ns[i]?).map fun x=>(f+i,f+i,Wy.num x)
  | [],f,i=>by simp [lv]
  | x :: xs,f,0=>by simp [lv]
  | x :: xs,f,i+1=>by
    rw [lv,List.getElem?_cons_succ,List.getElem?_cons_succ,qB xs];rw [show f+1+(i:Int)=f+((i+1:Nat):Int) by lia]
theorem eU {H H':Hp} (t:Tups H H'):∀ {kss:List (List Int)} {us:List V},IntsIn H kss us→IntsIn H' kss us
  | _,_,.nil=>.nil
  | _,_,.cons ⟨a,e,h⟩ r=>.cons ⟨a,e,t _ _ h⟩ (eU t r)
theorem um (c:Nat) (h:c < 128):(PyData.str ⟨#[c]⟩).canLay0=true:=(by decide +kernel:∀ c,c < 128→(PyData.str ⟨#[c]⟩).canLay0=true) c h
theorem tJ (c:Nat):(!(acf ("+-*":Str) ⟨#[c]⟩ 0 ("+-*":Str).length 1).isEmpty)=d6 ⟨#[c]⟩:=by
  have:=StrLaws.found_one ("+-*":Str) c;rw [this,abM,decide_eq_true_eq];have e:("+-*":Str).cps.toList=[43,45,42]:=by decide +kernel
  rw [e];constructor
  · intro h;simp only [aam,abE,or_false] at h;rcases h with rfl|rfl|rfl <;> decide +kernel
  · intro h;obtain ⟨g,hg⟩:=sT h;have : c=g.str.cps.toList.getD 0 0:=by rw [← hg];rfl
    rw [this];cases g <;> decide +kernel
section
variable {P:Program} {w:World} {K:aaa} {mg:Str→Option Value} {base:Heap} {f:Addr} {fd:FuncData}
abbrev dE:Stmt:=top 43
theorem i6:FnScope ["thing"] ["thing"] (am dE):=⟨rfl,rfl,rfl,by decide +kernel,rfl,by decide +kernel,by decide +kernel⟩
theorem jS (F:Fun K "_law_whole" "_law_whole" dE f fd) (B:Bu K mg):FnOk P w K mg base CX0 1 f fd ["thing"] (cA K):=by
  refine F.ok i6 (fun vs H Q E h=>?_) (fun cdv A outer s H vs Q E hr h=>?_)
  · obtain ⟨x,n,rfl,_⟩:=h;rfl
  obtain ⟨x,n,rfl,ty,q⟩:=h;refine ⟨_,(@ai _ _ _ (@av _ _ _ _ (@dJ _ _ _ _ _ _ _ (@aj _ _ _ _ _ _ _ _ _ (@aG _ ("int")) rfl B.iisinstance aad (@aa _ _ _ _ _ (pv 0) (@aa _ _ _ _ _ (@bj _ _ (.ty "int") _ _ rfl B.iint abY rfl (by decide) (by decide)) ae (by rfl)) (by rfl)) (by decide) (by decide) (by rfl) (by rfl)) (@fG _ _ _ _ _ (@qo _ _ _ _ (@aj _ _ _ _ _ _ _ _ _ (@aG _ ("bool")) rfl B.iisinstance aad (@aa _ _ _ _ _ (pv 0) (@aa _ _ _ _ _ (@bj _ _ (.ty "bool") _ _ rfl B.ibool PyProof.Rows.boot_bool rfl (by decide) (by decide)) ae (by rfl)) (by rfl)) (by decide) (by decide) (by rfl) (by rfl))))))),?_⟩;cases ty with
  | non=>exact ⟨_,rfl,_,_,false,rfl,.non,rfl,false,rfl,aC q⟩
  | bl y=>exact ⟨_,rfl,_,_,true,rfl,.bl y,rfl,true,rfl,aI ⟨_,rfl,_,_,true,rfl,.bl y,rfl,true,rfl,q⟩⟩
  | int i=>exact ⟨_,rfl,_,_,true,rfl,.int i,rfl,true,rfl,aI ⟨_,rfl,_,_,false,rfl,.int i,rfl,false,rfl,q⟩⟩
  | str y=>exact ⟨_,rfl,_,_,false,rfl,.str y,rfl,false,rfl,aC q⟩
  | flt y=>exact ⟨_,rfl,_,_,false,rfl,.flt y,rfl,false,rfl,aC q⟩
  | lst e=>exact ⟨_,rfl,_,_,false,rfl,.lst e,rfl,false,rfl,aC q⟩
  | frz e=>exact ⟨_,rfl,_,_,false,rfl,.frz e,rfl,false,rfl,aC q⟩
  | tup e=>exact ⟨_,rfl,_,_,false,rfl,.tup e,rfl,false,rfl,aC q⟩
  | dK e=>exact ⟨_,rfl,_,_,false,rfl,.dK e,rfl,false,rfl,aC q⟩
  | dT e=>exact ⟨_,rfl,_,_,false,rfl,.dT e,rfl,false,rfl,aC q⟩
def je:Sp:=fun vs H Q _=>∃ (r:Addr) (ns:List Int) (e:PyData) (b:V) (g:PyData) (t:V) (cs:Option (List Sg × PS)),vs=[.ref r,b,t]∧H r=some (.lst (ns.map V.int))∧1≤ns.length∧ns.length≤9∧Dat H e b∧Dat H g t∧mR e∧szD g≤900∧Cs ns e g cs∧∀ u H',Same H H'→Jo H' (res ns cs) u→Q u H'
abbrev fE:Stmt:=top 44
theorem bp:FnScope ["row","between","stretches","one","blocks","length","i","j","inner","new"] ["row","between","stretches"] (am fE):=⟨rfl,rfl,rfl,by decide +kernel,rfl,by decide +kernel,by decide +kernel⟩
theorem ui (F:Fun K "_law_due" "_law_due" fE f fd) (B:Bu K mg) (C__law_whole:Cal P w K mg base "_law_whole" 1 ["thing"] (cA K)):FnOk P w K mg base CX0 2 f fd ["row","between","stretches"] je:=by
  refine F.ok bp (fun vs H Q E h=>?_) (fun cdv A outer s H vs Q E hr h=>?_)
  · obtain ⟨r,ns,e,b,g,t,cs,rfl,_⟩:=h;rfl
  obtain ⟨r,ns,e,b,g,t,cs,rfl,er,h1,h9,he,hg,has,hsz,hcs,q⟩:=h;refine ⟨_,(@ag _ _ _ _ _ (@br _ _ _ _ _ _ _ _ (@PW.pt _ _ _ (@cH _ _ _ _ _ _ _ (@bQ _ _ _ _ (@bf _ _ _ (@aj _ _ _ _ _ _ _ _ _ (@aG _ ("str")) rfl B.iisinstance aad (@aa _ _ _ _ _ (pv 1) (@aa _ _ _ _ _ (@bj _ _ (.ty "str") _ _ rfl B.istr abK rfl (by decide) (by decide)) ae (by rfl)) (by rfl)) (by decide) (by decide) (by rfl) (by rfl)) (by intro _;rfl))) (@cH _ _ _ _ _ _ _ (@aD _ _ _ _ _ _ _ _ dW (@aj _ _ _ _ _ _ _ _ _ dQ rfl B.ilen aaE (@aa _ _ _ _ _ (pv 1) ae (by rfl)) (by decide) (by decide) (by rfl) (by rfl)) (@ar _ _ _ _ _ _ _ _ cw (@aj _ _ _ _ _ _ _ _ _ ax rfl B.ilen aaE (@aa _ _ _ _ _ (pv 0) ae (by rfl)) (by decide) (by decide) (by rfl) (by rfl)) af) (aJ _)) (@cK _ _ _ _ (@aD _ _ _ _ _ _ _ _ (@qq _ hr.units) (@dU _ _ _ _ _ _ _ _ (["s"]) ([none]) _ _ _ _ rfl (@qh _ _ _ _ (pv 1)) rfl trivial trivial (fun _ _ _ _=>⟨(@aB _ _ (0) _ (show abl (["s"]:List Str) by decide +kernel) rfl (Or.inl rfl) (.inr rfl)),(@eE _ _ _ (@aD _ _ _ _ _ _ _ _ jP (pv 0) aU (by with_unfolding_all rfl))),(pv 0)⟩) (by rfl) (by rfl) (by rfl) (by rfl) (by intro _;rfl)) (@aw _ _ _ _ ae) (aJ _)))))) (@ai _ _ _ (@av _ _ _ _ bw)) aV) (@ag _ _ _ _ _ (@br _ _ _ _ _ _ _ _ (@PW.pt _ _ _ (@cH _ _ _ _ _ _ _ (@bQ _ _ _ _ (@bf _ _ _ (@aj _ _ _ _ _ _ _ _ _ (@aG _ ("list")) rfl B.iisinstance aad (@aa _ _ _ _ _ (pv 2) (@aa _ _ _ _ _ (@bj _ _ (.ty "list") _ _ rfl B.ilist abT rfl (by decide) (by decide)) ae (by rfl)) (by rfl)) (by decide) (by decide) (by rfl) (by rfl)) (by intro _;rfl))) (@cK _ _ _ _ (@aD _ _ _ _ _ _ _ _ dW (@aj _ _ _ _ _ _ _ _ _ ax rfl B.ilen aaE (@aa _ _ _ _ _ (pv 2) ae (by rfl)) (by decide) (by decide) (by rfl) (by rfl)) (@ar _ _ _ _ _ _ _ _ cw (@aj _ _ _ _ _ _ _ _ _ ax rfl B.ilen aaE (@aa _ _ _ _ _ (pv 0) ae (by rfl)) (by decide) (by decide) (by rfl) (by rfl)) af) (aJ _))))) (@ai _ _ _ (@av _ _ _ _ bw)) aV) (@ag _ _ _ _ _ (@fF _ _ _ _ _ _ _ _ abq rfl (@bM _ _ _ _ (pv 2)) (@aB _ _ (3) _ (bp).nd rfl (Or.inl rfl) (.inl rfl)) (@ai _ _ _ (@br _ _ _ _ _ _ _ _ (@PW.pt _ _ _ (@cH _ _ _ _ _ _ _ (@bQ _ _ _ _ (@bf _ _ _ (@aj _ _ _ _ _ _ _ _ _ (@aG _ ("tuple")) rfl B.iisinstance aad (@aa _ _ _ _ _ (pv 3) (@aa _ _ _ _ _ (@bj _ _ (.ty "tuple") _ _ rfl B.ituple abf rfl (by decide) (by decide)) ae (by rfl)) (by rfl)) (by decide) (by decide) (by rfl) (by rfl)) (by intro _;rfl))) (@cH _ _ _ _ _ _ _ (@aD _ _ _ _ _ _ _ _ dW (@aj _ _ _ _ _ _ _ _ _ ax rfl B.ilen aaE (@aa _ _ _ _ _ (pv 3) ae (by rfl)) (by decide) (by decide) (by rfl) (by rfl)) af (aJ _)) (@cH _ _ _ _ _ _ _ (@bQ _ _ _ _ (@bf _ _ _ (@ak _ _ _ _ _ _ _ _ _ _ _ C__law_whole hr (by lia) rfl (@aa _ _ _ _ _ (@aE _ _ _ _ _ _ _ ix_tup (pv 3) af (fun _ _=>rfl)) ae (by rfl)) (by decide) (by rfl) (by rfl)) (by intro _;rfl))) (@cK _ _ _ _ (@bQ _ _ _ _ (@bf _ _ _ (@ak _ _ _ _ _ _ _ _ _ _ _ C__law_whole hr (by lia) rfl (@aa _ _ _ _ _ (@aE _ _ _ _ _ _ _ ix_tup (pv 3) af (fun _ _=>rfl)) ae (by rfl)) (by decide) (by rfl) (by rfl)) (by intro _;rfl)))))))) (@ai _ _ _ (@av _ _ _ _ bw)) aV)) (by intro _;rfl)) (@ag _ _ _ _ _ (@nj _ (4) _ _ _ _ _ _ _ _ _ _ (["k","number"]) ([none,none]) _ _ _ _ (bp).nd rfl (Or.inl rfl) rfl (@rT _ _ _ _ _ _ _ _ rfl B.ienumerate (@aa _ _ _ _ _ (pv 0) ae (by rfl)) (by rfl)) rfl trivial trivial (fun _ _ _ _=>⟨(@nq _ _ _ _ _ _ (2) rfl rfl (@a9 _ _ _ _ _ (@aB _ _ (0) _ (show abl (["k","number"]:List Str) by decide +kernel) rfl (Or.inl rfl) (.inr rfl)) (@a9 _ _ _ _ _ (@aB _ _ (1) _ (show abl (["k","number"]:List Str) by decide +kernel) rfl (Or.inl rfl) (.inr rfl)) dI (by rfl)) (by rfl)) (by rfl) (by rfl)),b_,(@aX _ _ _ _ _ (@aa _ _ _ _ _ (pv 0) (@aa _ _ _ _ _ (pv 0) (@aa _ _ _ _ _ (pv 1) ae (by rfl)) (by rfl)) (by rfl)))⟩) (by rfl) (by rfl) (by rfl) (by rfl) (by intro _;rfl) (by rfl) (by first|exact .inl rfl|exact .inr rfl|assumption)) (@ag _ _ _ _ _ (@fF _ _ _ _ _ _ _ _ abq rfl (@bM _ _ _ _ (@aj _ _ _ _ _ _ _ _ _ fZ rfl B.isorted ace (@aa _ _ _ _ _ (@dU _ _ _ _ _ _ _ _ (["i","j"]) ([none,none]) _ _ _ _ rfl (@bM _ _ _ _ (pv 2)) rfl trivial trivial (fun _ _ _ _=>⟨(@nq _ _ _ _ _ _ (2) rfl rfl (@a9 _ _ _ _ _ (@aB _ _ (0) _ (show abl (["i","j"]:List Str) by decide +kernel) rfl (Or.inl rfl) (.inr rfl)) (@a9 _ _ _ _ _ (@aB _ _ (1) _ (show abl (["i","j"]:List Str) by decide +kernel) rfl (Or.inl rfl) (.inr rfl)) dI (by rfl)) (by rfl)) (by rfl) (by rfl)),b_,(@aX _ _ _ _ _ (@aa _ _ _ _ _ (@ar _ _ _ _ _ _ _ _ cw (pv 1) (pv 0)) (@aa _ _ _ _ _ (pv 0) (@aa _ _ _ _ _ (pv 1) ae (by rfl)) (by rfl)) (by rfl)))⟩) (by rfl) (by rfl) (by rfl) (by rfl) (by intro _;rfl)) ae (by rfl)) (by decide) (by decide) (by rfl) (by rfl))) (@pg_tup _ _ _ _ _ _ rfl (@a9 _ _ _ _ _ (@aB _ _ (5) _ (bp).nd rfl (Or.inl rfl) (.inl rfl)) (@a9 _ _ _ _ _ (@aB _ _ (6) _ (bp).nd rfl (Or.inr rfl) (.inl rfl)) (@a9 _ _ _ _ _ (@aB _ _ (7) _ (bp).nd rfl (Or.inr rfl) (.inl rfl)) dI (by rfl)) (by rfl)) (by rfl)) (by rfl) (by rfl)) (@ag _ _ _ _ _ (@nj _ (8) _ _ _ _ _ _ _ _ _ _ (["block","i","j"]) ([none,some 6,some 7]) _ _ _ _ (bp).nd rfl (Or.inl rfl) rfl (@bM _ _ _ _ (pv 4)) rfl ⟨rfl,⟨rfl,trivial⟩⟩ ⟨⟨rfl,Or.inl rfl,Or.inl rfl⟩,⟨⟨rfl,Or.inl rfl,Or.inl rfl⟩,trivial⟩⟩ (fun _ _ _ _=>⟨(@aB _ _ (0) _ (show abl (["block","i","j"]:List Str) by decide +kernel) rfl (Or.inl rfl) (.inr rfl)),(@eE _ _ _ (@PW.pt _ _ _ (@gB _ _ _ _ _ _ _ (@aD _ _ _ _ _ _ _ _ kU (pv 1) (@aE _ _ _ _ _ _ _ (@hV _ _ rfl) (pv 0) af (fun _ _=>rfl)) (aJ _)) (@fR _ _ _ _ (@aD _ _ _ _ _ _ _ _ kU (@aE _ _ _ _ _ _ _ (@hV _ _ rfl) (pv 0) af (fun _ _=>rfl)) (pv 2) (aJ _)))))),(pv 0)⟩) (by rfl) (by rfl) (by rfl) (by rfl) (by intro _;rfl) (by rfl) (by first|exact .inl rfl|exact .inr rfl|assumption)) (@ag _ _ _ _ _ (@br _ _ _ _ _ _ _ _ (@PW.pt _ _ _ (@cH _ _ _ _ _ _ _ (@aD _ _ _ _ _ _ _ _ dW (@aj _ _ _ _ _ _ _ _ _ ax rfl B.ilen aaE (@aa _ _ _ _ _ (pv 8) ae (by rfl)) (by decide) (by decide) (by rfl) (by rfl)) af (aJ _)) (@cH _ _ _ _ _ _ _ (@aD _ _ _ _ _ _ _ _ dW (@aE _ _ _ _ _ _ _ ix_tup (@aE _ _ _ _ _ _ _ ix_list (pv 8) af (fun _ _=>rfl)) af (fun _ _=>rfl)) (pv 6) (aJ _)) (@cK _ _ _ _ (@aD _ _ _ _ _ _ _ _ dW (@aE _ _ _ _ _ _ _ ix_tup (@aE _ _ _ _ _ _ _ ix_list (pv 8) af (fun _ _=>rfl)) af (fun _ _=>rfl)) (pv 7) (aJ _)))))) (@ai _ _ _ (@av _ _ _ _ bw)) aV) (@ag _ _ _ _ _ (@au _ _ (9) _ _ _ _ (bp).nd rfl (Or.inl rfl) (@aX _ _ _ _ _ (@aa _ _ _ _ _ (pv 6) (@aa _ _ _ _ _ (pv 7) (@aa _ _ _ _ _ (@aX _ _ _ _ _ (@aa _ _ _ _ _ (@aE _ _ _ _ _ _ _ jY (pv 1) (@aE _ _ _ _ _ _ _ ix_tup (@aE _ _ _ _ _ _ _ ix_list (pv 8) af (fun _ _=>rfl)) af (fun _ _=>rfl)) (fun _ _=>rfl)) (@aa _ _ _ _ _ (@aE _ _ _ _ _ _ _ ix_tup (@aE _ _ _ _ _ _ _ ix_list (pv 8) af (fun _ _=>rfl)) af (fun _ _=>rfl)) (@aa _ _ _ _ _ (@aE _ _ _ _ _ _ _ ix_tup (@aE _ _ _ _ _ _ _ ix_list (pv 8) af (fun _ _=>rfl)) af (fun _ _=>rfl)) ae (by rfl)) (by rfl)) (by rfl))) ae (by rfl)) (by rfl)) (by rfl))) (by rfl) (by first|exact .inl rfl|exact .inr rfl|assumption)) (@ai _ _ _ (@au _ _ (4) _ _ _ _ (bp).nd rfl (Or.inl rfl) (@ar _ _ _ _ _ _ _ _ bo (@ar _ _ _ _ _ _ _ _ bo (@dU _ _ _ _ _ _ _ _ (["block","i"]) ([none,some 6]) _ _ _ _ rfl (@bM _ _ _ _ (pv 4)) rfl ⟨rfl,trivial⟩ ⟨⟨rfl,Or.inl rfl,Or.inl rfl⟩,trivial⟩ (fun _ _ _ _=>⟨(@aB _ _ (0) _ (show abl (["block","i"]:List Str) by decide +kernel) rfl (Or.inl rfl) (.inr rfl)),(@eE _ _ _ (@aD _ _ _ _ _ _ _ _ u9 (@aE _ _ _ _ _ _ _ (@hV _ _ rfl) (pv 0) af (fun _ _=>rfl)) (pv 1) (aJ _))),(pv 0)⟩) (by rfl) (by rfl) (by rfl) (by rfl) (by intro _;rfl)) (@aw _ _ _ _ (@aa _ _ _ _ _ (pv 9) ae (by rfl)))) (@dU _ _ _ _ _ _ _ _ (["block","j"]) ([none,some 7]) _ _ _ _ rfl (@bM _ _ _ _ (pv 4)) rfl ⟨rfl,trivial⟩ ⟨⟨rfl,Or.inl rfl,Or.inl rfl⟩,trivial⟩ (fun _ _ _ _=>⟨(@aB _ _ (0) _ (show abl (["block","j"]:List Str) by decide +kernel) rfl (Or.inl rfl) (.inr rfl)),(@eE _ _ _ (@aD _ _ _ _ _ _ _ _ sV (@aE _ _ _ _ _ _ _ (@hV _ _ rfl) (pv 0) af (fun _ _=>rfl)) (pv 1) (aJ _))),(pv 0)⟩) (by rfl) (by rfl) (by rfl) (by rfl) (by intro _;rfl))) (by rfl) (by first|exact .inl rfl|exact .inr rfl|assumption)))))) (by intro _;rfl)) (@ai _ _ _ (@av _ _ _ _ (@aE _ _ _ _ _ _ _ ix_tup (@aE _ _ _ _ _ _ _ ix_list (pv 4) af (fun _ _=>rfl)) af (fun _ _=>rfl))))))))),?_⟩;have none1:d5 ((ns.length:Int) - 1) e=false→∀ H',Same H H'→Q .non H':=fun c H' s'=>by
    cases cs with
    | none=>exact q _ H' s' rfl
    | some gp =>
      exfalso
      obtain ⟨e1,_,e3,_⟩:=hcs;subst e1;rw [rA gp.1 (by lia)] at c;cases c
  have none2:dZ ((ns.length:Int) - 1) g=false→∀ H',Same H H'→Q .non H':=fun c H' s'=>by
    cases cs with
    | none=>exact q _ H' s' rfl
    | some gp =>
      exfalso
      obtain ⟨_,e1,_,e3⟩:=hcs;subst e1;rw [pH gp.2 (by lia)] at c;cases c
  by_cases hstr:fW e=true
  case neg =>
    have hs':fW e=false:=by simpa using hstr
    refine ⟨_,rfl,_,_,false,rfl,he.ty,by rw [nF,hs'],false,rfl,aI ?_⟩;exact aI (none1 (by cases e <;> first|rfl|simp [fW] at hs') H (Same.refl _))
  cases e with
  | str z =>
    simp only [Dat] at he;subst he;have e0:d5 ((ns.length:Int) - 1) (.str z)=(decide ((z.length:Int)=(ns.length:Int) - 1) && z.cps.toList.all (fun c=>d6 ⟨#[c]⟩)):=rfl;have hz:z.length=z.cps.toList.length:=by simp [Str.length]
    have hzs:z.length=z.cps.size:=rfl;have hz100:=has.2;refine ⟨_,rfl,_,_,true,rfl,.str z,rfl,true,rfl,aC ?_⟩;refine ⟨_,rfl,_,rfl,aK (by lia),_,rfl,r,_,rfl,.inl (SqL.of er),_,_,rfl,rfl,rfl,(!decide (V.int (z.length:Nat)=V.int (((ns.map V.int).length:Nat) - 1))),rfl,?_⟩;rw [aac];by_cases cl:(z.length:Int)=(ns.length:Int) - 1
    case neg =>
      rw [decide_eq_false (fun ee=>cl (by injection ee))];exact aI (aI (none1 (by rw [e0,decide_eq_false cl];rfl) H (Same.refl _)))
    rw [decide_eq_true (by rw [cl])];refine aC ⟨_,rfl,_,rfl,has.1,?_⟩;refine dY (Trn.str (z:=z)) (fun i ys H'=>H'=H∧ys.length≤i∧((z.cps.toList.take i).all (fun c=>d6 ⟨#[c]⟩)=true→ys=[])∧((z.cps.toList.take i).all (fun c=>d6 ⟨#[c]⟩)=false→ys≠[])∧∀ y∈ys,∃ c,y=V.str ⟨#[c]⟩∧c < 128) ⟨rfl,aab _,fun _=>rfl,fun c=>by simp at c,fun _ z=>nomatch z⟩ (fun i ys H' hi p=>⟨trivial,ay (by have:=p.2.1;lia)⟩) (fun i x ys H1 H' hi hx p Nx nx=>?_) (fun ys H' p p5 n5=>?_)
    · obtain ⟨rfl,l1,l2,l3,l4⟩:=p;obtain ⟨rfl,cc,hc,rfl⟩:=hx;have tk:z.cps.toList.take (i+1)=z.cps.toList.take i++[cc]:=by rw [aaN,show z.cps.toList[i]?=some cc by simpa using hc];rfl
      have c128:cc < 128:=by
        have:=aaW.mp has.1 cc (Array.mem_of_getElem? hc);simpa using this
      refine ⟨_,rfl,_,_,rfl,rfl,?_⟩;rw [tJ];cases hcs':d6 ⟨#[cc]⟩ with
      | true =>
        refine ⟨false,rfl,aC (nx _ _ ⟨rfl,by lia,fun a=>l2 ?_,fun a=>l3 ?_,l4⟩)⟩
        · rw [tk,abW,aa1] at a;exact a.1
        · rw [tk,abW] at a;simpa [hcs'] using a
      | false =>
        refine ⟨true,rfl,aI ⟨_,rfl,nx _ _ ⟨rfl,by rw [aah];show _+1≤_;lia,fun a=>?_,fun _ z=>by simp at z,fun y hy=>?_⟩⟩⟩
        · rw [tk,abW] at a;simp [hcs'] at a
        · rcases aaz.mp hy with hy|hy
          · exact l4 y hy
          · exact ⟨cc,aaG.mp hy,c128⟩
    obtain ⟨rfl,l1,l2,l3,l4⟩:=p;rw [aao (by lia)] at l2 l3;have s5:=Same.new n5 (.lst ys);have e5:upd H' p5 (.lst ys) p5=some (.lst ys):=upd_same;generalize upd H' p5 (.lst ys)=H5 at s5 e5 ⊢;refine ⟨(by show 0≤sizeLine;decide),fun p6 n6=>?_⟩;have s6:=Same.new n6 (.lst []);have e6:upd H5 p6 (.lst []) p6=some (.lst []):=upd_same;have e56:=s6 _ _ e5;have S6:=s5.trans s6;generalize upd H5 p6 (.lst [])=H6 at s6 e6 e56 S6 ⊢;obtain ⟨ds,hds,hlay,hdep,hnil⟩:∃ ds,DatAll H6 ds ys∧aby ds=true∧aap ds=0∧(ds=[]↔ys=[]):=by
      clear l2 l3 l1 e5 e56 s5
      induction ys with
      | nil=>exact ⟨[],by simp only [DatAll],by simp [aby],rfl,by simp⟩
      | cons y ys ih =>
        obtain ⟨ds,a1,a2,a3,_⟩:=ih fun x hx=>l4 x (aaf _ hx);obtain ⟨c,rfl,c128⟩:=l4 y aag;exact ⟨.str ⟨#[c]⟩ :: ds,by simp only [DatAll];exact ⟨_,_,rfl,by simp only [Dat],a1⟩,by simp only [aby,a2,Bool.and_true];exact um c c128,by simp only [aap,aas,a3];rfl,by simp⟩
    refine ⟨.list ds,.list [],by simp only [Dat];exact ⟨p5,ys,rfl,e56,hds⟩,by simp only [Dat,DatAll];exact ⟨p6,_,rfl,e6,rfl⟩,by simp only [PyData.canLay0,hlay],rfl,by simp only [aas,hdep];lia,?_⟩;have ev:PyData.eqv (.list ds) (.list [])=decide (ys=[]):=by
      by_cases cd:ds=[]
      · rw [cd,decide_eq_true (hnil.mp cd)];rfl
      · rw [decide_eq_false (fun z=>cd (hnil.mpr z))];cases ds with
        | nil=>exact absurd rfl cd
        | cons d ds=>simp [PyData.eqv,acj]
    rw [ev];cases hall:z.cps.toList.all (fun c=>d6 ⟨#[c]⟩) with
    | false=>exact ⟨true,by rw [decide_eq_false (l3 hall)];rfl,aI (none1 (by rw [e0,hall,acp]) H6 S6)⟩
    | true =>
    refine ⟨false,by rw [decide_eq_true (l2 hall)];rfl,aC ?_⟩;have er6:=S6 _ _ er;have hg6:=Dat.mono S6 _ _ hg;by_cases hlst:bG g=true
    case neg =>
      have hl':bG g=false:=by simpa using hlst
      refine ⟨_,rfl,_,_,false,rfl,hg6.ty,by rw [iI,hl'],false,rfl,aI ?_⟩;exact aI (none2 (by cases g <;> first|rfl|simp [bG] at hl') H6 S6)
    cases g with
    | list dg =>
      have e2:dZ ((ns.length:Int) - 1) (.list dg)=(decide ((dg.length:Int)=(ns.length:Int) - 1) && dg.all aZ):=rfl;have hg60:=hg6;simp only [Dat] at hg6;obtain ⟨a,us,rfl,ea6,hallg⟩:=hg6;have hlen:=hallg.len;have hsz':=mv dg;simp only [szD] at hsz;refine ⟨_,rfl,_,_,true,rfl,.lst ea6,rfl,true,rfl,aC ?_⟩;refine ⟨_,rfl,a,_,rfl,.inl (SqL.of ea6),_,rfl,r,_,rfl,.inl (SqL.of er6),_,_,rfl,rfl,rfl,(!decide (V.int (us.length:Nat)=V.int (((ns.map V.int).length:Nat) - 1))),rfl,?_⟩;rw [aac];by_cases cu:(us.length:Int)=(ns.length:Int) - 1
      case neg =>
        rw [decide_eq_false (fun ee=>cu (by injection ee))];exact aI (none2 (by rw [e2,decide_eq_false (show ¬ (dg.length:Int)=(ns.length:Int) - 1 by lia)];rfl) H6 S6)
      rw [decide_eq_true (by rw [cu])];refine aC ⟨_,rfl,a,rfl,⟨_,SqL.of ea6⟩,iQ (Trn.list (xs:=us)) (fun i σ H'=>H'=H6∧(dg.take i).all aZ=true∧∃ c3,σ=[some (.ref r),some (.str z),some (.ref a),c3,none,none,none,none,none,none]) ⟨rfl,rfl,_,rfl⟩ (fun i σ H' hi zz=>?_) (fun i x σ K0' K0 hi it zz=>?_) (fun σ K9 zz=>?_)⟩
      · obtain ⟨rfl,_⟩:=zz;exact SqL.of ea6
      · obtain ⟨rfl,hpre,c3,rfl⟩:=zz;obtain ⟨rfl,hx⟩:=it;obtain ⟨dd,g1,g2⟩:=j7 hallg hx;have bad:aZ dd=false→Q .non K0:=fun c=>none2 (by
          rw [e2];have : dg.all aZ=false:=by
            rw [List.all_eq_false];exact ⟨dd,abg g1,by rw [c];simp⟩
          rw [this,acp]) K0 S6
        have good:aZ dd=true→(dg.take (i+1)).all aZ=true:=fun c=>by
          rw [aaN,g1,abW,hpre];simp [c]
        cases dd with
        | tuple dl =>
          have ty:=g2.ty (K:=K);simp only [Dat] at g2;obtain ⟨ta,xs,rfl,eta,hxs⟩:=g2;have lx:=hxs.len;refine ⟨_,rfl,_,_,true,rfl,ty,rfl,true,rfl,aC ⟨_,rfl,ta,_,rfl,.inr (SqT.of eta),rfl,(!decide (V.int (xs.length:Nat)=V.int 2)),rfl,?_⟩⟩;by_cases c2:xs.length=2
          · obtain ⟨l,rr,y,yy,rfl,rfl,k1,k2⟩:=vt hxs c2;refine aC ⟨_,rfl,ta,_,_,_,rfl,rfl,SqT.of eta,rfl,_,_,rfl,k1.ty,_,rfl,?_⟩;have ep:aZ (.tuple [l,rr])=(bx l && bx rr):=rfl;rw [eG];cases c3':bx l with
            | false=>exact aI (aI (bad (by rw [ep,c3'];rfl)))
            | true =>
              refine aC ⟨_,rfl,ta,_,_,_,rfl,rfl,SqT.of eta,rfl,_,_,rfl,k2.ty,_,rfl,?_⟩;rw [eG];cases c4:bx rr with
              | false=>exact aI (bad (by rw [ep,c4,acp]))
              | true=>exact aC ⟨rfl,good (by rw [ep,c3',c4];rfl),_,rfl⟩
          · rw [decide_eq_false (fun e=>c2 (by injection e with e;lia))];refine aI (aI (bad ?_))
            match dl,lx with
            | [],_=>rfl
            | [_],_=>rfl
            | [_,_],lx=>exact absurd lx.symm (by intro z;exact c2 z)
            | _ :: _ :: _ :: _,_=>rfl
        | none=>exact ⟨_,rfl,_,_,false,rfl,g2.ty,rfl,false,rfl,aI (aI (bad rfl))⟩
        | bool b=>exact ⟨_,rfl,_,_,false,rfl,g2.ty,rfl,false,rfl,aI (aI (bad rfl))⟩
        | int b=>exact ⟨_,rfl,_,_,false,rfl,g2.ty,rfl,false,rfl,aI (aI (bad rfl))⟩
        | str b=>exact ⟨_,rfl,_,_,false,rfl,g2.ty,rfl,false,rfl,aI (aI (bad rfl))⟩
        | list b=>exact ⟨_,rfl,_,_,false,rfl,g2.ty,rfl,false,rfl,aI (aI (bad rfl))⟩
        | dict b=>exact ⟨_,rfl,_,_,false,rfl,g2.ty,rfl,false,rfl,aI (aI (bad rfl))⟩
      · obtain ⟨rfl,hpre,c3,rfl⟩:=zz;rw [aao (by lia)] at hpre;cases cs with
        | none =>
          exfalso
          rcases hcs with zz|zz
          · rw [e0,decide_eq_true cl,hall] at zz;cases zz
          · rw [e2,decide_eq_true (show (dg.length:Int)=(ns.length:Int) - 1 by lia),hpre] at zz;cases zz
        | some gp =>
        obtain ⟨gs,ps⟩:=gp;obtain ⟨ez,eg,hgl,hpl⟩:=hcs;have ez:z=ah gs:=by injection ez
        have eg:dg=ps.map pD:=by injection eg
        subst ez;subst eg;have hps9:=gJ hallg;have zl:(ah gs).length=gs.length:=ck gs;have rq:res ns (some (gs,ps))=jO ns gs ps:=rfl;rw [rq] at q;refine ⟨_,rfl,r,rfl,⟨_,SqL.of er6⟩,dY (Trn.enum (xs:=ns.map V.int)) (fun i ys H''=>Same K9 H''∧BlksIn H'' ((lv ns 0).take i) ys) ⟨Same.refl _,.nil⟩ (fun i ys H'' hi zz=>⟨SqL.of (zz.1 _ _ er6),ay (by have:=zz.2.length;rw [aax,iF] at this;lia)⟩) (fun i x ys Hq' Hq hi hx zz Nx nx=>?_) (fun ys Ha zz pL nL=>?_)⟩
        · obtain ⟨SI,hp⟩:=zz;obtain ⟨pt,y,npt,rfl,rfl,hy⟩:=hx;rw [aaU] at hy;obtain ⟨nn,hnn,rfl⟩:=aaV.mp hy;have k1:=Same.new npt (.tup [.int i,.int nn]);refine ⟨pt,_,rfl,SqT.of upd_same,rfl,_,_,rfl,_,_,rfl,rfl,?_⟩;refine ⟨_,rfl,_,rfl,_,rfl,(by show 3≤sizeLine;decide),fun tb nb=>?_⟩;have k2:=Same.new nb (.tup [.int i,.int i,.int nn]);refine nx _ _ ⟨SI.trans (k1.trans k2),?_⟩;rw [aaN,show (lv ns 0)[i]?=some ((i:Int),(i:Int),Wy.num nn) by rw [qB,hnn];simp];exact Paired.app2 (BlksIn.mono (Tups.of (k1.trans k2)) hp) (.cons ⟨tb,_,rfl,upd_same,rfl⟩ .nil)
        obtain ⟨SA,hbA⟩:=zz;rw [aao (by rw [iF,aac];lia)] at hbA;have kL:=Same.new nL (.lst ys);have epL:upd Ha pL (.lst ys) pL=some (.lst ys):=upd_same;have hbL:=BlksIn.mono (Tups.of kL) hbA;have SL:=SA.trans kL;generalize upd Ha pL (.lst ys)=Hb at kL epL hbL SL ⊢;have ea_b:=SL _ _ ea6;have hps_b:=PairsIn.mono (Tups.of SL) hps9;have lps:=hps_b.length;refine ⟨_,rfl,a,rfl,⟨_,SqL.of ea_b⟩,dY (Trn.list (xs:=us)) (fun i ks H''=>Same Hb H''∧IntsIn H'' ((ps.take i).map t3) ks) ⟨Same.refl _,.nil⟩ (fun i ks H'' hi zz=>⟨SqL.of (zz.1 _ _ ea_b),ay (by have:=abJ zz.2;rw [aac,aax] at this;lia)⟩) (fun i x ks Hq' Hq hi hx zz Nx nx=>?_) (fun ks Hc zz pK nK=>?_)⟩
        · obtain ⟨SI,hk⟩:=zz;obtain ⟨rfl,hx⟩:=hx;obtain ⟨pp,hpp,tp,rfl,etp⟩:=iw hps_b hx;refine ⟨tp,_,rfl,SqT.of (SI _ _ etp),rfl,_,_,rfl,_,_,rfl,rfl,?_⟩;refine ⟨_,rfl,_,rfl,_,_,rfl,rfl,_,rfl,_,rfl,(by show 3≤sizeLine;decide),fun tb nb=>?_⟩;have k2:=Same.new nb (.tup [.int (pp.2 - pp.1),.int pp.1,.int pp.2]);refine nx _ _ ⟨SI.trans k2,?_⟩;rw [aaN,hpp];show IntsIn _ (List.map t3 (ps.take i++[pp])) _;rw [aaO];exact Paired.app2 (eU (Tups.of k2) hk) (.cons ⟨tb,rfl,upd_same⟩ .nil)
        obtain ⟨SC,hkc⟩:=zz;rw [aao (by lia)] at hkc;have kK:=Same.new nK (.lst ks);have lks:=abJ hkc;rw [aac] at lks;refine ⟨pK,ks,ps.map t3,2,rfl,upd_same,eU (Tups.of kK) hkc,(fun l hl=>by obtain ⟨p,_,rfl⟩:=abI.mp hl;rfl),by lia,fun pS uS kss nS hiS permS srtS=>?_⟩;obtain ⟨L,rfl⟩:=nI hiS fun l hl=>by
          obtain ⟨p,_,e⟩:=abI.mp (permS.mem_iff.mp hl);exact ⟨p,e.symm⟩
        have hLp:L.Perm ps:=rW permS;have hLs:L.Pairwise (fun a b=>dz a≤dz b):=(List.pairwise_map.mp srtS).imp fun h=>sx h;have dres:=sK (gs:=gs) h1 h9 hpl hLp hLs;have kS:=Same.new nS (.lst uS);have epS:upd (upd Hc pK (.lst ks)) pS (.lst uS) pS=some (.lst uS):=upd_same;have hiS':=eU (Tups.of kS) hiS;have SS:=(SC.trans kK).trans kS;generalize upd (upd Hc pK (.lst ks)) pS (.lst uS)=Hs at kS epS hiS' SS ⊢;have S9:Same H' Hs:=(S6.trans SL).trans SS;have lL:=hLp.length_eq;have luS:=abJ hiS';rw [aac] at luS;refine ⟨pS,rfl,⟨_,SqL.of epS⟩,iQ (Trn.list (xs:=uS)) (fun i σ H''=>∃ (pb:Addr) (bs:List Blk) (ub:List V) (c5 c6 c7 c8 c9:Option V),σ=[some (.ref r),some (.str (ah gs)),some (.ref a),c3,some (.ref pb),c5,c6,c7,c8,c9]∧Same Hs H''∧H'' pb=some (.lst ub)∧BlksIn H'' bs ub∧(L.take i).foldlM (bA gs) (lv ns 0)=some bs) ⟨pL,lv ns 0,ys,_,_,_,_,_,rfl,Same.refl _,SS _ _ epL,BlksIn.mono (Tups.of SS) hbL,rfl⟩ (fun i σ H'' hi zz=>?_) (fun i x σ K0' K0 hi it zz=>?_) (fun σ K8 zz=>?_)⟩
        · obtain ⟨_,_,_,_,_,_,_,_,rfl,S,_⟩:=zz;exact SqL.of (S _ _ epS)
        · obtain ⟨pb,bs,ub,c5,c6,c7,c8,c9,rfl,S0,epb,hbs,hfold⟩:=zz;obtain ⟨rfl,hx⟩:=it;obtain ⟨kk,hkk,tt,rfl,ett⟩:=Paired.at hiS' hx;rw [aaU] at hkk;obtain ⟨p,hpL,rfl⟩:=aaV.mp hkk;have ett0:=S0 _ _ ett;have hch:=qC (ns:=ns) (gs:=gs) ns.length 0 (by lia);obtain ⟨ch,_,lenb⟩:=mq hch hfold;rw [iF,aaI] at lenb;have lub:=hbs.length;have nxt:=oV hpL hfold;have fail:bA gs bs p=none→∀ H'',Same Hs H''→Q .non H'':=fun c H'' s''=>by
            rw [c] at nxt;have z:=oW nxt;rw [z] at dres;refine q _ H'' (S9.trans s'') ?_;cases hr':jO ns gs ps with
            | none=>rfl
            | some w=>rw [hr'] at dres;cases dres
          refine ⟨tt,_,rfl,SqT.of ett0,rfl,_,_,rfl,_,_,rfl,_,_,rfl,rfl,?_⟩;refine ⟨_,rfl,pb,rfl,⟨_,SqL.of epb⟩,dY (Trn.list (xs:=ub)) (fun i ys H''=>H''=K0∧BlksIn K0 ((bs.take i).filter (inr p)) ys) ⟨rfl,.nil⟩ (fun i ys H'' hi zz=>by rw [zz.1];exact ⟨SqL.of epb,ay (by have:=zz.2.length;have:=abH (inr p) (bs.take i);rw [aax] at this;lia)⟩) (fun i x ys Hq' Hq hi hx zz Nx nx=>?_) (fun yi Hq zz pI npI=>?_)⟩
          · obtain ⟨rfl,hp⟩:=zz;obtain ⟨rfl,hx⟩:=hx;obtain ⟨bb,hbb,hbin⟩:=Paired.at hbs hx;have hbin0:=hbin;obtain ⟨tb,xb,rfl,etb,hwb⟩:=hbin;have stp:(inr p) bb=true→BlksIn Hq ((bs.take (i+1)).filter (inr p)) (ys++[.ref tb]):=fun c=>by
              rw [mH hbb c];exact Paired.app2 hp (.cons hbin0 .nil)
            have stn:(inr p) bb=false→BlksIn Hq ((bs.take (i+1)).filter (inr p)) ys:=fun c=>by
              rw [mI hbb c];exact hp
            refine ⟨_,rfl,_,rfl,.inr (.inl ⟨tb,_,_,_,rfl,rfl,SqT.of etb,rfl,_,_,rfl,rfl,decide (p.1≤bb.1),rfl,?_⟩)⟩;by_cases k1:p.1≤bb.1
            · refine iK k1 ⟨_,rfl,.inr (.inl ⟨tb,_,_,_,rfl,rfl,SqT.of etb,rfl,_,rfl,_,_,rfl,rfl,decide (bb.2.1≤p.2),rfl,?_⟩)⟩;by_cases k2:bb.2.1≤p.2
              · exact iK k2 ⟨_,rfl,nx _ _ ⟨rfl,stp (by unfold inr;rw [decide_eq_true k1,decide_eq_true k2];rfl)⟩⟩
              · exact gR k2 (nx _ _ ⟨rfl,stn (by unfold inr;rw [decide_eq_false k2,acp])⟩)
            · exact gR k1 (aC (nx _ _ ⟨rfl,stn (by unfold inr;rw [decide_eq_false k1];rfl)⟩))
          obtain ⟨rfl,hin⟩:=zz;rw [aao (by lia)] at hin;have kI:=Same.new npI (.lst yi);have epI:upd Hq pI (.lst yi) pI=some (.lst yi):=upd_same;have epb1:=kI _ _ epb;have hbs1:=BlksIn.mono (Tups.of kI) hbs;have hin1:=BlksIn.mono (Tups.of kI) hin;have S1':=S0.trans kI;generalize upd Hq pI (.lst yi)=H1 at kI epI epb1 hbs1 hin1 S1' ⊢;have lin:=hin1.length;refine ⟨_,rfl,pI,_,rfl,.inl (SqL.of epI),rfl,(!decide (V.int (yi.length:Nat)=V.int 2)),rfl,?_⟩;by_cases c2:yi.length=2
          case neg =>
            rw [decide_eq_false (fun e=>c2 (by injection e with e;lia))];exact aI (aI (fail (oG (by lia)) H1 S1'))
          rw [decide_eq_true (by rw [c2];rfl)];refine aC ?_;obtain ⟨x,y,hf,vx,vy,rfl,hbx,hby⟩:∃ x y,bs.filter (inr p)=[x,y]∧∃ vx vy,yi=[vx,vy]∧BlkIn H1 x vx∧BlkIn H1 y vy:=by
            generalize bs.filter (inr p)=ff at hin1 lin;clear epI;cases hin1 with
            | nil=>simp at c2
            | cons a t1 =>
              cases t1 with
              | nil=>simp at c2
              | cons b t2 =>
                cases t2 with
                | nil=>exact ⟨_,_,rfl,_,_,rfl,a,b⟩
                | cons _ _=>simp at c2
          obtain ⟨tx,wx,rfl,etx,hwx⟩:=hbx;obtain ⟨ty,wv,rfl,ety,hwv⟩:=hby
          refine ⟨_,rfl,pI,_,_,_,rfl,rfl,SqL.of epI,rfl,tx,_,_,_,rfl,rfl,SqT.of etx,rfl,_,rfl,rfl,(!decide (V.int x.1=V.int p.1)),rfl,?_⟩;by_cases cx:x.1=p.1
          case neg =>
            rw [decide_eq_false (fun e=>cx (by injection e))];exact aI (aI (fail (lg hf (fun z=>cx z.1)) H1 S1'))
          rw [decide_eq_true (by rw [cx])];refine aC ⟨_,rfl,pI,_,_,_,rfl,rfl,SqL.of epI,rfl,ty,_,_,_,rfl,rfl,SqT.of ety,rfl,_,rfl,rfl,(!decide (V.int y.2.1=V.int p.2)),rfl,?_⟩;by_cases cy:y.2.1=p.2
          case neg =>
            rw [decide_eq_false (fun e=>cy (by injection e))];exact aI (fail (lg hf (fun z=>cy z.2)) H1 S1')
          rw [decide_eq_true (by rw [cy])];refine aC ?_;have cut:=mM cx cy ch hf;have cut2:=ch;rw [cut] at cut2;obtain ⟨mm,k1',k2'⟩:=Ch.cut cut2;obtain ⟨x1,x2,x3,y1,y2,y3,k3'⟩:=k2';have le1:=sY k3';have zx:=x.2.2.size_pos;have zy:=y.2.2.size_pos;have m0:=x3.1;have hgi:x.2.1.toNat < gs.length:=by lia
          have hgg:gs[x.2.1.toNat]?=some gs[x.2.1.toNat]:=aaj hgi;have ms:=oE hf cx cy hgg;refine ⟨_,rfl,_,rfl,_,rfl,_,rfl,pI,_,_,_,rfl,rfl,SqL.of epI,rfl,tx,_,_,_,rfl,rfl,SqT.of etx,rfl,_,_,_,rfl,rfl,aK (by lia),(show atI (ah gs).cps.toList x.2.1=some _ from by
            have:=eY (xs:=(ah gs).cps.toList) (pU hgg)
            rwa [show ((x.2.1.toNat:Nat):Int)=x.2.1 by lia] at this),?_⟩
          rw [pR];refine ⟨_,rfl,pI,_,_,_,rfl,rfl,SqL.of epI,rfl,tx,_,_,_,rfl,rfl,SqT.of etx,rfl,_,rfl,pI,_,_,_,rfl,rfl,SqL.of epI,rfl,ty,_,_,_,rfl,rfl,SqT.of ety,rfl,(by show 3≤sizeLine;decide),fun n1 m1=>?_⟩;have km1:=Same.new m1 (.tup [.str (gs[x.2.1.toNat]).str,wx,wv]);refine ⟨(by show 3≤sizeLine;decide),fun n2 m2=>?_⟩;have km2:=Same.new m2 (.tup [.int p.1,.int p.2,.ref n1]);have kmm:=km1.trans km2;have en2:upd (upd H1 n1 (.tup [.str (gs[x.2.1.toNat]).str,wx,wv])) n2 (.tup [.int p.1,.int p.2,.ref n1]) n2=some (.tup [.int p.1,.int p.2,.ref n1]):=upd_same;have hnew:BlkIn (upd (upd H1 n1 (.tup [.str (gs[x.2.1.toNat]).str,wx,wv])) n2 (.tup [.int p.1,.int p.2,.ref n1])) (p.1,p.2,.node gs[x.2.1.toNat] x.2.2 y.2.2) (.ref n2):=⟨n2,_,rfl,en2,⟨n1,wx,wv,rfl,km2 _ _ upd_same,WyIn.mono (Tups.of kmm) hwx,WyIn.mono (Tups.of kmm) hwv⟩⟩
          have epb2:=kmm _ _ epb1;have hbs2:=BlksIn.mono (Tups.of kmm) hbs1;have S2':=S1'.trans kmm;generalize upd (upd H1 n1 (.tup [.str (gs[x.2.1.toNat]).str,wx,wv])) n2 (.tup [.int p.1,.int p.2,.ref n1])=H2 at hnew epb2 hbs2 S2' ⊢;refine ⟨_,rfl,pb,rfl,⟨_,SqL.of epb2⟩,dY (Trn.list (xs:=ub)) (fun i ys H''=>H''=H2∧BlksIn H2 ((bs.take i).filter (fun (b:Blk)=>decide (b.2.1 < p.1))) ys) ⟨rfl,.nil⟩ (fun i ys H'' hi zz=>by rw [zz.1];exact ⟨SqL.of epb2,ay (by have:=zz.2.length;have:=abH (fun (b:Blk)=>decide (b.2.1 < p.1)) (bs.take i);rw [aax] at this;lia)⟩) (fun i x ys Hq' Hq hi hx zz Nx nx=>?_) (fun ya Hq zz qa nqa=>?_)⟩
          · obtain ⟨rfl,hp⟩:=zz;obtain ⟨rfl,hx⟩:=hx;obtain ⟨bb,hbb,hbin⟩:=Paired.at hbs2 hx;have hbin0:=hbin;obtain ⟨tb,xb,rfl,etb,hwb⟩:=hbin;have stp:(fun (b:Blk)=>decide (b.2.1 < p.1)) bb=true→BlksIn Hq ((bs.take (i+1)).filter (fun (b:Blk)=>decide (b.2.1 < p.1))) (ys++[.ref tb]):=fun c=>by
              rw [mH hbb c];exact Paired.app2 hp (.cons hbin0 .nil)
            have stn:(fun (b:Blk)=>decide (b.2.1 < p.1)) bb=false→BlksIn Hq ((bs.take (i+1)).filter (fun (b:Blk)=>decide (b.2.1 < p.1))) ys:=fun c=>by
              rw [mI hbb c];exact hp
            refine ⟨_,rfl,.inr (.inl ⟨tb,_,_,_,rfl,rfl,SqT.of etb,rfl,_,rfl,_,_,rfl,rfl,decide (bb.2.1 < p.1),rfl,?_⟩)⟩;by_cases k1:bb.2.1 < p.1
            · exact iK k1 ⟨_,rfl,nx _ _ ⟨rfl,stp (decide_eq_true k1)⟩⟩
            · exact gR k1 (nx _ _ ⟨rfl,stn (decide_eq_false k1)⟩)
          obtain ⟨rfl,hya⟩:=zz;rw [aao (by lia)] at hya;have ka:=Same.new nqa (.lst ya);have eqa:upd Hq qa (.lst ya) qa=some (.lst ya):=upd_same;refine ⟨_,rfl,(by show 1≤sizeLine;decide),fun qb nqb=>?_⟩;have kb:=Same.new nqb (.lst [.ref n2]);have lya:=hya.length;have lfa:=abH (fun (b:Blk)=>decide (b.2.1 < p.1)) bs;refine ⟨qa,qb,_,_,rfl,rfl,kb _ _ eqa,upd_same,aK (by show _+1≤1000;lia),fun qc nqc=>?_⟩;have kc:=Same.new nqc (.lst (ya++[.ref n2]));have kabc:=(ka.trans kb).trans kc;have eqc:upd (upd (upd Hq qa (.lst ya)) qb (.lst [.ref n2])) qc (.lst (ya++[.ref n2])) qc=some (.lst (ya++[.ref n2])):=upd_same;have hyc:=BlksIn.mono (Tups.of kabc) (Paired.app2 hya (.cons hnew .nil));have epb3:=kabc _ _ epb2;have hbs3:=BlksIn.mono (Tups.of kabc) hbs2;have S3':=S2'.trans kabc;generalize upd (upd (upd Hq qa (.lst ya)) qb (.lst [.ref n2])) qc (.lst (ya++[.ref n2]))=H3 at eqc hyc epb3 hbs3 S3' ⊢;refine ⟨_,rfl,pb,rfl,⟨_,SqL.of epb3⟩,dY (Trn.list (xs:=ub)) (fun i ys H''=>H''=H3∧BlksIn H3 ((bs.take i).filter (fun (b:Blk)=>decide (p.2 < b.1))) ys) ⟨rfl,.nil⟩ (fun i ys H'' hi zz=>by rw [zz.1];exact ⟨SqL.of epb3,ay (by have:=zz.2.length;have:=abH (fun (b:Blk)=>decide (p.2 < b.1)) (bs.take i);rw [aax] at this;lia)⟩) (fun i x ys Hq' Hq hi hx zz Nx nx=>?_) (fun yd Hq zz qd nqd=>?_)⟩
          · obtain ⟨rfl,hp⟩:=zz;obtain ⟨rfl,hx⟩:=hx;obtain ⟨bb,hbb,hbin⟩:=Paired.at hbs3 hx;have hbin0:=hbin;obtain ⟨tb,xb,rfl,etb,hwb⟩:=hbin;have stp:(fun (b:Blk)=>decide (p.2 < b.1)) bb=true→BlksIn Hq ((bs.take (i+1)).filter (fun (b:Blk)=>decide (p.2 < b.1))) (ys++[.ref tb]):=fun c=>by
              rw [mH hbb c];exact Paired.app2 hp (.cons hbin0 .nil)
            have stn:(fun (b:Blk)=>decide (p.2 < b.1)) bb=false→BlksIn Hq ((bs.take (i+1)).filter (fun (b:Blk)=>decide (p.2 < b.1))) ys:=fun c=>by
              rw [mI hbb c];exact hp
            refine ⟨_,rfl,.inr (.inl ⟨tb,_,_,_,rfl,rfl,SqT.of etb,rfl,_,rfl,_,_,rfl,rfl,decide (p.2 < bb.1),rfl,?_⟩)⟩;by_cases k1:p.2 < bb.1
            · exact iK k1 ⟨_,rfl,nx _ _ ⟨rfl,stp (decide_eq_true k1)⟩⟩
            · exact gR k1 (nx _ _ ⟨rfl,stn (decide_eq_false k1)⟩)
          obtain ⟨rfl,hyd⟩:=zz;rw [aao (by lia)] at hyd;have kd:=Same.new nqd (.lst yd);have lyd:=hyd.length;have lfd:=abH (fun (b:Blk)=>decide (p.2 < b.1)) bs;refine ⟨qc,qd,_,_,rfl,rfl,kd _ _ eqc,upd_same,aK (by rw [aah];show _+1+_≤1000;lia),fun qe nqe=>?_⟩;have ke:=Same.new nqe (.lst (ya++[.ref n2]++yd));refine ⟨qe,_,_,_,_,_,_,_,rfl,S3'.trans (kd.trans ke),upd_same,BlksIn.mono (Tups.of (kd.trans ke)) (Paired.app2 hyc hyd),?_⟩;rw [nxt,ms]
        · obtain ⟨pb,bs,ub,c5,c6,c7,c8,c9,rfl,S0,epb,hbs,hfold⟩:=zz;rw [aao (by lia),dres] at hfold;obtain ⟨w,hw,ebs⟩:=aaV.mp hfold;subst ebs;cases hbs with
          | cons hb0 hb1 =>
          cases hb1;obtain ⟨tb,xb,rfl,etb,hwb⟩:=hb0;refine ⟨_,rfl,pb,_,_,_,rfl,rfl,SqL.of epb,rfl,tb,_,_,_,rfl,rfl,SqT.of etb,rfl,q _ K8 (S9.trans S0) ?_⟩;rw [hw];exact hwb
    | _=>simp [bG] at hlst
  | _=>simp [fW] at hstr
end
open PySem L2
def bW:Wy→PyData
  | .num i=>.int i
  | .node g l r=>.tuple [.str g.str,bW l,bW r]
theorem WyIn.dat {H:Hp}:∀ {w:Wy} {v:V},WyIn H w v→Dat H (bW w) v
  | .num i,v,h=>by
    simp only [bW,Dat];exact h
  | .node g l r,v,h=>by
    obtain ⟨a,vl,vr,rfl,ha,hl,hr⟩:=h;simp only [bW,Dat,DatAll];exact ⟨a,_,rfl,ha,_,_,rfl,rfl,_,_,rfl,WyIn.dat hl,_,_,rfl,WyIn.dat hr,rfl⟩
theorem hW:∀ w:Wy,(bW w).depth≤w.deep
  | .num i=>by simp [bW,aas]
  | .node g l r=>by
    have a:=hW l;have b:=hW r;simp only [bW,aas,aap];show max 0 (max (bW l).depth (max (bW r).depth 0))+1≤max l.deep r.deep+1;lia
theorem o8:∀ w:Wy,szD (bW w)+2≤3 * w.size
  | .num i=>by simp [bW,szD,Wy.size]
  | .node g l r=>by
    have a:=o8 l;have b:=o8 r;simp only [bW,szD,szAll];show _≤3 * (l.size+r.size);lia
def Wy.Sm (w:Wy):Prop:=∀ i∈w.nums,i.natAbs < 10 ^ 40
theorem Wy.Sm.l {g:Sg} {l r:Wy} (h:(Wy.node g l r).Sm):l.Sm:=fun i hi=>h i (aaD _ hi)
theorem Wy.Sm.r {g:Sg} {l r:Wy} (h:(Wy.node g l r).Sm):r.Sm:=fun i hi=>h i (aae _ hi)
theorem uU (g:Sg):OkD (.str g.str):=by simp only [OkD];cases g <;> decide +kernel
theorem o9:∀ w:Wy,w.Sm→OkD (bW w)
  | .num i,h=>by simp only [bW,OkD];exact h i aag
  | .node g l r,h=>by
    simp only [bW,OkD,OkAll];exact ⟨by simpa only [OkD] using uU g,o9 l h.l,o9 r h.r,trivial⟩
def PrD (d:PyData):Prop:=d.showable=true∧d.depth≤50∧d.shown.length≤100000
theorem fS {d:PyData} (h:OkD d) (hs:szD d≤900) (hd:d.depth≤50):PrD d:=by
  have:=qu d h;exact ⟨jQ d h,hd,by lia⟩
theorem gP:∀ {ns:List Int},jB ns→OkAll (ns.map PyData.int)
  | [],_=>by simp only [aa4,OkAll]
  | i :: ns,h=>by
    simp only [aau,OkAll,OkD];have:=h i aag;have z:(10:Nat) ^ 13=10000000000000:=by decide
    exact ⟨by lia,gP fun j hj=>h j (aaf _ hj)⟩
theorem gK:∀ ns:List Int,szAll (ns.map PyData.int)=ns.length
  | []=>rfl
  | i :: ns=>by simp only [aau,szAll,szD,gK ns,aar];lia
theorem gU:∀ ns:List Int,aap (ns.map PyData.int)=0
  | []=>rfl
  | i :: ns=>by simp only [aau,aap,aas,gU ns];rfl
theorem bN {H:Hp}:∀ ns:List Int,DatAll H (ns.map PyData.int) (ns.map V.int)
  | []=>by simp only [aa4,DatAll]
  | i :: ns=>by
    simp only [aau,DatAll];exact ⟨_,_,rfl,by simp only [Dat],bN ns⟩
def rD (ns:List Int):PyData:=.list (ns.map PyData.int)
theorem jN {H:Hp} {a:Addr} {ns:List Int} (h:H a=some (.lst (ns.map V.int))):Dat H (rD ns) (.ref a):=by
  simp only [rD,Dat];exact ⟨a,_,rfl,h,bN ns⟩
theorem pW {ns:List Int} {cs:Option (List Sg × PS)} {w:Wy} (h1:1≤ns.length) (h:res ns cs=some w):w.nums=ns∧w.size=ns.length:=by
  cases cs with
  | none=>cases h
  | some gp =>
    obtain ⟨gs,ps⟩:=gp;have h:jO ns gs ps=some w:=h;unfold jO at h;cases hj:jn ns gs ps 10 0 ((ns.length:Int) - 1) with
    | none=>rw [hj] at h;cases h
    | some w' =>
      rw [hj] at h;simp only at h;by_cases c:(w'.strs 0).isPerm ps=true
      · rw [if_pos c] at h;cases h;obtain ⟨a,b⟩:=lC hj (aat _) (by lia);refine ⟨?_,by lia⟩;rw [a.2.1];unfold nsl;rw [show (0:Int).toNat=0 from rfl,ab5,aao (by lia)]
      · rw [if_neg c] at h;cases h
def oD:Option Wy→PyData
  | some w=>bW w
  | none=>.none
theorem Jo.dat {H:Hp} {o:Option Wy} {u:V} (h:Jo H o u):Dat H (oD o) u:=by
  cases o with
  | none=>rw [show u=.non from h];simp only [oD,Dat]
  | some w=>exact WyIn.dat h
theorem tV {ns:List Int} {cs:Option (List Sg × PS)} (h1:1≤ns.length) (h9:ns.length≤9) (sm:jB ns):PrD (oD (res ns cs)):=by
  cases h:res ns cs with
  | none=>exact fS (by simp only [oD,OkD]) (by simp [oD,szD]) (by simp [oD,aas])
  | some w =>
    obtain ⟨e1,e2⟩:=pW h1 h;have a:=o8 w;have b:=hW w;have c:=w.deep_le;have hs:w.Sm:=fun i hi=>by rw [e1] at hi;have:=sm i hi;lia
    exact fS (o9 w hs) (by show szD (bW w)≤900;lia) (by show (bW w).depth≤50;lia)
theorem tU {ns:List Int} (h9:ns.length≤9) (sm:jB ns):PrD (rD ns):=fS (by simp only [rD,OkD];exact gP sm) (by simp only [rD,szD,gK];lia) (by simp only [rD,aas,gU];lia)
theorem pr3 {a b c:PyData} (h1:PrD a) (h2:PrD b) (h3:PrD c):(PyData.list [a,b,c]).showable=true∧(PyData.list [a,b,c]).depth≤60∧(PyData.list [a,b,c]).shown.length≤sizeLine:=by
  obtain ⟨a1,a2,a3⟩:=h1;obtain ⟨b1,b2,b3⟩:=h2;obtain ⟨c1,c2,c3⟩:=h3;refine ⟨?_,?_,?_⟩
  · simp only [aa5,ack,a1,b1,c1,Bool.and_self]
  · simp only [aas,aap];lia
  · have z:=listText_len_le (abO [a,b,c]);simp only [acw];simp only [abO,aau,aa4,acB,List.sum_nil,aar,aaX] at z ⊢;exact aaY (show _≤700000 by lia) (by rw [sizeLine_eq];decide)
section
variable {P:Program} {w:World} {K:aaa} {mg:Str→Option Value} {base:Heap} {f:Addr} {fd:FuncData}
structure Xk (mg:Str→Option Value) (aR aS aW aN aL aF aO aA aH aT aM:Addr):Prop where
  mNoRow:mg "NoRow" = some (.ref aR)
  mNoSigns:mg "NoSigns" = some (.ref aS)
  mNoWay:mg "NoWay" = some (.ref aW)
  mNoNumber:mg "NoNumber" = some (.ref aN)
  mNoPlace:mg "NoPlace" = some (.ref aL)
  mNoFit:mg "NoFit" = some (.ref aF)
  mNoForm:mg "NoForm" = some (.ref aO)
  mNoAsk:mg "NoAsk" = some (.ref aA)
  mNoHolds:mg "NoHolds" = some (.ref aH)
  mNoText:mg "NoText" = some (.ref aT)
  mTooMany:mg "TooMany" = some (.ref aM)
  iValueError:mg "ValueError" = none
structure Kd (K:aaa) (aR aS aW aN aL aF aO aA aH aT aM C:Addr) (j:Nat):Prop where
  ex:ExC K C
  lt:j < 7
  k0:aaC K (.ref C) (.ref aR)=some (decide (j=0))
  k1:aaC K (.ref C) (.ref aS)=some (decide (j=1))
  k2:aaC K (.ref C) (.ref aW)=some (decide (j=2))
  k3:aaC K (.ref C) (.ref aN)=some (decide (j=3))
  k4:aaC K (.ref C) (.ref aL)=some (decide (j=4))
  k5:aaC K (.ref C) (.ref aF)=some (decide (j=5))
  k6:aaC K (.ref C) (.ref aO)=some (decide (j=6))
  ka:PySem.W.kitAny K (.ref C) [.ref aA,.ref aH,.ref aT,.ref aM]=some false
  kv:aaC K (.ref C) (.type "ValueError")=some true
def dO:List V:=[.str "NoRow",.str "NoSigns",.str "NoWay",.str "NoNumber",.str "NoPlace",.str "NoFit",.str "NoForm"]
def lA (j:Nat):List Bool:=[decide (j=0),decide (j=1),decide (j=2),decide (j=3),decide (j=4),decide (j=5),decide (j=6)]
def lX (K:aaa) (aR aS aW aN aL aF aO aA aH aT aM:Addr):Sp:=fun vs H Q _=>∃ ea C j nm,vs=[.ref ea]∧H ea=some (eI ea C)∧Kd K aR aS aW aN aL aF aO aA aH aT aM C j∧dO[j]?=some nm∧∀ H',Same H H'→Q nm H'
theorem qL {j:Nat} (h:j < 7):(lA j).countP id=1:=by
  match j,h with
  | 0,_=>rfl
  | 1,_=>rfl
  | 2,_=>rfl
  | 3,_=>rfl
  | 4,_=>rfl
  | 5,_=>rfl
  | 6,_=>rfl
theorem vd {j:Nat} (h:j < 7):(lA j)[j]?=some true∧∀ m,m < j→(lA j)[m]?=some false:=by
  match j,h with
  | 0,_=>exact ⟨rfl,fun m hm=>absurd hm (by lia)⟩
  | 1,_=>exact ⟨rfl,by decide⟩
  | 2,_=>exact ⟨rfl,by decide⟩
  | 3,_=>exact ⟨rfl,by decide⟩
  | 4,_=>exact ⟨rfl,by decide⟩
  | 5,_=>exact ⟨rfl,by decide⟩
  | 6,_=>exact ⟨rfl,by decide⟩
abbrev eA:Stmt:=top 42
theorem bY:FnScope ["caught","names","kinds","odd"] ["caught"] (am eA):=⟨rfl,rfl,rfl,by decide +kernel,rfl,by decide +kernel,by decide +kernel⟩
theorem sh {aR aS aW aN aL aF aO aA aH aT aM:Addr} (F:Fun K "_law_kind" "_law_kind" eA f fd) (B:Bu K mg) (XK:Xk mg aR aS aW aN aL aF aO aA aH aT aM):FnOk P w K mg base CX0 1 f fd ["caught"] (lX K aR aS aW aN aL aF aO aA aH aT aM):=by
  refine F.ok bY (fun vs H Q E h=>?_) (fun cdv A outer s H vs Q E hr h=>?_)
  · obtain ⟨ea,C,j,nm,rfl,_⟩:=h;rfl
  obtain ⟨ea,C,j,nm,rfl,he,kd,hn,q⟩:=h;refine ⟨_,(@ag _ _ _ _ _ (@au _ _ (1) _ _ _ _ (bY).nd rfl (Or.inl rfl) (@aw _ _ _ _ (@aa _ _ _ _ _ aU (@aa _ _ _ _ _ aU (@aa _ _ _ _ _ aU (@aa _ _ _ _ _ aU (@aa _ _ _ _ _ aU (@aa _ _ _ _ _ aU (@aa _ _ _ _ _ aU ae (by rfl)) (by rfl)) (by rfl)) (by rfl)) (by rfl)) (by rfl)) (by rfl))) (by rfl) (by first|exact .inl rfl|exact .inr rfl|assumption)) (@ag _ _ _ _ _ (@au _ _ (2) _ _ _ _ (bY).nd rfl (Or.inl rfl) (@aw _ _ _ _ (@aa _ _ _ _ _ (@aj _ _ _ _ _ _ _ _ _ bv rfl B.iisinstance aad (@aa _ _ _ _ _ (pv 0) (@aa _ _ _ _ _ (@bB _ _ (.ref aR) _ _ rfl XK.mNoRow rfl (by decide)) ae (by rfl)) (by rfl)) (by decide) (by decide) (by rfl) (by rfl)) (@aa _ _ _ _ _ (@aj _ _ _ _ _ _ _ _ _ bv rfl B.iisinstance aad (@aa _ _ _ _ _ (pv 0) (@aa _ _ _ _ _ (@bB _ _ (.ref aS) _ _ rfl XK.mNoSigns rfl (by decide)) ae (by rfl)) (by rfl)) (by decide) (by decide) (by rfl) (by rfl)) (@aa _ _ _ _ _ (@aj _ _ _ _ _ _ _ _ _ bv rfl B.iisinstance aad (@aa _ _ _ _ _ (pv 0) (@aa _ _ _ _ _ (@bB _ _ (.ref aW) _ _ rfl XK.mNoWay rfl (by decide)) ae (by rfl)) (by rfl)) (by decide) (by decide) (by rfl) (by rfl)) ae (by rfl)) (by rfl)) (by rfl))) (by rfl) (by first|exact .inl rfl|exact .inr rfl|assumption)) (@ag _ _ _ _ _ (@au _ _ (2) _ _ _ _ (bY).nd rfl (Or.inl rfl) (@ar _ _ _ _ _ _ _ _ bo (pv 2) (@aw _ _ _ _ (@aa _ _ _ _ _ (@aj _ _ _ _ _ _ _ _ _ bv rfl B.iisinstance aad (@aa _ _ _ _ _ (pv 0) (@aa _ _ _ _ _ (@bB _ _ (.ref aN) _ _ rfl XK.mNoNumber rfl (by decide)) ae (by rfl)) (by rfl)) (by decide) (by decide) (by rfl) (by rfl)) (@aa _ _ _ _ _ (@aj _ _ _ _ _ _ _ _ _ bv rfl B.iisinstance aad (@aa _ _ _ _ _ (pv 0) (@aa _ _ _ _ _ (@bB _ _ (.ref aL) _ _ rfl XK.mNoPlace rfl (by decide)) ae (by rfl)) (by rfl)) (by decide) (by decide) (by rfl) (by rfl)) (@aa _ _ _ _ _ (@aj _ _ _ _ _ _ _ _ _ bv rfl B.iisinstance aad (@aa _ _ _ _ _ (pv 0) (@aa _ _ _ _ _ (@bB _ _ (.ref aF) _ _ rfl XK.mNoFit rfl (by decide)) ae (by rfl)) (by rfl)) (by decide) (by decide) (by rfl) (by rfl)) ae (by rfl)) (by rfl)) (by rfl)))) (by rfl) (by first|exact .inl rfl|exact .inr rfl|assumption)) (@ag _ _ _ _ _ (@da _ _ _ _ (@fe _ _ _ _ _ _ _ _ _ _ _ _ aaH aba abb cO (pv 2) (@aa _ _ _ _ _ (@aj _ _ _ _ _ _ _ _ _ bv rfl B.iisinstance aad (@aa _ _ _ _ _ (pv 0) (@aa _ _ _ _ _ (@bB _ _ (.ref aO) _ _ rfl XK.mNoForm rfl (by decide)) ae (by rfl)) (by rfl)) (by decide) (by decide) (by rfl) (by rfl)) ae (by rfl)) (by rfl) (by rfl) (by rfl) (by rfl) (by rfl)) (by rfl)) (@ag _ _ _ _ _ (@au _ _ (3) _ _ _ _ (bY).nd rfl (Or.inl rfl) (@aj _ _ _ _ _ _ _ _ _ i8 rfl B.iisinstance aad (@aa _ _ _ _ _ (pv 0) (@aa _ _ _ _ _ (@aX _ _ _ _ _ (@aa _ _ _ _ _ (@bB _ _ (.ref aA) _ _ rfl XK.mNoAsk rfl (by decide)) (@aa _ _ _ _ _ (@bB _ _ (.ref aH) _ _ rfl XK.mNoHolds rfl (by decide)) (@aa _ _ _ _ _ (@bB _ _ (.ref aT) _ _ rfl XK.mNoText rfl (by decide)) (@aa _ _ _ _ _ (@bB _ _ (.ref aM) _ _ rfl XK.mTooMany rfl (by decide)) ae (by rfl)) (by rfl)) (by rfl)) (by rfl))) ae (by rfl)) (by rfl)) (by decide) (by decide) (by rfl) (by rfl)) (by rfl) (by first|exact .inl rfl|exact .inr rfl|assumption)) (@ag _ _ _ _ _ (@br _ _ _ _ _ _ _ _ (@PW.pt _ _ _ (@cH _ _ _ _ _ _ _ (@kM _ _ _ (pv 3) (fun _=>rfl)) (@cH _ _ _ _ _ _ _ (@bQ _ _ _ _ (@bf _ _ _ (@aj _ _ _ _ _ _ _ _ _ bv rfl B.iisinstance aad (@aa _ _ _ _ _ (pv 0) (@aa _ _ _ _ _ (@bj _ _ (.ty "ValueError") _ _ rfl XK.iValueError (by decide +kernel) rfl (by decide) (by decide)) ae (by rfl)) (by rfl)) (by decide) (by decide) (by rfl) (by rfl)) (by intro _;rfl))) (@cK _ _ _ _ (@aD _ _ _ _ _ _ _ _ dW (@fe _ _ _ _ _ _ _ _ _ _ _ _ aaH PySem.F.slot_list_count PySem.F.type_list_count (@oB _ hr.units) (pv 2) (@aa _ _ _ _ _ dc ae (by rfl)) (by rfl) (by rfl) (by rfl) (by rfl) (by rfl)) af (aJ _)))))) (@ai _ _ _ (@av _ _ _ _ aU)) aV) (@ai _ _ _ (@av _ _ _ _ (@aE _ _ _ _ _ _ _ ix_list (pv 1) (@fe _ _ _ _ _ _ _ _ _ _ _ _ aaH PySem.F.slot_list_index PySem.F.type_list_index (@oA _ hr.units) (pv 2) (@aa _ _ _ _ _ dc ae (by rfl)) (by rfl) (by rfl) (by rfl) (by rfl) (by rfl)) (fun _ _=>rfl)))))))))),?_⟩;refine ⟨(by show 7≤sizeLine;decide),fun pn nn=>?_⟩;have g1:=Same.new nn (.lst dO);have e1:=g1 _ _ he;refine ⟨_,rfl,ea,C,_,_,_,rfl,e1,kd.ex,fun _ z=>z,kd.k0,_,rfl,ea,C,_,_,_,rfl,e1,kd.ex,fun _ z=>z,kd.k1,_,rfl,ea,C,_,_,_,rfl,e1,kd.ex,fun _ z=>z,kd.k2,(by show 3≤sizeLine;decide),fun pk nk=>?_⟩;have g2:=Same.new nk (.lst [.bl (decide (j=0)),.bl (decide (j=1)),.bl (decide (j=2))]);have e2:=g2 _ _ e1;refine ⟨_,rfl,_,rfl,ea,C,_,_,_,rfl,e2,kd.ex,fun _ z=>z,kd.k3,_,rfl,ea,C,_,_,_,rfl,e2,kd.ex,fun _ z=>z,kd.k4,_,rfl,ea,C,_,_,_,rfl,e2,kd.ex,fun _ z=>z,kd.k5,(by show 3≤sizeLine;decide),fun pl nl=>?_⟩;have g3:=Same.new nl (.lst [.bl (decide (j=3)),.bl (decide (j=4)),.bl (decide (j=5))]);refine ⟨pk,pl,_,_,rfl,rfl,g3 _ _ upd_same,upd_same,(by show 6≤sizeLine;decide),fun pm nm'=>?_⟩;have g4:=Same.new nm' (.lst ([.bl (decide (j=0)),.bl (decide (j=1)),.bl (decide (j=2))]++[.bl (decide (j=3)),.bl (decide (j=4)),.bl (decide (j=5))]));have e4:=g4 _ _ (g3 _ _ e2);have ek:upd (upd (upd (upd H pn (.lst dO)) pk (.lst [.bl (decide (j=0)),.bl (decide (j=1)),.bl (decide (j=2))])) pl (.lst [.bl (decide (j=3)),.bl (decide (j=4)),.bl (decide (j=5))])) pm (.lst ([.bl (decide (j=0)),.bl (decide (j=1)),.bl (decide (j=2))]++[.bl (decide (j=3)),.bl (decide (j=4)),.bl (decide (j=5))])) pm=some (.lst [.bl (decide (j=0)),.bl (decide (j=1)),.bl (decide (j=2)),.bl (decide (j=3)),.bl (decide (j=4)),.bl (decide (j=5))]):=upd_same;have en:=(g2.trans (g3.trans g4)) _ _ (upd_same (H:=H) (a:=pn) (o:=.lst dO));have nm0:H pm=none:=(g1.trans (g2.trans g3)).free nm';have pne:pn≠pm:=ao ((g2.trans g3) _ _ (upd_same (H:=H) (a:=pn) (o:=.lst dO))) nm';have eane:ea≠pm:=ao he nm0;have G4:=g1.trans (g2.trans (g3.trans g4));refine ⟨_,rfl,.inl ⟨rfl,_,SqL.of ek⟩,_,rfl,ea,C,_,_,_,rfl,e4,kd.ex,fun _ z=>z,kd.k6,pm,_,_,rfl,rfl,ek,(by show 6 < sizeLine;decide),?_⟩;have x5:∀ b o,b≠pm→upd (upd (upd (upd H pn (.lst dO)) pk (.lst [.bl (decide (j=0)),.bl (decide (j=1)),.bl (decide (j=2))])) pl (.lst [.bl (decide (j=3)),.bl (decide (j=4)),.bl (decide (j=5))])) pm (.lst ([.bl (decide (j=0)),.bl (decide (j=1)),.bl (decide (j=2))]++[.bl (decide (j=3)),.bl (decide (j=4)),.bl (decide (j=5))])) b=some o →
      upd (upd (upd (upd (upd H pn (.lst dO)) pk (.lst [.bl (decide (j=0)),.bl (decide (j=1)),.bl (decide (j=2))])) pl (.lst [.bl (decide (j=3)),.bl (decide (j=4)),.bl (decide (j=5))])) pm (.lst ([.bl (decide (j=0)),.bl (decide (j=1)),.bl (decide (j=2))]++[.bl (decide (j=3)),.bl (decide (j=4)),.bl (decide (j=5))]))) pm (.lst ((lA j).map V.bl)) b=some o:=fun b o hb z=>by rw [aq hb];exact z
  have G5:=G4.upd (o:=.lst ((lA j).map V.bl)) nm0;have e5:=x5 _ _ eane e4;have en5:=x5 _ _ pne en;refine ⟨_,rfl,(by show 4≤sizeLine;decide),fun pt nt=>?_⟩;have g6:=Same.new nt (.tup [.ref aA,.ref aH,.ref aT,.ref aM]);refine ⟨ea,C,pt,_,[.ref aA,.ref aH,.ref aT,.ref aM],false,rfl,g6 _ _ e5,upd_same,kd.ex,fun us' r=>?_,kd.ka,?_⟩
  · cases r with
    | cons a r=>cases r with
      | cons b r=>cases r with
        | cons c r=>cases r with
          | cons d r=>cases r;cases a;cases b;cases c;cases d;rfl
  have e6:=g6 _ _ e5;have ek6:=g6 pm (.lst ((lA j).map V.bl)) upd_same;have en6:=g6 _ _ en5;refine ⟨_,rfl,false,(by first|rfl|exact .bl _|exact .inl rfl),aC ?_⟩;refine ⟨_,rfl,ea,C,_,_,_,rfl,e6,kd.ex,fun _ z=>z,kd.kv,true,rfl,aC ?_⟩;refine ⟨_,rfl,.inl ⟨rfl,_,SqL.of ek6⟩,pm,lA j,rfl,rfl,SqL.of ek6,?_⟩;rw [qL kd.lt];refine ⟨rfl,_,rfl,vf rfl ?_⟩;obtain ⟨k1,k2⟩:=vd kd.lt;refine ⟨_,rfl,_,rfl,.inl ⟨rfl,_,SqL.of ek6⟩,pm,lA j,j,rfl,rfl,SqL.of ek6,k1,k2,(by show 7≤1000;decide),?_⟩;exact ⟨pn,_,_,nm,rfl,rfl,SqL.of en6,eY hn,q _ (G5.trans g6)⟩
def jE:Sp:=fun vs H Q _=>∃ d v e b g t,vs=[v,b,t]∧Dat H d v∧Dat H e b∧Dat H g t∧mR e∧szD g≤900∧(bV d=false→∀ H',Same H H'→Q (.str "NoRow") H') ∧
  (bV d=true→∃ (r:Addr) (ns:List Int) (cs:Option (List Sg × PS)),v=.ref r∧H r=some (.lst (ns.map V.int))∧1≤ns.length∧ns.length≤9∧Cs ns e g cs∧∀ u H',Same H H'→Jo H' (res ns cs) u→Q u H')
abbrev eu:Stmt:=top 47
theorem bL:FnScope ["row","between","stretches","found","caught","e"] ["row","between","stretches"] (am eu):=⟨rfl,rfl,rfl,by decide +kernel,rfl,by decide +kernel,by decide +kernel⟩
theorem sf {aP aR aS aW aN aL aF aO aA aH aT aM:Addr} (F:Fun K "_law_told" "_law_told" eu f fd) (B:Bu K mg) (XC:Xc K mg aP aR) (D0:Kd K aR aS aW aN aL aF aO aA aH aT aM aR 0)
    (C_way_by:mQ P w K mg base "way_by" 44 ["row","between","stretches"] (tG aR)) (C__law_kind:Cal P w K mg base "_law_kind" 1 ["caught"] (lX K aR aS aW aN aL aF aO aA aH aT aM)):FnOk P w K mg base CX0 45 f fd ["row","between","stretches"] jE:=by
  refine F.ok bL (fun vs H Q E h=>?_) (fun cdv A outer s H vs Q E hr h=>?_)
  · obtain ⟨d,v,e,b,g,t,rfl,_⟩:=h;rfl
  obtain ⟨d,v,e,b,g,t,rfl,hd,he,hg,has,hsz,q1,q2⟩:=h;refine ⟨_,(@ag _ _ _ _ _ (@au _ _ (3) _ _ _ _ (bL).nd rfl (Or.inl rfl) bw (by rfl) (by first|exact .inl rfl|exact .inr rfl|assumption)) (@ag _ _ _ _ _ (@au _ _ (4) _ _ _ _ (bL).nd rfl (Or.inl rfl) bw (by rfl) (by first|exact .inl rfl|exact .inr rfl|assumption)) (@ag _ _ _ _ _ (@tS _ _ _ _ (5) _ _ _ _ _ _ _ _ rfl rfl rfl rfl XC.mPutError (bL).nd rfl rfl (fun _ _=>(ai (au (i:=3) (bL).nd rfl (Or.inl rfl) (rZ C_way_by rfl hr (by lia) rfl (aa (pv 0) (aa (pv 1) (aa (pv 2) ae))))))) (fun _=>(ai (au (i:=4) (bL).nd rfl (Or.inl rfl) (pv 5)))) (by decide)) (@ai _ _ _ (@av _ _ _ _ (@kP _ _ _ _ _ _ _ _ (@aD _ _ _ _ _ _ _ _ iy (pv 4) bw (aJ _)) (pv 3) (@ak _ _ _ _ _ _ _ _ _ _ _ C__law_kind hr (by lia) rfl (@aa _ _ _ _ _ (pv 4) ae (by rfl)) (by decide) (by rfl) (by rfl)))))))),?_⟩;refine ⟨_,rfl,_,rfl,_,rfl,d,v,e,b,g,t,rfl,hd,he,hg,has,hsz,fun c H1 g1 C hC=>?_,fun c=>?_⟩
  · cases hC;refine ⟨XC.uNoRow,fun ea ne=>?_⟩;refine ⟨_,rfl,?_⟩;refine ⟨_,rfl,rfl,false,rfl,aC ?_⟩;exact ⟨_,rfl,ea,aR,0,_,rfl,upd_same,D0,rfl,fun H2 g2=>q1 c H2 ((g1.trans (Same.new ne _)).trans g2)⟩
  · obtain ⟨r,ns,cs,e1,e2,e3,e4,e5,q⟩:=q2 c;refine ⟨r,ns,cs,e1,e2,e3,e4,e5,fun u H1 g1 hu=>?_⟩;exact ⟨_,rfl,rfl,true,rfl,aI ⟨_,rfl,q u H1 g1 hu⟩⟩
def jG:Sp:=fun vs H Q _=>∃ (r:Addr) (ns:List Int) (e:PyData) (b:V) (g:PyData) (t:V),vs=[.ref r,b,t]∧H r=some (.lst (ns.map V.int))∧1≤ns.length∧ns.length≤9∧jB ns∧Dat H e b∧Dat H g t∧mR e∧PrD e∧PrD g∧szD g≤900∧∀ H',Same H H'→Q (.bl true) H'
theorem sU {ns:List Int} (h1:1≤ns.length) (h9:ns.length≤9):bV (rD ns)=true:=by
  show (decide (1≤(ns.map PyData.int).length) && decide ((ns.map PyData.int).length≤9) && (ns.map PyData.int).all bx)=true;rw [aac,decide_eq_true h1,decide_eq_true h9,List.all_map];simp [bx]
abbrev dG:Stmt:=top 48
theorem cD:FnScope ["row","between","stretches","kept","due","turn"] ["row","between","stretches"] (am dG):=⟨rfl,rfl,rfl,by decide +kernel,rfl,by decide +kernel,by decide +kernel⟩
theorem qr (F:Fun K "_law_right" "_law_right" dG f fd) (B:Bu K mg) (C__law_due:Cal P w K mg base "_law_due" 2 ["row","between","stretches"] je) (C__law_told:Cal P w K mg base "_law_told" 45 ["row","between","stretches"] jE):FnOk P w K mg base CX0 46 f fd ["row","between","stretches"] jG:=by
  refine F.ok cD (fun vs H Q E h=>?_) (fun cdv A outer s H vs Q E hr h=>?_)
  · obtain ⟨r,ns,e,b,g,t,rfl,_⟩:=h;rfl
  obtain ⟨r,ns,e,b,g,t,rfl,er,h1,h9,sm,he,hg,has,pe,pg,zg,q⟩:=h;refine ⟨_,(@ag _ _ _ _ _ (@au _ _ (3) _ _ _ _ (cD).nd rfl (Or.inl rfl) (@aj _ _ _ _ _ _ _ _ _ (@eW _ hr.gd hr.units) rfl B.irepr abU (@aa _ _ _ _ _ (@aw _ _ _ _ (@aa _ _ _ _ _ (pv 0) (@aa _ _ _ _ _ (pv 1) (@aa _ _ _ _ _ (pv 2) ae (by rfl)) (by rfl)) (by rfl))) ae (by rfl)) (by decide) (by decide) (by rfl) (by rfl)) (by rfl) (by first|exact .inl rfl|exact .inr rfl|assumption)) (@ag _ _ _ _ _ (@au _ _ (4) _ _ _ _ (cD).nd rfl (Or.inl rfl) (@ak _ _ _ _ _ _ _ _ _ _ _ C__law_due hr (by lia) rfl (@aa _ _ _ _ _ (pv 0) (@aa _ _ _ _ _ (pv 1) (@aa _ _ _ _ _ (pv 2) ae (by rfl)) (by rfl)) (by rfl)) (by decide) (by rfl) (by rfl)) (by rfl) (by first|exact .inl rfl|exact .inr rfl|assumption)) (@ag _ _ _ _ _ (@fF _ _ _ _ _ _ _ _ abq rfl (@eP _ _ _ _ _ _ rfl B.irange (@aa _ _ _ _ _ af ae (by rfl)) (by rfl)) (@aB _ _ (5) _ (cD).nd rfl (Or.inl rfl) (.inl rfl)) (@ai _ _ _ (@br _ _ _ _ _ _ _ _ (@aD _ _ _ _ _ _ _ _ dW (@aj _ _ _ _ _ _ _ _ _ (@eW _ hr.gd hr.units) rfl B.irepr abU (@aa _ _ _ _ _ (@ak _ _ _ _ _ _ _ _ _ _ _ C__law_told hr (by lia) rfl (@aa _ _ _ _ _ (pv 0) (@aa _ _ _ _ _ (pv 1) (@aa _ _ _ _ _ (pv 2) ae (by rfl)) (by rfl)) (by rfl)) (by decide) (by rfl) (by rfl)) ae (by rfl)) (by decide) (by decide) (by rfl) (by rfl)) (@aj _ _ _ _ _ _ _ _ _ (@eW _ hr.gd hr.units) rfl B.irepr abU (@aa _ _ _ _ _ (pv 4) ae (by rfl)) (by decide) (by decide) (by rfl) (by rfl)) (aJ _)) (@ai _ _ _ (@av _ _ _ _ dc)) aV)) (by intro _;rfl)) (@ai _ _ _ (@av _ _ _ _ (@cE _ _ _ _ _ _ _ _ fg (@aj _ _ _ _ _ _ _ _ _ (@eW _ hr.gd hr.units) rfl B.irepr abU (@aa _ _ _ _ _ (@aw _ _ _ _ (@aa _ _ _ _ _ (pv 0) (@aa _ _ _ _ _ (pv 1) (@aa _ _ _ _ _ (pv 2) ae (by rfl)) (by rfl)) (by rfl))) ae (by rfl)) (by decide) (by decide) (by rfl) (by rfl)) (pv 3) (aJ _))))))),?_⟩;obtain ⟨cs,hcs⟩:=vz ns h1 e g;obtain ⟨s1,s2',s3'⟩:=pr3 (tU h9 sm) pe pg;have line:(100000:Nat)≤sizeLine:=by rw [sizeLine_eq];decide
  obtain ⟨r1,r2',r3'⟩:=tV (cs:=cs) h1 h9 sm;have DL:∀ {H':Hp} {p:Addr},Same H H'→H' p=some (.lst [.ref r,b,t])→Dat H' (.list [rD ns,e,g]) (.ref p):=fun {H' p} S' e'=>by
    have hr':=jN (S' _ _ er);simp only [Dat,DatAll];exact ⟨p,_,rfl,e',_,_,rfl,hr',_,_,rfl,Dat.mono S' _ _ he,_,_,rfl,Dat.mono S' _ _ hg,rfl⟩
  obtain ⟨kt,hkt⟩:∃ kt,(PyData.list [rD ns,e,g]).shown=kt:=⟨_,rfl⟩
  obtain ⟨kr,hkr⟩:∃ kr,(oD (res ns cs)).shown=kr:=⟨_,rfl⟩
  refine ⟨_,rfl,_,rfl,_,rfl,(by show 3≤sizeLine;decide),fun p1 n1=>⟨_,_,rfl,DL (Same.new n1 _) upd_same,s1,by lia,by lia,?_⟩⟩;rw [hkt];have g0:=Same.new n1 (.lst [.ref r,b,t]);generalize upd H p1 (.lst [.ref r,b,t])=H0 at g0 ⊢;refine ⟨_,rfl,_,rfl,_,rfl,r,ns,e,b,g,t,cs,rfl,g0 _ _ er,h1,h9,Dat.mono g0 _ _ he,Dat.mono g0 _ _ hg,has,by lia,hcs,fun du H2 g2 hdu=>?_⟩;have G2:=g0.trans g2;refine ⟨2,rfl,by decide,by decide,oU (n:=2) (fun k σ H'=>∃ c6,σ=[some (.ref r),some b,some t,some (.str kt),some du,c6]∧Same H2 H') ⟨_,rfl,Same.refl _⟩ ?_ ?_⟩
  · rintro k σ K0 hk ⟨c6,rfl,S0⟩;have G0:=G2.trans S0;refine ⟨_,rfl,_,rfl,_,rfl,rD ns,.ref r,e,b,g,t,rfl,jN (G0 _ _ er),Dat.mono G0 _ _ he,Dat.mono G0 _ _ hg,has,by lia,(fun c=>absurd (sU h1 h9) (by rw [c];simp)),fun _=>⟨r,ns,cs,rfl,G0 _ _ er,h1,h9,hcs,fun u K1 k1 hu=>?_⟩⟩;refine ⟨_,_,rfl,hu.dat,r1,by lia,by lia,?_⟩;rw [hkr];refine ⟨_,rfl,_,_,rfl,(hdu.mono (Tups.of (S0.trans k1))).dat,r1,by lia,by lia,?_⟩;rw [hkr];exact ⟨rfl,_,rfl,oP (fun zz=>absurd zz (by simp)) (fun _=>⟨_,rfl,S0.trans k1⟩)⟩
  · rintro σ K9 ⟨c6,rfl,S9⟩;have G9:=G2.trans S9;refine ⟨_,rfl,_,rfl,_,rfl,(by show 3≤sizeLine;decide),fun p3 n3=>⟨_,_,rfl,DL (G9.trans (Same.new n3 _)) upd_same,s1,by lia,by lia,?_⟩⟩;rw [hkt];refine ⟨_,rfl,rfl,?_⟩;rw [decide_eq_true rfl];exact q _ (G9.trans (Same.new n3 _))
end
open PySem L2
theorem sk {wl p:Addr} {H:Hp} {o:HO} (h:p≠wl):off wl (upd H p o) p=some o:=(bK h).trans upd_same
theorem ss {wl p:Addr} {H:Hp} {o:HO} (h:H p=none):Same (off wl H) (off wl (upd H p o)):=bz (But.new h o)
inductive Tk where
  | num (i:Int)|opn|cls|sg (g:Sg)
def Tk.v:Tk→V
  | .num i=>.int i
  | .opn=>.str "("
  | .cls=>.str ")"
  | .sg g=>.str g.str
def Wy.tks:Wy→List Tk
  | .num i=>[.num i]
  | .node g l r=>.opn :: l.tks++.sg g :: r.tks++[.cls]
inductive Wt where
  | way (w:Wy)|opn|cls|sg (g:Sg)
def Wt.tks:Wt→List Tk
  | .way w=>w.tks
  | .opn=>[.opn]
  | .cls=>[.cls]
  | .sg g=>[.sg g]
def Wy.work:Wy→Nat
  | .num _=>1
  | .node _ l r=>l.work+r.work+4
def Wt.work:Wt→Nat
  | .way w=>w.work
  | _=>1
def WtIn (H:Hp):Wt→V→Prop
  | .way w,v=>WyIn H w v
  | .opn,v=>v=.str "("
  | .cls,v=>v=.str ")"
  | .sg g,v=>v=.str g.str
theorem WtIn.mono {H H':Hp} (t:Tups H H'):∀ {w:Wt} {v:V},WtIn H w v→WtIn H' w v
  | .way _,_,h=>WyIn.mono t h
  | .opn,_,h=>h
  | .cls,_,h=>h
  | .sg _,_,h=>h
abbrev WtAll (H:Hp):List Wt→List V→Prop:=Paired (WtIn H)
theorem WtAll.mono {H H':Hp} (t:Tups H H'):∀ {ws:List Wt} {vs:List V},WtAll H ws vs→WtAll H' ws vs
  | _,_,.nil=>.nil
  | _,_,.cons a b=>.cons (WtIn.mono t a) (WtAll.mono t b)
theorem WtAll.app {H:Hp} {ws us:List Wt} {vs zs:List V} (a:WtAll H ws vs) (b:WtAll H us zs):WtAll H (ws++us) (vs++zs):=by
  induction a with
  | nil=>exact b
  | cons x _ ih=>exact .cons x ih
theorem WtAll.last {H:Hp} {ws:List Wt} {vs:List V} (h:WtAll H ws vs) (ne:vs≠[]):∃ ws' w vs' v,ws=ws'++[w]∧vs=vs'++[v]∧WtAll H ws' vs'∧WtIn H w v:=by
  induction h with
  | nil=>exact absurd rfl ne
  | @cons w v ws vs a b ih =>
    cases b with
    | nil=>exact ⟨[],w,[],v,rfl,rfl,.nil,a⟩
    | cons a' b' =>
      obtain ⟨ws',w',vs',v',e1,e2,h1,h2⟩:=ih (by simp);exact ⟨w :: ws',w',v :: vs',v',by rw [e1];rfl,by rw [e2];rfl,.cons a h1,h2⟩
def dm (ws:List Wt):Nat:=(ws.map Wt.work).sum
theorem lM (ws:List Wt) (w:Wt):dm (ws++[w])=dm ws+w.work:=by simp [dm]
def rest (ws:List Wt):List Tk:=(ws.reverse.map Wt.tks).flatten
theorem oh (ws:List Wt) (w:Wt):rest (ws++[w])=w.tks++rest ws:=by simp [rest]
theorem Wy.work_le:∀ w:Wy,w.work+4≤5 * w.size
  | .num _=>aab _
  | .node _ l r=>by have a:=l.work_le;have b:=r.work_le;show l.work+r.work+4+4≤5 * (l.size+r.size);lia
theorem dX:∀ ws:List Wt,ws.length≤dm ws
  | []=>aab _
  | w :: r=>by
    have a:=dX r;have b:1≤w.work:=by
      cases w with
      | way w=>cases w <;> (show 1≤_;simp [Wt.work,Wy.work])
      | _=>exact aab _
    show r.length+1≤(w.work :: r.map Wt.work).sum;rw [acB];have : dm r=(r.map Wt.work).sum:=rfl;lia
theorem Wy.tks_len:∀ w:Wy,w.tks.length≤4 * w.size
  | .num _=>by show 1≤4;decide
  | .node g l r=>by
    have a:=l.tks_len;have b:=r.tks_len;have zl:=l.size_pos;show (Tk.opn :: l.tks++Tk.sg g :: r.tks++[Tk.cls]).length≤4 * (l.size+r.size);simp only [aah,aar,aaX];have c:∀ w:Wy,w.tks.length+3≤4 * w.size:=fun w=>by
      induction w with
      | num i=>show 1+3≤4;decide
      | node g l r il ir =>
        show (Tk.opn :: l.tks++Tk.sg g :: r.tks++[Tk.cls]).length+3≤4 * (l.size+r.size);simp only [aah,aar,aaX];lia
    have:=c l;have:=c r;lia
section
variable {P:Program} {w:World} {K:aaa} {mg:Str→Option Value} {base:Heap} {f:Addr} {fd:FuncData}
def fL:Sp:=fun vs H Q _=>∃ w v,vs=[v]∧WyIn H w v∧w.size≤20∧∀ p H',Same H H'→H p=none→H' p=some (.lst (w.tks.map Tk.v))→Q (.ref p) H'
abbrev dh:Stmt:=top 40
theorem bH:FnScope ["way","found","waiting","one"] ["way"] (am dh):=⟨rfl,rfl,rfl,by decide +kernel,rfl,by decide +kernel,by decide +kernel⟩
theorem dt {H:Hp} {p:Addr} {xs:List V} {o:HO} (h:H p=some (.lst xs)):Tups H (upd H p o):=fun b ys z=>by rw [aq (fun e=>by rw [e,h] at z;cases z)];exact z
theorem s_ {w:Wy} {ds:List Tk} {ws:List Wt} (h:ds++rest ws=w.tks) (h20:w.size≤20):ds.length≤80:=by
  have a:=w.tks_len;have b:=congrArg List.length h;rw [aah] at b;lia
def rF (H:Hp) (wy:Wy) (v:V) (pf:Addr) (m:Nat) (σ:St) (H':Hp):Prop:=∃ (ds:List Tk) (ws:List Wt) (vs:List V) (pw:Addr) (one:Option V),σ=[some v,some (.ref pf),some (.ref pw),one]∧pf≠pw∧H pw=none∧H' pf=some (.lst (ds.map Tk.v))∧H' pw=some (.lst vs)∧WtAll H' ws vs∧Same H H' ∧
  ds++rest ws=wy.tks∧dm ws≤100∧m=dm ws
theorem oo (F:Fun K "_law_tokens" "_law_tokens" dh f fd) (B:Bu K mg):FnOk P w K mg base CX0 1 f fd ["way"] fL:=by
  refine F.ok bH (fun vs H Q E h=>?_) (fun cdv A outer s H vs Q E hr h=>?_)
  · obtain ⟨x,v,rfl,_⟩:=h;rfl
  obtain ⟨wy,v,rfl,hw,h20,q⟩:=h;refine ⟨_,(@ag _ _ _ _ _ (@au _ _ (1) _ _ _ _ (bH).nd rfl (Or.inl rfl) (@aw _ _ _ _ ae) (by rfl) (by first|exact .inl rfl|exact .inr rfl|assumption)) (@ag _ _ _ _ _ (@au _ _ (2) _ _ _ _ (bH).nd rfl (Or.inl rfl) (@aw _ _ _ _ (@aa _ _ _ _ _ (pv 0) ae (by rfl))) (by rfl) (by first|exact .inl rfl|exact .inr rfl|assumption)) (@ag _ _ _ _ _ (@kN _ _ _ _ _ _ abq (@aD _ _ _ _ _ _ _ _ (@tZ _ hr.units) (pv 2) (@aw _ _ _ _ ae) (aJ _)) (@ag _ _ _ _ _ (@au _ _ (3) _ _ _ _ (bH).nd rfl (Or.inl rfl) (@ma _ _ _ _ _ _ _ _ _ aaH abZ ab0 mo (pv 2) (by rfl) (by rfl)) (by rfl) (by first|exact .inl rfl|exact .inr rfl|assumption)) (@ai _ _ _ (@br _ _ _ _ _ _ _ _ (@bf _ _ _ (@aj _ _ _ _ _ _ _ _ _ (@aG _ ("tuple")) rfl B.iisinstance aad (@aa _ _ _ _ _ (pv 3) (@aa _ _ _ _ _ (@bj _ _ (.ty "tuple") _ _ rfl B.ituple abf rfl (by decide) (by decide)) ae (by rfl)) (by rfl)) (by decide) (by decide) (by rfl) (by rfl)) (by intro _;rfl)) (@ai _ _ _ (@au _ _ (2) _ _ _ _ (bH).nd rfl (Or.inl rfl) (@ar _ _ _ _ _ _ _ _ bo (pv 2) (@aw _ _ _ _ (@aa _ _ _ _ _ aU (@aa _ _ _ _ _ (@aE _ _ _ _ _ _ _ ix_tup (pv 3) af (fun _ _=>rfl)) (@aa _ _ _ _ _ (@aE _ _ _ _ _ _ _ ix_tup (pv 3) af (fun _ _=>rfl)) (@aa _ _ _ _ _ (@aE _ _ _ _ _ _ _ ix_tup (pv 3) af (fun _ _=>rfl)) (@aa _ _ _ _ _ aU ae (by rfl)) (by rfl)) (by rfl)) (by rfl)) (by rfl)))) (by rfl) (by first|exact .inl rfl|exact .inr rfl|assumption))) (@ai _ _ _ (@da _ _ _ _ (@fe _ _ _ _ _ _ _ _ _ _ _ _ aaH aba abb cO (pv 1) (@aa _ _ _ _ _ (pv 3) ae (by rfl)) (by rfl) (by rfl) (by rfl) (by rfl) (by rfl)) (by rfl))))))) (@ai _ _ _ (@av _ _ _ _ (pv 1)))))),?_⟩;refine ⟨(by show 0≤sizeLine;decide),fun pf nf=>⟨_,rfl,(by show 1≤sizeLine;decide),fun pw nw=>?_⟩⟩;have gf:=Same.new nf (.lst []);have gw:=Same.new nw (.lst [v]);have nw0:H pw=none:=gf.free nw;have fw:pf≠pw:=ao (H:=upd H pf (.lst [])) upd_same nw;refine ⟨rF H wy v pf,?_,?_⟩
  · refine ⟨_,[],[.way wy],[v],pw,_,rfl,fw,nw0,gw _ _ upd_same,upd_same,.cons (hw.mono (Tups.of (gf.trans gw))) .nil,gf.trans gw,by simp [rest,Wt.tks],?_,rfl⟩;have:=wy.work_le;show (wy.work :: []).sum≤100;simp;lia
  rintro m σ H' ⟨ds,ws,vs,pw,one,rfl,fw,nw0,ef,ew,hall,hS,hd,hwk,rfl⟩;refine ⟨_,rfl,(by show 0≤sizeLine;decide),fun p0 n0=>?_⟩;have g0:=Same.new n0 (.lst []);refine ⟨0,pw,p0,vs,[],by decide,rfl,rfl,SqL.of (g0 _ _ ew),SqL.of upd_same,?_⟩;by_cases ne:vs=[]
  · subst ne;refine .inr ⟨fun _=>true,rfl,(fun j x y h=>by simp at h),false,rfl,aC ⟨_,rfl,?_⟩⟩;have e:ws=[]:=by cases hall;rfl
    subst e;have e2:ds=wy.tks:=by rw [← hd];simp [rest]
    exact q pf _ (hS.trans g0) nf (by rw [← e2];exact g0 _ _ ef)
  refine .inl ⟨by simpa using ne,true,rfl,aI ⟨fun σ' H'=>∃ m',m' < dm ws∧rF H wy v pf m' σ' H',fun _ _ h=>h,?_⟩⟩;obtain ⟨ws',w',vs',v',rfl,rfl,hall',hw'⟩:=WtAll.last hall ne;have ew0:=g0 _ _ ew;have ef0:=g0 _ _ ef;have hS0:=hS.trans g0;have hdl:=s_ hd h20;rw [oh] at hd;have hwl:=dX ws';have hvl:ws'.length=vs'.length:=abJ hall';rw [lM] at hwk ⊢;refine ⟨_,rfl,.inl ⟨rfl,_,SqL.of ew0⟩,pw,_,v',rfl,rfl,ew0,jW _ _,?_⟩;rw [pA];have t1:Tups (upd H' p0 (.lst [])) (upd (upd H' p0 (.lst [])) pw (.lst vs')):=dt ew0;have T1:=(Tups.of g0).trans t1;have ef1:upd (upd H' p0 (.lst [])) pw (.lst vs') pf=some (.lst (ds.map Tk.v)):=by rw [aq fw];exact ef0
  have hS1:Same H (upd (upd H' p0 (.lst [])) pw (.lst vs')):=hS0.upd nw0;generalize upd (upd H' p0 (.lst [])) pw (.lst vs')=H1,upd_same (H:=upd H' p0 (.lst [])) (a:=pw) (o:=.lst vs')=ew1 at t1 T1 ef1 hS1 ⊢;have fin:∀ (t:Tk),t.v=v'→w'.tks=[t]→1≤w'.work→∃ m',m' < dm ws'+w'.work∧rF H wy v pf m' [some v,some (.ref pf),some (.ref pw),some v'] (upd H1 pf (.lst (ds.map Tk.v++[v']))):=fun t e1 e2 h1=>by
    have t2:Tups H1 (upd H1 pf (.lst (ds.map Tk.v++[v']))):=dt ef1;refine ⟨dm ws',by lia,ds++[t],ws',vs',pw,_,rfl,fw,nw0,?_,?_,WtAll.mono (T1.trans t2) hall',hS1.upd nf,?_,by lia,rfl⟩
    · rw [upd_same,aaO,← e1];rfl
    · rw [aq (abc fw)];exact ew1
    · rw [aaM,← hd,e2]
  cases w' with
  | opn =>
    cases hw';refine ⟨_,rfl,_,_,false,rfl,.str _,rfl,false,rfl,aC ?_⟩;exact ⟨_,rfl,.inl ⟨rfl,_,SqL.of ef1⟩,_,rfl,pf,_,_,rfl,rfl,ef1,ay (by rw [aac];lia),fin .opn rfl rfl (aab _)⟩
  | cls =>
    cases hw';refine ⟨_,rfl,_,_,false,rfl,.str _,rfl,false,rfl,aC ?_⟩;exact ⟨_,rfl,.inl ⟨rfl,_,SqL.of ef1⟩,_,rfl,pf,_,_,rfl,rfl,ef1,ay (by rw [aac];lia),fin .cls rfl rfl (aab _)⟩
  | sg g =>
    cases hw';refine ⟨_,rfl,_,_,false,rfl,.str _,rfl,false,rfl,aC ?_⟩;exact ⟨_,rfl,.inl ⟨rfl,_,SqL.of ef1⟩,_,rfl,pf,_,_,rfl,rfl,ef1,ay (by rw [aac];lia),fin (.sg g) rfl rfl (aab _)⟩
  | way x =>
    cases x with
    | num i =>
      cases (show v'=V.int i from hw');refine ⟨_,rfl,_,_,false,rfl,.int i,rfl,false,rfl,aC ?_⟩;exact ⟨_,rfl,.inl ⟨rfl,_,SqL.of ef1⟩,_,rfl,pf,_,_,rfl,rfl,ef1,ay (by rw [aac];lia),fin (.num i) rfl rfl (aab _)⟩
    | node g l r =>
      obtain ⟨a,vl,vr,rfl,ha,hl,hr'⟩:=(show WyIn H' (.node g l r) v' from hw')
      have ha1:H1 a=some (.tup [.str g.str,vl,vr]):=T1 _ _ ha;refine ⟨_,rfl,_,_,true,rfl,.tup ha1,rfl,true,rfl,aI ?_⟩;refine ⟨_,rfl,_,rfl,a,_,_,_,rfl,rfl,SqT.of ha1,rfl,_,rfl,a,_,_,_,rfl,rfl,SqT.of ha1,rfl,_,rfl,a,_,_,_,rfl,rfl,SqT.of ha1,rfl,(by show 5≤sizeLine;decide),fun p2 n2=>?_⟩;have g2:=Same.new n2 (.lst [.str ")",vr,.str g.str,vl,.str "("]);refine ⟨pw,p2,_,_,rfl,rfl,g2 _ _ ew1,upd_same,aK (by show vs'.length+5≤1000;lia),fun p3 n3=>?_⟩;have g3:=Same.new n3 (.lst (vs'++[.str ")",vr,.str g.str,vl,.str "("]));have T3:=T1.trans (Tups.of (g2.trans g3));have hS3:=(hS1.trans g2).trans g3;have ef3:=g3 _ _ (g2 _ _ ef1);have nf3:pf≠p3:=ao (g2 _ _ ef1) n3;have ex:WtAll (upd (upd H1 p2 (.lst [.str ")",vr,.str g.str,vl,.str "("])) p3 (.lst (vs'++[.str ")",vr,.str g.str,vl,.str "("]))) [.cls,.way r,.sg g,.way l,.opn] [.str ")",vr,.str g.str,vl,.str "("] :=
        .cons rfl (.cons (WyIn.mono T3 hr') (.cons rfl (.cons (WyIn.mono T3 hl) (.cons rfl .nil))))
      have wk:dm (ws'++[.cls,.way r,.sg g,.way l,.opn])+1=dm ws'+(Wt.way (.node g l r)).work:=by
        show ((ws'++[Wt.cls,Wt.way r,Wt.sg g,Wt.way l,Wt.opn]).map Wt.work).sum+1=(ws'.map Wt.work).sum+(l.work+r.work+4);simp [Wt.work];lia
      refine ⟨dm (ws'++[.cls,.way r,.sg g,.way l,.opn]),by lia,ds,_,_,p3,_,rfl,nf3,(hS1.trans g2).free n3,ef3,upd_same,WtAll.app (WtAll.mono T3 hall') ex,hS3,?_,by lia,rfl⟩;rw [← hd];simp [rest,Wt.tks,Wy.tks]
end
def Wy.post:Wy→Int→List (Int × Int)
  | .num _,_=>[]
  | .node _ l r,f=>l.post f++r.post (f+l.size)++[(f,f+l.size+r.size - 1)]
theorem Wy.post_perm:∀ (w:Wy) (f:Int),(w.post f).Perm (w.strs f)
  | .num _,_=>List.Perm.refl _
  | .node _ l r,f=>by
    show (l.post f++r.post (f+l.size)++[(f,f+(l.size:Int)+r.size - 1)]).Perm ((f,f+(l.size:Int)+r.size - 1) :: l.strs f++r.strs (f+l.size));exact (List.perm_append_singleton _ _).trans (((l.post_perm f).append (r.post_perm _)).cons _)
structure Ds where
  ns:List Int
  z:Str
  op:List Int
  st:List (Int × Int)
def Ds.step (d:Ds):Tk→Ds
  | .num i=>⟨d.ns++[i],d.z,d.op,d.st⟩
  | .opn=>⟨d.ns,d.z,d.op++[(d.ns.length:Int)],d.st⟩
  | .cls=>⟨d.ns,d.z,d.op.dropLast,d.st++[(d.op.getLastD 0,(d.ns.length:Int) - 1)]⟩
  | .sg g=>⟨d.ns,d.z++g.str,d.op,d.st⟩
theorem kq (x:Str):x++("":Str)=x:=by
  obtain ⟨c⟩:=x;show Str.mk (c++#[])=_;simp
theorem qU {α β:Type} {f:β→α→Option β} {xs:List α} {d D:β} (h:xs.foldlM f d=some D) {i:Nat} {x:α} (hx:xs[i]?=some x) {di:β} (hi:(xs.take i).foldlM f d=some di) :
    ∃ d',f di x=some d'∧(xs.take (i+1)).foldlM f d=some d':=by
  have hlt:i < xs.length:=by
    by_cases c:i < xs.length
    · exact c
    · rw [List.getElem?_eq_none (by lia)] at hx;cases hx
  have e:xs=xs.take i++x :: xs.drop (i+1):=by
    have : xs[i]=x:=by rw [aaj hlt] at hx;exact aaZ hx
    rw [← this,← ab4 hlt,acv]
  rw [e,abG,hi] at h;have h2:(x :: xs.drop (i+1)).foldlM f di=some D:=h;rw [abu] at h2;cases q:f di x with
  | none=>rw [q] at h2;cases h2
  | some d' =>
    refine ⟨d',rfl,?_⟩;rw [List.take_succ,hx,abG,hi];show ([x].foldlM f di)=some d';rw [abu,q];rfl
def Ds.go (d:Ds):Tk→Option Ds
  | .num i=>some ⟨d.ns++[i],d.z,d.op,d.st⟩
  | .opn=>some ⟨d.ns,d.z,d.op++[(d.ns.length:Int)],d.st⟩
  | .cls=>d.op.getLast?.map fun o=>⟨d.ns,d.z,d.op.dropLast,d.st++[(o,(d.ns.length:Int) - 1)]⟩
  | .sg g=>some ⟨d.ns,d.z++g.str,d.op,d.st⟩
theorem mC:∀ (w:Wy) (d:Ds),w.tks.foldlM Ds.go d=some ⟨d.ns++w.nums,d.z++ah w.sgs,d.op,d.st++w.post d.ns.length⟩
  | .num i,d=>by
    show some (⟨d.ns++[i],d.z,d.op,d.st⟩:Ds)=some ⟨d.ns++[i],d.z ++ "",d.op,d.st++[]⟩;rw [kq,abz]
  | .node g l r,d=>by
    show (Tk.opn :: l.tks++Tk.sg g :: r.tks++[Tk.cls]).foldlM Ds.go d=_;rw [abG,abG,abu];show ((l.tks.foldlM Ds.go ⟨d.ns,d.z,d.op++[(d.ns.length:Int)],d.st⟩ >>= fun d=>(Tk.sg g :: r.tks).foldlM Ds.go d) >>= fun d=>[Tk.cls].foldlM Ds.go d)=_;rw [mC l];show (((Tk.sg g :: r.tks).foldlM Ds.go (⟨d.ns++l.nums,d.z++ah l.sgs,d.op++[(d.ns.length:Int)],d.st++l.post d.ns.length⟩:Ds)) >>= fun d=>[Tk.cls].foldlM Ds.go d)=_;rw [abu];show ((r.tks.foldlM Ds.go (⟨d.ns++l.nums,d.z++ah l.sgs++g.str,d.op++[(d.ns.length:Int)],d.st++l.post d.ns.length⟩:Ds)) >>= fun d=>[Tk.cls].foldlM Ds.go d)=_;rw [mC r];show ((d.op++[(d.ns.length:Int)]).getLast?.map fun o=>(⟨d.ns++l.nums++r.nums,d.z++ah l.sgs++g.str++ah r.sgs,(d.op++[(d.ns.length:Int)]).dropLast,(d.st++l.post d.ns.length++r.post ((d.ns++l.nums).length:Nat))++[(o,(((d.ns++l.nums++r.nums).length:Nat):Int) - 1)]⟩:Ds)) >>= pure =
      some ⟨d.ns++(l.nums++r.nums),d.z++ah (l.sgs++g :: r.sgs),d.op,d.st++(l.post d.ns.length++r.post (d.ns.length+l.size)++[((d.ns.length:Int),(d.ns.length:Int)+l.size+r.size - 1)])⟩
    have e1:((d.ns++l.nums).length:Int)=d.ns.length+l.size:=by rw [aah,l.nums_len];lia
    have e2:((d.ns++l.nums++r.nums).length:Int) - 1=(d.ns.length:Int)+l.size+r.size - 1:=by rw [aah,aah,l.nums_len,r.nums_len];lia
    have e3:ah (l.sgs++g :: r.sgs)=ah l.sgs++g.str++ah r.sgs:=by rw [ie,gg];rfl
    rw [e1,e2,e3];simp [aaM,gg]
theorem vm {d d':Ds} {t:Tk} (h:d.go t=some d'):d'.ns.length≤d.ns.length+1∧d'.op.length≤d.op.length+1∧d'.st.length≤d.st.length+1∧d'.z.length≤d.z.length+1:=by
  cases t with
  | num i=>injection h with h;subst h;simp
  | opn=>injection h with h;subst h;simp
  | cls =>
    have h':(d.op.getLast?.map fun o=>(⟨d.ns,d.z,d.op.dropLast,d.st++[(o,(d.ns.length:Int) - 1)]⟩:Ds))=some d':=h;cases e:d.op.getLast? with
    | none=>rw [e] at h';cases h'
    | some o=>rw [e] at h';injection h' with h';subst h';simp;lia
  | sg g =>
    injection h with h;subst h
    refine ⟨by simp,by simp,by simp,?_⟩;show (d.z++g.str).length≤_;have : (d.z++g.str).length=d.z.length+g.str.length:=by
      obtain ⟨a⟩:=d.z;obtain ⟨b⟩:=g.str;show (a++b).size=_;rw [Array.size_append];rfl
    rw [this];cases g <;> exact aab _
theorem qO {ts:List Tk}:∀ {d d':Ds} {n:Nat},ts.foldlM Ds.go d=some d'→d.ns.length≤n∧d.op.length≤n∧d.st.length≤n∧d.z.length≤n→d'.ns.length≤n+ts.length∧d'.op.length≤n+ts.length∧d'.st.length≤n+ts.length∧d'.z.length≤n+ts.length:=by
  induction ts with
  | nil=>intro d d' n h hn;injection h with h;subst h;exact hn
  | cons t r ih =>
    intro d d' n h hn;rw [abu] at h;cases e:d.go t with
    | none=>rw [e] at h;cases h
    | some d1 =>
      rw [e] at h;have:=vm e;have q:=ih (n:=n+1) (show r.foldlM Ds.go d1=some d' from h) (by lia);rw [aar];lia
section
variable {P:Program} {w:World} {K:aaa} {mg:Str→Option Value} {base:Heap} {f:Addr} {fd:FuncData}
def pP:Sp:=fun vs H Q _=>∃ w v,vs=[v]∧WyIn H w v∧w.size≤9∧∀ p us (ps:PS) H',Same H H'→H p=none→H' p=some (.lst us)→PairsIn H' ps us→ps.length+1=w.size→(∀ q∈ps,0≤q.1∧q.1 < 10∧0≤q.2∧q.2 < 10)→Q (.ref p) H'
structure StI (H:Hp) (wy:Wy) (v:V) (pt po ps:Addr) (i:Nat) (σ:St) (H':Hp) (d:Ds) (one:Option V) (us:List V):Prop where
  fold:(wy.tks.take i).foldlM Ds.go ⟨[],"",[],[]⟩=some d
  st:σ=[some v,some (.ref ps),some (.ref po),some (.int d.ns.length),one]
  ht:H' pt=some (.lst (wy.tks.map Tk.v))
  ho:H' po=some (.lst (d.op.map V.int))
  hs:H' ps=some (.lst us)
  hp:PairsIn H' d.st us
  same:Same H H'
abbrev cr:Stmt:=top 45
theorem bc:FnScope ["way","found","opened","many","one"] ["way"] (am cr):=⟨rfl,rfl,rfl,by decide +kernel,rfl,by decide +kernel,by decide +kernel⟩
theorem ug (F:Fun K "_law_stretches" "_law_stretches" cr f fd) (B:Bu K mg) (C__law_tokens:Cal P w K mg base "_law_tokens" 1 ["way"] fL):FnOk P w K mg base CX0 2 f fd ["way"] pP:=by
  refine F.ok bc (fun vs H Q E h=>?_) (fun cdv A outer s H vs Q E hr h=>?_)
  · obtain ⟨x,v,rfl,_⟩:=h;rfl
  obtain ⟨wy,v,rfl,hw,h9,q⟩:=h;refine ⟨_,(@ag _ _ _ _ _ (@au _ _ (1) _ _ _ _ (bc).nd rfl (Or.inl rfl) (@aw _ _ _ _ ae) (by rfl) (by first|exact .inl rfl|exact .inr rfl|assumption)) (@ag _ _ _ _ _ (@au _ _ (2) _ _ _ _ (bc).nd rfl (Or.inl rfl) (@aw _ _ _ _ ae) (by rfl) (by first|exact .inl rfl|exact .inr rfl|assumption)) (@ag _ _ _ _ _ (@au _ _ (3) _ _ _ _ (bc).nd rfl (Or.inl rfl) af (by rfl) (by first|exact .inl rfl|exact .inr rfl|assumption)) (@ag _ _ _ _ _ (@fF _ _ _ _ _ _ _ _ abq rfl (@bM _ _ _ _ (@ak _ _ _ _ _ _ _ _ _ _ _ C__law_tokens hr (by lia) rfl (@aa _ _ _ _ _ (pv 0) ae (by rfl)) (by decide) (by rfl) (by rfl))) (@aB _ _ (4) _ (bc).nd rfl (Or.inl rfl) (.inl rfl)) (@ai _ _ _ (@br _ _ _ _ _ _ _ _ (@bf _ _ _ (@aj _ _ _ _ _ _ _ _ _ (@aG _ ("int")) rfl B.iisinstance aad (@aa _ _ _ _ _ (pv 4) (@aa _ _ _ _ _ (@bj _ _ (.ty "int") _ _ rfl B.iint abY rfl (by decide) (by decide)) ae (by rfl)) (by rfl)) (by decide) (by decide) (by rfl) (by rfl)) (by intro _;rfl)) (@ai _ _ _ (@au _ _ (3) _ _ _ _ (bc).nd rfl (Or.inl rfl) (@ar _ _ _ _ _ _ _ _ bI (pv 3) af) (by rfl) (by first|exact .inl rfl|exact .inr rfl|assumption))) (@ai _ _ _ (@br _ _ _ _ _ _ _ _ (@aD _ _ _ _ _ _ _ _ fg (pv 4) aU (aJ _)) (@ai _ _ _ (@da _ _ _ _ (@fe _ _ _ _ _ _ _ _ _ _ _ _ aaH aba abb cO (pv 2) (@aa _ _ _ _ _ (pv 3) ae (by rfl)) (by rfl) (by rfl) (by rfl) (by rfl) (by rfl)) (by rfl))) (@ai _ _ _ (@br _ _ _ _ _ _ _ _ (@aD _ _ _ _ _ _ _ _ fg (pv 4) aU (aJ _)) (@ai _ _ _ (@da _ _ _ _ (@fe _ _ _ _ _ _ _ _ _ _ _ _ aaH aba abb cO (pv 1) (@aa _ _ _ _ _ (@aX _ _ _ _ _ (@aa _ _ _ _ _ (@ma _ _ _ _ _ _ _ _ _ aaH abZ ab0 mo (pv 2) (by rfl) (by rfl)) (@aa _ _ _ _ _ (@ar _ _ _ _ _ _ _ _ cw (pv 3) af) ae (by rfl)) (by rfl))) ae (by rfl)) (by rfl) (by rfl) (by rfl) (by rfl) (by rfl)) (by rfl))) aV)))))) (by intro _;rfl)) (@ai _ _ _ (@av _ _ _ _ (pv 1))))))),?_⟩;refine ⟨(by show 0≤sizeLine;decide),fun ps ns=>⟨(by show 0≤sizeLine;decide),fun po no=>?_⟩⟩;have gs:=Same.new ns (.lst []);have go:=Same.new no (.lst []);have g3:=gs.trans go;have no0:H po=none:=gs.free no;have s_no:ps≠po:=ao (H:=upd H ps (.lst [])) upd_same no;have es3:=go _ _ (upd_same (H:=H) (a:=ps) (o:=.lst []));have eo3:=upd_same (H:=upd H ps (.lst [])) (a:=po) (o:=.lst []);revert g3 eo3 es3;generalize upd (upd H ps (.lst [])) po (.lst [])=H3;intro g3 es3 eo3;refine ⟨_,rfl,wy,v,rfl,hw.mono (Tups.of g3),by lia,fun pt H4 g4 nt et=>⟨pt,rfl,⟨_,SqL.of et⟩,?_⟩⟩;have t_o:pt≠po:=abc (ao eo3 nt);have t_s:pt≠ps:=abc (ao es3 nt);have full:=mC wy ⟨[],"",[],[]⟩;have hlen:=wy.tks_len;refine qT (xs:=wy.tks.map Tk.v) (fun i σ H'=>∃ d one us,StI H wy v pt po ps i σ H' d one us) ?_ ?_ ?_ ?_
  · exact ⟨⟨[],"",[],[]⟩,_,[],rfl,rfl,et,g4 _ _ eo3,g4 _ _ es3,.nil,g3.trans g4⟩
  · rintro i σ H' _ ⟨d,one,us,I⟩;exact SqL.of I.ht
  · rintro i x σ H' hx ⟨d,one,us,I⟩;rw [aaU] at hx;obtain ⟨t,ht,rfl⟩:=aaV.mp hx;obtain ⟨d',hd',hfold⟩:=qU full ht I.fold;have hsm:=qO I.fold (n:=0) ⟨aab _,aab _,aab _,aab _⟩;have htl:(wy.tks.take i).length≤36:=by rw [aax];lia
    have un:=PairsIn.len I.hp;obtain rfl:=I.st;cases t with
    | num k =>
      injection hd' with hd';subst hd'
      refine ⟨_,rfl,_,_,true,rfl,.int k,rfl,true,rfl,aI ⟨_,rfl,_,_,rfl,rfl,?_⟩⟩;refine ⟨_,some (.int k),us,hfold,?_,I.ht,I.ho,I.hs,I.hp,I.same⟩;show [_,_,_,some (V.int ((d.ns.length:Int)+1)),_]=_;rw [show ((d.ns.length:Int)+1)=((d.ns++[k]).length:Nat) by rw [aah];rfl];rfl
    | opn =>
      injection hd' with hd';subst hd'
      refine ⟨_,rfl,_,_,false,rfl,.str _,rfl,false,rfl,aC ?_⟩;refine ⟨_,rfl,rfl,_,rfl,iK rfl ?_⟩;refine ⟨_,rfl,.inl ⟨rfl,_,SqL.of I.ho⟩,_,rfl,po,_,_,rfl,rfl,I.ho,ay (by rw [aac];lia),?_⟩;refine ⟨_,_,us,hfold,rfl,?_,?_,?_,PairsIn.mono (dt I.ho) I.hp,I.same.upd no0⟩
      · rw [aq t_o];exact I.ht
      · rw [upd_same,aaO];rfl
      · rw [aq s_no];exact I.hs
    | cls =>
      have h':(d.op.getLast?.map fun o=>(⟨d.ns,d.z,d.op.dropLast,d.st++[(o,(d.ns.length:Int) - 1)]⟩:Ds))=some d':=hd';obtain ⟨o,ho,hd2⟩:=aaV.mp h';subst hd2;have hop:d.op=d.op.dropLast++[o]:=by
        obtain ⟨ys,e⟩:=List.getLast?_eq_some_iff.mp ho;rw [e];simp
      have hO:H' po=some (.lst (d.op.dropLast.map V.int++[V.int o])):=by
        have:=I.ho;rw [hop,aaO] at this;exact this
      refine ⟨_,rfl,_,_,false,rfl,.str _,rfl,false,rfl,aC ?_⟩;refine ⟨_,rfl,rfl,_,rfl,gR (by decide +kernel) ?_⟩;refine ⟨_,rfl,rfl,_,rfl,iK rfl ?_⟩;refine ⟨_,rfl,.inl ⟨rfl,_,SqL.of I.hs⟩,_,rfl,.inl ⟨rfl,_,SqL.of hO⟩,po,_,_,rfl,rfl,hO,jW _ _,?_⟩;rw [pA];have T1:=dt (o:=.lst (d.op.dropLast.map V.int)) hO;refine ⟨_,rfl,_,_,rfl,rfl,(by show 2≤sizeLine;decide),fun pp np=>?_⟩;have eo1:upd H' po (.lst (d.op.dropLast.map V.int)) po=some (.lst (d.op.dropLast.map V.int)):=upd_same;have es1:upd H' po (.lst (d.op.dropLast.map V.int)) ps=some (.lst us):=by rw [aq s_no];exact I.hs
      have et1:upd H' po (.lst (d.op.dropLast.map V.int)) pt=some (.lst (wy.tks.map Tk.v)):=by rw [aq t_o];exact I.ht
      have S1:Same H (upd H' po (.lst (d.op.dropLast.map V.int))):=I.same.upd no0;revert T1 eo1 es1 et1 S1 np;generalize upd H' po (.lst (d.op.dropLast.map V.int))=H1;intro T1 np eo1 es1 et1 S1;have g2:=Same.new np (.tup [.int o,.int ((d.ns.length:Int) - 1)]);refine ⟨ps,_,_,rfl,rfl,g2 _ _ es1,ay (by lia),?_⟩;have T2:=(T1.trans (Tups.of g2)).trans (dt (o:=.lst (us++[.ref pp])) (g2 _ _ es1));refine ⟨_,_,us++[.ref pp],hfold,rfl,?_,?_,upd_same,?_,(S1.trans g2).upd ns⟩
      · rw [aq t_s];exact g2 _ _ et1
      · rw [aq (abc s_no)];exact g2 _ _ eo1
      · refine PairsIn.app (PairsIn.mono T2 I.hp) (.cons ⟨pp,rfl,?_⟩ .nil);rw [aq (abc (ao es1 np)),upd_same]
    | sg g =>
      injection hd' with hd';subst hd'
      refine ⟨_,rfl,_,_,false,rfl,.str _,rfl,false,rfl,aC ?_⟩;refine ⟨_,rfl,rfl,_,rfl,gR (by cases g <;> decide +kernel) ?_⟩;refine ⟨_,rfl,rfl,_,rfl,gR (by cases g <;> decide +kernel) ?_⟩;exact ⟨_,_,us,hfold,rfl,I.ht,I.ho,I.hs,I.hp,I.same⟩
  · rintro σ H' ⟨d,one,us,I⟩;have hf:=I.fold;rw [aac,List.take_length,full] at hf;injection hf with hf;subst hf
    obtain rfl:=I.st;have sl:=wy.strs_len 0;have pp:=wy.post_perm 0;have pl:=pp.length_eq;have hP:PairsIn H' (wy.post 0) us:=by have:=I.hp;simpa using this
    exact ⟨_,rfl,q ps us (wy.post 0) H' I.same ns I.hs hP (by lia) fun x hx=>by have:=wy.strs_in 0 x (pp.mem_iff.mp hx);lia⟩
def pO:Sp:=fun vs H Q _=>∃ wl M,vs=[.ref wl]∧Wel H wl M∧M < 999990000∧∀ d u H',But wl H H'→Wel H' wl (M+1)→Dat (off wl H') d u→OkD d→szD d≤10→d.depth≤3→Q u H'
abbrev fD:Stmt:=top 41
theorem gL:FnScope ["well","some"] ["well"] (am fD):=⟨rfl,rfl,rfl,by decide +kernel,rfl,by decide +kernel,by decide +kernel⟩
theorem uf (F:Fun K "_law_odd" "_law_odd" fD f fd) (C__law_draw:Cal P w K mg base "_law_draw" 2 ["well","many"] d_):FnOk P w K mg base CX0 3 f fd ["well"] pO:=by
  refine F.ok gL (fun vs H Q E h=>?_) (fun cdv A outer s H vs Q E hr h=>?_)
  · obtain ⟨wl,M,rfl,_⟩:=h;rfl
  obtain ⟨wl,M,rfl,hw,hM,q⟩:=h;refine ⟨_,(@ag _ _ _ _ _ (@au _ _ (1) _ _ _ _ (gL).nd rfl (Or.inl rfl) (@aw _ _ _ _ (@aa _ _ _ _ _ bw (@aa _ _ _ _ _ dc (@aa _ _ _ _ _ dc (@aa _ _ _ _ _ aU (@aa _ _ _ _ _ aU (@aa _ _ _ _ _ aU (@aa _ _ _ _ _ (@aw _ _ _ _ ae) (@aa _ _ _ _ _ (@aw _ _ _ _ (@aa _ _ _ _ _ af ae (by rfl))) (@aa _ _ _ _ _ (@aX _ _ _ _ _ ae) (@aa _ _ _ _ _ (@aX _ _ _ _ _ (@aa _ _ _ _ _ af ae (by rfl))) (@aa _ _ _ _ _ kQ (@aa _ _ _ _ _ (@aX _ _ _ _ _ (@aa _ _ _ _ _ aU (@aa _ _ _ _ _ af ae (by rfl)) (by rfl))) (@aa _ _ _ _ _ (@aX _ _ _ _ _ (@aa _ _ _ _ _ aU (@aa _ _ _ _ _ af (@aa _ _ _ _ _ af (@aa _ _ _ _ _ af ae (by rfl)) (by rfl)) (by rfl)) (by rfl))) (@aa _ _ _ _ _ (@aw _ _ _ _ (@aa _ _ _ _ _ aU (@aa _ _ _ _ _ af (@aa _ _ _ _ _ af ae (by rfl)) (by rfl)) (by rfl))) (@aa _ _ _ _ _ (@aX _ _ _ _ _ (@aa _ _ _ _ _ af (@aa _ _ _ _ _ aU (@aa _ _ _ _ _ af ae (by rfl)) (by rfl)) (by rfl))) ae (by rfl)) (by rfl)) (by rfl)) (by rfl)) (by rfl)) (by rfl)) (by rfl)) (by rfl)) (by rfl)) (by rfl)) (by rfl)) (by rfl)) (by rfl)) (by rfl)) (by rfl))) (by rfl) (by first|exact .inl rfl|exact .inr rfl|assumption)) (@ai _ _ _ (@av _ _ _ _ (@aE _ _ _ _ _ _ _ ix_list (pv 1) (@ak _ _ _ _ _ _ _ _ _ _ _ C__law_draw hr (by lia) rfl (@aa _ _ _ _ _ (pv 0) (@aa _ _ _ _ _ af ae (by rfl)) (by rfl)) (by decide) (by rfl) (by rfl)) (fun _ _=>rfl))))),?_⟩;refine ⟨(by show 0≤sizeLine;decide),fun p1 n1=>⟨(by show 1≤sizeLine;decide),fun p2 n2=>⟨(by show 0≤sizeLine;decide),fun p3 n3=>⟨(by show 1≤sizeLine;decide),fun p4 n4=>fun p5 n5=>⟨(by show 2≤sizeLine;decide),fun p6 n6=>⟨(by show 4≤sizeLine;decide),fun p7 n7=>⟨(by show 3≤sizeLine;decide),fun p8 n8=>⟨(by show 3≤sizeLine;decide),fun p9 n9=>⟨(by show 15≤sizeLine;decide),fun p10 n10=>?_⟩⟩⟩⟩⟩⟩⟩⟩⟩;have k1:=Same.new n1 (.lst []);have k2:=Same.new n2 (.lst [.int 3]);have k3:=Same.new n3 (.tup []);have k4:=Same.new n4 (.tup [.int 3]);have k5:=Same.new n5 (.dK []);have k6:=Same.new n6 (.tup [.str "+",.int 1]);have k7:=Same.new n7 (.tup [.str "+",.int 1,.int 2,.int 3]);have k8:=Same.new n8 (.lst [.str "+",.int 1,.int 2]);have k9:=Same.new n9 (.tup [.int 1,.str "+",.int 2]);have k10:=Same.new n10 (.lst [.non,.bl true,.bl false,.str "",.str "+",.str "3",.ref p1,.ref p2,.ref p3,.ref p4,.ref p5,.ref p6,.ref p7,.ref p8,.ref p9]);have K1:=k1;have K2:=K1.trans k2;have K3:=K2.trans k3;have K4:=K3.trans k4;have K5:=K4.trans k5;have K6:=K5.trans k6;have K7:=K6.trans k7;have K8:=K7.trans k8;have K9:=K8.trans k9;have K10:=K9.trans k10;have w1:=hw.ne n1;have w2:=(hw.keep K1 (aat _)).ne n2;have w3:=(hw.keep K2 (aat _)).ne n3;have w4:=(hw.keep K3 (aat _)).ne n4;have w5:=(hw.keep K4 (aat _)).ne n5;have w6:=(hw.keep K5 (aat _)).ne n6;have w7:=(hw.keep K6 (aat _)).ne n7;have w8:=(hw.keep K7 (aat _)).ne n8;have w9:=(hw.keep K8 (aat _)).ne n9;have w10:=(hw.keep K9 (aat _)).ne n10;have hw10:=hw.keep K10 (aat _);have e9:=k10 _ _ (upd_same (a:=p9));have e8:=k10 _ _ (k9 _ _ (upd_same (a:=p8)));have e7:=k10 _ _ (k9 _ _ (k8 _ _ (upd_same (a:=p7))));have e6:=k10 _ _ (k9 _ _ (k8 _ _ (k7 _ _ (upd_same (a:=p6)))));have e5:=k10 _ _ (k9 _ _ (k8 _ _ (k7 _ _ (k6 _ _ (upd_same (a:=p5))))));have e4:=k10 _ _ (k9 _ _ (k8 _ _ (k7 _ _ (k6 _ _ (k5 _ _ (upd_same (a:=p4)))))));have e3:=k10 _ _ (k9 _ _ (k8 _ _ (k7 _ _ (k6 _ _ (k5 _ _ (k4 _ _ (upd_same (a:=p3))))))));have e2:=k10 _ _ (k9 _ _ (k8 _ _ (k7 _ _ (k6 _ _ (k5 _ _ (k4 _ _ (k3 _ _ (upd_same (a:=p2)))))))));have e1:=k10 _ _ (k9 _ _ (k8 _ _ (k7 _ _ (k6 _ _ (k5 _ _ (k4 _ _ (k3 _ _ (k2 _ _ (upd_same (a:=p1))))))))));refine ⟨_,rfl,_,rfl,wl,15,_,rfl,by decide,by decide,hw10,by lia,fun r1 H11 a1 b1 g11 w11=>?_⟩;have f1:=(bK w1).trans (g11 _ _ w1 e1);have f2:=(bK w2).trans (g11 _ _ w2 e2);have f3:=(bK w3).trans (g11 _ _ w3 e3);have f4:=(bK w4).trans (g11 _ _ w4 e4);have f5:=(bK w5).trans (g11 _ _ w5 e5);have f6:=(bK w6).trans (g11 _ _ w6 e6);have f7:=(bK w7).trans (g11 _ _ w7 e7);have f8:=(bK w8).trans (g11 _ _ w8 e8);have f9:=(bK w9).trans (g11 _ _ w9 e9);have f10:=g11 _ _ w10 upd_same;have b11:But wl H H11:=(But.of K10).trans g11;have fin:∀ (d:PyData) (u:V),Dat (off wl H11) d u→OkD d→szD d≤10→d.depth≤3→Q u H11:=fun d u h1 h2 h3 h4=>q d u H11 b11 w11 h1 h2 h3 h4;have cs:r1=0∨r1=1∨r1=2∨r1=3∨r1=4∨r1=5∨r1=6∨r1=7∨r1=8∨r1=9∨r1=10∨r1=11∨r1=12∨r1=13∨r1=14:=by lia
  rcases cs with rfl|rfl|rfl|rfl|rfl|rfl|rfl|rfl|rfl|rfl|rfl|rfl|rfl|rfl|rfl
  · exact ⟨p10,_,_,_,rfl,rfl,SqL.of f10,rfl,fin .none _ (by simp only [Dat]) (by simp only [OkD]) (by simp [szD]) (by simp [aas])⟩
  · exact ⟨p10,_,_,_,rfl,rfl,SqL.of f10,rfl,fin (.bool true) _ (by simp only [Dat]) (by simp only [OkD]) (by simp [szD]) (by simp [aas])⟩
  · exact ⟨p10,_,_,_,rfl,rfl,SqL.of f10,rfl,fin (.bool false) _ (by simp only [Dat]) (by simp only [OkD]) (by simp [szD]) (by simp [aas])⟩
  · exact ⟨p10,_,_,_,rfl,rfl,SqL.of f10,rfl,fin (.str "") _ (by simp only [Dat]) (by simp only [OkD];decide +kernel) (by simp [szD]) (by simp [aas])⟩
  · exact ⟨p10,_,_,_,rfl,rfl,SqL.of f10,rfl,fin (.str "+") _ (by simp only [Dat]) (by simp only [OkD];decide +kernel) (by simp [szD]) (by simp [aas])⟩
  · exact ⟨p10,_,_,_,rfl,rfl,SqL.of f10,rfl,fin (.str "3") _ (by simp only [Dat]) (by simp only [OkD];decide +kernel) (by simp [szD]) (by simp [aas])⟩
  · exact ⟨p10,_,_,_,rfl,rfl,SqL.of f10,rfl,fin (.list []) _ (by simp only [Dat,DatAll];exact ⟨p1,_,rfl,f1,rfl⟩) (by simp only [OkD,OkAll]) (by simp [szD,szAll]) (by simp [aas,aap])⟩
  · exact ⟨p10,_,_,_,rfl,rfl,SqL.of f10,rfl,fin (.list [.int 3]) _ (by simp only [Dat,DatAll];exact ⟨p2,_,rfl,f2,_,_,rfl,rfl,rfl⟩) (by simp only [OkD,OkAll];decide) (by simp [szD,szAll]) (by simp [aas,aap])⟩
  · exact ⟨p10,_,_,_,rfl,rfl,SqL.of f10,rfl,fin (.tuple []) _ (by simp only [Dat,DatAll];exact ⟨p3,_,rfl,f3,rfl⟩) (by simp only [OkD,OkAll]) (by simp [szD,szAll]) (by simp [aas,aap])⟩
  · exact ⟨p10,_,_,_,rfl,rfl,SqL.of f10,rfl,fin (.tuple [.int 3]) _ (by simp only [Dat,DatAll];exact ⟨p4,_,rfl,f4,_,_,rfl,rfl,rfl⟩) (by simp only [OkD,OkAll];decide) (by simp [szD,szAll]) (by simp [aas,aap])⟩
  · exact ⟨p10,_,_,_,rfl,rfl,SqL.of f10,rfl,fin (.dict []) _ (by simp only [Dat,DatKv];exact ⟨p5,_,rfl,f5,rfl⟩) (by simp only [OkD]) (by simp [szD]) (by simp [aas,acr])⟩
  · exact ⟨p10,_,_,_,rfl,rfl,SqL.of f10,rfl,fin (.tuple [.str "+",.int 1]) _ (by simp only [Dat,DatAll];exact ⟨p6,_,rfl,f6,_,_,rfl,rfl,_,_,rfl,rfl,rfl⟩) (by simp only [OkD,OkAll];decide +kernel) (by simp [szD,szAll]) (by simp [aas,aap])⟩
  · exact ⟨p10,_,_,_,rfl,rfl,SqL.of f10,rfl,fin (.tuple [.str "+",.int 1,.int 2,.int 3]) _ (by simp only [Dat,DatAll];exact ⟨p7,_,rfl,f7,_,_,rfl,rfl,_,_,rfl,rfl,_,_,rfl,rfl,_,_,rfl,rfl,rfl⟩) (by simp only [OkD,OkAll];decide +kernel) (by simp [szD,szAll]) (by simp [aas,aap])⟩
  · exact ⟨p10,_,_,_,rfl,rfl,SqL.of f10,rfl,fin (.list [.str "+",.int 1,.int 2]) _ (by simp only [Dat,DatAll];exact ⟨p8,_,rfl,f8,_,_,rfl,rfl,_,_,rfl,rfl,_,_,rfl,rfl,rfl⟩) (by simp only [OkD,OkAll];decide +kernel) (by simp [szD,szAll]) (by simp [aas,aap])⟩
  · exact ⟨p10,_,_,_,rfl,rfl,SqL.of f10,rfl,fin (.tuple [.int 1,.str "+",.int 2]) _ (by simp only [Dat,DatAll];exact ⟨p9,_,rfl,f9,_,_,rfl,rfl,_,_,rfl,rfl,_,_,rfl,rfl,rfl⟩) (by simp only [OkD,OkAll];decide +kernel) (by simp [szD,szAll]) (by simp [aas,aap])⟩
end
open PySem L2
theorem bR {p:Addr} {H H':Hp} (g:Same H H'):Same (off p H) (off p H'):=bz (But.of g)
structure Al (wl:Addr) (H0 H:Hp) (L:List (Addr × HO)):Prop where
  same:Same H0 H
  well:∃ o,H0 wl=some o
  has:∀ x∈L,off wl H x.1=some x.2
theorem Al.ne {wl:Addr} {H0 H:Hp} {L:List (Addr × HO)} (A:Al wl H0 H L) {p:Addr} (n:H p=none):p≠wl:=by
  obtain ⟨o,e⟩:=A.well;exact abc (ao (A.same _ _ e) n)
theorem Al.new {wl:Addr} {H0 H:Hp} {L:List (Addr × HO)} (A:Al wl H0 H L) {p:Addr} (n:H p=none) (o:HO):Al wl H0 (upd H p o) ((p,o) :: L) :=
  ⟨A.same.trans (Same.new n o),A.well,fun x hx=>by
    rcases aam.mp hx with rfl|hx
    · exact sk (A.ne n)
    · exact ss n _ _ (A.has x hx)⟩
theorem Al.at {wl:Addr} {H0 H:Hp} {L:List (Addr × HO)} (A:Al wl H0 H L) (i:Nat) {x:Addr × HO} (h:L[i]?=some x):off wl H x.1=some x.2:=A.has x (abg h)
theorem Al.up {wl:Addr} {H0 H:Hp} {L:List (Addr × HO)} (A:Al wl H0 H L) (i:Nat) {x:Addr × HO} (h:L[i]?=some x):H x.1=some x.2:=off_le _ _ (A.at i h)
theorem oY (xs:List V) (c:Nat) (h:c≤xs.length):d7 xs none (some (c:Int))=xs.take c:=by
  have e0:HT.sIx xs.length 0 none=0:=by simp [HT.sIx]
  have e1:HT.sIx xs.length xs.length (some (c:Int))=c:=by
    simp only [HT.sIx];split <;> lia
  unfold d7;rw [e0,e1,ab5];rfl
theorem fY (xs:List V) (c:Nat):d7 xs none (some (c:Int))=xs.take c:=by
  by_cases h:c≤xs.length
  · exact oY xs c h
  · have e0:HT.sIx xs.length 0 none=0:=by simp [HT.sIx]
    have e1:HT.sIx xs.length xs.length (some (c:Int))=xs.length:=by
      simp only [HT.sIx];split <;> lia
    unfold d7;rw [e0,e1,ab5,Nat.sub_zero,List.take_length,aao (by lia)]
theorem mL (xs:List V) (c:Nat) (h:c≤xs.length):d7 xs (some (c:Int)) none=xs.drop c:=by
  have e0:HT.sIx xs.length xs.length none=xs.length:=by simp [HT.sIx]
  have e1:HT.sIx xs.length 0 (some (c:Int))=c:=by
    simp only [HT.sIx];split <;> lia
  unfold d7;rw [e0,e1,aao (by rw [aaI];exact aab _)]
theorem eV (xs:List V) (c:Nat):d7 xs (some (c:Int)) none=xs.drop c:=by
  by_cases h:c≤xs.length
  · exact mL xs c h
  · unfold d7;have e1:HT.sIx xs.length 0 (some (c:Int))=xs.length:=by
      simp only [HT.sIx];split <;> lia
    rw [e1,abC (by lia),abC (show xs.length≤c by lia),List.take_nil]
theorem rS {xs:List V} {r:Int} (h0:0≤r) (h1:r < xs.length):∃ u,atI xs r=some u∧u∈xs:=by
  obtain ⟨j,rfl⟩:∃ j:Nat,r=(j:Int):=⟨r.toNat,by lia⟩
  have hj:j < xs.length:=by lia
  exact ⟨xs[j],eY (aaj hj),ab6 hj⟩
theorem fJ {H:Hp}:∀ {ds:List PyData} {vs:List V} {es:List PyData} {us:List V},DatAll H ds vs→DatAll H es us→DatAll H (ds++es) (vs++us)
  | [],vs,es,us,h,k=>by simp only [DatAll] at h;subst h;exact k
  | d :: ds,vs,es,us,h,k=>by
    simp only [DatAll] at h;obtain ⟨v,r,rfl,h1,h2⟩:=h;simp only [aa6,DatAll];exact ⟨v,_,rfl,h1,fJ h2 k⟩
theorem j8 {H:Hp}:∀ {ps:List (Int × Int)} {us:List V} (n:Nat),DatAll H (ps.map pD) us→DatAll H ((ps.take n).map pD) (us.take n)
  | [],us,n,h=>by simp only [aa4,DatAll] at h;subst h;simp only [List.take_nil,aa4,DatAll]
  | p :: ps,us,0,h=>by simp only [List.take_zero,aa4,DatAll]
  | p :: ps,us,n+1,h=>by
    simp only [aau,DatAll] at h;obtain ⟨v,r,rfl,h1,h2⟩:=h;simp only [ab8,aau,DatAll];exact ⟨v,_,rfl,h1,j8 n h2⟩
theorem j9 {H:Hp}:∀ {ps:List (Int × Int)} {us:List V} (n:Nat),DatAll H (ps.map pD) us→DatAll H ((ps.drop n).map pD) (us.drop n)
  | [],us,n,h=>by simp only [aa4,DatAll] at h;subst h;simp only [List.drop_nil,aa4,DatAll]
  | p :: ps,us,0,h=>h
  | p :: ps,us,n+1,h=>by
    simp only [aau,DatAll] at h;obtain ⟨v,r,rfl,h1,h2⟩:=h;simp only [List.drop_succ_cons];exact j9 n h2
theorem jT:∀ {a b:List PyData},OkAll a→OkAll b→OkAll (a++b)
  | [],_,_,h=>h
  | x :: a,b,h,k=>by
    simp only [aa6,OkAll] at h ⊢;exact ⟨h.1,jT h.2 k⟩
theorem jD:∀ a b:List PyData,szAll (a++b)=szAll a+szAll b
  | [],b=>by simp [szAll]
  | x :: a,b=>by simp only [aa6,szAll,jD a b];lia
theorem j6:∀ a b:List PyData,aap (a++b)=max (aap a) (aap b)
  | [],b=>by simp [aap]
  | x :: a,b=>by simp only [aa6,aap,j6 a b];lia
theorem Al.but {wl:Addr} {H0 H H':Hp} {L:List (Addr × HO)} {M:Int} (A:Al wl H0 H L) (b:But wl H H') (w:Wel H' wl M):Al wl H' H' L:=⟨Same.refl _,by obtain ⟨_,_,_,e,_⟩:=w;exact ⟨_,e⟩,fun x hx=>bz b _ _ (A.has x hx)⟩
def SmP (ps:PS):Prop:=∀ q∈ps,q.1.natAbs < 100∧q.2.natAbs < 100
def Tn (H:Hp) (v:V):Prop:=∃ d,Dat H d v∧OkD d∧szD d≤10∧d.depth≤3
theorem Tn.mono {H H':Hp} {v:V} (g:Same H H') (h:Tn H v):Tn H' v:=by obtain ⟨d,a,b⟩:=h;exact ⟨d,Dat.mono g d v a,b⟩
theorem eL {H:Hp} {c:Addr} {a b:Int} (e:H c=some (.tup [.int a,.int b])) (ha:a.natAbs < 200) (hb:b.natAbs < 200):Tn H (.ref c) :=
  ⟨.tuple [.int a,.int b],by simp only [Dat,DatAll];exact ⟨c,_,rfl,e,_,_,rfl,rfl,_,_,rfl,rfl,rfl⟩,by simp only [OkD,OkAll];exact ⟨by lia,by lia,trivial⟩,by simp [szD,szAll],by simp [aas,aap]⟩
theorem gO:∀ {ps:PS},SmP ps→OkAll (ps.map pD)
  | [],_=>by simp only [aa4,OkAll]
  | p :: ps,h=>by
    obtain ⟨h1,h2⟩:=h p aag;simp only [aau,OkAll,pD,OkD];exact ⟨⟨by lia,by lia,trivial⟩,gO fun q hq=>h q (aaf _ hq)⟩
theorem d8:∀ ps:PS,szAll (ps.map pD)=3 * ps.length
  | []=>rfl
  | p :: ps=>by simp only [aau,szAll,pD,szD,d8 ps,aar];lia
theorem SmP.take {ps:PS} (h:SmP ps) (n:Nat):SmP (ps.take n):=fun q hq=>h q (List.mem_of_mem_take hq)
theorem SmP.drop {ps:PS} (h:SmP ps) (n:Nat):SmP (ps.drop n):=fun q hq=>h q (List.mem_of_mem_drop hq)
def Pg (H:Hp) (v:V):Prop:=∃ d,Dat H d v∧PrD d∧szD d≤900
theorem Pg.mono {H H':Hp} {v:V} (g:Same H H') (h:Pg H v):Pg H' v:=by obtain ⟨d,a,b⟩:=h;exact ⟨d,Dat.mono g d v a,b⟩
theorem Tn.pg {H:Hp} {v:V} (h:Tn H v):Pg H v:=by obtain ⟨d,a,b,c,e⟩:=h;exact ⟨d,a,fS b (by lia) (by lia),by lia⟩
theorem hJ {H:Hp} {c:Addr} {xs:List V} {ds:List PyData} (e:H c=some (.lst xs)) (hd:DatAll H ds xs) (ok:OkAll ds) (sz:szAll ds≤800) (dp:aap ds≤40):Pg H (.ref c) :=
  ⟨.list ds,by simp only [Dat];exact ⟨c,xs,rfl,e,hd⟩,fS (by simp only [OkD];exact ok) (by simp only [szD];lia) (by simp only [aas];lia),by simp only [szD];lia⟩
theorem pg_tup {H:Hp} {c:Addr} {xs:List V} {ds:List PyData} (e:H c=some (.tup xs)) (hd:DatAll H ds xs) (ok:OkAll ds) (sz:szAll ds≤800) (dp:aap ds≤40):Pg H (.ref c) :=
  ⟨.tuple ds,by simp only [Dat];exact ⟨c,xs,rfl,e,hd⟩,fS (by simp only [OkD];exact ok) (by simp only [szD];lia) (by simp only [aas];lia),by simp only [szD];lia⟩
theorem mK {H:Hp} {d:PyData} {v:V} (h:Dat H d v):DatAll H [d] [v]:=by simp only [DatAll];exact ⟨_,_,rfl,h,rfl⟩
theorem qj {H:Hp} {c:Addr} {us:List V} {ps:PS} {x:V} {a b:Nat} (hp:DatAll H (ps.map pD) us) (hs:SmP ps) (hl:ps.length≤20) (hx:Tn H x) (e:H c=some (.lst (us.take a++[x]++us.drop b))):Pg H (.ref c):=by
  obtain ⟨d,d1,d2,d3,d4⟩:=hx;have a1:=d8 (ps.take a);have a2:=d8 (ps.drop b);have b1:=dP (ps.take a);have b2:=dP (ps.drop b);rw [aax] at a1;rw [aaI] at a2;refine hJ e (fJ (fJ (j8 a hp) (mK d1)) (j9 b hp)) (jT (jT (gO (hs.take a)) (by simp only [OkAll];exact ⟨d2,trivial⟩)) (gO (hs.drop b))) ?_ ?_
  · rw [jD,jD];simp only [szAll];lia
  · rw [j6,j6];simp only [aap];lia
theorem qk {H:Hp} {c:Addr} {us:List V} {ps:PS} {a b:Nat} (hp:DatAll H (ps.map pD) us) (hs:SmP ps) (hl:ps.length≤20) (e:H c=some (.lst (us.take a++us.drop b))):Pg H (.ref c):=by
  have a1:=d8 (ps.take a);have a2:=d8 (ps.drop b);have b1:=dP (ps.take a);have b2:=dP (ps.drop b);rw [aax] at a1;rw [aaI] at a2;refine hJ e (fJ (j8 a hp) (j9 b hp)) (jT (gO (hs.take a)) (gO (hs.drop b))) ?_ ?_
  · rw [jD];lia
  · rw [j6];lia
def kI (p:Int × Int):Key × V:=(.inl p.1,.int p.2)
theorem tR (p:Int × Int):∀ is:PS,∃ is':PS,gY (is.map kI) (.inl p.1) (.int p.2)=is'.map kI∧is'.length≤is.length+1∧∀ q∈is',q∈is∨q=p:=fun is=>by
  unfold gY;split
  · refine ⟨is.map (fun q=>if q.1=p.1 then (q.1,p.2) else q),?_,by rw [aac];lia,fun q hq=>?_⟩
    · rw [abp,abp];apply ab7;intro q _;show (if (Sum.inl q.1:Key)=.inl p.1 then ((Sum.inl q.1:Key),V.int p.2) else (.inl q.1,.int q.2))=kI (if q.1=p.1 then (q.1,p.2) else q);by_cases c:q.1=p.1
      · rw [if_pos (by rw [c]),if_pos c];rfl
      · rw [if_neg (fun z=>c (by injection z)),if_neg c];rfl
    · obtain ⟨x,hx,rfl⟩:=abI.mp hq;by_cases c:x.1=p.1
      · rw [if_pos c];exact .inr (Prod.ext c rfl)
      · rw [if_neg c];exact .inl hx
  · exact ⟨is++[p],by rw [aaO];rfl,by rw [aah];exact aab _,fun q hq=>by rcases aaz.mp hq with z|z;exact .inl z;exact .inr (aaG.mp z)⟩
theorem ln:∀ (ps is:PS),∃ is':PS,cW (is.map kI) (ps.map kI)=is'.map kI∧is'.length≤is.length+ps.length∧∀ q∈is',q∈is∨q∈ps
  | [],is=>⟨is,rfl,aab _,fun q hq=>.inl hq⟩
  | p :: ps,is=>by
    obtain ⟨i1,e1,l1,m1⟩:=tR p is;obtain ⟨i2,e2,l2,m2⟩:=ln ps i1;refine ⟨i2,?_,by rw [aar];lia,fun q hq=>?_⟩
    · show cW (gY (is.map kI) (kI p).1 (kI p).2) (ps.map kI)=_;rw [show gY (is.map kI) (kI p).1 (kI p).2=i1.map kI from e1];exact e2
    · rcases m2 q hq with z|z
      · rcases m1 q z with y|y
        · exact .inl y
        · exact .inr (by rw [y];exact aag)
      · exact .inr (aaf _ z)
def kD (p:Int × Int):PyData × PyData:=(.int p.1,.int p.2)
theorem q_ {H:Hp}:∀ is:PS,DatKv H (is.map kD) (is.map kI)
  | []=>by simp only [aa4,DatKv]
  | p :: is=>by
    simp only [aau,DatKv,kD,kI];exact ⟨_,_,_,rfl,rfl,by simp only [Dat],q_ is⟩
theorem uo (is:PS) (sm:SmP is):aco (is.map kD)=true∧acr (is.map kD)=0∧((PyData.shownKv (is.map kD)).map (·.length)).sum≤100 * is.length:=by
  induction is with
  | nil=>exact ⟨by simp [aco],by simp [acr],by simp [PyData.shownKv]⟩
  | cons p is ih =>
    obtain ⟨a1,a2,a3⟩:=ih fun q hq=>sm q (aaf _ hq);obtain ⟨b1,b2⟩:=sm p aag;have s1:∀ i:Int,i.natAbs < 100→(PyData.int i).showable=true∧(PyData.int i).shown.length≤42:=fun i hi=>by
      refine ⟨jQ _ (by simp only [OkD];lia),?_⟩;have e:=int_text_length_le10 (a:=i) (k:=40) (by decide) (by lia);show (Str.ofString (toString i)).length≤42;rw [ofString_length];lia
    obtain ⟨c1,c2⟩:=s1 _ b1;obtain ⟨d1,d2⟩:=s1 _ b2;refine ⟨?_,?_,?_⟩
    · simp only [aau,aco,kD,c1,d1,a1,Bool.and_self]
    · simp only [aau,acr,kD,aas,a2];rfl
    · simp only [aau,PyData.shownKv,kD,acB,aar];have : ((PyData.int p.1).shown++(": ":Str)++(PyData.int p.2).shown).length≤90:=by
        rw [dC,dC];show _+2+_≤90;lia
      lia
theorem rV {H:Hp} {c:Addr} {ps:PS} (hs:SmP ps) (hl:ps.length≤9) (e:H c=some (.dK (cW [] (ps.map fun p=>((.inl p.1:Key),V.int p.2))))):Pg H (.ref c):=by
  obtain ⟨is,e1,l1,m1⟩:=ln ps [];have e1:cW [] (ps.map fun p=>((.inl p.1:Key),V.int p.2))=is.map kI:=e1;rw [e1] at e;have sm:SmP is:=fun q hq=>by rcases m1 q hq with z|z;cases z;exact hs q z
  have li:is.length≤9:=by simpa using aaY l1 (by simpa using hl)
  have key:=uo is sm;refine ⟨.dict (is.map kD),by simp only [Dat];exact ⟨c,_,rfl,e,q_ is⟩,⟨by simp only [aa5];exact key.1,by simp only [aas,key.2.1];decide,?_⟩,by simp [szD]⟩;have z:=dictText_len_le (PyData.shownKv (is.map kD));have z2:=PyData.shownKv_length (is.map kD);rw [aac] at z2;have z3:=key.2.2;simp only [acw];lia
section
variable {P:Program} {w:World} {K:aaa} {mg:Str→Option Value} {base:Heap} {f:Addr} {fd:FuncData}
def pM:Sp:=fun vs H Q _=>∃ (wl:Addr) (n:Int) (sa:Addr) (us:List V) (ps:PS) (M:Int),vs=[.ref wl,.int n,.ref sa]∧1≤n∧n≤9∧off wl H sa=some (.lst us)∧PairsIn (off wl H) ps us∧SmP ps∧ps.length≤9∧Wel H wl M∧M < 999900000∧∀ u H',But wl H H'→Wel H' wl (M+20)→Pg (off wl H') u→Q u H'
abbrev dj:Stmt:=top 46
theorem aY:FnScope ["well","many","stretches","at","i","j","one","some"] ["well","many","stretches"] (am dj):=⟨rfl,rfl,rfl,by decide +kernel,rfl,by decide +kernel,by decide +kernel⟩
theorem ou (F:Fun K "_law_spoilt" "_law_spoilt" dj f fd) (B:Bu K mg) (C__law_draw:Cal P w K mg base "_law_draw" 2 ["well","many"] d_) (C__law_odd:Cal P w K mg base "_law_odd" 3 ["well"] pO):FnOk P w K mg base CX0 4 f fd ["well","many","stretches"] pM:=by
  refine F.ok aY (fun vs H Q E h=>?_) (fun cdv A outer s H vs Q E hr h=>?_)
  · obtain ⟨wl,n,sa,us,ps,M,rfl,_⟩:=h;rfl
  obtain ⟨wl,n,sa,us,ps,M,rfl,n1,n9,esa,hps,hsm,hl,hw,hM,q⟩:=h;refine ⟨_,(@ag _ _ _ _ _ (@au _ _ (3) _ _ _ _ (aY).nd rfl (Or.inl rfl) (@ak _ _ _ _ _ _ _ _ _ _ _ C__law_draw hr (by lia) rfl (@aa _ _ _ _ _ (pv 0) (@aa _ _ _ _ _ (@ar _ _ _ _ _ _ _ _ bI (@aj _ _ _ _ _ _ _ _ _ ax rfl B.ilen aaE (@aa _ _ _ _ _ (pv 2) ae (by rfl)) (by decide) (by decide) (by rfl) (by rfl)) af) ae (by rfl)) (by rfl)) (by decide) (by rfl) (by rfl)) (by rfl) (by first|exact .inl rfl|exact .inr rfl|assumption)) (@ag _ _ _ _ _ (@au _ _ (4) _ _ _ _ (aY).nd rfl (Or.inl rfl) (@ak _ _ _ _ _ _ _ _ _ _ _ C__law_draw hr (by lia) rfl (@aa _ _ _ _ _ (pv 0) (@aa _ _ _ _ _ (@ar _ _ _ _ _ _ _ _ bI (pv 1) af) ae (by rfl)) (by rfl)) (by decide) (by rfl) (by rfl)) (by rfl) (by first|exact .inl rfl|exact .inr rfl|assumption)) (@ag _ _ _ _ _ (@au _ _ (5) _ _ _ _ (aY).nd rfl (Or.inl rfl) (@ak _ _ _ _ _ _ _ _ _ _ _ C__law_draw hr (by lia) rfl (@aa _ _ _ _ _ (pv 0) (@aa _ _ _ _ _ (@ar _ _ _ _ _ _ _ _ bI (pv 1) af) ae (by rfl)) (by rfl)) (by decide) (by rfl) (by rfl)) (by rfl) (by first|exact .inl rfl|exact .inr rfl|assumption)) (@ag _ _ _ _ _ (@au _ _ (6) _ _ _ _ (aY).nd rfl (Or.inl rfl) (@aw _ _ _ _ (@aa _ _ _ _ _ (@aX _ _ _ _ _ (@aa _ _ _ _ _ (pv 4) (@aa _ _ _ _ _ (pv 5) ae (by rfl)) (by rfl))) (@aa _ _ _ _ _ (@aX _ _ _ _ _ (@aa _ _ _ _ _ (@aj _ _ _ _ _ _ _ _ _ (@o5 _ rfl) rfl B.imin PyProof.Rows.boot_min (@aa _ _ _ _ _ (pv 4) (@aa _ _ _ _ _ (pv 5) ae (by rfl)) (by rfl)) (by decide) (by decide) (by rfl) (by rfl)) (@aa _ _ _ _ _ (@aj _ _ _ _ _ _ _ _ _ (@jw _ rfl) rfl B.imax PyProof.Rows.boot_max (@aa _ _ _ _ _ (pv 4) (@aa _ _ _ _ _ (pv 5) ae (by rfl)) (by rfl)) (by decide) (by decide) (by rfl) (by rfl)) ae (by rfl)) (by rfl))) (@aa _ _ _ _ _ (@aX _ _ _ _ _ (@aa _ _ _ _ _ (pv 4) (@aa _ _ _ _ _ (@ar _ _ _ _ _ _ _ _ bI (pv 4) af) ae (by rfl)) (by rfl))) (@aa _ _ _ _ _ (@aX _ _ _ _ _ (@aa _ _ _ _ _ (@ar _ _ _ _ _ _ _ _ cw (pv 4) af) (@aa _ _ _ _ _ (pv 4) ae (by rfl)) (by rfl))) (@aa _ _ _ _ _ (@aX _ _ _ _ _ (@aa _ _ _ _ _ (pv 4) (@aa _ _ _ _ _ (pv 1) ae (by rfl)) (by rfl))) (@aa _ _ _ _ _ (@aX _ _ _ _ _ (@aa _ _ _ _ _ af (@aa _ _ _ _ _ (@ar _ _ _ _ _ _ _ _ cw (pv 1) af) ae (by rfl)) (by rfl))) (@aa _ _ _ _ _ (@aX _ _ _ _ _ (@aa _ _ _ _ _ (pv 4) (@aa _ _ _ _ _ dc ae (by rfl)) (by rfl))) (@aa _ _ _ _ _ (@aw _ _ _ _ (@aa _ _ _ _ _ (pv 4) (@aa _ _ _ _ _ (pv 5) ae (by rfl)) (by rfl))) ae (by rfl)) (by rfl)) (by rfl)) (by rfl)) (by rfl)) (by rfl)) (by rfl)) (by rfl))) (by rfl) (by first|exact .inl rfl|exact .inr rfl|assumption)) (@ag _ _ _ _ _ (@au _ _ (6) _ _ _ _ (aY).nd rfl (Or.inl rfl) (@aE _ _ _ _ _ _ _ ix_list (@ar _ _ _ _ _ _ _ _ bo (pv 6) (@aw _ _ _ _ (@aa _ _ _ _ _ (@ak _ _ _ _ _ _ _ _ _ _ _ C__law_odd hr (by lia) rfl (@aa _ _ _ _ _ (pv 0) ae (by rfl)) (by decide) (by rfl) (by rfl)) (@aa _ _ _ _ _ (@aX _ _ _ _ _ (@aa _ _ _ _ _ (@aw _ _ _ _ ae) (@aa _ _ _ _ _ af ae (by rfl)) (by rfl))) (@aa _ _ _ _ _ (@aX _ _ _ _ _ (@aa _ _ _ _ _ kQ (@aa _ _ _ _ _ af ae (by rfl)) (by rfl))) (@aa _ _ _ _ _ (@aX _ _ _ _ _ (@aa _ _ _ _ _ (pv 4) (@aa _ _ _ _ _ (@aw _ _ _ _ (@aa _ _ _ _ _ (pv 5) ae (by rfl))) ae (by rfl)) (by rfl))) ae (by rfl)) (by rfl)) (by rfl)) (by rfl)))) (@ak _ _ _ _ _ _ _ _ _ _ _ C__law_draw hr (by lia) rfl (@aa _ _ _ _ _ (pv 0) (@aa _ _ _ _ _ af ae (by rfl)) (by rfl)) (by decide) (by rfl) (by rfl)) (fun _ _=>rfl)) (by rfl) (by first|exact .inl rfl|exact .inr rfl|assumption)) (@ag _ _ _ _ _ (@au _ _ (7) _ _ _ _ (aY).nd rfl (Or.inl rfl) (@aw _ _ _ _ (@aa _ _ _ _ _ (@ar _ _ _ _ _ _ _ _ bo (@ar _ _ _ _ _ _ _ _ bo (@bu _ _ _ _ _ _ _ _ _ _ bS (pv 2) bE (@bD _ _ _ (pv 3))) (@aw _ _ _ _ (@aa _ _ _ _ _ (pv 6) ae (by rfl)))) (@bu _ _ _ _ _ _ _ _ _ _ bS (pv 2) (@bD _ _ _ (@ar _ _ _ _ _ _ _ _ bI (pv 3) af)) bE)) (@aa _ _ _ _ _ (@ar _ _ _ _ _ _ _ _ bo (@bu _ _ _ _ _ _ _ _ _ _ bS (pv 2) bE (@bD _ _ _ (pv 3))) (@bu _ _ _ _ _ _ _ _ _ _ bS (pv 2) (@bD _ _ _ (@ar _ _ _ _ _ _ _ _ bI (pv 3) af)) bE)) ae (by rfl)) (by rfl))) (by rfl) (by first|exact .inl rfl|exact .inr rfl|assumption)) (@ag _ _ _ _ _ (@au _ _ (7) _ _ _ _ (aY).nd rfl (Or.inl rfl) (@ar _ _ _ _ _ _ _ _ bo (pv 7) (@aw _ _ _ _ (@aa _ _ _ _ _ (@ar _ _ _ _ _ _ _ _ bo (@ar _ _ _ _ _ _ _ _ bo (@bu _ _ _ _ _ _ _ _ _ _ bS (pv 2) bE (@bD _ _ _ (pv 3))) (@aw _ _ _ _ (@aa _ _ _ _ _ (pv 6) ae (by rfl)))) (@bu _ _ _ _ _ _ _ _ _ _ bS (pv 2) (@bD _ _ _ (pv 3)) bE)) (@aa _ _ _ _ _ (@ar _ _ _ _ _ _ _ _ bo (@bu _ _ _ _ _ _ _ _ _ _ bS (pv 2) bE (@bD _ _ _ (pv 3))) (@bu _ _ _ _ _ _ _ _ _ _ bS (pv 2) (@bD _ _ _ (@aj _ _ _ _ _ _ _ _ _ (@jw _ rfl) rfl B.imax PyProof.Rows.boot_max (@aa _ _ _ _ _ af (@aa _ _ _ _ _ (@ar _ _ _ _ _ _ _ _ cw (pv 3) af) ae (by rfl)) (by rfl)) (by decide) (by decide) (by rfl) (by rfl))) bE)) ae (by rfl)) (by rfl)))) (by rfl) (by first|exact .inl rfl|exact .inr rfl|assumption)) (@ag _ _ _ _ _ (@au _ _ (7) _ _ _ _ (aY).nd rfl (Or.inl rfl) (@ar _ _ _ _ _ _ _ _ bo (pv 7) (@aw _ _ _ _ (@aa _ _ _ _ _ (@dy _ _ _ _ _ _ _ _ _ fj rfl B.ituple abf (@aa _ _ _ _ _ (pv 2) ae (by rfl)) (by decide) (by decide) (by rfl) (by rfl)) (@aa _ _ _ _ _ (@dy _ _ _ _ _ _ _ _ _ (mO rfl) rfl B.idict PyProof.Rows.boot_dict (@aa _ _ _ _ _ (pv 2) ae (by rfl)) (by decide) (by decide) (by rfl) (by rfl)) (@aa _ _ _ _ _ bw (@aa _ _ _ _ _ (@ak _ _ _ _ _ _ _ _ _ _ _ C__law_odd hr (by lia) rfl (@aa _ _ _ _ _ (pv 0) ae (by rfl)) (by decide) (by rfl) (by rfl)) ae (by rfl)) (by rfl)) (by rfl)) (by rfl)))) (by rfl) (by first|exact .inl rfl|exact .inr rfl|assumption)) (@ai _ _ _ (@av _ _ _ _ (@aE _ _ _ _ _ _ _ ix_list (pv 7) (@aE _ _ _ _ _ _ _ ix_list (@aw _ _ _ _ (@aa _ _ _ _ _ af (@aa _ _ _ _ _ af (@aa _ _ _ _ _ af (@aa _ _ _ _ _ af (@aa _ _ _ _ _ af (@aa _ _ _ _ _ af (@aa _ _ _ _ _ af (@aa _ _ _ _ _ af (@aa _ _ _ _ _ af (@aa _ _ _ _ _ af (@aa _ _ _ _ _ af ae (by rfl)) (by rfl)) (by rfl)) (by rfl)) (by rfl)) (by rfl)) (by rfl)) (by rfl)) (by rfl)) (by rfl)) (by rfl))) (@ak _ _ _ _ _ _ _ _ _ _ _ C__law_draw hr (by lia) rfl (@aa _ _ _ _ _ (pv 0) (@aa _ _ _ _ _ af ae (by rfl)) (by rfl)) (by decide) (by rfl) (by rfl)) (fun _ _=>rfl)) (fun _ _=>rfl)))))))))))),?_⟩;have lu:=hps.length;refine ⟨_,rfl,_,rfl,sa,_,rfl,.inl (SqL.of (off_le _ _ esa)),_,_,rfl,rfl,wl,_,M,rfl,by lia,by lia,hw,by lia,fun at' Ha a1 b1 ga wa=>?_⟩;refine ⟨_,rfl,_,rfl,_,_,rfl,rfl,wl,_,_,rfl,by lia,by lia,wa,by lia,fun i Hb i0 i1 gb wb=>?_⟩;refine ⟨_,rfl,_,rfl,_,_,rfl,rfl,wl,_,_,rfl,by lia,by lia,wb,by lia,fun j K0 j0 j1 gc wc=>?_⟩;have G0:=(ga.trans gb).trans gc;have A:Al wl K0 K0 [(sa,.lst us)]:=⟨Same.refl _,by obtain ⟨_,_,_,e,_⟩:=wc;exact ⟨_,e⟩,fun x hx=>by rw [aaG.mp hx];exact bz G0 _ _ esa⟩
  refine ⟨_,rfl,_,rfl,(by show 2≤sizeLine;decide),fun p1 n_p1=>?_⟩
  replace A:=A.new n_p1 (.tup [.int i,.int j])
  generalize upd K0 p1 (.tup [.int i,.int j])=h_p1 at A ⊢;refine ⟨_,rfl,_,rfl,_,_,rfl,_,rfl,_,rfl,_,_,rfl,(by show 2≤sizeLine;decide),fun p2 n_p2=>?_⟩
  replace A:=A.new n_p2 (.tup [.int (if j < i then j else i),.int (if j > i then j else i)])
  generalize upd h_p1 p2 (.tup [.int (if j < i then j else i),.int (if j > i then j else i)])=h_p2 at A ⊢;refine ⟨_,rfl,_,rfl,_,_,rfl,rfl,(by show 2≤sizeLine;decide),fun p3 n_p3=>?_⟩
  replace A:=A.new n_p3 (.tup [.int i,.int (i+1)])
  generalize upd h_p2 p3 (.tup [.int i,.int (i+1)])=h_p3 at A ⊢;refine ⟨_,rfl,_,_,rfl,rfl,_,rfl,(by show 2≤sizeLine;decide),fun p4 n_p4=>?_⟩
  replace A:=A.new n_p4 (.tup [.int (i - 1),.int i])
  generalize upd h_p3 p4 (.tup [.int (i - 1),.int i])=h_p4 at A ⊢;refine ⟨_,rfl,_,rfl,(by show 2≤sizeLine;decide),fun p5 n_p5=>?_⟩
  replace A:=A.new n_p5 (.tup [.int i,.int n])
  generalize upd h_p4 p5 (.tup [.int i,.int n])=h_p5 at A ⊢;refine ⟨_,rfl,_,_,rfl,rfl,(by show 2≤sizeLine;decide),fun p6 n_p6=>?_⟩
  replace A:=A.new n_p6 (.tup [.int 0,.int (n - 1)])
  generalize upd h_p5 p6 (.tup [.int 0,.int (n - 1)])=h_p6 at A ⊢;refine ⟨_,rfl,(by show 2≤sizeLine;decide),fun p7 n_p7=>?_⟩
  replace A:=A.new n_p7 (.tup [.int i,.bl true])
  generalize upd h_p6 p7 (.tup [.int i,.bl true])=h_p7 at A ⊢;refine ⟨_,rfl,_,rfl,(by show 2≤sizeLine;decide),fun p8 n_p8=>?_⟩
  replace A:=A.new n_p8 (.lst [.int i,.int j])
  generalize upd h_p7 p8 (.lst [.int i,.int j])=h_p8 at A ⊢;refine ⟨(by show 8≤sizeLine;decide),fun p9 n_p9=>?_⟩
  replace A:=A.new n_p9 (.lst [.ref p1,.ref p2,.ref p3,.ref p4,.ref p5,.ref p6,.ref p7,.ref p8])
  generalize upd h_p8 p9 (.lst [.ref p1,.ref p2,.ref p3,.ref p4,.ref p5,.ref p6,.ref p7,.ref p8])=h_p9 at A ⊢;have wd:=wc.keep A.same (aat _);have G1:=G0.trans (But.of A.same);refine ⟨_,rfl,_,rfl,wl,_,rfl,wd,by lia,fun dod od K1 go wo hod ood zod pod=>?_⟩
  replace A:=A.but go wo
  have G2:=G1.trans go;have hod0:=hod;refine ⟨(by show 0≤sizeLine;decide),fun q1 n_q1=>?_⟩
  replace A:=A.new n_q1 (.lst [])
  generalize upd K1 q1 (.lst [])=h_q1 at A ⊢;refine ⟨(by show 2≤sizeLine;decide),fun q2 n_q2=>?_⟩
  replace A:=A.new n_q2 (.tup [.ref q1,.int 1])
  generalize upd h_q1 q2 (.tup [.ref q1,.int 1])=h_q2 at A ⊢;refine fun q3 n_q3=>?_
  replace A:=A.new n_q3 (.dK [])
  generalize upd h_q2 q3 (.dK [])=h_q3 at A ⊢;refine ⟨(by show 2≤sizeLine;decide),fun q4 n_q4=>?_⟩
  replace A:=A.new n_q4 (.tup [.ref q3,.int 1])
  generalize upd h_q3 q4 (.tup [.ref q3,.int 1])=h_q4 at A ⊢;refine ⟨_,rfl,_,rfl,(by show 1≤sizeLine;decide),fun q5 n_q5=>?_⟩
  replace A:=A.new n_q5 (.lst [.int j])
  generalize upd h_q4 q5 (.lst [.int j])=h_q5 at A ⊢;refine ⟨(by show 2≤sizeLine;decide),fun q6 n_q6=>?_⟩
  replace A:=A.new n_q6 (.tup [.int i,.ref q5])
  generalize upd h_q5 q6 (.tup [.int i,.ref q5])=h_q6 at A ⊢;refine ⟨(by show 4≤sizeLine;decide),fun q7 n_q7=>?_⟩
  replace A:=A.new n_q7 (.lst [od,.ref q2,.ref q4,.ref q6])
  generalize upd h_q6 q7 (.lst [od,.ref q2,.ref q4,.ref q6])=h_q7 at A ⊢;refine ⟨p9,q7,_,_,rfl,rfl,A.up 7 rfl,A.up 0 rfl,(by show 12≤sizeLine;decide),fun q8 n_q8=>?_⟩
  replace A:=A.new n_q8 (.lst ([.ref p1,.ref p2,.ref p3,.ref p4,.ref p5,.ref p6,.ref p7,.ref p8]++[od,.ref q2,.ref q4,.ref q6]))
  generalize upd h_q7 q8 (.lst ([.ref p1,.ref p2,.ref p3,.ref p4,.ref p5,.ref p6,.ref p7,.ref p8]++[od,.ref q2,.ref q4,.ref q6]))=h_q8 at A ⊢;have tns:∀ x∈([.ref p1,.ref p2,.ref p3,.ref p4,.ref p5,.ref p6,.ref p7,.ref p8]++[od,.ref q2,.ref q4,.ref q6]:List V),Tn (off wl h_q8) x:=fun x hm=>by
    simp only [aa6,abA,aam,abE,or_false] at hm;rcases hm with rfl|rfl|rfl|rfl|rfl|rfl|rfl|rfl|rfl|rfl|rfl|rfl
    · exact eL (A.at 16 rfl) (by lia) (by lia)
    · exact eL (A.at 15 rfl) (by split <;> lia) (by split <;> lia)
    · exact eL (A.at 14 rfl) (by lia) (by lia)
    · exact eL (A.at 13 rfl) (by lia) (by lia)
    · exact eL (A.at 12 rfl) (by lia) (by lia)
    · exact eL (A.at 11 rfl) (by lia) (by lia)
    · exact ⟨.tuple [.int i,.bool true],by simp only [Dat,DatAll];exact ⟨p7,_,rfl,A.at 10 rfl,_,_,rfl,rfl,_,_,rfl,rfl,rfl⟩,by simp only [OkD,OkAll];exact ⟨by lia,trivial,trivial⟩,by simp [szD,szAll],by simp [aas,aap]⟩
    · exact ⟨.list [.int i,.int j],by simp only [Dat,DatAll];exact ⟨p8,_,rfl,A.at 9 rfl,_,_,rfl,rfl,_,_,rfl,rfl,rfl⟩,by simp only [OkD,OkAll];exact ⟨by lia,by lia,trivial⟩,by simp [szD,szAll],by simp [aas,aap]⟩
    · exact ⟨dod,Dat.mono (bR A.same) _ _ hod,ood,zod,pod⟩
    · exact ⟨.tuple [.list [],.int 1],by simp only [Dat,DatAll];exact ⟨q2,_,rfl,A.at 6 rfl,_,_,rfl,⟨q1,_,rfl,A.at 7 rfl,rfl⟩,_,_,rfl,rfl,rfl⟩,by simp only [OkD,OkAll];decide,by simp [szD,szAll],by simp [aas,aap]⟩
    · exact ⟨.tuple [.dict [],.int 1],by simp only [Dat,DatAll,DatKv];exact ⟨q4,_,rfl,A.at 4 rfl,_,_,rfl,⟨q3,_,rfl,A.at 5 rfl,rfl⟩,_,_,rfl,rfl,rfl⟩,by simp only [OkD,OkAll];decide,by simp [szD,szAll],by simp [aas,aap,acr]⟩
    · exact ⟨.tuple [.int i,.list [.int j]],by simp only [Dat,DatAll];exact ⟨q6,_,rfl,A.at 2 rfl,_,_,rfl,rfl,_,_,rfl,⟨q5,_,rfl,A.at 3 rfl,_,_,rfl,rfl,rfl⟩,rfl⟩,by simp only [OkD,OkAll];exact ⟨by lia,⟨by lia,trivial⟩,trivial⟩,by simp [szD,szAll],by simp [aas,aap]⟩
  have w8:=wo.keep A.same (aat _);have G3:=G2.trans (But.of A.same);refine ⟨_,rfl,wl,12,_,rfl,by decide,by decide,w8,by lia,fun r12 K2 a12 b12 g12 w12=>?_⟩;obtain ⟨one,hat,hmem⟩:=rS (xs:=([.ref p1,.ref p2,.ref p3,.ref p4,.ref p5,.ref p6,.ref p7,.ref p8]++[od,.ref q2,.ref q4,.ref q6]:List V)) a12 (by show r12 < 12;exact b12)
  replace A:=A.but g12 w12
  have tn1:=(tns one hmem).mono (bz g12);have G4:=G3.trans g12;clear tns;refine ⟨q8,_,_,_,rfl,rfl,SqL.of (A.up 0 rfl),hat,?_⟩;obtain ⟨a,rfl⟩:=ach a1;have hps2:=PairsIn.mono (Tups.of (bz G4)) hps;refine ⟨_,rfl,_,rfl,(a:Int),rfl,sa,_,rfl,SqL.of (A.up 17 rfl),fun r1 n_r1=>?_⟩;rw [fY]
  replace A:=A.new n_r1 (.lst (us.take a))
  generalize upd K2 r1 (.lst (us.take a))=h_r1 at A ⊢;refine ⟨_,rfl,(by show 1≤sizeLine;decide),fun r2 n_r2=>?_⟩
  replace A:=A.new n_r2 (.lst [one])
  generalize upd h_r1 r2 (.lst [one])=h_r2 at A ⊢;refine ⟨r1,r2,_,_,rfl,rfl,A.up 1 rfl,A.up 0 rfl,aK (by simp only [aah,aax,aaI,aar,aaX];lia),fun r3 n_r3=>?_⟩
  replace A:=A.new n_r3 (.lst (us.take a++[one]))
  generalize upd h_r2 r3 (.lst (us.take a++[one]))=h_r3 at A ⊢;refine ⟨_,rfl,_,rfl,_,_,rfl,rfl,(a:Int)+1,rfl,sa,_,rfl,SqL.of (A.up 20 rfl),fun r4 n_r4=>?_⟩;rw [show (a:Int)+1=((a+1:Nat):Int) from rfl,eV]
  replace A:=A.new n_r4 (.lst (us.drop (a+1)))
  generalize upd h_r3 r4 (.lst (us.drop (a+1)))=h_r4 at A ⊢;refine ⟨r3,r4,_,_,rfl,rfl,A.up 1 rfl,A.up 0 rfl,aK (by simp only [aah,aax,aaI,aar,aaX];lia),fun r5 n_r5=>?_⟩
  replace A:=A.new n_r5 (.lst (us.take a++[one]++us.drop (a+1)))
  generalize upd h_r4 r5 (.lst (us.take a++[one]++us.drop (a+1)))=h_r5 at A ⊢;refine ⟨_,rfl,_,rfl,(a:Int),rfl,sa,_,rfl,SqL.of (A.up 22 rfl),fun r6 n_r6=>?_⟩;rw [fY]
  replace A:=A.new n_r6 (.lst (us.take a))
  generalize upd h_r5 r6 (.lst (us.take a))=h_r6 at A ⊢;refine ⟨_,rfl,_,rfl,_,_,rfl,rfl,(a:Int)+1,rfl,sa,_,rfl,SqL.of (A.up 23 rfl),fun r7 n_r7=>?_⟩;rw [show (a:Int)+1=((a+1:Nat):Int) from rfl,eV]
  replace A:=A.new n_r7 (.lst (us.drop (a+1)))
  generalize upd h_r6 r7 (.lst (us.drop (a+1)))=h_r7 at A ⊢;refine ⟨r6,r7,_,_,rfl,rfl,A.up 1 rfl,A.up 0 rfl,aK (by simp only [aah,aax,aaI,aar,aaX];lia),fun r8 n_r8=>?_⟩
  replace A:=A.new n_r8 (.lst (us.take a++us.drop (a+1)))
  generalize upd h_r7 r8 (.lst (us.take a++us.drop (a+1)))=h_r8 at A ⊢;refine ⟨(by show 2≤sizeLine;decide),fun s1 n_s1=>?_⟩
  replace A:=A.new n_s1 (.lst [.ref r5,.ref r8])
  generalize upd h_r8 s1 (.lst [.ref r5,.ref r8])=h_s1 at A ⊢;refine ⟨_,rfl,_,rfl,_,rfl,(a:Int),rfl,sa,_,rfl,SqL.of (A.up 26 rfl),fun t1 n_t1=>?_⟩;rw [fY]
  replace A:=A.new n_t1 (.lst (us.take a))
  generalize upd h_s1 t1 (.lst (us.take a))=h_t1 at A ⊢;refine ⟨_,rfl,(by show 1≤sizeLine;decide),fun t2 n_t2=>?_⟩
  replace A:=A.new n_t2 (.lst [one])
  generalize upd h_t1 t2 (.lst [one])=h_t2 at A ⊢;refine ⟨t1,t2,_,_,rfl,rfl,A.up 1 rfl,A.up 0 rfl,aK (by simp only [aah,aax,aaI,aar,aaX];lia),fun t3 n_t3=>?_⟩
  replace A:=A.new n_t3 (.lst (us.take a++[one]))
  generalize upd h_t2 t3 (.lst (us.take a++[one]))=h_t3 at A ⊢;refine ⟨_,rfl,_,rfl,(a:Int),rfl,sa,_,rfl,SqL.of (A.up 29 rfl),fun t4 n_t4=>?_⟩;rw [eV]
  replace A:=A.new n_t4 (.lst (us.drop a))
  generalize upd h_t3 t4 (.lst (us.drop a))=h_t4 at A ⊢;refine ⟨t3,t4,_,_,rfl,rfl,A.up 1 rfl,A.up 0 rfl,aK (by simp only [aah,aax,aaI,aar,aaX];lia),fun t5 n_t5=>?_⟩
  replace A:=A.new n_t5 (.lst (us.take a++[one]++us.drop a))
  generalize upd h_t4 t5 (.lst (us.take a++[one]++us.drop a))=h_t5 at A ⊢;refine ⟨_,rfl,_,rfl,(a:Int),rfl,sa,_,rfl,SqL.of (A.up 31 rfl),fun t6 n_t6=>?_⟩;rw [fY]
  replace A:=A.new n_t6 (.lst (us.take a))
  generalize upd h_t5 t6 (.lst (us.take a))=h_t6 at A ⊢;refine ⟨_,rfl,_,rfl,_,_,rfl,rfl,_,_,rfl,_,rfl,sa,_,rfl,SqL.of (A.up 32 rfl),fun t7 n_t7=>?_⟩;rw [show (if (a:Int) - 1 > 0 then (a:Int) - 1 else 0)=((a - 1:Nat):Int) by split <;> lia,eV]
  replace A:=A.new n_t7 (.lst (us.drop (a - 1)))
  generalize upd h_t6 t7 (.lst (us.drop (a - 1)))=h_t7 at A ⊢;refine ⟨t6,t7,_,_,rfl,rfl,A.up 1 rfl,A.up 0 rfl,aK (by simp only [aah,aax,aaI,aar,aaX];lia),fun t8 n_t8=>?_⟩
  replace A:=A.new n_t8 (.lst (us.take a++us.drop (a - 1)))
  generalize upd h_t7 t8 (.lst (us.take a++us.drop (a - 1)))=h_t8 at A ⊢;refine ⟨(by show 2≤sizeLine;decide),fun t9 n_t9=>?_⟩
  replace A:=A.new n_t9 (.lst [.ref t5,.ref t8])
  generalize upd h_t8 t9 (.lst [.ref t5,.ref t8])=h_t9 at A ⊢;refine ⟨s1,t9,_,_,rfl,rfl,A.up 9 rfl,A.up 0 rfl,(by show 4≤sizeLine;decide),fun u1 n_u1=>?_⟩
  replace A:=A.new n_u1 (.lst ([.ref r5,.ref r8]++[.ref t5,.ref t8]))
  generalize upd h_t9 u1 (.lst ([.ref r5,.ref r8]++[.ref t5,.ref t8]))=h_u1 at A ⊢;refine ⟨_,rfl,_,rfl,sa,_,rfl,.inl ⟨SqL.of (A.up 36 rfl),fun v1 n_v1=>?_⟩⟩
  replace A:=A.new n_v1 (.tup us)
  generalize upd h_u1 v1 (.tup us)=h_v1 at A ⊢;refine ⟨_,rfl,sa,us,ps,rfl,A.up 37 rfl,PairsIn.mono (Tups.of (off_le.trans (Same.refl _))) (PairsIn.mono (Tups.of (bR A.same)) hps2),by lia,fun v2 n_v2=>?_⟩
  replace A:=A.new n_v2 (.dK (cW [] (ps.map fun p=>((.inl p.1:Key),V.int p.2))))
  generalize upd h_v1 v2 (.dK (cW [] (ps.map fun p=>((.inl p.1:Key),V.int p.2))))=h_v2 at A ⊢;have SK:=bR (p:=wl) A.same;have w13:=w12.keep A.same (aat _);have G5:=G4.trans (But.of A.same);refine ⟨_,rfl,wl,_,rfl,w13,by lia,fun d2 od2 K3 g13 w14 hd2 ok2 z2 p2'=>?_⟩;have G6:=G5.trans g13
  replace A:=A.but g13 w14
  refine ⟨(by show 4≤sizeLine;decide),fun v3 n_v3=>?_⟩
  replace A:=A.new n_v3 (.lst [.ref v1,.ref v2,.non,od2])
  generalize upd K3 v3 (.lst [.ref v1,.ref v2,.non,od2])=h_v3 at A ⊢;refine ⟨u1,v3,_,_,rfl,rfl,A.up 3 rfl,A.up 0 rfl,(by show 8≤sizeLine;decide),fun v4 n_v4=>?_⟩
  replace A:=A.new n_v4 (.lst ([.ref r5,.ref r8]++[.ref t5,.ref t8]++[.ref v1,.ref v2,.non,od2]))
  generalize upd h_v3 v4 (.lst ([.ref r5,.ref r8]++[.ref t5,.ref t8]++[.ref v1,.ref v2,.non,od2]))=h_v4 at A ⊢;refine ⟨_,rfl,(by show 11≤sizeLine;decide),fun x1 n_x1=>?_⟩
  replace A:=A.new n_x1 (.lst [.int 0,.int 0,.int 0,.int 0,.int 1,.int 2,.int 3,.int 4,.int 5,.int 6,.int 7])
  generalize upd h_v4 x1 (.lst [.int 0,.int 0,.int 0,.int 0,.int 1,.int 2,.int 3,.int 4,.int 5,.int 6,.int 7])=h_x1 at A ⊢;have w15:=w14.keep A.same (aat _);have G7:=G6.trans (But.of A.same);have SS:Same (off wl K2) (off wl h_x1):=SK.trans ((bz g13).trans (bR A.same));have dF:=PairsIn.dat (PairsIn.mono (Tups.of SS) hps2);have tF:=tn1.mono SS;have pgs:∀ x∈([.ref r5,.ref r8]++[.ref t5,.ref t8]++[.ref v1,.ref v2,.non,od2]:List V),Pg (off wl h_x1) x:=fun x hm=>by
    simp only [aa6,abA,aam,abE,or_false] at hm;rcases hm with rfl|rfl|rfl|rfl|rfl|rfl|rfl|rfl
    · exact qj dF hsm (by lia) tF (A.at 19 rfl)
    · exact qk dF hsm (by lia) (A.at 16 rfl)
    · exact qj dF hsm (by lia) tF (A.at 10 rfl)
    · exact qk dF hsm (by lia) (A.at 7 rfl)
    · exact pg_tup (A.at 4 rfl) dF (gO hsm) (by rw [d8];lia) (by have:=dP ps;lia)
    · exact rV hsm hl (A.at 3 rfl)
    · exact Tn.pg ⟨.none,by simp only [Dat],by simp only [OkD],by simp [szD],by simp [aas]⟩
    · exact Tn.pg ⟨d2,Dat.mono (bR A.same) _ _ hd2,ok2,z2,p2'⟩
  refine ⟨_,rfl,wl,11,_,rfl,by decide,by decide,w15,by lia,fun r11 K4 a11 b11 g14 w16=>?_⟩
  replace A:=A.but g14 w16
  have ixz:∃ z:Int,atI [V.int 0,.int 0,.int 0,.int 0,.int 1,.int 2,.int 3,.int 4,.int 5,.int 6,.int 7] r11=some (.int z)∧0≤z∧z < 8:=by
    have cs:r11=0∨r11=1∨r11=2∨r11=3∨r11=4∨r11=5∨r11=6∨r11=7∨r11=8∨r11=9∨r11=10:=by lia
    rcases cs with rfl|rfl|rfl|rfl|rfl|rfl|rfl|rfl|rfl|rfl|rfl <;> exact ⟨_,rfl,by decide,by decide⟩
  obtain ⟨z,hz,z0,z8⟩:=ixz;refine ⟨x1,_,_,_,rfl,rfl,SqL.of (A.up 0 rfl),hz,?_⟩;obtain ⟨u,hu,hum⟩:=rS (xs:=([.ref r5,.ref r8]++[.ref t5,.ref t8]++[.ref v1,.ref v2,.non,od2]:List V)) z0 (by show z < 8;exact z8);refine ⟨v4,_,_,_,rfl,rfl,SqL.of (A.up 1 rfl),hu,?_⟩;exact q u K4 (G7.trans g14) (w16.more (by lia)) ((pgs u hum).mono (bz g14))
end
open PySem L2
def mkS (l:List Nat):Str:=⟨l.toArray⟩
theorem fU (a b:List Nat):mkS a++mkS b=mkS (a++b):=by
  show Str.mk (a.toArray++b.toArray)=Str.mk (a++b).toArray;simp
theorem eT (l:List Nat):(mkS l).length=l.length:=by simp [mkS,Str.length]
theorem uk (l:List Nat) (i:Nat):(mkS l).cps[i]?=l[i]?:=by simp [mkS]
theorem qz (l:List Nat):(mkS l).cps.toList=l:=by simp [mkS]
theorem mG (l:List Nat) (a:Nat):∀ n,a+n≤l.length→(((aaQ n).map fun (k:Nat)=>a+k).filterMap fun i=>l[i]?)=(l.drop a).take n:=by
  intro n
  induction n with
  | zero=>intro _;simp
  | succ n ih =>
    intro h;have hl:a+n < l.length:=by lia
    rw [List.range_succ,aaO,List.filterMap_append,ih (by lia)];have e:(l.drop a)[n]?=some l[a+n]:=by rw [List.getElem?_drop];exact aaj hl
    rw [List.take_succ,e];simp [hl]
theorem kw (l:List Nat) (a b:Nat) (hab:a≤b) (hb:b≤l.length) (ix:List Nat) (hix:ix=(aaQ (b - a)).map fun (k:Nat)=>a+k):(if ix.length=(mkS l).length then mkS l else ⟨(ix.filterMap ((mkS l).cps[·]?)).toArray⟩:Str)=mkS ((l.drop a).take (b - a)):=by
  subst hix;have e2:(((aaQ (b - a)).map fun (k:Nat)=>a+k).filterMap ((mkS l).cps[·]?))=(l.drop a).take (b - a):=by
    have : (fun i:Nat=>(mkS l).cps[i]?)=fun i:Nat=>l[i]?:=by funext i;exact uk l i
    rw [this];exact mG l a (b - a) (by lia)
  rw [e2];split
  · rename_i h;rw [aac,List.length_range,eT] at h;have ha:a=0:=by lia
    have hb:b=l.length:=by lia
    subst ha hb;simp
  · rfl
theorem pV (a b:Nat) (hab:a≤b):acz (a:Int) (b:Int) 1=(aaQ (b - a)).map fun (k:Nat)=>a+k:=by
  unfold acz;simp only [show (1:Int) > 0 by decide,if_true];by_cases h:a < b
  · rw [if_pos (by lia)];have e:(((b:Int) - a+1 - 1) / 1).toNat=b - a:=by rw [Int.ediv_one];lia
    rw [e];refine ab7 fun k _=>?_;lia
  · rw [if_neg (by lia)];have : b - a=0:=by lia
    rw [this];rfl
theorem oZ (l:List Nat) (k:Nat) (h:k≤l.length):cY (mkS l) (some (k:Int)) none=mkS (l.drop k):=by
  have e:aaL (some (k:Int)) none 1 (mkS l).length=acz (k:Int) (l.length:Int) 1:=by
    unfold aaL;rw [eT];simp only [show (1:Int) > 0 by decide,if_true];congr 1;lia
  unfold cY;rw [e,kw l k l.length h (aab _) _ (pV k l.length h)];rw [aao (by rw [aaI];exact aab _)]
theorem sH:∀ ls:List (List Nat),Txt.join (mkS []) (ls.map mkS)=mkS ls.flatten:=by
  intro ls;show Builtin.Str.glued (mkS []) (ls.map mkS)=_;rw [StrLaws.glued_eq_join]
  induction ls with
  | nil=>rfl
  | cons a r ih =>
    cases r with
    | nil=>show mkS a=mkS ([a].flatten);simp
    | cons b r =>
      show mkS a++mkS []++acD (mkS []) ((b :: r).map mkS)=_;rw [ih,fU,fU];simp
theorem sG (ls:List (List Nat)) (h:ls.flatten.length≤1000):JoinOk (mkS []) (ls.map mkS)=true:=by
  unfold JoinOk;have e:=StrLaws.joinTotal (mkS []) (ls.map mkS);rw [e];have e2:((ls.map mkS).map (·.length)).sum=ls.flatten.length:=by
    rw [abp,List.length_flatten];exact congrArg List.sum (ab7 fun x _=>eT x)
  rw [e2];have e3:(mkS []).length=0:=rfl;rw [e3,Nat.mul_zero,Nat.add_zero];unfold Builtin.Str.tooLong;rw [decide_eq_false (by have:=aK h;lia)];rfl
theorem pT:∀ gs:List Sg,ah gs=mkS (gs.map Sg.code)
  | []=>by decide +kernel
  | g :: gs=>by
    show g.str++ah gs=_;rw [pT gs,c_];show mkS [g.code]++mkS (gs.map Sg.code)=_;rw [fU];rfl
theorem sM (g:Sg):g.code < 128:=by cases g <;> decide
theorem jt (l:List Nat):cY (mkS l) none (some (-1))=mkS (l.take (l.length - 1)):=by
  by_cases h:l=[]
  · subst h;decide +kernel
  have hl:1≤l.length:=by cases l with
    | nil=>exact absurd rfl h
    | cons a r=>simp
  have e:aaL none (some (-1)) 1 (mkS l).length=acz ((0:Nat):Int) ((l.length - 1:Nat):Int) 1:=by
    unfold aaL;rw [eT];simp only [show (1:Int) > 0 by decide,if_true];congr 1;lia
  unfold cY;rw [e,kw l 0 (l.length - 1) (aaT _) (by lia) _ (pV 0 (l.length - 1) (aaT _))];simp
theorem rh (l:List Nat):cY (mkS l) (some 1) none=mkS (l.drop 1):=by
  by_cases h:l=[]
  · subst h;decide +kernel
  exact oZ l 1 (by cases l with
    | nil=>exact absurd rfl h
    | cons a r=>simp)
def Tx (z:Str):Prop:=z.cps.all (· < 128)=true∧z.length≤100
theorem kn {l:List Nat} (h:∀ c∈l,c < 128) (hl:l.length≤100):Tx (mkS l):=by
  refine ⟨?_,by rw [eT];exact hl⟩;rw [aaW];intro c hc;have : c∈l:=by simpa [mkS] using hc
  exact decide_eq_true (h c this)
theorem jd {z:Str} (h:Tx z):mR (.str z)∧PrD (.str z):=by
  refine ⟨h,by simp [aa5],by simp [aas],?_⟩;have r1:=PySem.StrLaws.reprText_len z fun c hc=>by
    have:=aaW.mp h.1 c (by simpa using hc);have : c < 128:=by simpa using this
    lia
  have:=h.2;simp only [PyData.shown_str];lia
theorem lB {P:Nat→Prop} {y z:Str} (hl:y.length=z.length) (hz:∀ c∈z.cps.toList,P c):∀ ps:List Str,(∀ c∈(acD y ps).cps.toList,P c)→(acD z ps).length=(acD y ps).length∧∀ c∈(acD z ps).cps.toList,P c
  | [],h=>⟨rfl,h⟩
  | [x],h=>⟨rfl,h⟩
  | x :: x' :: r,h=>by
    have e1:acD y (x :: x' :: r)=x++y++acD y (x' :: r):=rfl;have e2:acD z (x :: x' :: r)=x++z++acD z (x' :: r):=rfl;have ap:∀ a b:Str,(a++b).cps.toList=a.cps.toList++b.cps.toList:=fun a b=>by rw [show (a++b).cps=a.cps++b.cps from rfl,abP]
    rw [e1,ap,ap] at h;obtain ⟨i1,i2⟩:=lB hl hz (x' :: r) fun c hc=>h c (aae _ hc);rw [e1,e2];refine ⟨by rw [dC,dC,dC,dC,i1,hl],fun c hc=>?_⟩;rw [ap,ap] at hc;rcases aaz.mp hc with hc|hc
    · rcases aaz.mp hc with hc|hc
      · exact h c (aaD _ (aaD _ hc))
      · exact hz c hc
    · exact i2 c hc
theorem rL {z:Str} (h:Tx z):Tx (ab1 z "+" "x"):=by
  have e:ab1 z "+" "x" = acD "x" (Txt.split z ⟨#[43]⟩):=StrLaws.replace_one z "x" 43;have j:=StrLaws.join_split z ⟨#[43]⟩;have al:∀ c∈z.cps.toList,c < 128:=fun c hc=>by
    have:=aaW.mp h.1 c (by simpa using hc);simpa using this
  obtain ⟨a,b⟩:=lB (P:=fun c=>c < 128) (y:=⟨#[43]⟩) (z:="x") (by decide +kernel) (by decide +kernel) (Txt.split z ⟨#[43]⟩) (by rw [j];exact al);rw [j] at a;rw [e];refine ⟨?_,by rw [a];exact h.2⟩;rw [aaW];intro c hc;exact decide_eq_true (b c (by simpa using hc))
def Bt (a b:Addr) (H H':Hp):Prop:=∀ c o,c≠a→c≠b→H c=some o→H' c=some o
theorem gN {H:Hp}:∀ {ps:PS} {us:List V} {k:Nat},PairsIn H ps us→PairsIn H (ps.eraseIdx k) (us.eraseIdx k)
  | _,_,k,.nil=>by simp;exact .nil
  | _,_,0,.cons _ t=>t
  | _,_,k+1,.cons a t=>.cons a (gN t)
theorem tK {i:Int} {n:Nat} (h0:0≤i) (h1:i < n):seqIndex? i n=some i.toNat:=by
  unfold seqIndex?;simp only [if_neg (show ¬ i < 0 by lia)];rw [if_pos (by rw [decide_eq_true h0,decide_eq_true h1];rfl)]
theorem jg {H:Hp} {wl:Addr} {M:Int} (w:Wel H wl M):∀ {ps:PS} {us:List V},PairsIn H ps us→PairsIn (off wl H) ps us
  | _,_,.nil=>.nil
  | _,_,.cons ⟨a,e,h⟩ r=>.cons ⟨a,e,by
      have ne:a≠wl:=fun z=>by
        obtain ⟨_,_,_,y,_⟩:=w;rw [z,y] at h;cases h
      exact (bK ne).trans h⟩ (jg w r)
theorem ol {H:Hp} {ps:PS} {us:List V} (h:PairsIn H ps us):PairsIn H ps.reverse us.reverse:=by
  induction h with
  | nil=>exact .nil
  | cons a _ ih=>rw [abN,abN];exact PairsIn.app ih (.cons a .nil)
theorem js {H:Hp}:∀ l:List Nat,DatAll H (l.map fun c=>.str ⟨#[c]⟩) (l.map fun c=>V.str ⟨#[c]⟩)
  | []=>by simp only [aa4,DatAll]
  | c :: l=>by simp only [aau,DatAll];exact ⟨_,_,rfl,by simp only [Dat],js l⟩
def Ck (c:Nat):Prop:=(reprText ⟨#[c]⟩).length≤20
theorem sL (g:Sg):Ck g.code:=by unfold Ck;cases g <;> decide +kernel
theorem qf {l:List Nat} (hl:l.length≤100) (h:∀ c∈l,Ck c):PrD (.list (l.map fun c=>.str ⟨#[c]⟩)):=by
  have key:OkAll (l.map fun c=>.str ⟨#[c]⟩)∧szAll (l.map fun c=>PyData.str ⟨#[c]⟩)=l.length∧aap (l.map fun c=>PyData.str ⟨#[c]⟩)=0:=by
    clear hl
    induction l with
    | nil=>exact ⟨by simp only [aa4,OkAll],rfl,rfl⟩
    | cons c l ih =>
      obtain ⟨a,b,d⟩:=ih fun x hx=>h x (aaf _ hx);refine ⟨by simp only [aau,OkAll,OkD];exact ⟨h c aag,a⟩,by simp only [aau,szAll,szD,b,aar];lia,by simp only [aau,aap,aas,d];rfl⟩
  exact fS (by simp only [OkD];exact key.1) (by simp only [szD,key.2.1];lia) (by simp only [aas,key.2.2];lia)
theorem ni {A:List PyData} {d:PyData} (h:bx d=false):bV (.list (A++[d]))=false:=by
  show (decide (1≤_) && decide (_≤9) && (A++[d]).all bx)=false;rw [abW];simp [h]
theorem pj:res [4] (some ([],[]))=some (.num 4):=by decide +kernel
theorem rJ:res [1,2] (some ([.minus],[(0,1)]))=some (.node .minus (.num 1) (.num 2)):=by decide +kernel
def m9 (K:aaa):Sp:=fun vs H Q _=>∃ (a:Addr) (ns:List Int),vs=[.ref a]∧SqL K H a (ns.map V.int)∧ns.length≤63∧∀ H',Q (.bl true) H'
theorem lH (ns:List Int) (lo hi:Option Int):∃ ms:List Int,d7 (ns.map V.int) lo hi=ms.map V.int∧ms.length≤ns.length:=by
  refine ⟨(ns.drop (HT.sIx ns.length 0 lo)).take (HT.sIx ns.length ns.length hi - HT.sIx ns.length 0 lo),?_,?_⟩
  · unfold d7;rw [aac,List.map_take,List.map_drop]
  · rw [aax,aaI];lia
theorem rd {H:Hp} {d:PyData} {v:V} (h:Dat H d v):∀ n,DatAll H (aaB n d) (aaB n [v]).flatten
  | 0=>by simp only [List.replicate_zero,List.flatten_nil,DatAll]
  | n+1=>by simp only [abn,abw,DatAll];exact ⟨v,_,rfl,h,rd h n⟩
section
variable {P:Program} {w:World} {K:aaa} {mg:Str→Option Value} {base:Heap} {f:Addr} {fd:FuncData}
theorem me {aR:Addr} (F:Fun K "way_by" "way_by" fP f fd) (B:Bu K mg) (C_need_row:mQ P w K mg base "need_row" 3 ["thing"] (dD aR)) (C_are_signs_between:Cal P w K mg base "are_signs_between" 2 ["thing","joints"] m_) (C_are_stretches:Cal P w K mg base "are_stretches" 3 ["thing","joints"] mY)
    (C_join_stretch:Cal P w K mg base "join_stretch" 12 ["row","between","stretches","stretch"] (ic 10)) (C_stretches_of:Cal P w K mg base "stretches_of" 43 ["way"] cB):FnOk P w K mg base CX0 44 f fd ["row","between","stretches"] je:=by
  exact (jj F B C_need_row C_are_signs_between C_are_stretches C_join_stretch C_stretches_of).down.imp fun vs H Q E ⟨r,ns,e,b,g,t,cs,e1,e2,e3,e4,e5,e6,e7,e8,e9,q⟩=>⟨rD ns,.ref r,e,b,g,t,e1,jN e2,e5,e6,e7,e8,fun z=>absurd (sU e3 e4) (by rw [z];simp),fun _=>⟨r,ns,cs,rfl,e2,e3,e4,e9,q⟩⟩
abbrev fQ:Stmt:=top 49
theorem cQ:FnScope ["script","cell","well","row","way","between","left","stretches","others","some","bad"] ["script"] (am fQ):=⟨rfl,rfl,rfl,by decide +kernel,rfl,by decide +kernel,by decide +kernel⟩
theorem uh (F:Fun K "law" "law" fQ f fd) (B:Bu K mg) (C__law_well:Cal P w K mg base "_law_well" 1 ["cell"] lU) (C__law_draw:Cal P w K mg base "_law_draw" 2 ["well","many"] d_) (C__law_row:Cal P w K mg base "_law_row" 4 ["well","many"] pN) (C__law_way:Cal P w K mg base "_law_way" 11 ["well","row","signs"] (mX 9)) (C__law_tokens:Cal P w K mg base "_law_tokens" 1 ["way"] fL)
    (C__law_stretches:Cal P w K mg base "_law_stretches" 2 ["way"] pP) (C__law_spoilt:Cal P w K mg base "_law_spoilt" 4 ["well","many","stretches"] pM) (C__law_right:Cal P w K mg base "_law_right" 46 ["row","between","stretches"] jG) (C__law_told:Cal P w K mg base "_law_told" 45 ["row","between","stretches"] jE) (C_way_by:Cal P w K mg base "way_by" 44 ["row","between","stretches"] je):FnOk P w K mg base CX0 47 f fd ["script"] (m9 K):=by
  refine F.ok cQ (fun vs H Q E h=>?_) (fun cdv A outer s H vs Q E hr h=>?_)
  · obtain ⟨a,ns,rfl,_⟩:=h;rfl
  obtain ⟨a,ns,rfl,hS,h63,q⟩:=h;refine ⟨_,(@ag _ _ _ _ _ (@fF _ _ _ _ _ _ _ _ abq rfl (@bM _ _ _ _ (@ar _ _ _ _ _ _ _ _ bo (@aw _ _ _ _ (@aa _ _ _ _ _ af ae (by rfl))) (@bu _ _ _ _ _ _ _ _ _ _ bS (pv 0) bE (@bD _ _ _ af)))) (@aB _ _ (1) _ (cQ).nd rfl (Or.inl rfl) (.inl rfl)) (@ag _ _ _ _ _ (@au _ _ (2) _ _ _ _ (cQ).nd rfl (Or.inr rfl) (@ak _ _ _ _ _ _ _ _ _ _ _ C__law_well hr (by lia) rfl (@aa _ _ _ _ _ (pv 1) ae (by rfl)) (by decide) (by rfl) (by rfl)) (by rfl) (by first|exact .inl rfl|exact .inr rfl|assumption)) (@ag _ _ _ _ _ (@au _ _ (3) _ _ _ _ (cQ).nd rfl (Or.inr rfl) (@ak _ _ _ _ _ _ _ _ _ _ _ C__law_row hr (by lia) rfl (@aa _ _ _ _ _ (pv 2) (@aa _ _ _ _ _ (@ar _ _ _ _ _ _ _ _ bI af (@ak _ _ _ _ _ _ _ _ _ _ _ C__law_draw hr (by lia) rfl (@aa _ _ _ _ _ (pv 2) (@aa _ _ _ _ _ af ae (by rfl)) (by rfl)) (by decide) (by rfl) (by rfl))) ae (by rfl)) (by rfl)) (by decide) (by rfl) (by rfl)) (by rfl) (by first|exact .inl rfl|exact .inr rfl|assumption)) (@ag _ _ _ _ _ (@au _ _ (4) _ _ _ _ (cQ).nd rfl (Or.inl rfl) (@ak _ _ _ _ _ _ _ _ _ _ _ C__law_way hr (by lia) rfl (@aa _ _ _ _ _ (pv 2) (@aa _ _ _ _ _ (pv 3) (@aa _ _ _ _ _ aU ae (by rfl)) (by rfl)) (by rfl)) (by decide) (by rfl) (by rfl)) (by rfl) (by first|exact .inl rfl|exact .inr rfl|assumption)) (@ag _ _ _ _ _ (@au _ _ (5) _ _ _ _ (cQ).nd rfl (Or.inl rfl) (@fe _ _ _ _ _ _ _ _ _ _ _ _ PySem.F.plainAttrs_str PySem.F.slot_str_join PySem.F.type_str_join lc aU (@aa _ _ _ _ _ (@dU _ _ _ _ _ _ _ _ (["one"]) ([none]) _ _ _ _ rfl (@bM _ _ _ _ (@ak _ _ _ _ _ _ _ _ _ _ _ C__law_tokens hr (by lia) rfl (@aa _ _ _ _ _ (pv 4) ae (by rfl)) (by decide) (by rfl) (by rfl))) rfl trivial trivial (fun _ _ _ _=>⟨(@aB _ _ (0) _ (show abl (["one"]:List Str) by decide +kernel) rfl (Or.inl rfl) (.inr rfl)),(@eE _ _ _ (@PW.pt _ _ _ (@gB _ _ _ _ _ _ _ (@bf _ _ _ (@aj _ _ _ _ _ _ _ _ _ (@kh _ _ ("str") rfl) rfl B.iisinstance aad (@aa _ _ _ _ _ (pv 0) (@aa _ _ _ _ _ (@bj _ _ (.ty "str") _ _ rfl B.istr abK rfl (by decide) (by decide)) ae (by rfl)) (by rfl)) (by decide) (by decide) (by rfl) (by rfl)) (by intro _;rfl)) (@fR _ _ _ _ (@aD _ _ _ _ _ _ _ _ on (pv 0) aU (by with_unfolding_all rfl)))))),(pv 0)⟩) (by rfl) (by rfl) (by rfl) (by rfl) (by intro _;rfl)) ae (by rfl)) (by rfl) (by rfl) (by rfl) (by rfl) (by rfl)) (by rfl) (by first|exact .inl rfl|exact .inr rfl|assumption)) (@ag _ _ _ _ _ (@au _ _ (6) _ _ _ _ (cQ).nd rfl (Or.inr rfl) (@ak _ _ _ _ _ _ _ _ _ _ _ C__law_stretches hr (by lia) rfl (@aa _ _ _ _ _ (pv 4) ae (by rfl)) (by decide) (by rfl) (by rfl)) (by rfl) (by first|exact .inl rfl|exact .inr rfl|assumption)) (@ag _ _ _ _ _ (@au _ _ (7) _ _ _ _ (cQ).nd rfl (Or.inr rfl) (@dU _ _ _ _ _ _ _ _ (["k","left","well"]) ([none,some 6,some 2]) _ _ _ _ rfl (@eP _ _ _ _ _ _ rfl B.irange (@aa _ _ _ _ _ (@aj _ _ _ _ _ _ _ _ _ ax rfl B.ilen aaE (@aa _ _ _ _ _ (pv 6) ae (by rfl)) (by decide) (by decide) (by rfl) (by rfl)) ae (by rfl)) (by rfl)) rfl ⟨rfl,⟨rfl,trivial⟩⟩ ⟨⟨rfl,Or.inl rfl,Or.inl rfl⟩,⟨⟨rfl,Or.inl rfl,Or.inl rfl⟩,trivial⟩⟩ (fun _ _ _ _=>⟨(@aB _ _ (0) _ (show abl (["k","left","well"]:List Str) by decide +kernel) rfl (Or.inl rfl) (.inr rfl)),b_,(@tY _ _ _ _ _ _ _ _ _ _ _ _ _ rfl aaH abZ ab0 qx (pv 1) (@aa _ _ _ _ _ (@ak _ _ _ _ _ _ _ _ _ _ _ C__law_draw hr (by lia) rfl (@aa _ _ _ _ _ (pv 2) (@aa _ _ _ _ _ (@aj _ _ _ _ _ _ _ _ _ (@fk _ _ rfl) rfl B.ilen aaE (@aa _ _ _ _ _ (pv 1) ae (by rfl)) (by decide) (by decide) (by rfl) (by rfl)) ae (by rfl)) (by rfl)) (by decide) (by rfl) (by rfl)) ae (by rfl)) (by rfl) (by rfl) (by rfl) (by rfl) (by rfl))⟩) (by rfl) (by rfl) (by rfl) (by rfl) (by intro _;rfl)) (by rfl) (by first|exact .inl rfl|exact .inr rfl|assumption)) (@ag _ _ _ _ _ (@au _ _ (8) _ _ _ _ (cQ).nd rfl (Or.inl rfl) (@aw _ _ _ _ (u8 Tk.constS aU (iq (ar iA (pv 5) aU) (iq (bu pQ (pv 5) (bD af) bE) (iq (ar iA (bu pQ (pv 5) bE (bD (qm lP af))) aU) (jf (ql (pv 5) rfl (by decide)) (PA.k (aa bw (aa (dy (iT rfl) rfl B.ilist abT (aa (pv 5) ae)) (aa af ae)))))))))) (by rfl) (by first|exact .inl rfl|exact .inr rfl|assumption)) (@ag _ _ _ _ _ (@fF _ _ _ _ _ _ _ _ abq rfl (@bM _ _ _ _ (@ar _ _ _ _ _ _ _ _ bo (@aw _ _ _ _ (@aa _ _ _ _ _ (pv 7) (@aa _ _ _ _ _ (@tX _ _ _ _ _ _ _ (pv 7) (@qm _ _ _ _ _ _ lP af)) ae (by rfl)) (by rfl))) (@dU _ _ _ _ _ _ _ _ (["turn","well","stretches","row"]) ([none,some 2,some 7,some 3]) _ _ _ _ rfl (@eP _ _ _ _ _ _ rfl B.irange (@aa _ _ _ _ _ af ae (by rfl)) (by rfl)) rfl ⟨rfl,⟨rfl,⟨rfl,trivial⟩⟩⟩ ⟨⟨rfl,Or.inl rfl,Or.inl rfl⟩,⟨⟨rfl,Or.inl rfl,Or.inl rfl⟩,⟨⟨rfl,Or.inl rfl,Or.inl rfl⟩,trivial⟩⟩⟩ (fun _ _ _ _=>⟨(@aB _ _ (0) _ (show abl (["turn","well","stretches","row"]:List Str) by decide +kernel) rfl (Or.inl rfl) (.inr rfl)),b_,(@ak _ _ _ _ _ _ _ _ _ _ _ C__law_spoilt hr (by lia) rfl (@aa _ _ _ _ _ (pv 1) (@aa _ _ _ _ _ (@aj _ _ _ _ _ _ _ _ _ (@fk _ _ rfl) rfl B.ilen aaE (@aa _ _ _ _ _ (pv 3) ae (by rfl)) (by decide) (by decide) (by rfl) (by rfl)) (@aa _ _ _ _ _ (pv 2) ae (by rfl)) (by rfl)) (by rfl)) (by decide) (by rfl) (by rfl))⟩) (by rfl) (by rfl) (by rfl) (by rfl) (by intro _;rfl)))) (@aB _ _ (9) _ (cQ).nd rfl (Or.inl rfl) (.inl rfl)) (@ai _ _ _ (@br _ _ _ _ _ _ _ _ (@bQ _ _ _ _ (@bf _ _ _ (@ak _ _ _ _ _ _ _ _ _ _ _ C__law_right hr (by lia) rfl (@aa _ _ _ _ _ (pv 3) (@aa _ _ _ _ _ (pv 5) (@aa _ _ _ _ _ (pv 9) ae (by rfl)) (by rfl)) (by rfl)) (by decide) (by rfl) (by rfl)) (by intro _;rfl))) (@ai _ _ _ (@av _ _ _ _ dc)) aV)) (by intro _;rfl)) (@ag _ _ _ _ _ (@br _ _ _ _ _ _ _ _ (@bQ _ _ _ _ (@bf _ _ _ (@ak _ _ _ _ _ _ _ _ _ _ _ C__law_right hr (by lia) rfl (@aa _ _ _ _ _ (pv 3) (@aa _ _ _ _ _ (@aE _ _ _ _ _ _ _ ix_list (pv 8) (@ak _ _ _ _ _ _ _ _ _ _ _ C__law_draw hr (by lia) rfl (@aa _ _ _ _ _ (pv 2) (@aa _ _ _ _ _ af ae (by rfl)) (by rfl)) (by decide) (by rfl) (by rfl)) (fun _ _=>rfl)) (@aa _ _ _ _ _ (pv 7) ae (by rfl)) (by rfl)) (by rfl)) (by decide) (by rfl) (by rfl)) (by intro _;rfl))) (@ai _ _ _ (@av _ _ _ _ dc)) aV) (@ag _ _ _ _ _ (@au _ _ (10) _ _ _ _ (cQ).nd rfl (Or.inl rfl) (@aE _ _ _ _ _ _ _ ix_list (@aw _ _ _ _ (@aa _ _ _ _ _ (@dy _ _ _ _ _ _ _ _ _ fj rfl B.ituple abf (@aa _ _ _ _ _ (pv 3) ae (by rfl)) (by decide) (by decide) (by rfl) (by rfl)) (@aa _ _ _ _ _ (@ar _ _ _ _ _ _ _ _ bo (pv 3) (@ar _ _ _ _ _ _ _ _ qp (@aw _ _ _ _ (@aa _ _ _ _ _ af ae (by rfl))) af)) (@aa _ _ _ _ _ (@aw _ _ _ _ ae) (@aa _ _ _ _ _ bw (@aa _ _ _ _ _ (@ar _ _ _ _ _ _ _ _ bo (@bu _ _ _ _ _ _ _ _ _ _ bS (pv 3) bE (@bD _ _ _ (@qm _ _ _ _ _ _ lP af))) (@aw _ _ _ _ (@aa _ _ _ _ _ dc ae (by rfl)))) (@aa _ _ _ _ _ (@ar _ _ _ _ _ _ _ _ bo (pv 3) (@aw _ _ _ _ (@aa _ _ _ _ _ bw ae (by rfl)))) ae (by rfl)) (by rfl)) (by rfl)) (by rfl)) (by rfl)) (by rfl))) (@ak _ _ _ _ _ _ _ _ _ _ _ C__law_draw hr (by lia) rfl (@aa _ _ _ _ _ (pv 2) (@aa _ _ _ _ _ af ae (by rfl)) (by rfl)) (by decide) (by rfl) (by rfl)) (fun _ _=>rfl)) (by rfl) (by first|exact .inl rfl|exact .inr rfl|assumption)) (@ai _ _ _ (@br _ _ _ _ _ _ _ _ (@PW.pt _ _ _ (@cH _ _ _ _ _ _ _ (@aD _ _ _ _ _ _ _ _ dW (@ak _ _ _ _ _ _ _ _ _ _ _ C__law_told hr (by lia) rfl (@aa _ _ _ _ _ (pv 10) (@aa _ _ _ _ _ (pv 5) (@aa _ _ _ _ _ (pv 7) ae (by rfl)) (by rfl)) (by rfl)) (by decide) (by rfl) (by rfl)) aU (aJ _)) (@cK _ _ _ _ (@aD _ _ _ _ _ _ _ _ dW (@ak _ _ _ _ _ _ _ _ _ _ _ C__law_told hr (by lia) rfl (@aa _ _ _ _ _ (pv 10) (@aa _ _ _ _ _ bw (@aa _ _ _ _ _ af ae (by rfl)) (by rfl)) (by rfl)) (by decide) (by rfl) (by rfl)) aU (aJ _))))) (@ai _ _ _ (@av _ _ _ _ dc)) aV)))))))))))) (by intro _;rfl)) (@ai _ _ _ (@av _ _ _ _ (@dJ _ _ _ _ _ _ _ (@cE _ _ _ _ _ _ _ _ fg (@ak _ _ _ _ _ _ _ _ _ _ _ C_way_by hr (by lia) rfl (@aa _ _ _ _ _ (@aw _ _ _ _ (@aa _ _ _ _ _ af ae (by rfl))) (@aa _ _ _ _ _ aU (@aa _ _ _ _ _ (@aw _ _ _ _ ae) ae (by rfl)) (by rfl)) (by rfl)) (by decide) (by rfl) (by rfl)) af (aJ _)) (@dJ _ _ _ _ _ _ _ (@cE _ _ _ _ _ _ _ _ (@ua _ hr.units) (@ak _ _ _ _ _ _ _ _ _ _ _ C_way_by hr (by lia) rfl (@aa _ _ _ _ _ (@aw _ _ _ _ (@aa _ _ _ _ _ af (@aa _ _ _ _ _ af ae (by rfl)) (by rfl))) (@aa _ _ _ _ _ aU (@aa _ _ _ _ _ (@aw _ _ _ _ (@aa _ _ _ _ _ (@aX _ _ _ _ _ (@aa _ _ _ _ _ af (@aa _ _ _ _ _ af ae (by rfl)) (by rfl))) ae (by rfl))) ae (by rfl)) (by rfl)) (by rfl)) (by decide) (by rfl) (by rfl)) (@aX _ _ _ _ _ (@aa _ _ _ _ _ aU (@aa _ _ _ _ _ af (@aa _ _ _ _ _ af ae (by rfl)) (by rfl)) (by rfl))) (aJ _)) (@fG _ _ _ _ _ (@cE _ _ _ _ _ _ _ _ iy (@ak _ _ _ _ _ _ _ _ _ _ _ C_way_by hr (by lia) rfl (@aa _ _ _ _ _ (@aw _ _ _ _ (@aa _ _ _ _ _ af (@aa _ _ _ _ _ af ae (by rfl)) (by rfl))) (@aa _ _ _ _ _ aU (@aa _ _ _ _ _ (@aw _ _ _ _ ae) ae (by rfl)) (by rfl)) (by rfl)) (by decide) (by rfl) (by rfl)) bw (aJ _)))))))),?_⟩;refine ⟨(by show 1≤sizeLine;decide),fun p1 n1=>?_⟩;have g1:=Same.new n1 (.lst [.int 0]);refine ⟨_,rfl,20,rfl,a,_,rfl,g1.seq hS,fun p2 n2=>?_⟩;obtain ⟨ms,em,hm⟩:=lH ns none (some 20);rw [em];have g2:=Same.new n2 (.lst (ms.map V.int));refine ⟨p1,p2,_,_,rfl,rfl,g2 _ _ upd_same,upd_same,aK (by rw [aac];show 1+ms.length≤1000;lia),fun p3 n3=>?_⟩;have e3:upd (upd (upd H p1 (.lst [.int 0])) p2 (.lst (ms.map V.int))) p3 (.lst ([.int 0]++ms.map V.int)) p3=_:=upd_same;have el:[V.int 0]++ms.map V.int=(0 :: ms).map V.int:=rfl;rw [el] at e3 ⊢;generalize upd (upd (upd H p1 (.lst [.int 0])) p2 (.lst (ms.map V.int))) p3 (.lst ((0 :: ms).map V.int))=H3 at e3 ⊢;refine ⟨p3,rfl,⟨_,SqL.of e3⟩,iQ (Trn.list (xs:=(0 :: ms).map V.int)) (fun i σ H'=>∃ c1 c2 c3 c4 c5 c6 c7 c8 c9 c10,σ=[some (.ref a),c1,c2,c3,c4,c5,c6,c7,c8,c9,c10]∧Same H3 H') ⟨_,_,_,_,_,_,_,_,_,_,rfl,Same.refl _⟩ (fun i σ H' hi z=>?_) (fun i x σ H4' H4 hi it z=>?_) (fun σ H' z=>?_)⟩
  · obtain ⟨_,_,_,_,_,_,_,_,_,_,rfl,S⟩:=z;exact SqL.of (S _ _ e3)
  · obtain ⟨c1,c2,c3,c4,c5,c6,c7,c8,c9,c10,rfl,S4⟩:=z;obtain ⟨rfl,hx⟩:=it;rw [aaU] at hx;obtain ⟨c,_,rfl⟩:=aaV.mp hx;refine ⟨_,rfl,c,rfl,fun wl ca cb H5 g5 nw ew=>?_⟩;have w5:Wel H5 wl 0:=⟨ca,cb,0,ew,by lia,by lia⟩
    refine ⟨_,rfl,_,rfl,wl,9,_,rfl,by decide,by decide,w5,by lia,fun r1 H6 a1 b1 k6 w6=>⟨_,_,rfl,rfl,wl,1+r1,_,rfl,by lia,by lia,w6,by lia,fun r rs H7 k7 w7 nr er hlen sm=>?_⟩⟩;have n1':1≤rs.length:=by lia
    have n9':rs.length≤9:=by lia
    have nrw:r≠wl:=w6.ne nr;refine ⟨_,rfl,_,rfl,wl,r,[.plus,.minus,.times],rs,_,rfl,er,nrw,n1',n9',by decide,by decide,by decide,w7,by lia,fun vw wy H8 hw8 en8 _ k8 w8=>?_⟩;have er8:=k8 _ _ nrw er;have z1:wy.size=rs.length:=by rw [← wy.nums_len,en8]
    have dlw:=wy.deep_le;have tl:=wy.tks_len;refine ⟨rfl,_,rfl,wy,vw,rfl,hw8,by lia,fun pt H9 s9 npt ept=>⟨pt,rfl,⟨_,SqL.of ept⟩,dY (Trn.list (xs:=wy.tks.map Tk.v)) (fun i ys H'=>H'=H9∧∃ gs:List Sg,ys=gs.map (fun g=>V.str g.str)∧gs.length≤i) ⟨rfl,[],rfl,aab _⟩ (fun i ys H' hi zz=>?_) (fun i x ys Hq' Hq hi hx zz Nx nx=>?_) (fun ys Hq zz pB nB=>?_)⟩⟩
    · obtain ⟨rfl,gs,rfl,hg⟩:=zz;rw [aac] at hi;exact ⟨SqL.of ept,ay (by rw [aac];lia)⟩
    · obtain ⟨rfl,gs,rfl,hg⟩:=zz;obtain ⟨rfl,hx⟩:=hx;rw [aaU] at hx;obtain ⟨t,_,rfl⟩:=aaV.mp hx;cases t with
      | num k=>exact ⟨_,rfl,_,_,false,rfl,.int k,rfl,false,rfl,aC (aC (nx _ _ ⟨rfl,gs,rfl,by lia⟩))⟩
      | opn=>exact ⟨_,rfl,_,_,true,rfl,.str _,rfl,true,rfl,aI ⟨_,rfl,_,_,rfl,rfl,false,congrArg V.bl (by decide +kernel),aC (nx _ _ ⟨rfl,gs,rfl,by lia⟩)⟩⟩
      | cls=>exact ⟨_,rfl,_,_,true,rfl,.str _,rfl,true,rfl,aI ⟨_,rfl,_,_,rfl,rfl,false,congrArg V.bl (by decide +kernel),aC (nx _ _ ⟨rfl,gs,rfl,by lia⟩)⟩⟩
      | sg g=>exact ⟨_,rfl,_,_,true,rfl,.str _,rfl,true,rfl,aI ⟨_,rfl,_,_,rfl,rfl,true,congrArg V.bl (by cases g <;> decide +kernel),aI ⟨_,rfl,nx _ _ ⟨rfl,gs++[g],by rw [aaO];rfl,by rw [aah];show _+1≤_;lia⟩⟩⟩⟩
    obtain ⟨rfl,gs,rfl,hgl⟩:=zz;rw [aac] at hgl;have kB:=Same.new nB (.lst (gs.map (fun g=>V.str g.str)));have eB:gs.map (fun g=>V.str g.str)=((gs.map fun g=>[g.code]).map mkS).map V.str:=by
      rw [abp,abp];apply ab7;intro g _;show V.str g.str=V.str (mkS [g.code]);rw [c_];rfl
    have fl:(gs.map fun g=>[g.code]).flatten=gs.map Sg.code:=by
      clear eB kB nB hgl
      induction gs with
      | nil=>rfl
      | cons g gs ih=>rw [aau,abw,ih];rfl
    have emp:("":Str)=mkS []:=by decide +kernel
    refine ⟨_,pB,(gs.map fun g=>[g.code]).map mkS,rfl,rfl,SqL.of (upd_same.trans (by rw [eB])),by rw [emp];exact sG _ (by rw [fl,aac];lia),?_⟩;rw [emp,sH,fl,← pT];generalize upd Hq pB (.lst (gs.map (fun g=>V.str g.str)))=HA at kB ⊢;have sA:=s9.trans kB;have wA:=w8.keep sA (aat _);have erA:=sA _ _ er8;have hwA:=hw8.mono (Tups.of sA);clear eB fl ept s9 kB;refine ⟨_,rfl,wy,vw,rfl,hwA,by lia,fun pL us ps HB sB npL epL hpsL hpl hbd=>?_⟩;have wB:=wA.keep sB (aat _);have nLw:pL≠wl:=wA.ne npL;have nLr:pL≠r:=fun e=>by rw [e,erA] at npL;cases npL
    have luL:=hpsL.length;refine ⟨_,rfl,pL,_,rfl,.inl (SqL.of epL),(us.length:Int),rfl,by lia,by lia,dY (Trn.range (lo:=0) (n:=((us.length:Int)).toNat)) (fun i ys H'=>Bt wl pL HB H'∧Wel H' wl (2000+i)∧∃ us' ps' qs,H' pL=some (.lst us')∧PairsIn H' ps' us'∧PairsIn H' qs ys∧qs.length=i∧ps'.length+i=ps.length∧(∀ x∈ps'++qs,x∈ps)) ⟨fun _ _ _ _ h=>h,wB.more (by lia),us,ps,[],epL,hpsL,.nil,rfl,rfl,fun x hx=>by simpa using hx⟩ (fun i ys H' hi zz=>⟨trivial,?_⟩) (fun i x ys Hq' Hc hi hx zz Nx nx=>?_) (fun ys HC zz pS nS=>?_)⟩
    · obtain ⟨_,_,_,_,qs,_,_,hq,hql,_⟩:=zz;exact ay (by have:=hq.length;lia)
    · obtain ⟨rfl,rfl⟩:=hx;obtain ⟨bt,wq,us',ps',qs,eq1,hp1,hq1,l1,l2,mem⟩:=zz;have lu1:=hp1.length;have hi':i < us.length:=by lia
      refine ⟨_,rfl,.inl ⟨rfl,_,SqL.of eq1⟩,_,rfl,_,rfl,pL,_,rfl,.inl (SqL.of eq1),wl,_,_,rfl,by lia,by lia,wq,by lia,fun rr Hd ra rb gd wd=>?_⟩;have hk:rr.toNat < us'.length:=by lia
      have epd:=gd _ _ nLw eq1;refine ⟨pL,us',rr,rr.toNat,us'[rr.toNat],rfl,rfl,epd,by lia,by lia,tK (by lia) (by lia),aaj hk,?_⟩;have tu:=wq.tups gd;have hp2:=PairsIn.mono tu hp1;have hq2:=PairsIn.mono tu hq1;have tL:Tups Hd (upd Hd pL (.lst (us'.eraseIdx rr.toNat))):=dt epd;obtain ⟨pp,hpp,hppin⟩:=iw hp2 (aaj hk);refine nx _ _ ⟨fun b o h1 h2 e=>by rw [aq h2];exact gd _ _ h1 (bt b o h1 h2 e),?_,us'.eraseIdx rr.toNat,ps'.eraseIdx rr.toNat,qs++[pp],upd_same,PairsIn.mono tL (gN hp2),PairsIn.app (PairsIn.mono tL hq2) (.cons (PairIn.mono tL hppin) .nil),by rw [aah,l1];rfl,?_,fun x hx=>?_⟩
      · obtain ⟨x1,x2,x3,e,y1,y2⟩:=wd;exact ⟨x1,x2,x3,by rw [aq (abc nLw)];exact e,y1,by lia⟩
      · rw [List.length_eraseIdx_of_lt (by lia)];lia
      · rcases aaz.mp hx with hx|hx
        · exact mem x (aaD _ (List.mem_of_mem_eraseIdx hx))
        · rcases aaz.mp hx with hx|hx
          · exact mem x (aae _ hx)
          · rw [aaG.mp hx];exact mem pp (aaD _ (abg hpp))
    obtain ⟨bt,wC,us',ps',qs,eqC,_,hqC,lq1,_,mem⟩:=zz;have kS:=Same.new nS (.lst ys);have nSw:pS≠wl:=wC.ne nS;have nSr:r≠pS:=ao (bt _ _ nrw (abc nLr) (sB _ _ erA)) nS;have eS:upd HC pS (.lst ys) pS=some (.lst ys):=upd_same;have wD:=wC.keep kS (aat _);have erD:=kS _ _ (bt _ _ nrw (abc nLr) (sB _ _ erA));have hqD:=PairsIn.mono (Tups.of kS) hqC;generalize upd HC pS (.lst ys)=HD at kS eS wD erD hqD ⊢;have zl:(ah gs).length=gs.length:=ck gs;refine ⟨_,rfl,_,_,rfl,rfl,aK (by rw [zl];show _+1≤1000;lia),?_⟩;have zm:ah gs=mkS (gs.map Sg.code):=pT gs;have lm:(gs.map Sg.code).length=gs.length:=aac _;have cm:∀ c∈gs.map Sg.code,c < 128:=fun c hc=>by obtain ⟨g,_,rfl⟩:=abI.mp hc;exact sM g
    have tz:Tx (ah gs):=by rw [zm];exact kn cm (by lia)
    have t1:Tx (ah gs++("+":Str)):=by
      rw [zm,show ("+":Str)=mkS [43] by decide +kernel,fU];exact kn (fun c hc=>by rcases aaz.mp hc with z|z;exact cm c z;rw [aaG.mp z];decide) (by rw [aah];show _+1≤100;lia)
    have t2:Tx (cY (ah gs) (some 1) none):=by
      rw [zm,rh];exact kn (fun c hc=>cm c (List.mem_of_mem_drop hc)) (by rw [aaI];lia)
    have t3l:(cY (ah gs) none (some (-1))).length≤36:=by rw [zm,jt,eT,aax];lia
    have t3:Tx (cY (ah gs) none (some (-1))++("/":Str)):=by
      rw [zm,jt,show ("/":Str)=mkS [47] by decide +kernel,fU];exact kn (fun c hc=>by rcases aaz.mp hc with z|z;exact cm c (List.mem_of_mem_take z);rw [aaG.mp z];decide) (by rw [aah,aax];show _+1≤100;lia)
    have t4:=rL tz;refine ⟨_,rfl,1,rfl,_,rfl,aK (by have:=t2.2;lia),?_⟩;refine ⟨_,rfl,_,rfl,_,rfl,_,rfl,aK (by lia),_,_,rfl,rfl,aK (by show _+1≤1000;lia),?_⟩;refine ⟨_,rfl,_,rfl,by lia,?_⟩;refine ⟨_,rfl,_,rfl,(by show (ah gs).length≤1000;lia),fun pX nX=>?_⟩;have kX:=Same.new nX (.lst ((ah gs).cps.toList.map fun c=>V.str ⟨#[c]⟩));have eX:upd HD pX (.lst ((ah gs).cps.toList.map fun c=>V.str ⟨#[c]⟩)) pX=some (.lst ((ah gs).cps.toList.map fun c=>V.str ⟨#[c]⟩)):=upd_same;have nXw:=wD.ne nX;generalize upd HD pX (.lst ((ah gs).cps.toList.map fun c=>V.str ⟨#[c]⟩))=HE at kX eX ⊢;refine ⟨(by show 8≤sizeLine;decide),fun po no=>?_⟩;have kO:=Same.new no (.lst ([V.str (mkS []),.str (ah gs++("+":Str)),.str (cY (ah gs) (some 1) none),.str (cY (ah gs) none (some (-1))++("/":Str)),.str (ab1 (ah gs) "+" "x"),.non,.ref pX,.int 3]));have eO:upd HE po (.lst ([V.str (mkS []),.str (ah gs++("+":Str)),.str (cY (ah gs) (some 1) none),.str (cY (ah gs) none (some (-1))++("/":Str)),.str (ab1 (ah gs) "+" "x"),.non,.ref pX,.int 3])) po=some (.lst ([V.str (mkS []),.str (ah gs++("+":Str)),.str (cY (ah gs) (some 1) none),.str (cY (ah gs) none (some (-1))++("/":Str)),.str (ab1 (ah gs) "+" "x"),.non,.ref pX,.int 3])):=upd_same;have SO:=kX.trans kO;have wO:=wD.keep SO (aat _);have nOw:=(wD.keep kX (aat _)).ne no;have eXO:=kO _ _ eX;generalize upd HE po (.lst ([V.str (mkS []),.str (ah gs++("+":Str)),.str (cY (ah gs) (some 1) none),.str (cY (ah gs) none (some (-1))++("/":Str)),.str (ab1 (ah gs) "+" "x"),.non,.ref pX,.int 3]))=HF at kO eO SO wO eXO ⊢;have erF:=SO _ _ erD;have eSF:=SO _ _ eS;have hqF:=PairsIn.mono (Tups.of SO) hqD;have oF:=jg wO hqF;have lqs:qs.length≤8:=by lia
    have hsm:SmP qs:=fun x hx=>by have:=hbd x (mem x (aae _ hx));lia
    have lys:=hqF.length;refine ⟨_,rfl,_,rfl,_,rfl,rfl,pS,_,rfl,SqL.of eSF,fun prv nrv=>?_⟩;have kR:=Same.new nrv (.lst ys.reverse);have eR:upd HF prv (.lst ys.reverse) prv=some (.lst ys.reverse):=upd_same;have nRw:=wO.ne nrv;generalize upd HF prv (.lst ys.reverse)=HG at kR eR ⊢;have wG:=wO.keep kR (aat _);refine ⟨(by show 2≤sizeLine;decide),fun pl2 npl2=>?_⟩;have k2:=Same.new npl2 (.lst [.ref pS,.ref prv]);have e2:upd HG pl2 (.lst [.ref pS,.ref prv]) pl2=some (.lst [.ref pS,.ref prv]):=upd_same;have n2w:=wG.ne npl2;have eR2:=k2 _ _ eR;have SI:=(kR.trans k2)
    have wI:=wG.keep k2 (aat _);generalize upd HG pl2 (.lst [.ref pS,.ref prv])=HI at k2 e2 eR2 SI wI ⊢;have erI:=SI _ _ erF;have eSI:=SI _ _ eSF;have oI:=PairsIn.mono (Tups.of (bR (p:=wl) SI)) oF;refine ⟨4,rfl,by decide,by decide,dY (Trn.range (lo:=0) (n:=(4:Int).toNat)) (fun i zs H'=>But wl HI H'∧Wel H' wl (2100+30 * i)∧zs.length=i∧∀ y∈zs,Pg (off wl H') y) ⟨But.refl,wI.more (by lia),rfl,fun _ z=>nomatch z⟩ (fun i zs H' hi zz=>⟨trivial,ay (by have:=zz.2.2.1;have : i≤4:=hi;lia)⟩) (fun i x zs Hq' Hc hi hx zz Nx nx=>?_) (fun zs HJ zz pz nz=>?_)⟩
    · obtain ⟨rfl,rfl⟩:=hx;obtain ⟨bq,wq,lz,gz⟩:=zz;have hi4:i < 4:=hi;refine ⟨_,rfl,_,rfl,r,_,rfl,.inl (SqL.of (bq _ _ nrw erI)),_,rfl,wl,_,pS,ys,qs,2100+30 * (i:Int),rfl,by rw [aac];lia,by rw [aac];lia,(bK nSw).trans (bq _ _ nSw eSI),PairsIn.mono (Tups.of (bz bq)) oI,hsm,by lia,wq,by lia,fun u Hn bn wn pg=>nx _ _ ⟨bq.trans bn,wn.more (by lia),by rw [aah,lz];rfl,fun y hy=>?_⟩⟩;rcases aaz.mp hy with hy|hy
      · exact (gz y hy).mono (bz bn)
      · rw [aaG.mp hy];exact pg
    obtain ⟨bJ,wJ,lz,gz⟩:=zz;have lz4:zs.length=4:=lz;have kz:=Same.new nz (.lst zs);have e2J:=bJ _ _ n2w e2;refine ⟨pl2,pz,_,_,rfl,rfl,kz _ _ e2J,upd_same,aK (by show 2+zs.length≤1000;lia),fun pa2 na2=>?_⟩;have ka2:=Same.new na2 (.lst ([.ref pS,.ref prv]++zs));have ea2:upd (upd HJ pz (.lst zs)) pa2 (.lst ([.ref pS,.ref prv]++zs)) pa2=some (.lst ([.ref pS,.ref prv]++zs)):=upd_same;have SK:=kz.trans ka2;generalize upd (upd HJ pz (.lst zs)) pa2 (.lst ([.ref pS,.ref prv]++zs))=HK at ka2 ea2 SK ⊢;have wK:=wJ.keep SK (aat _);have BK:But wl HI HK:=bJ.trans (But.of SK);have erK:=BK _ _ nrw erI;have oK:=PairsIn.mono (Tups.of (bz BK)) oI;have eSK:off wl HK pS=some (.lst ys):=(bK nSw).trans (BK _ _ nSw eSI);have eRK:off wl HK prv=some (.lst ys.reverse):=(bK nRw).trans (BK _ _ nRw eR2);have szq:=d8 qs;have dpq:=dP qs;have szr:=d8 qs.reverse;have dpr:=dP qs.reverse;rw [List.length_reverse] at szr;have pgS:Pg (off wl HK) (.ref pS):=hJ eSK (PairsIn.dat oK) (gO hsm) (by lia) (by lia);have pgR:Pg (off wl HK) (.ref prv):=hJ eRK (PairsIn.dat (ol oK)) (gO fun x hx=>hsm x (List.mem_reverse.mp hx)) (by lia) (by lia);have pgs:∀ x∈([.ref pS,.ref prv]++zs:List V),Pg (off wl HK) x:=fun x hx=>by
      rcases aaz.mp hx with hx|hx
      · simp only [aam,abE,or_false] at hx;rcases hx with rfl|rfl
        · exact pgS
        · exact pgR
      · exact (gz x hx).mono (bR SK)
    have asz:=jd tz;refine ⟨pa2,rfl,⟨_,SqL.of ea2⟩,iQ (Trn.list (xs:=[.ref pS,.ref prv]++zs)) (fun i σ H'=>∃ c9,σ=[some (.ref a),some (.int c),some (.ref wl),some (.ref r),some vw,some (.str (ah gs)),some (.ref pL),some (.ref pS),some (.ref po),c9,c10]∧Same HK H') ⟨_,rfl,Same.refl _⟩ (fun i σ H' hi zz=>?_) (fun i x σ K0' K0 hi it zz=>?_) (fun σ K9 zz=>?_)⟩
    · obtain ⟨_,rfl,S⟩:=zz;exact SqL.of (S _ _ ea2)
    · obtain ⟨c9',rfl,S⟩:=zz;obtain ⟨rfl,hx⟩:=it;obtain ⟨d,d1,d2,d3⟩:=pgs x (abg hx);exact ⟨_,rfl,_,rfl,_,rfl,r,rs,.str (ah gs),_,d,x,rfl,S _ _ erK,n1',n9',sm,by simp only [Dat],Dat.mono (off_le.trans S) _ _ d1,asz.1,asz.2,d2,d3,fun Hn sn=>⟨true,rfl,aC ⟨_,rfl,S.trans sn⟩⟩⟩
    obtain ⟨c9',rfl,S9⟩:=zz;have w9:=wK.keep S9 (aat _);have er9:=S9 _ _ erK;have BO:But wl HF K9:=(But.of SI).trans (BK.trans (But.of S9));have oth:∀ y∈([V.str (mkS []),.str (ah gs++("+":Str)),.str (cY (ah gs) (some 1) none),.str (cY (ah gs) none (some (-1))++("/":Str)),.str (ab1 (ah gs) "+" "x"),.non,.ref pX,.int 3]:List V),∃ e,Dat (off wl K9) e y∧mR e∧PrD e:=fun y hy=>by
      simp only [aam,abE,or_false] at hy;rcases hy with rfl|rfl|rfl|rfl|rfl|rfl|rfl|rfl
      · exact ⟨.str (mkS []),by simp only [Dat],jd (kn (fun _ z=>nomatch z) (by simp))⟩
      · exact ⟨_,by simp only [Dat],jd t1⟩
      · exact ⟨_,by simp only [Dat],jd t2⟩
      · exact ⟨_,by simp only [Dat],jd t3⟩
      · exact ⟨_,by simp only [Dat],jd t4⟩
      · exact ⟨.none,by simp only [Dat],trivial,fS (by simp only [OkD]) (by simp [szD]) (by simp [aas])⟩
      · refine ⟨.list ((ah gs).cps.toList.map fun c=>.str ⟨#[c]⟩),by simp only [Dat];exact ⟨pX,_,rfl,(bK nXw).trans (BO _ _ nXw eXO),js _⟩,trivial,?_⟩;exact qf (by rw [show (ah gs).cps.toList.length=(ah gs).length from by simp [Str.length]];lia) (fun c hc=>by rw [zm,qz] at hc;obtain ⟨g,_,rfl⟩:=abI.mp hc;exact sL g)
      · exact ⟨.int 3,by simp only [Dat],trivial,fS (by simp only [OkD];decide) (by simp [szD]) (by simp [aas])⟩
    refine ⟨_,rfl,_,rfl,_,rfl,wl,8,_,rfl,by decide,by decide,w9,by lia,fun r8 KA a8 b8 gA wA'=>?_⟩;obtain ⟨ot,hot,hotm⟩:=rS (xs:=([V.str (mkS []),.str (ah gs++("+":Str)),.str (cY (ah gs) (some 1) none),.str (cY (ah gs) none (some (-1))++("/":Str)),.str (ab1 (ah gs) "+" "x"),.non,.ref pX,.int 3]:List V)) a8 (by show r8 < 8;exact b8);refine ⟨po,_,_,_,rfl,rfl,SqL.of (gA _ _ nOw (BO _ _ nOw eO)),hot,?_⟩;obtain ⟨eo,o1,o2,o3⟩:=oth ot hotm;have erA':=gA _ _ nrw er9;obtain ⟨dS,s1',s2',s3'⟩:=pgS.mono (bR S9);refine ⟨_,rfl,r,rs,eo,ot,dS,.ref pS,rfl,erA',n1',n9',sm,Dat.mono ((bz gA).trans off_le) _ _ o1,Dat.mono ((bz gA).trans off_le) _ _ s1',o2,o3,s2',s3',fun KB sKB=>⟨true,rfl,aC ?_⟩⟩;obtain ⟨bs6,eb6,lb6⟩:=lH rs none (some (-1));have wB':=wA'.keep sKB (aat _);have A:Al wl KB KB [(r,.lst (rs.map V.int))]:=⟨Same.refl _,by obtain ⟨_,_,_,e,_⟩:=wB';exact ⟨_,e⟩,fun x hx=>by rw [aaG.mp hx];exact (bK nrw).trans (sKB _ _ erA')⟩
    refine ⟨_,rfl,r,_,rfl,.inl ⟨SqL.of (A.up 0 rfl),fun b1 n_b1=>?_⟩⟩
    replace A:=A.new n_b1 (.tup (rs.map V.int))
    generalize upd KB b1 (.tup (rs.map V.int))=h_b1 at A ⊢;refine ⟨_,rfl,(by show 1≤sizeLine;decide),fun b2 n_b2=>?_⟩
    replace A:=A.new n_b2 (.lst [.int 1])
    generalize upd h_b1 b2 (.lst [.int 1])=h_b2 at A ⊢;refine ⟨b2,9,_,rfl,rfl,A.up 0 rfl,by decide,by decide,(by decide),fun b3 n_b3=>?_⟩
    replace A:=A.new n_b3 (.lst (aaB (9:Int).toNat [V.int 1]).flatten)
    generalize upd h_b2 b3 (.lst (aaB (9:Int).toNat [V.int 1]).flatten)=h_b3 at A ⊢;refine ⟨r,b3,_,_,rfl,rfl,A.up 3 rfl,A.up 0 rfl,aK (by rw [aac,nE];show _+9 * 1≤1000;lia),fun b4 n_b4=>?_⟩
    replace A:=A.new n_b4 (.lst (rs.map V.int++(aaB (9:Int).toNat [V.int 1]).flatten))
    generalize upd h_b3 b4 (.lst (rs.map V.int++(aaB (9:Int).toNat [V.int 1]).flatten))=h_b4 at A ⊢;refine ⟨(by show 0≤sizeLine;decide),fun b5 n_b5=>?_⟩
    replace A:=A.new n_b5 (.lst [])
    generalize upd h_b4 b5 (.lst [])=h_b5 at A ⊢;refine ⟨_,rfl,_,rfl,_,rfl,r,_,rfl,SqL.of (A.up 5 rfl),fun b6 n_b6=>?_⟩;rw [eb6]
    replace A:=A.new n_b6 (.lst (bs6.map V.int))
    generalize upd h_b5 b6 (.lst (bs6.map V.int))=h_b6 at A ⊢;refine ⟨(by show 1≤sizeLine;decide),fun b7 n_b7=>?_⟩
    replace A:=A.new n_b7 (.lst [.bl true])
    generalize upd h_b6 b7 (.lst [.bl true])=h_b7 at A ⊢;refine ⟨b6,b7,_,_,rfl,rfl,A.up 1 rfl,A.up 0 rfl,aK (by rw [aac];show _+1≤1000;lia),fun b8 n_b8=>?_⟩
    replace A:=A.new n_b8 (.lst (bs6.map V.int++[.bl true]))
    generalize upd h_b7 b8 (.lst (bs6.map V.int++[.bl true]))=h_b8 at A ⊢;refine ⟨_,rfl,(by show 1≤sizeLine;decide),fun b9 n_b9=>?_⟩
    replace A:=A.new n_b9 (.lst [.non])
    generalize upd h_b8 b9 (.lst [.non])=h_b9 at A ⊢;refine ⟨r,b9,_,_,rfl,rfl,A.up 9 rfl,A.up 0 rfl,aK (by rw [aac];show _+1≤1000;lia),fun ba n_ba=>?_⟩
    replace A:=A.new n_ba (.lst (rs.map V.int++[.non]))
    generalize upd h_b9 ba (.lst (rs.map V.int++[.non]))=h_ba at A ⊢;refine ⟨(by show 6≤sizeLine;decide),fun bb n_bb=>?_⟩
    replace A:=A.new n_bb (.lst [.ref b1,.ref b4,.ref b5,.non,.ref b8,.ref ba])
    generalize upd h_ba bb (.lst [.ref b1,.ref b4,.ref b5,.non,.ref b8,.ref ba])=h_bb at A ⊢;have bads:∀ x∈([V.ref b1,.ref b4,.ref b5,.non,.ref b8,.ref ba]:List V),∃ d,Dat (off wl h_bb) d x∧bV d=false:=fun x hm=>by
      simp only [aam,abE,or_false] at hm;rcases hm with rfl|rfl|rfl|rfl|rfl|rfl
      · exact ⟨.tuple (rs.map PyData.int),by simp only [Dat];exact ⟨b1,_,rfl,A.at 10 rfl,bN rs⟩,rfl⟩
      · refine ⟨.list (rs.map PyData.int++aaB 9 (.int 1)),by simp only [Dat];exact ⟨b4,_,rfl,A.at 7 rfl,fJ (bN rs) (rd (d:=.int 1) (v:=.int 1) (by simp only [Dat]) 9)⟩,?_⟩;show (decide (1≤_) && decide ((rs.map PyData.int++aaB 9 (PyData.int 1)).length≤9) && _)=false;rw [decide_eq_false (show ¬ (rs.map PyData.int++aaB 9 (PyData.int 1)).length≤9 by rw [aah,aac,acu];lia)];simp
      · exact ⟨.list [],by simp only [Dat,DatAll];exact ⟨b5,_,rfl,A.at 6 rfl,rfl⟩,rfl⟩
      · exact ⟨.none,by simp only [Dat],rfl⟩
      · exact ⟨.list (bs6.map PyData.int++[.bool true]),by simp only [Dat];exact ⟨b8,_,rfl,A.at 3 rfl,fJ (bN bs6) (mK (by simp only [Dat]))⟩,ni rfl⟩
      · exact ⟨.list (rs.map PyData.int++[.none]),by simp only [Dat];exact ⟨ba,_,rfl,A.at 1 rfl,fJ (bN rs) (mK (by simp only [Dat]))⟩,ni rfl⟩
    have wC':=wB'.keep A.same (aat _);refine ⟨_,rfl,wl,6,_,rfl,by decide,by decide,wC',by lia,fun r6 KD a6 b6' gD wD'=>?_⟩;obtain ⟨bd,hbd',hbdm⟩:=rS (xs:=([V.ref b1,.ref b4,.ref b5,.non,.ref b8,.ref ba]:List V)) a6 (by show r6 < 6;exact b6');have nbb:bb≠wl:=fun e=>by have z:=A.at 0 rfl;simp only [e,off,if_true] at z;cases z
    refine ⟨bb,_,_,_,rfl,rfl,SqL.of (gD _ _ nbb (A.up 0 rfl)),hbd',?_⟩;obtain ⟨db,db1,db2⟩:=bads bd hbdm;have db3:=Dat.mono ((bz gD).trans off_le) _ _ db1;have sS:Same (off wl K9) KD:=(bz gA).trans ((bR sKB).trans ((bR A.same).trans ((bz gD).trans off_le)));have dS2:=Dat.mono sS _ _ s1';refine ⟨_,rfl,_,rfl,_,rfl,db,bd,.str (ah gs),_,dS,.ref pS,rfl,db3,by simp only [Dat],dS2,asz.1,s3',fun _ KE sE=>?_,fun z=>by rw [db2] at z;cases z⟩;refine ⟨rfl,_,rfl,oP (fun zz=>absurd zz (by simp)) (fun _=>?_)⟩;refine ⟨_,rfl,db,bd,.none,.non,.int 5,.int 5,rfl,Dat.mono sE _ _ db3,by simp only [Dat],by simp only [Dat],trivial,by simp [szD],fun _ KF sF=>?_,fun z=>by rw [db2] at z;cases z⟩;refine ⟨rfl,_,rfl,oP (fun zz=>absurd zz (by simp)) (fun _=>?_)⟩;refine ⟨_,_,_,_,_,_,_,_,_,_,rfl,fun bq oq hq=>?_⟩;have q4:=S4 bq oq hq;have nb1:bq≠wl:=ao q4 nw;have qA:=sA _ _ (((k6.trans k7).trans k8) _ _ nb1 (g5 _ _ q4));have nb2:bq≠pL:=ao qA npL;have qF:=SO _ _ (kS _ _ (bt _ _ nb1 nb2 (sB _ _ qA)));exact sF _ _ (sE _ _ (gD _ _ nb1 (A.same _ _ (sKB _ _ (gA _ _ nb1 (BO _ _ nb1 qF))))))
  · obtain ⟨_,_,_,_,_,_,_,_,_,_,rfl,S⟩:=z;refine ⟨(by show 1≤sizeLine;decide),fun m1 k1=>⟨(by show 0≤sizeLine;decide),fun m2 k2=>?_⟩⟩;have em1:=(Same.new k2 (.lst [])) _ _ (upd_same (H:=H') (a:=m1) (o:=.lst [.int 4]));refine ⟨m1,[4],.str "",_,.list [],.ref m2,some ([],[]),rfl,em1,by decide,by decide,by simp only [Dat],by simp only [Dat,DatAll];exact ⟨m2,_,rfl,upd_same,rfl⟩,⟨by decide +kernel,by decide +kernel⟩,by simp [szD,szAll],⟨rfl,rfl,rfl,rfl⟩,fun u1 G1 j1 hu1=>?_⟩;rw [pj] at hu1;have hu1:u1=.int 4:=hu1;subst hu1;refine ⟨rfl,true,rfl,aI ?_⟩;refine ⟨(by show 2≤sizeLine;decide),fun m3 k3=>⟨(by show 2≤sizeLine;decide),fun m4 k4=>⟨(by show 1≤sizeLine;decide),fun m5 k5=>?_⟩⟩⟩;have s4':=Same.new k4 (.tup [.int 0,.int 1]);have s5':=Same.new k5 (.lst [.ref m4]);have em3:=s5' _ _ (s4' _ _ (upd_same (H:=G1) (a:=m3) (o:=.lst [.int 1,.int 2])));have em4:=s5' _ _ (upd_same (H:=upd G1 m3 (.lst [.int 1,.int 2])) (a:=m4) (o:=.tup [.int 0,.int 1]));refine ⟨m3,[1,2],.str "-",_,.list [.tuple [.int 0,.int 1]],.ref m5,some ([.minus],[(0,1)]),rfl,em3,by decide,by decide,by simp only [Dat],by simp only [Dat,DatAll];exact ⟨m5,_,rfl,upd_same,_,_,rfl,⟨m4,_,rfl,em4,_,_,rfl,rfl,_,_,rfl,rfl,rfl⟩,rfl⟩,⟨by decide +kernel,by decide +kernel⟩,by simp [szD,szAll],⟨congrArg PyData.str (by decide +kernel),rfl,rfl,rfl⟩,fun u2 G2 j2 hu2=>?_⟩;rw [rJ] at hu2;refine ⟨(by show 3≤sizeLine;decide),fun m6 k6=>?_⟩;have s6':=Same.new k6 (.tup [.str "-",.int 1,.int 2]);refine ⟨bW (.node .minus (.num 1) (.num 2)),.tuple [.str "-",.int 1,.int 2],WyIn.dat (WyIn.mono (Tups.of s6') hu2),by simp only [Dat,DatAll];exact ⟨m6,_,rfl,upd_same,_,_,rfl,rfl,_,_,rfl,rfl,_,_,rfl,rfl,rfl⟩,by decide +kernel,by decide +kernel,by decide +kernel,true,by decide +kernel,aI ?_⟩;refine ⟨(by show 2≤sizeLine;decide),fun m7 k7=>⟨(by show 0≤sizeLine;decide),fun m8 k8=>?_⟩⟩;have em7:=(Same.new k8 (.lst [])) _ _ (upd_same (a:=m7) (o:=.lst [.int 1,.int 2]));refine ⟨m7,[1,2],.str "-",_,.list [],.ref m8,none,rfl,em7,by decide,by decide,by simp only [Dat],by simp only [Dat,DatAll];exact ⟨m8,_,rfl,upd_same,rfl⟩,⟨by decide +kernel,by decide +kernel⟩,by simp [szD,szAll],.inr rfl,fun u3 G3 j3 hu3=>?_⟩;have hu3:u3=.non:=hu3;subst hu3;exact ⟨rfl,q _⟩
end
open PySem L2
theorem all_mk {l:PySem.W.OpenLaw} {w:World} {K:aaa} {h:Heap} {mg:Str→Option Value} {fa:Addr} (X:K.In h) (G:h.Ns mainGlobals mg) (hfa:mg "law" = some (.ref fa))
    {tM tS1 tS2 tS3:Tok} {cS:Addr} {odS:Option Addr} {nS:Nat} {slS:Array (Option Value)}
    {aP aR aS aW aN aL aF aO aA aH aT aM:Addr}
    {aPN:Addr} {aPnm aPq:Str} {aPbs aPsub:List Value} {aPhd aPab:Bool} {aPsn:List Str} {aPcol:Option Bool} {aPdd aPod:Option Addr} {aPk0 aPk1 aPk2 aPk3 aPk5:Option Value} {aPc:Value} {aPes:Array DictEntry} {aPn:Nat} {aPsl:Array (Option Value)}
    {aRN:Addr} {aRnm aRq:Str} {aRbs aRsub:List Value} {aRhd aRab:Bool} {aRsn:List Str} {aRcol:Option Bool} {aRdd aRod:Option Addr} {aRk0 aRk1 aRk2 aRk3 aRk5:Option Value} {aRc:Value} {aRes:Array DictEntry} {aRn:Nat} {aRsl:Array (Option Value)}
    {aRcd:ClassData}
    {aScd:ClassData}
    {aWcd:ClassData}
    {aNcd:ClassData}
    {aLcd:ClassData}
    {aFcd:ClassData}
    {aOcd:ClassData}
    {aAcd:ClassData}
    {aHcd:ClassData}
    {aTcd:ClassData}
    {aMcd:ClassData}
{f0:Addr}
{f1:Addr}
{f2:Addr}
{f3:Addr}
{f4:Addr}
{f5:Addr}
{f6:Addr}
{f7:Addr}
{f8:Addr}
{f9:Addr}
{f10:Addr}
{f11:Addr}
{f12:Addr}
{f13:Addr}
{f14:Addr}
{f15:Addr}
{f16:Addr}
{f17:Addr}
{f18:Addr}
{f19:Addr}
{f20:Addr}
{f21:Addr}
{f22:Addr}
{f23:Addr}
{f24:Addr}
{f25:Addr}
{f26:Addr}
{f27:Addr}
{f28:Addr}
{f29:Addr}
{f30:Addr}
{od31 an31:Option Addr} {sl31:Array (Option Value)} {oc31 kV31 dc31 pm31 cd31 ct31:Value} {f31:Addr}
    (q0:Fq K "is_whole" fA f0)
    (q1:Fq K "is_row" im f1)
    (q2:Fq K "is_sign" eN f2)
    (q3:Fq K "is_way" ik f3)
    (q4:Fq K "need_row" fz f4)
    (q5:Fq K "need_way" fv f5)
    (q6:Fq K "cuts_of" gu f6)
    (q7:Fq K "list_numbers" cU f7)
    (q8:Fq K "stretches_of" cT f8)
    (q9:Fq K "list_stretches" cq f9)
    (q10:Fq K "way_by" fP f10)
    (q11:Fq K "are_signs_between" bP f11)
    (q12:Fq K "are_stretches" cJ f12)
    (q13:Fq K "is_pair" gt f13)
    (q14:Fq K "join_stretch" cV f14)
    (q15:Fq K "is_part" gr f15)
    (q16:Fq K "_law_mixed" dH f16)
    (q17:Fq K "_law_well" ej f17)
    (q18:Fq K "_law_draw" eC f18)
    (q19:Fq K "_law_number" dk f19)
    (q20:Fq K "_law_row" fC f20)
    (q21:Fq K "_law_way" fB f21)
    (q22:Fq K "_law_tokens" dh f22)
    (q23:Fq K "_law_odd" fD f23)
    (q24:Fq K "_law_kind" eA f24)
    (q25:Fq K "_law_whole" dE f25)
    (q26:Fq K "_law_due" fE f26)
    (q27:Fq K "_law_stretches" cr f27)
    (q28:Fq K "_law_spoilt" dj f28)
    (q29:Fq K "_law_told" eu f29)
    (q30:Fq K "_law_right" dG f30)
    (a31:aav K mainGlobals "law" = some (some (.ref f31))) (l31:K.lookup f31=some ⟨oc31,od31,.func (abr "law" "law" (cG fQ) (bU fQ) (am fQ) .none kV31 dc31 pm31 an31 cd31 ct31),sl31⟩) (c31:abS K cd31 "law" = true) (k31:abe K (.ref f31)=true)
    (cM:aav K mainGlobals "len" = some none)
    (cL : aav K mainGlobals "isinstance" = some none)
    (cK:aav K mainGlobals "int" = some none)
    (cD:aav K mainGlobals "bool" = some none)
    (cZ:aav K mainGlobals "str" = some none)
    (c1:aav K mainGlobals "tuple" = some none)
    (cN:aav K mainGlobals "list" = some none)
    (cY:aav K mainGlobals "sorted" = some none)
    (cQ:aav K mainGlobals "range" = some none)
    (cR:aav K mainGlobals "repr" = some none)
    (cI:aav K mainGlobals "enumerate" = some none)
    (c0:aav K mainGlobals "sum" = some none)
    (cz:aav K mainGlobals "all" = some none)
    (cP:aav K mainGlobals "min" = some none)
    (cO:aav K mainGlobals "max" = some none)
    (cy:aav K mainGlobals "abs" = some none)
    (cH:aav K mainGlobals "divmod" = some none)
    (cE:aav K mainGlobals "dict" = some none)
    (cX:aav K mainGlobals "set" = some none)
    (cW:aav K mainGlobals "reversed" = some none)
    (cC:aav K mainGlobals "any" = some none)
    (c2:aav K mainGlobals "zip" = some none)
    (gM:aav K mainGlobals "MOST_NUMBERS" = some (some (.int 9 tM)))
    (gS:aav K mainGlobals "SIGNS" = some (some (.ref cS)))
    (lS:K.lookup cS=some ⟨.type "tuple",odS,.seq #[.str "+" tS1,.str "-" tS2,.str "*" tS3] nS,slS⟩)
    (n_PutError:aav K mainGlobals "PutError" = some (some (.ref aP)))
    (n_NoRow:aav K mainGlobals "NoRow" = some (some (.ref aR)))
    (n_NoSigns:aav K mainGlobals "NoSigns" = some (some (.ref aS)))
    (n_NoWay:aav K mainGlobals "NoWay" = some (some (.ref aW)))
    (n_NoNumber:aav K mainGlobals "NoNumber" = some (some (.ref aN)))
    (n_NoPlace:aav K mainGlobals "NoPlace" = some (some (.ref aL)))
    (n_NoFit:aav K mainGlobals "NoFit" = some (some (.ref aF)))
    (n_NoForm:aav K mainGlobals "NoForm" = some (some (.ref aO)))
    (n_NoAsk:aav K mainGlobals "NoAsk" = some (some (.ref aA)))
    (n_NoHolds:aav K mainGlobals "NoHolds" = some (some (.ref aH)))
    (n_NoText:aav K mainGlobals "NoText" = some (some (.ref aT)))
    (n_TooMany:aav K mainGlobals "TooMany" = some (some (.ref aM)))
    (cx:aav K mainGlobals "ValueError" = some none)
    (l_PutError:K.lookup aP=some (excClassObj aPnm aPq aP aPN aPbs lO aPhd aPsn aPsub aPab aPcol aPdd aPk0 aPk1 aPk2 aPk3 aPk5 "ValueError.__new__"))
    (s_PutError:K.lookup aPN=some ⟨aPc,aPod,.dict aPes aPn,aPsl⟩)
    (t_PutError:jp aPes=true)
    (i_PutError:nsFind aPes "__init__" = none)
    (l_NoRow:K.lookup aR=some (excClassObj aRnm aRq aR aRN aRbs (.ref aP :: lO) aRhd aRsn aRsub aRab aRcol aRdd aRk0 aRk1 aRk2 aRk3 aRk5 "ValueError.__new__"))
    (s_NoRow:K.lookup aRN=some ⟨aRc,aRod,.dict aRes aRn,aRsl⟩)
    (t_NoRow:jp aRes=true)
    (i_NoRow:nsFind aRes "__init__" = none)
    (f1_NoRow:abd K (.ref aR) "__getattribute__" = some (some (.builtin "BaseException.__getattribute__")))
    (f2_NoRow:abd K (.ref aR) "__getattr__" = some none)
    (f3_NoRow:abd K (.ref aR) "__class__" = some (some (.builtin "object.__class__")))
    (f4_NoRow:aaP K (.ref aR) (.type "BaseException")=some true)
    (f5_NoRow:aaP K (.ref aR) (.type "object")=some true)
    (f6_NoRow:aaP K (.ref aR) (.type "ValueError")=some true)
    (c_NoRow:aaR K aR=some aRcd)
    (y_NoRow:aa3 K (.ref aR)=some (.type "type"))
    (c_NoSigns:aaR K aS=some aScd)
    (y_NoSigns:aa3 K (.ref aS)=some (.type "type"))
    (c_NoWay:aaR K aW=some aWcd)
    (y_NoWay:aa3 K (.ref aW)=some (.type "type"))
    (c_NoNumber:aaR K aN=some aNcd)
    (y_NoNumber:aa3 K (.ref aN)=some (.type "type"))
    (c_NoPlace:aaR K aL=some aLcd)
    (y_NoPlace:aa3 K (.ref aL)=some (.type "type"))
    (c_NoFit:aaR K aF=some aFcd)
    (y_NoFit:aa3 K (.ref aF)=some (.type "type"))
    (c_NoForm:aaR K aO=some aOcd)
    (y_NoForm:aa3 K (.ref aO)=some (.type "type"))
    (c_NoAsk:aaR K aA=some aAcd)
    (y_NoAsk:aa3 K (.ref aA)=some (.type "type"))
    (c_NoHolds:aaR K aH=some aHcd)
    (y_NoHolds:aa3 K (.ref aH)=some (.type "type"))
    (c_NoText:aaR K aT=some aTcd)
    (y_NoText:aa3 K (.ref aT)=some (.type "type"))
    (c_TooMany:aaR K aM=some aMcd)
    (y_TooMany:aa3 K (.ref aM)=some (.type "type"))
    (u_NoRow_NoSigns:aaP K (.ref aR) (.ref aS)=some false)
    (d_NoRow_NoSigns:(Value.ref aR == Value.ref aS)=false)
    (u_NoRow_NoWay:aaP K (.ref aR) (.ref aW)=some false)
    (d_NoRow_NoWay:(Value.ref aR == Value.ref aW)=false)
    (u_NoRow_NoNumber:aaP K (.ref aR) (.ref aN)=some false)
    (d_NoRow_NoNumber:(Value.ref aR == Value.ref aN)=false)
    (u_NoRow_NoPlace:aaP K (.ref aR) (.ref aL)=some false)
    (d_NoRow_NoPlace:(Value.ref aR == Value.ref aL)=false)
    (u_NoRow_NoFit:aaP K (.ref aR) (.ref aF)=some false)
    (d_NoRow_NoFit:(Value.ref aR == Value.ref aF)=false)
    (u_NoRow_NoForm:aaP K (.ref aR) (.ref aO)=some false)
    (d_NoRow_NoForm:(Value.ref aR == Value.ref aO)=false)
    (u_NoRow_NoAsk:aaP K (.ref aR) (.ref aA)=some false)
    (d_NoRow_NoAsk:(Value.ref aR == Value.ref aA)=false)
    (u_NoRow_NoHolds:aaP K (.ref aR) (.ref aH)=some false)
    (d_NoRow_NoHolds:(Value.ref aR == Value.ref aH)=false)
    (u_NoRow_NoText:aaP K (.ref aR) (.ref aT)=some false)
    (d_NoRow_NoText:(Value.ref aR == Value.ref aT)=false)
    (u_NoRow_TooMany:aaP K (.ref aR) (.ref aM)=some false)
    (d_NoRow_TooMany:(Value.ref aR == Value.ref aM)=false) :
    ∃ fd:FuncData,(∀ (s:Shared) (v:Value),BindsTo s fd ⟨[v],[]⟩ [("script",v)])∧∀ base:Heap,K.In base→base.Ns mainGlobals mg→FnOk l.prog w K mg base CX0 47 fa fd ["script"] (m9 K):=by
  have e:=hfa.symm.trans (aaS X G a31);cases e;obtain ⟨_,bj,bR,cn⟩:=q0.use X G (ps:=["thing"]) fun _ _ _ _ _ _ us hl=>match us,hl with|[_],_=>rfl
  obtain ⟨_,bg,bN,ck⟩:=q1.use X G (ps:=["thing"]) fun _ _ _ _ _ _ us hl=>match us,hl with|[_],_=>rfl
  obtain ⟨_,bh,bO,cl⟩:=q2.use X G (ps:=["thing"]) fun _ _ _ _ _ _ us hl=>match us,hl with|[_],_=>rfl
  obtain ⟨_,bi,bQ,cm⟩:=q3.use X G (ps:=["thing"]) fun _ _ _ _ _ _ us hl=>match us,hl with|[_],_=>rfl
  obtain ⟨_,bo,bW,ct⟩:=q4.use X G (ps:=["thing"]) fun _ _ _ _ _ _ us hl=>match us,hl with|[_],_=>rfl
  obtain ⟨_,bp,bX,cu⟩:=q5.use X G (ps:=["thing"]) fun _ _ _ _ _ _ us hl=>match us,hl with|[_],_=>rfl
  obtain ⟨_,bd,bK,ch⟩:=q6.use X G (ps:=["stretch"]) fun _ _ _ _ _ _ us hl=>match us,hl with|[_],_=>rfl
  obtain ⟨_,bm,bT,cp⟩:=q7.use X G (ps:=["way"]) fun _ _ _ _ _ _ us hl=>match us,hl with|[_],_=>rfl
  obtain ⟨_,bq,bY,cv⟩:=q8.use X G (ps:=["way"]) fun _ _ _ _ _ _ us hl=>match us,hl with|[_],_=>rfl
  obtain ⟨_,bn,bV,cs⟩:=q9.use X G (ps:=["way","first"]) fun _ _ _ _ _ _ us hl=>match us,hl with|[_,_],_=>rfl
  obtain ⟨_,br,bZ,cw⟩:=q10.use X G (ps:=["row","between","stretches"]) fun _ _ _ _ _ _ us hl=>match us,hl with|[_,_,_],_=>rfl
  obtain ⟨_,bb,bI,cf⟩:=q11.use X G (ps:=["thing","joints"]) fun _ _ _ _ _ _ us hl=>match us,hl with|[_,_],_=>rfl
  obtain ⟨_,bc,bJ,cg⟩:=q12.use X G (ps:=["thing","joints"]) fun _ _ _ _ _ _ us hl=>match us,hl with|[_,_],_=>rfl
  obtain ⟨_,be,bL,ci⟩:=q13.use X G (ps:=["thing"]) fun _ _ _ _ _ _ us hl=>match us,hl with|[_],_=>rfl
  obtain ⟨_,bk,bS,co⟩:=q14.use X G (ps:=["row","between","stretches","stretch"]) fun _ _ _ _ _ _ us hl=>match us,hl with|[_,_,_,_],_=>rfl
  obtain ⟨_,bf,bM,cj⟩:=q15.use X G (ps:=["stretch","stretches"]) fun _ _ _ _ _ _ us hl=>match us,hl with|[_,_],_=>rfl
  obtain ⟨_,aZ,bv,b3⟩:=q16.use X G (ps:=["cell","k"]) fun _ _ _ _ _ _ us hl=>match us,hl with|[_,_],_=>rfl
  obtain ⟨_,a9,bG,cd⟩:=q17.use X G (ps:=["cell"]) fun _ _ _ _ _ _ us hl=>match us,hl with|[_],_=>rfl
  obtain ⟨_,aV,bs,b0⟩:=q18.use X G (ps:=["well","many"]) fun _ _ _ _ _ _ us hl=>match us,hl with|[_,_],_=>rfl
  obtain ⟨_,a0,bw,b4⟩:=q19.use X G (ps:=["well"]) fun _ _ _ _ _ _ us hl=>match us,hl with|[_],_=>rfl
  obtain ⟨_,a3,bA,b7⟩:=q20.use X G (ps:=["well","many"]) fun _ _ _ _ _ _ us hl=>match us,hl with|[_,_],_=>rfl
  obtain ⟨_,a8,bF,cc⟩:=q21.use X G (ps:=["well","row","signs"]) fun _ _ _ _ _ _ us hl=>match us,hl with|[_,_,_],_=>rfl
  obtain ⟨_,a6,bD,ca⟩:=q22.use X G (ps:=["way"]) fun _ _ _ _ _ _ us hl=>match us,hl with|[_],_=>rfl
  obtain ⟨_,a1,bx,b5⟩:=q23.use X G (ps:=["well"]) fun _ _ _ _ _ _ us hl=>match us,hl with|[_],_=>rfl
  obtain ⟨_,aY,bu,b2⟩:=q24.use X G (ps:=["caught"]) fun _ _ _ _ _ _ us hl=>match us,hl with|[_],_=>rfl
  obtain ⟨_,ba,bH,ce⟩:=q25.use X G (ps:=["thing"]) fun _ _ _ _ _ _ us hl=>match us,hl with|[_],_=>rfl
  obtain ⟨_,aX,bt,b1⟩:=q26.use X G (ps:=["row","between","stretches"]) fun _ _ _ _ _ _ us hl=>match us,hl with|[_,_,_],_=>rfl
  obtain ⟨_,a5,bC,b9⟩:=q27.use X G (ps:=["way"]) fun _ _ _ _ _ _ us hl=>match us,hl with|[_],_=>rfl
  obtain ⟨_,a4,bB,b8⟩:=q28.use X G (ps:=["well","many","stretches"]) fun _ _ _ _ _ _ us hl=>match us,hl with|[_,_,_],_=>rfl
  obtain ⟨_,a7,bE,cb⟩:=q29.use X G (ps:=["row","between","stretches"]) fun _ _ _ _ _ _ us hl=>match us,hl with|[_,_,_],_=>rfl
  obtain ⟨_,a2,bz,b6⟩:=q30.use X G (ps:=["row","between","stretches"]) fun _ _ _ _ _ _ us hl=>match us,hl with|[_,_,_],_=>rfl
  have bl:=qR (st:=fQ) l31 c31 k31;have B:Bu K mg:=⟨aaw X G cM,aaw X G cL,aaw X G cK,aaw X G cD,aaw X G cZ,aaw X G c1,aaw X G cN,aaw X G cY,aaw X G cQ,aaw X G cR,aaw X G cI,aaw X G c0,aaw X G cz,aaw X G cP,aaw X G cO,aaw X G cy,aaw X G cH,aaw X G cE,aaw X G cX,aaw X G cW,aaw X G cC,aaw X G c2⟩
  have B':Co K mg tM cS:=⟨aaS X G gM,aaS X G gS,fun H=>.inr ⟨_,_,_,lS,rfl,rfl,by show 3≤sizeLine;decide,.cons ⟨_,rfl⟩ (.cons ⟨_,rfl⟩ (.cons ⟨_,rfl⟩ .nil))⟩⟩
  have XC:Xc K mg aP aR:=⟨aaS X G n_PutError,aaS X G n_NoRow,uA l_NoRow s_NoRow t_NoRow i_NoRow l_PutError s_PutError t_PutError i_PutError,rK l_NoRow l_PutError⟩
  have XK:Xk mg aR aS aW aN aL aF aO aA aH aT aM:=⟨aaS X G n_NoRow,aaS X G n_NoSigns,aaS X G n_NoWay,aaS X G n_NoNumber,aaS X G n_NoPlace,aaS X G n_NoFit,aaS X G n_NoForm,aaS X G n_NoAsk,aaS X G n_NoHolds,aaS X G n_NoText,aaS X G n_TooMany,aaw X G cx⟩
  have D0:Kd K aR aS aW aN aL aF aO aA aH aT aM aR 0:=⟨uz l_NoRow f1_NoRow f2_NoRow f3_NoRow f4_NoRow f5_NoRow,by decide,qI,(cF d_NoRow_NoSigns c_NoSigns y_NoSigns u_NoRow_NoSigns),(cF d_NoRow_NoWay c_NoWay y_NoWay u_NoRow_NoWay),(cF d_NoRow_NoNumber c_NoNumber y_NoNumber u_NoRow_NoNumber),(cF d_NoRow_NoPlace c_NoPlace y_NoPlace u_NoRow_NoPlace),(cF d_NoRow_NoFit c_NoFit y_NoFit u_NoRow_NoFit),(cF d_NoRow_NoForm c_NoForm y_NoForm u_NoRow_NoForm),qJ (cF d_NoRow_NoAsk c_NoAsk y_NoAsk u_NoRow_NoAsk) (cF d_NoRow_NoHolds c_NoHolds y_NoHolds u_NoRow_NoHolds) (cF d_NoRow_NoText c_NoText y_NoText u_NoRow_NoText) (cF d_NoRow_TooMany c_TooMany y_TooMany u_NoRow_TooMany),sC f6_NoRow⟩
  refine ⟨abr "law" "law" (cG fQ) (bU fQ) (am fQ) .none kV31 dc31 pm31 an31 cd31 ct31,fun s v=>.of_eq rfl,fun base _ _=>?_⟩;have aC:Cal l.prog w K mg base "is_whole" 1 ["thing"] (cA K):=⟨_,_,kY bj B,bR,bj.kp,cn⟩
  have az:Cal l.prog w K mg base "is_sign" 1 ["thing"] lV:=⟨_,_,mf bh B B',bO,bh.kp,cl⟩
  have aB:Cal l.prog w K mg base "is_way" 2 ["thing"] jJ:=⟨_,_,ox bi B B' aC az,bQ,bi.kp,cm⟩
  have aJ:Cal l.prog w K mg base "need_way" 3 ["thing"] gh:=⟨_,_,kW bp aB,bX,bp.kp,cu⟩
  have aE:Cal l.prog w K mg base "list_numbers" 21 ["way"] (jH 20):=⟨_,_,g9 bm bT cp aC 20,bT,bm.kp,cp⟩
  have ad:Cal l.prog w K mg base "_law_mixed" 1 ["cell","k"] jI:=⟨_,_,qt aZ,bv,aZ.kp,b3⟩
  have ao:Cal l.prog w K mg base "_law_well" 1 ["cell"] lU:=⟨_,_,se a9 B,bG,a9.kp,cd⟩
  have aa:Cal l.prog w K mg base "_law_draw" 2 ["well","many"] d_:=⟨_,_,sj aV ad,bs,aV.kp,b0⟩
  have ae:Cal l.prog w K mg base "_law_number" 3 ["well"] h_:=⟨_,_,ow a0 aa,bw,a0.kp,b4⟩
  have ah:Cal l.prog w K mg base "_law_row" 4 ["well","many"] pN:=⟨_,_,ue a3 B aa ae,bA,a3.kp,b7⟩
  have an:Cal l.prog w K mg base "_law_way" 11 ["well","row","signs"] (mX 9):=⟨_,_,uc a8 bF cc B aa 9,bF,a8.kp,cc⟩
  have aG:Cal l.prog w K mg base "list_stretches" 42 ["way","first"] (mZ 20):=⟨_,_,fT bn bV cs B aC aE 20,bV,bn.kp,cs⟩
  have aK:Cal l.prog w K mg base "stretches_of" 43 ["way"] cB:=⟨_,_,gZ bq B aJ aG,bY,bq.kp,cv⟩
  have ay:Cal l.prog w K mg base "is_sign" 1 ["thing"] jF:=⟨_,_,kZ bh B B',bO,bh.kp,cl⟩
  have ax:Cal l.prog w K mg base "is_row" 2 ["thing"] jK:=⟨_,_,oy bg B B' aC,bN,bg.kp,ck⟩
  have av:Cal l.prog w K mg base "is_pair" 2 ["thing"] gk:=⟨_,_,k_ be B aC,bL,be.kp,ci⟩
  have aI:mQ l.prog w K mg base "need_row" 3 ["thing"] (dD aR):=⟨_,_,jR bo XC ax,bW,bo.kp,ct⟩
  have aq:Cal l.prog w K mg base "are_signs_between" 2 ["thing","joints"] m_:=⟨_,_,uj bb B ay,bI,bb.kp,cf⟩
  have ar:Cal l.prog w K mg base "are_stretches" 3 ["thing","joints"] mY:=⟨_,_,ud bc B av,bJ,bc.kp,cg⟩
  have au:Cal l.prog w K mg base "cuts_of" 1 ["stretch"] lY:=⟨_,_,mn bd B,bK,bd.kp,ch⟩
  have aw:Cal l.prog w K mg base "is_part" 1 ["stretch","stretches"] lW:=⟨_,_,mh bf,bM,bf.kp,cj⟩
  have aD:Cal l.prog w K mg base "join_stretch" 12 ["row","between","stretches","stretch"] (ic 10):=⟨_,_,si bk bS co B au aw 10,bS,bk.kp,co⟩
  have aU:mQ l.prog w K mg base "way_by" 44 ["row","between","stretches"] (tG aR):=⟨_,_,jj br B aI aq ar aD aK,bZ,br.kp,cw⟩
  have ap:Cal l.prog w K mg base "_law_whole" 1 ["thing"] (cA K):=⟨_,_,jS ba B,bH,ba.kp,ce⟩
  have ab:Cal l.prog w K mg base "_law_due" 2 ["row","between","stretches"] je:=⟨_,_,ui aX B ap,bt,aX.kp,b1⟩
  have ac:Cal l.prog w K mg base "_law_kind" 1 ["caught"] (lX K aR aS aW aN aL aF aO aA aH aT aM):=⟨_,_,sh aY B XK,bu,aY.kp,b2⟩
  have al:Cal l.prog w K mg base "_law_told" 45 ["row","between","stretches"] jE:=⟨_,_,sf a7 B XC D0 aU ac,bE,a7.kp,cb⟩
  have ag:Cal l.prog w K mg base "_law_right" 46 ["row","between","stretches"] jG:=⟨_,_,qr a2 B ab al,bz,a2.kp,b6⟩
  have ak:Cal l.prog w K mg base "_law_tokens" 1 ["way"] fL:=⟨_,_,oo a6 B,bD,a6.kp,ca⟩
  have aj:Cal l.prog w K mg base "_law_stretches" 2 ["way"] pP:=⟨_,_,ug a5 B ak,bC,a5.kp,b9⟩
  have af:Cal l.prog w K mg base "_law_odd" 3 ["well"] pO:=⟨_,_,uf a1 aa,bx,a1.kp,b5⟩
  have ai:Cal l.prog w K mg base "_law_spoilt" 4 ["well","many","stretches"] pM:=⟨_,_,ou a4 B aa af,bB,a4.kp,b8⟩
  have aQ:Cal l.prog w K mg base "way_by" 44 ["row","between","stretches"] je:=⟨_,_,me br B aI aq ar aD aK,bZ,br.kp,cw⟩
  exact uh bl B ao aa ah an ak aj ai ag al aQ
theorem walk {l:PySem.W.OpenLaw} {q:Program} {loose:List Str} {XP:(Str→Option Value)→Heap→Prop} {YP:World→Heap→Prop} {d:DefRec} {K:Params→aaa} (hn:l.most=some 63) (hdf:d.params.defaults=[]) (hi:PyProof.Rows.importsNone q=true)
    (hY:∀ (w:World) (h:Heap),YP w h→(K w.params).In h)
    (F:∀ (w:World) (mg:Str→Option Value) (fa:Addr) (h:Heap),(K w.params).In h→h.Ns mainGlobals mg→mg d.name=some (.ref fa) →
      ∃ fd:FuncData,(∀ (s:Shared) (u:Value),BindsTo s fd ⟨[u],[]⟩ [("script",u)])∧∀ base:Heap,(K w.params).In base→base.Ns mainGlobals mg→FnOk l.prog w (K w.params) mg base CX0 47 fa fd ["script"] (m9 (K w.params))) :
    PySem.W.WalkO q loose XP YP l.row.toRowW d [] (fun f vs=>PySem.call f vs) :=
  L2.walk_of (n:=63) (k:=47) (x:="script") (CX:=fun _=>CX0) (sp:=fun w=>m9 (K w.params)) hn (by decide) hdf ⟨rfl,by decide,by decide,rfl⟩ hi hY F (fun _ _ a ns hl _ hS=>⟨a,ns,rfl,hS,hl,fun _=>rfl⟩) fun _ _ _ _ _ z=>z
end Put
namespace PySem.W.Fast
def tw13970012618449400303:=0
def tw3334898090595281512:=0
def tw7420211142524687022:=0
def tw13374754957144049734:=0
def tw18301733691200509677:=0
def tw9363047938939204043:=0
def tw7883375844011757327:=0
def tw2917662396015657391:=0
def tw17148190342716446526:=0
def tw16965095578809675512:=0
def tw9005103278827613666:=0
def tw18172627389075434186:=0
def tw10383430628138929267:=0
def tw6943531185177595379:=0
def tw6612269840385570322:=0
def tw10205053700929666838:=0
def tw2588270288252143757:=0
def tw7950063427914856650:=0
def tw7953536158702989708:=0
def tw16980097264880466758:=0
def tw1178326632823429413:=0
def tw13287657731286974851:=0
def tw15002486272411820438:=0
def tw14901081868107214567:=0
def tw17575525024313434802:=0
def tw13716691648010725508:=0
def tw7877243453088953168:=0
def tw3689270785468781375:=0
def tw2834905437295124795:=0
def tw5185196618159065711:=0
def tw4113311370152620688:=0
def tw9506619767376202971:=0
def tw5055346097494934853:=0
def tw16000833925795265693:=0
def tw7466576574305727326:=0
def tw7042950578140248461:=0
def tw14815413699900801771:=0
def tw5350818116943906342:=0
def tw10206543275516012140:=0
def tw9897393949324421132:=0
def tw9447034725979862936:=0
def tw4217529977053341808:=0
def tw9074136888030775840:=0
def tw16077642207490386714:=0
def tw2867201466630487717:=0
def tw6357930348701621713:=0
def tw13340052510855223802:=0
def tw16079116083110764771:=0
def tw3504680546499181616:=0
def tw1458710148372974415:=0
def tw6233207503303240103:=0
def tw17774939894204625578:=0
def tw8353736811218706953:=0
def tw8036327590258625924:=0
def tw5958776785616120573:=0
def tw12036988745357173350:=0
def tw2508073503730081629:=0
def tw977476727282908746:=0
def tw17032931860358671939:=0
def tw13737479007526326181:=0
def tw5696453847867267421:=0
def tw6747661596608189316:=0
def tw12988748355290315491:=0
def tw1641955874515333993:=0
def tw322993409006807759:=0
def tw17313329583656054545:=0
def tw15276372679566577833:=0
def tw4848463936333185990:=0
def tw3800246446317316319:=0
def tw11416724035362409070:=0
def tw18043146520352777135:=0
def tw4831817914071983573:=0
def tw9120687001094340491:=0
def tw15850648781662868239:=0
def tw16503747539999954461:=0
def tw17626932320011084787:=0
def tw9267056058230400011:=0
def tw16923946436310031074:=0
def tw55579425614111179:=0
def tw6484764407705525820:=0
def tw7994019006385531036:=0
def tw9717220994119864460:=0
def tw674737585252562863:=0
def tw16329449329818859757:=0
def tw11787822122690594104:=0
def tw15516673357635840260:=0
def tw6970087595341938967:=0
def tw10034728623139707528:=0
def tw12319723767307218158:=0
def tw13848856191537480166:=0
def tw7245873147465057366:=0
def tw9699703078246239485:=0
def tw2097122888053060685:=0
def tw7042551469677621836:=0
def tw14068817080550900388:=0
def tw3835254407093172071:=0
def tw8309121312142976166:=0
def tw3006540009936078178:=0
def tw7226609803347614622:=0
def tw10000096751340812817:=0
def tw11315357876349021372:=0
def tw2894080388789034996:=0
def tw17774664465741248149:=0
def tw12595034017707332171:=0
def tw16266115076860959131:=0
def tw12718239756240213308:=0
def tw712001585479012991:=0
def tw1554975703119607291:=0
def tw15556455671702695448:=0
def tw3068515215604206630:=0
def tw16499597754097802318:=0
def tw17880715179899549356:=0
def tw12262461798272158464:=0
def tw12665345470949030327:=0
def tw5961275443693575301:=0
def tw10362360494117515055:=0
def tw2497657127026346301:=0
def tw15624817741663185564:=0
def tw9549884643850290577:=0
def tw7933006950789969874:=0
def tw9964511208315888805:=0
def tw14015911124563909524:=0
def tw3392062658168418955:=0
def tw13502819666535129172:=0
def tw5103593151075240779:=0
def tw14337763682391891351:=0
def tw1241365473259333402:=0
def tw16831214002734048130:=0
def tw13598494366342314418:=0
def tw12742508354242599768:=0
def tw14707311384483645621:=0
def tw14554886129751077725:=0
def tw14993702940532343506:=0
def tw18442457145397188347:=0
def tw10633526872874339860:=0
def tw17764154001507490629:=0
def tw9482753082359170935:=0
def tw3618337950394533259:=0
def tw3997111697067530758:=0
def tw10967983792417527593:=0
def tw16490237271408909469:=0
def tw465295341827198137:=0
def tw13319291989849465949:=0
def tw4918291129308975700:=0
def tw14003219211203944190:=0
def tw4236610418477333019:=0
def tw16312096980144954701:=0
def tw5700960382493341960:=0
def tw5048994213667448877:=0
def tw17836287283010492984:=0
def tw11804842139642868753:=0
def tw7976170564791507693:=0
def tw3518264411121975099:=0
def tw4811736358976240289:=0
def tw4040586246763091453:=0
def tw6838994256619433262:=0
def tw14276649229735174993:=0
def tw4020716531879910082:=0
def tw18177352168309883929:=0
def tw15293472402206909440:=0
def tw2663075725639860186:=0
def tw5905318655488689429:=0
def tw2305894904276860405:=0
def tw13018598174836912456:=0
def tw8320449873226498827:=0
def tw6334466569823930769:=0
def tw17956624278340990787:=0
def tw6288899172878982560:=0
def tw15100741030145066013:=0
def tw7713265365422132582:=0
def tw1090729711800995415:=0
def tw1887410834125069297:=0
def tw15559024050987460356:=0
def tw3545984109100590629:=0
def tw7856731650147636956:=0
def tw1386618181750347732:=0
def tw15777211067492330915:=0
def tw2242582396859736812:=0
def tw354676204110950347:=0
def tw15399423811280607976:=0
def tw10096262808481228058:=0
def tw5514100113030327439:=0
def tw884418156753060221:=0
def tw10045846304395259868:=0
def tw6585022153018560486:=0
def tw14696510156393171332:=0
def tw6170699778363258:=0
def tw8209043893661824608:=0
def tw11459776473591884250:=0
def tw13595534791734268549:=0
def tw7246844564450086196:=0
def tw778595529619590912:=0
def tw1971056647153120529:=0
def tw11511590026981190169:=0
def tw808608436669901117:=0
def tw817175729320162091:=0
def tw17931034549254175685:=0
def tw14511248271245776670:=0
def tw12512229042855538671:=0
def tw6046467459900285190:=0
def tw15180158611949185496:=0
def tw7098535620517895151:=0
def tw12240879546316617013:=0
def tw13197385891235578442:=0
def tw10254178090122200760:=0
def tw12671792624290774811:=0
def tw9053061495109864998:=0
def tw3751669216461582175:=0
def tw16423563695108801840:=0
def tw15941164263476980788:=0
def tw12237496229744862079:=0
def tw13589418597141927976:=0
def tw17397506742288449811:=0
def tw12474057165074709456:=0
def tw4293392165079058284:=0
def tw14136830857518963659:=0
def tw7474953470880634514:=0
def tw8067906303221621605:=0
def tw14435732108858909215:=0
def tw11525582513564747083:=0
def tw7289050046621986361:=0
def tw1126240720202824491:=0
def tw8501457227069673368:=0
def tw8106581162244958328:=0
def tw427904093427915793:=0
def tw1670606380703907219:=0
def tw6274895688135026914:=0
def tw15070601948688959933:=0
def tw6000630899177500339:=0
def tw16088690964108402723:=0
def tw1550674449468721381:=0
def tw3347700524189897572:=0
def tw1635238746576340542:=0
def tw1659501870320150698:=0
def tw12332217150064046976:=0
def tw6244632777481904246:=0
def tw250057967878982723:=0
def tw14714177786459253672:=0
def tw7247786807636159777:=0
def tw18216075322868388764:=0
def tw17054588581923026024:=0
def tw15788098441901915250:=0
def tw5115622776109120168:=0
def tw7702185254163632780:=0
def tw10252393917259680101:=0
def tw7869207000624173565:=0
def tw16576177419556741423:=0
def tw8498142621222404316:=0
def tw3832904263768035092:=0
def tw7247325080647941557:=0
def tw9704147406740902783:=0
end PySem.W.Fast
open PySem PySem.W PyProof.Rows
set_option maxRecDepth 100000 in
set_option maxHeartbeats 0 in
theorem PySem.Challenge.cw_putsigns_k04_ways_by_their_stretches_holds : PySem.Challenge.rw_putsigns_k04_ways_by_their_stretches.Holds := by
  w_on;o_law;k_head;(case hw=>w_witness2)
  k_fill
  refine Put.walk (l:=PySem.Challenge.rw_putsigns_k04_ways_by_their_stretches) rfl rfl ?hi (fun w h Y=>PySem.W.kIn_of Y) ?F
  case hi=>first|rfl|decide +kernel
  case F =>
    intro w mg fa h KX G hmg;refine' Put.all_mk KX G hmg ?q0 ?q1 ?q2 ?q3 ?q4 ?q5 ?q6 ?q7 ?q8 ?q9 ?q10 ?q11 ?q12 ?q13 ?q14 ?q15 ?q16 ?q17 ?q18 ?q19 ?q20 ?q21 ?q22 ?q23 ?q24 ?q25 ?q26 ?q27 ?q28 ?q29 ?q30 ?a31 ?l31 ?c31 ?k31 ?z_len ?z_isinstance ?z_int ?z_bool ?z_str ?z_tuple ?z_list ?z_sorted ?z_range ?z_repr ?z_enumerate ?z_sum ?z_all ?z_min ?z_max ?z_abs ?z_divmod ?z_dict ?z_set ?z_reversed ?z_any ?z_zip ?gM ?gS ?lS ?n_PutError ?n_NoRow ?n_NoSigns ?n_NoWay ?n_NoNumber ?n_NoPlace ?n_NoFit ?n_NoForm ?n_NoAsk ?n_NoHolds ?n_NoText ?n_TooMany ?z_ValueError ?l_PutError ?s_PutError ?t_PutError ?i_PutError ?l_NoRow ?s_NoRow ?t_NoRow ?i_NoRow ?f1_NoRow ?f2_NoRow ?f3_NoRow ?f4_NoRow ?f5_NoRow ?f6_NoRow ?c_NoRow ?y_NoRow ?c_NoSigns ?y_NoSigns ?c_NoWay ?y_NoWay ?c_NoNumber ?y_NoNumber ?c_NoPlace ?y_NoPlace ?c_NoFit ?y_NoFit ?c_NoForm ?y_NoForm ?c_NoAsk ?y_NoAsk ?c_NoHolds ?y_NoHolds ?c_NoText ?y_NoText ?c_TooMany ?y_TooMany ?u_NoRow_NoSigns ?d_NoRow_NoSigns ?u_NoRow_NoWay ?d_NoRow_NoWay ?u_NoRow_NoNumber ?d_NoRow_NoNumber ?u_NoRow_NoPlace ?d_NoRow_NoPlace ?u_NoRow_NoFit ?d_NoRow_NoFit ?u_NoRow_NoForm ?d_NoRow_NoForm ?u_NoRow_NoAsk ?d_NoRow_NoAsk ?u_NoRow_NoHolds ?d_NoRow_NoHolds ?u_NoRow_NoText ?d_NoRow_NoText ?u_NoRow_TooMany ?d_NoRow_TooMany
    (case q0=>exact L2.Fq.mk4 (by k_is) (by k_is) (by k_is) (by k_is))
    (case q1=>exact L2.Fq.mk4 (by k_is) (by k_is) (by k_is) (by k_is))
    (case q2=>exact L2.Fq.mk4 (by k_is) (by k_is) (by k_is) (by k_is))
    (case q3=>exact L2.Fq.mk4 (by k_is) (by k_is) (by k_is) (by k_is))
    (case q4=>exact L2.Fq.mk4 (by k_is) (by k_is) (by k_is) (by k_is))
    (case q5=>exact L2.Fq.mk4 (by k_is) (by k_is) (by k_is) (by k_is))
    (case q6=>exact L2.Fq.mk4 (by k_is) (by k_is) (by k_is) (by k_is))
    (case q7=>exact L2.Fq.mk4 (by k_is) (by k_is) (by k_is) (by k_is))
    (case q8=>exact L2.Fq.mk4 (by k_is) (by k_is) (by k_is) (by k_is))
    (case q9=>exact L2.Fq.mk4 (by k_is) (by k_is) (by k_is) (by k_is))
    (case q10=>exact L2.Fq.mk4 (by k_is) (by k_is) (by k_is) (by k_is))
    (case q11=>exact L2.Fq.mk4 (by k_is) (by k_is) (by k_is) (by k_is))
    (case q12=>exact L2.Fq.mk4 (by k_is) (by k_is) (by k_is) (by k_is))
    (case q13=>exact L2.Fq.mk4 (by k_is) (by k_is) (by k_is) (by k_is))
    (case q14=>exact L2.Fq.mk4 (by k_is) (by k_is) (by k_is) (by k_is))
    (case q15=>exact L2.Fq.mk4 (by k_is) (by k_is) (by k_is) (by k_is))
    (case q16=>exact L2.Fq.mk4 (by k_is) (by k_is) (by k_is) (by k_is))
    (case q17=>exact L2.Fq.mk4 (by k_is) (by k_is) (by k_is) (by k_is))
    (case q18=>exact L2.Fq.mk4 (by k_is) (by k_is) (by k_is) (by k_is))
    (case q19=>exact L2.Fq.mk4 (by k_is) (by k_is) (by k_is) (by k_is))
    (case q20=>exact L2.Fq.mk4 (by k_is) (by k_is) (by k_is) (by k_is))
    (case q21=>exact L2.Fq.mk4 (by k_is) (by k_is) (by k_is) (by k_is))
    (case q22=>exact L2.Fq.mk4 (by k_is) (by k_is) (by k_is) (by k_is))
    (case q23=>exact L2.Fq.mk4 (by k_is) (by k_is) (by k_is) (by k_is))
    (case q24=>exact L2.Fq.mk4 (by k_is) (by k_is) (by k_is) (by k_is))
    (case q25=>exact L2.Fq.mk4 (by k_is) (by k_is) (by k_is) (by k_is))
    (case q26=>exact L2.Fq.mk4 (by k_is) (by k_is) (by k_is) (by k_is))
    (case q27=>exact L2.Fq.mk4 (by k_is) (by k_is) (by k_is) (by k_is))
    (case q28=>exact L2.Fq.mk4 (by k_is) (by k_is) (by k_is) (by k_is))
    (case q29=>exact L2.Fq.mk4 (by k_is) (by k_is) (by k_is) (by k_is))
    (case q30=>exact L2.Fq.mk4 (by k_is) (by k_is) (by k_is) (by k_is))
    (case a31=>k_is)
    (case l31=>k_is)
    (case c31=>k_is)
    (case k31=>k_is)
    (case z_len=>k_is)
    (case z_isinstance=>k_is)
    (case z_int=>k_is)
    (case z_bool=>k_is)
    (case z_str=>k_is)
    (case z_tuple=>k_is)
    (case z_list=>k_is)
    (case z_sorted=>k_is)
    (case z_range=>k_is)
    (case z_repr=>k_is)
    (case z_enumerate=>k_is)
    (case z_sum=>k_is)
    (case z_all=>k_is)
    (case z_min=>k_is)
    (case z_max=>k_is)
    (case z_abs=>k_is)
    (case z_divmod=>k_is)
    (case z_dict=>k_is)
    (case z_set=>k_is)
    (case z_reversed=>k_is)
    (case z_any=>k_is)
    (case z_zip=>k_is)
    (case gM=>k_is)
    (case gS=>k_is)
    (case lS=>k_is)
    (case n_PutError=>k_is)
    (case n_NoRow=>k_is)
    (case n_NoSigns=>k_is)
    (case n_NoWay=>k_is)
    (case n_NoNumber=>k_is)
    (case n_NoPlace=>k_is)
    (case n_NoFit=>k_is)
    (case n_NoForm=>k_is)
    (case n_NoAsk=>k_is)
    (case n_NoHolds=>k_is)
    (case n_NoText=>k_is)
    (case n_TooMany=>k_is)
    (case z_ValueError=>k_is)
    (case l_PutError=>k_is)
    (case s_PutError=>k_is)
    (case t_PutError=>rfl)
    (case i_PutError=>rfl)
    (case l_NoRow=>k_is)
    (case s_NoRow=>k_is)
    (case t_NoRow=>rfl)
    (case i_NoRow=>rfl)
    (case f1_NoRow=>k_is)
    (case f2_NoRow=>k_is)
    (case f3_NoRow=>k_is)
    (case f4_NoRow=>k_is)
    (case f5_NoRow=>k_is)
    (case f6_NoRow=>k_is)
    (case c_NoRow=>k_is)
    (case y_NoRow=>k_is)
    (case c_NoSigns=>k_is)
    (case y_NoSigns=>k_is)
    (case c_NoWay=>k_is)
    (case y_NoWay=>k_is)
    (case c_NoNumber=>k_is)
    (case y_NoNumber=>k_is)
    (case c_NoPlace=>k_is)
    (case y_NoPlace=>k_is)
    (case c_NoFit=>k_is)
    (case y_NoFit=>k_is)
    (case c_NoForm=>k_is)
    (case y_NoForm=>k_is)
    (case c_NoAsk=>k_is)
    (case y_NoAsk=>k_is)
    (case c_NoHolds=>k_is)
    (case y_NoHolds=>k_is)
    (case c_NoText=>k_is)
    (case y_NoText=>k_is)
    (case c_TooMany=>k_is)
    (case y_TooMany=>k_is)
    (case u_NoRow_NoSigns=>k_is)
    (case d_NoRow_NoSigns=>rfl)
    (case u_NoRow_NoWay=>k_is)
    (case d_NoRow_NoWay=>rfl)
    (case u_NoRow_NoNumber=>k_is)
    (case d_NoRow_NoNumber=>rfl)
    (case u_NoRow_NoPlace=>k_is)
    (case d_NoRow_NoPlace=>rfl)
    (case u_NoRow_NoFit=>k_is)
    (case d_NoRow_NoFit=>rfl)
    (case u_NoRow_NoForm=>k_is)
    (case d_NoRow_NoForm=>rfl)
    (case u_NoRow_NoAsk=>k_is)
    (case d_NoRow_NoAsk=>rfl)
    (case u_NoRow_NoHolds=>k_is)
    (case d_NoRow_NoHolds=>rfl)
    (case u_NoRow_NoText=>k_is)
    (case d_NoRow_NoText=>rfl)
    (case u_NoRow_TooMany=>k_is)
    (case d_NoRow_TooMany=>rfl)

