import PyProof.Rows.All
import Wide.All
import OpenK.AllK
import Wide.FinOn
import Lean
import PyProof.EqAt
import PyProof.EqKinds
import PyProof.TupleCall
import PySem.Challenge.RW_putsigns_k06_ways_in_order
open PySem.W renaming Frag → aaa, mg_none_of → aaq, nsIn → aav, kia_one → aaZ, keepIn → abe, fnOf → abf, codeIn → abz, mg_of → abU, findIn → ab3, Looks → ab8
open Nat renaming le_refl → aab, ne_of_lt → aap, lt_of_lt_of_le → aar, zero_le → aaB, le_trans → aa5, zero_add → aa6, lt_succ_of_lt → abl, lt_irrefl → abr, ne_of_gt → abK, le_succ → abZ, le_of_lt → ab6
open List renaming size_toArray → aac, length_map → aad, getElem?_eq_getElem → aae, mem_append_right → aaf, getElem?_eq_some_iff → aag, append_assoc → aaj, mem_of_getElem? → aam, length_take → aas, length_append → aat, mem_cons_self → aaw, mem_cons → aax, mem_cons_of_mem → aay, length_drop → aaC, mem_append → aaE, getElem?_map → aaF, replicate → aaG, take_append_drop → aaI, take_add_one → aaK, map_append → aaL, perm_append_comm → aaM, drop_eq_getElem_cons → aaP, flatMap_cons → aaQ, range → aaR, drop_of_length_le → aaS, all_eq_true → aaW, pairwise_iff_getElem → aaY, take_length → aa4, getD_eq_getElem?_getD → aa8, take_of_length_le → aba, extract_eq_drop_take → abd, mem_singleton → abh, pairwise_append → abj, replicate_succ → abm, getElem?_append_right → abn, Nodup → abp, length_singleton → abq, mem_range → abu, mem_append_left → abw, mem_flatMap → aby, pairwise_cons → abA, mem_map → abB, flatten_cons → abD, mem_of_mem_take → abE, getElem?_append_left → abF, getElem_mem → abG, length_cons → abH, getElem_of_mem → abI, getElem?_take_of_lt → abJ, getElem?_drop → abP, map_cons → abQ, map_drop → abR, length_eq_one_iff → abV, pairwise_map → abY, pairwise_flatMap → ab5, nodup_cons → ab9
open Bool renaming false_ne_true → aah, eq_iff_iff → aaX, false_eq_true → abg, and_eq_true → abo, not_true → ab7
open Array renaming toList_push → aai, length_toList → aan, toList_append → aao, getElem?_toList → aaU, perm_iff_toList_perm → aa7, getElem?_eq_getElem → abt, toList_extract → abv
open PySem.Heap renaming lt_size → aak, get?_push_of_some → aal, get?_push_size → aaA, get?_push_ne → abc, size_update → abi
open PySem renaming boot_len → aau, mem_of_lookup → aa0
open PyProof.Rows renaming boot_isinstance → aaz, callWith_type1 → aa3, boot_repr → abb, boot_tuple → abT
open Int renaming mul_le_mul_of_nonneg_right → aaD, le_refl → aaJ, eq_ofNat_of_zero_le → abO, add_mul → abW, one_mul → abX, mul_nonneg → ab1, le_of_lt → ab4
open PySem.Builtin.Range renaming rangeSize → aaH
open Option.some renaming inj → aaN
open PySem.PassesOwn renaming never → aaO
open Option renaming map_eq_some_iff → aaT, isSome_iff_exists → abL
open List.Perm renaming append_left → aaV, append_right → aa9, refl → ab2
open PySem.Obj renaming mapSeq → aa1
open PySem.Builtin.Str renaming occurrences → aa2
open PySem.F renaming plainAttrs_list → abk, slot_list_append → abM, type_list_append → abN
open PySem.Builtin.List renaming listTooLong → abx
open False renaming elim → abC
open PySem.Paired renaming length → abS
open Ne renaming symm → ab0
set_option Elab.async false
set_option linter.all false
set_option maxRecDepth 100000
namespace L2
open PySem PySem.Spec PyProof.Rows
abbrev Key:=Sum Int Str
def lE:Key→Value→Bool
  | .inl k,v=>Value.isInt k v
  | .inr x,v=>Value.isStrOf x v
def o7 (w:World):Key→Int
  | .inl k=>hashInt k
  | .inr x=>hashStr w x
theorem aR:∀ {k:Key} {v:Value},lE k v=true→(∃ i t,k=Sum.inl i∧v=Value.int i t)∨(∃ x t,k=Sum.inr x∧v=Value.str x t)
  | .inl i,v,h=>by
    obtain ⟨t,e⟩:=Value.isInt_shape (k:=i) (v:=v) h;exact .inl ⟨i,t,rfl,e⟩
  | .inr x,v,h=>by
    obtain ⟨t,e⟩:=Value.isStrOf_shape (x:=x) (v:=v) h;exact .inr ⟨x,t,rfl,e⟩
theorem nI (a b:Int):decide ((Sum.inl a:Key)=Sum.inl b)=(a == b):=by
  by_cases e:a=b
  · subst e;simp
  · have h:¬ (Sum.inl a:Key)=Sum.inl b:=fun q=>e (Sum.inl.inj q);rw [decide_eq_false h];exact (beq_eq_false_iff_ne.mpr e).symm
theorem nF (a b:Str):decide ((Sum.inr a:Key)=Sum.inr b)=decide (a=b):=by
  by_cases e:a=b
  · subst e;simp
  · have h:¬ (Sum.inr a:Key)=Sum.inr b:=fun q=>e (Sum.inr.inj q);rw [decide_eq_false h,decide_eq_false e]
theorem nH (a:Int) (b:Str):decide ((Sum.inl a:Key)=Sum.inr b)=false:=decide_eq_false (fun q=>nomatch q)
theorem nG (a:Str) (b:Int):decide ((Sum.inr a:Key)=Sum.inl b)=false:=decide_eq_false (fun q=>nomatch q)
def cK (prog:Program) (w:World):PySem.KeyKind prog w Key where
  is:=lE
  hash:=o7 w
  inj:=fun v a b ha hb=>by
    rcases aR ha with ⟨i,t,rfl,rfl⟩|⟨x,t,rfl,rfl⟩
    · rcases aR hb with ⟨j,u,rfl,e⟩|⟨y,u,rfl,e⟩
      · injection e with e1 _;rw [e1]
      · exact nomatch e
    · rcases aR hb with ⟨j,u,rfl,e⟩|⟨y,u,rfl,e⟩
      · exact nomatch e
      · injection e with e1 _;rw [e1]
  byValue:=fun k v h=>by
    rcases aR h with ⟨i,t,rfl,rfl⟩|⟨x,t,rfl,rfl⟩ <;> rfl
  pyHash:=fun hv h=>by
    rcases aR hv with ⟨i,t,rfl,rfl⟩|⟨x,t,rfl,rfl⟩
    · exact wpAny_pyHash_int h
    · exact wpAny_pyHash_str h
  eqBool:=fun hu hv h=>by
    rcases aR hu with ⟨i,t,rfl,rfl⟩|⟨x,t,rfl,rfl⟩
    · rcases aR hv with ⟨j,u,rfl,rfl⟩|⟨y,u,rfl,rfl⟩
      · rw [nI] at h;exact wpAny_eqBool_int h
      · rw [nH] at h;exact SeqAt.EqAt.int_str i t y u _ _ _ _ h
    · rcases aR hv with ⟨j,u,rfl,rfl⟩|⟨y,u,rfl,rfl⟩
      · rw [nG] at h;exact SeqAt.EqAt.str_int x t j u _ _ _ _ h
      · rw [nF] at h;exact wpAny_eqBool_str h
  «strs»:=fun k x t v h=>by
    rcases aR h with ⟨i,u,rfl,e⟩|⟨y,u,rfl,e⟩
    · exact nomatch e
    · injection e with e1 _
      subst e1;cases v <;> rfl
theorem jH (prog:Program) (w:World) (k:Key) (v:Value):(cK prog w).is k v=lE k v:=rfl
open PySem PySem.Spec PyProof.Rows
inductive V where
  | non|bl (b:Bool)|int (i:Int)|str (x:Str)|byt (b:Array UInt8)|flt (b:UInt64)|ref (a:Addr)|ty (n:String)
  deriving DecidableEq
def RelV:V→Value→Prop
  | .non,u=>u=Value.none
  | .bl b,u=>u=Value.bool b
  | .int i,u=>∃ t,u=Value.int i t
  | .str x,u=>∃ t,u=Value.str x t
  | .byt b,u=>∃ t,u=Value.bytes b t
  | .flt b,u=>∃ t,u=Value.float b t
  | .ref a,u=>u=Value.ref a
  | .ty n,u=>u=Value.type n
abbrev Vals:List V→List Value→Prop:=Paired RelV
theorem Vals.length {xs:List V} {us:List Value} (r:Vals xs us):xs.length=us.length:=abS r
theorem Vals.get:∀ {xs:List V} {us:List Value} {i:Nat} {x:V},Vals xs us→xs[i]?=some x→∃ u,us[i]?=some u∧RelV x u
  | _,_,_,_,.nil,e=>by simp at e
  | _,_,0,_,.cons r _,e=>by simp at e;subst e;exact ⟨_,rfl,r⟩
  | _,_,i+1,x,.cons _ t,e=>by
    obtain ⟨u,h1,h2⟩:=Vals.get (i:=i) (x:=x) t (by simpa using e);exact ⟨u,by simpa using h1,h2⟩
theorem Vals.set {x:V} {u:Value} (r:RelV x u):∀ {xs:List V} {us:List Value} (i:Nat),Vals xs us→Vals (xs.set i x) (us.set i u)
  | _,_,_,.nil=>.nil
  | _,_,0,.cons _ t=>.cons r t
  | _,_,i+1,.cons q t=>.cons q (Vals.set r i t)
theorem Vals.append:∀ {xs ys:List V} {us ws:List Value},Vals xs us→Vals ys ws→Vals (xs++ys) (us++ws)
  | _,_,_,_,.nil,s=>s
  | _,_,_,_,.cons r t,s=>.cons r (Vals.append t s)
theorem Vals.take:∀ {xs:List V} {us:List Value} (n:Nat),Vals xs us→Vals (xs.take n) (us.take n)
  | _,_,0,_=>.nil
  | _,_,_+1,.nil=>.nil
  | _,_,n+1,.cons r t=>.cons r (Vals.take n t)
theorem Vals.drop:∀ {xs:List V} {us:List Value} (n:Nat),Vals xs us→Vals (xs.drop n) (us.drop n)
  | _,_,0,r=>r
  | _,_,_+1,.nil=>.nil
  | _,_,n+1,.cons _ t=>Vals.drop n t
def nT:Option V→Option Value→Prop
  | some v,some u=>RelV v u
  | none,none=>True
  | _,_=>False
def KV {κ:Type}:List (κ × V)→List (κ × Value)→Prop:=Paired fun (p:κ × V) (q:κ × Value)=>p.1=q.1∧RelV p.2 q.2
def kV:Key→V
  | .inl i=>.int i
  | .inr x=>.str x
inductive HO where
  | lst (xs:List V)
  | tup (xs:List V)
  | dK (kvs:List (Key × V))|dT (kvs:List (List Key × V))
  | set (S:Int→Bool) (n:Nat)
  | ins (C dx:Addr) (fs:List (Str × V))
  | own (x:Addr)
  | xd (fs:List (Str × V))
  | met (f x:Addr)
  | rng (lo hi:Int)
  | frz (o:Obj) (u:HO)
  | tbl (ps:Array Value)
  | ext (φ:Heap→Prop)
abbrev Hp:=Addr→Option HO
def upd (H:Hp) (a:Addr) (o:HO):Hp:=fun b=>if b=a then some o else H b
theorem ag {H:Hp} {a:Addr} {o:HO}:upd H a o a=some o:=by unfold upd;rw [if_pos rfl]
theorem aD {H:Hp} {a b:Addr} {o:HO} (h:b≠a):upd H a o b=H b:=by unfold upd;rw [if_neg h]
theorem aK {H:Hp} {a b:Addr} {o:HO} (h:H a=some o) (h':H b=none):a≠b:=by
  intro e;subst e;rw [h] at h';cases h'
section
variable (P:Program) (w:World)
def ObjOk (H:Hp) (h:Heap) (a:Addr):HO→Prop
  | .lst xs=>xs.length≤sizeLine∧∃ (its:List Value) (n:Nat),Vals xs its∧h.get? a=some { cls:=.type "list",data:=.seq its.toArray n }
  | .tup xs=>xs.length≤sizeLine∧∃ its:List Value,Vals xs its∧IsTup h a its.toArray
  | .dK kvs=>kvs.length≤sizeLine∧(a == sysModules)=false∧∃ vs,KV kvs vs∧h.DictOf (cK P w) a vs
  | .dT kvs=>kvs.length≤sizeLine∧(a == sysModules)=false∧∃ xs:List (List Key × Addr × Value),
      Paired (fun (p:List Key × V) (q:List Key × Addr × Value)=>p.1=q.1∧H q.2.1=some (.tup (p.1.map kV))∧RelV p.2 q.2.2) kvs xs ∧
      ∃ o es ep,h.get? a=some o∧o.ExactDict∧o.data=.dict es ep∧es.toList=xs.map (entryOfKey (tupleKind (cK P w)))∧(xs.map (·.1)).Nodup
  | .set S n=>h.SetOf (intKind P w) a S n
  | .ins C dx fs=>H dx=some (.own a)∧fs.length≤1000∧dx≠a∧h.get? a=some (PySem.W.instObj C dx) ∧
      ∃ mA,h.Ns1 dx mA∧(∀ f,nT (fs.lookup f) (mA f))∧PySem.Within mA (fs.map (·.1))
  | .own _=>∃ o,h.get? a=some o
  | .xd fs=>∃ mA,h.Ns1 a mA∧∀ f,nT (fs.lookup f) (mA f)
  | .rng lo hi=>∃ t u v,h.get? a=some { cls:=.type "range",data:=.fields #[.int lo t,.int hi u,.int 1 v] }
  | .frz o u=>h.get? a=some o∧ObjOk H h a u
  | .tbl ps=>h.get? a=some { cls:=.none,data:=.fields ps }
  | .met f x=>h.get? a=some (PySem.W.methodObj (.ref f) (.ref x))
  | .ext φ=>φ h∧(∃ o,h.get? a=some o)∧∀ h1 h2:Heap,φ h1→(∀ o,h1.get? a=some o→h2.get? a=some o)→φ h2
def HOk (H:Hp) (h:Heap):Prop:=∀ a o,H a=some o→ObjOk P w H h a o
end
section
variable {P:Program} {w:World} {H H':Hp} {h h':Heap} {a:Addr} {o:HO}
theorem ObjOk.lt (x:ObjOk P w H h a o):a < h.objs.size:=by
  cases o with
  | lst xs=>obtain ⟨_,_,_,_,e⟩:=x;exact aak e
  | tup xs=>obtain ⟨_,_,_,p⟩:=x;exact p.lt
  | dK kvs=>obtain ⟨_,_,_,_,o,_,_,e,_⟩:=x;exact aak e
  | dT kvs=>obtain ⟨_,_,_,_,o,_,_,e,_⟩:=x;exact aak e
  | set S n=>obtain ⟨o,_,_,_,e,_⟩:=x;exact aak e
  | ins C dx fs=>obtain ⟨_,_,_,e,_⟩:=x;exact aak e
  | own y=>obtain ⟨_,e⟩:=x;exact aak e
  | xd fs=>obtain ⟨_,⟨_,_,_,e,_⟩,_⟩:=x;exact aak e
  | rng lo hi=>obtain ⟨_,_,_,e⟩:=x;exact aak e
  | frz ob u=>obtain ⟨e,_⟩:=x;exact aak e
  | tbl ps=>exact aak (show h.get? a=some _ from x)
  | met f y=>exact aak (show h.get? a=some _ from x)
  | ext φ=>obtain ⟨_,⟨_,e⟩,_⟩:=x;exact aak e
theorem Paired.mapP {α β:Type} {F G:α→β→Prop}:∀ {l₁:List α} {l₂:List β},Paired F l₁ l₂→(∀ a b,F a b→G a b)→Paired G l₁ l₂
  | _,_,.nil,_=>.nil
  | _,_,.cons r t,f=>.cons (f _ _ r) (Paired.mapP t f)
theorem ObjOk.stay (x:ObjOk P w H h a o) (k:∀ b u,(b=a∨H b=some (.own a))→h.get? b=some u→h'.get? b=some u)
    (ho:∀ b,H b=some (.own a)→H' b=some (.own a)) (ht:∀ b xs,H b=some (.tup xs)→H' b=some (.tup xs)):ObjOk P w H' h' a o:=by
  induction o with
  | lst xs=>obtain ⟨z,its,n,r,e⟩:=x;exact ⟨z,its,n,r,k _ _ (.inl rfl) e⟩
  | tup xs=>obtain ⟨z,its,r,ob,e,c⟩:=x;exact ⟨z,its,r,ob,k _ _ (.inl rfl) e,c⟩
  | dK kvs=>obtain ⟨z,y,vs,r,ob,es,ep,e,c⟩:=x;exact ⟨z,y,vs,r,ob,es,ep,k _ _ (.inl rfl) e,c⟩
  | dT kvs =>
    obtain ⟨z,y,xs,r,ob,es,ep,e,c⟩:=x;exact ⟨z,y,xs,Paired.mapP r fun p q z=>⟨z.1,ht _ _ z.2.1,z.2.2⟩,ob,es,ep,k _ _ (.inl rfl) e,c⟩
  | set S n=>obtain ⟨ob,es,ep,t,e,c⟩:=x;exact ⟨ob,es,ep,t,k _ _ (.inl rfl) e,c⟩
  | ins C dx fs =>
    obtain ⟨d,z,ne,e,mA,⟨od,es,ep,e2,c⟩,r⟩:=x;exact ⟨ho _ d,z,ne,k _ _ (.inl rfl) e,mA,⟨od,es,ep,k _ _ (.inr d) e2,c⟩,r⟩
  | own y=>obtain ⟨ob,e⟩:=x;exact ⟨ob,k _ _ (.inl rfl) e⟩
  | xd fs=>obtain ⟨mA,⟨od,es,ep,e,c⟩,r⟩:=x;exact ⟨mA,⟨od,es,ep,k _ _ (.inl rfl) e,c⟩,r⟩
  | rng lo hi=>obtain ⟨t,u,v,e⟩:=x;exact ⟨t,u,v,k _ _ (.inl rfl) e⟩
  | frz ob u ih=>obtain ⟨e,q⟩:=x;exact ⟨k _ _ (.inl rfl) e,ih q⟩
  | tbl ps =>
    have e:h.get? a=some { cls:=.none,data:=.fields ps }:=x;show h'.get? a=some { cls:=.none,data:=.fields ps };exact k a _ (.inl rfl) e
  | met f y =>
    have e:h.get? a=some (PySem.W.methodObj (.ref f) (.ref y)):=x;show h'.get? a=some (PySem.W.methodObj (.ref f) (.ref y));exact k a _ (.inl rfl) e
  | ext φ=>obtain ⟨p,⟨o,e⟩,st⟩:=x;exact ⟨st _ _ p fun o q=>k _ _ (.inl rfl) q,⟨o,k _ _ (.inl rfl) e⟩,st⟩
theorem HOk.lt (x:HOk P w H h) (e:H a=some o):a < h.objs.size:=(x a o e).lt
theorem HOk.fresh (x:HOk P w H h) (e:h.objs.size≤a):H a=none:=by
  cases q:H a with
  | none=>rfl
  | some u=>exact absurd (aar (x.lt q) e) (abr _)
theorem HOk.kept (x:HOk P w H h) (k:∀ b u,h.get? b=some u→h'.get? b=some u):HOk P w H h':=fun a o e =>
  (x a o e).stay (fun b u _ q=>k b u q) (fun _ q=>q) fun _ _ q=>q
theorem HOk.laid (x:HOk P w H h) (k:∀ b u,h.get? b=some u→h'.get? b=some u) (hp:h.objs.size≤a) (new:ObjOk P w (upd H a o) h' a o):HOk P w (upd H a o) h':=fun b u e=>by
  have hn:=x.fresh hp;by_cases hb:b=a
  · subst hb;rw [ag] at e;cases e;exact new
  · rw [aD hb] at e;exact (x b u e).stay (fun c v _ q=>k c v q) (fun c q=>by rw [aD (aK q hn)];exact q) fun c xs q=>by rw [aD (aK q hn)];exact q
end
def Rd (H:Hp) (a:Addr) (u:HO):Prop:=H a=some u∨∃ o,H a=some (.frz o u)
theorem Rd.ok {P:Program} {w:World} {H:Hp} {h:Heap} {a:Addr} {u:HO} (r:Rd H a u) (x:HOk P w H h):ObjOk P w H h a u:=by
  rcases r with r|⟨o,r⟩
  · exact x a u r
  · obtain ⟨_,q⟩:=x a _ r;exact q
def Mut:Option HO→Prop
  | some (.lst _)=>True
  | some (.dK _)=>True
  | some (.dT _)=>True
  | some (.set _ _)=>True
  | some (.ins _ _ _)=>True
  | some (.ext _)=>True
  | _=>False
section
variable {P:Program} {w:World} {H:Hp} {h h':Heap} {x e:Addr} {o':HO}
theorem HOk.write (ok:HOk P w H h) (mu:Mut (H x)) (he:e=x∨H e=some (.own x)) (k:∀ b u,b≠e→h.get? b=some u→h'.get? b=some u) (heo:∃ u,h'.get? e=some u)
    (new:ObjOk P w (upd H x o') h' x o'):HOk P w (upd H x o') h':=fun b u q=>by
  have nown:∀ c y,H c=some (.own y)→c≠x:=fun c y r z=>by subst z;rw [r] at mu;exact mu
  have ntup:∀ c xs,H c=some (.tup xs)→c≠x:=fun c xs r z=>by subst z;rw [r] at mu;exact mu
  by_cases hb:b=x
  · subst hb;rw [ag] at q;cases q;exact new
  · rw [aD hb] at q;by_cases hbe:b=e
    · have q':H b=some (.own x):=by
        rcases he with z|z
        · exact absurd (hbe.trans z) hb
        · rw [hbe];exact z
      rw [q] at q';cases q';obtain ⟨v,hv⟩:=heo;exact ⟨v,by rw [hbe];exact hv⟩
    · refine (ok b u q).stay (fun c v hc r=>k c v ?_ r) (fun c r=>by rw [aD (nown c b r)];exact r) fun c xs r=>by rw [aD (ntup c xs r)];exact r
      rcases hc with rfl|hc
      · exact hbe
      · rintro rfl;rcases he with z|z
        · exact nown c b hc z
        · rw [hc] at z;cases z;exact hb rfl
end
structure Un (fs ex:List Addr) (H H':Hp) (h h':Heap):Prop where
  keep:∀ b o,h.get? b=some o→H b=none→b∉fs→b∉ex→h'.get? b=some o
  slot:∀ b o,h.get? b=some o→H b=none→b∈fs→b∉ex→∃ sl,h'.get? b=some { o with slots:=sl }
  free:∀ b o,h.get? b=some o→H b=none→b∉ex→H' b=none
  there:∀ b o,h.get? b=some o→b∉ex→∃ o',h'.get? b=some o'
  tups:∀ b xs,H b=some (.tup xs)→H' b=some (.tup xs)
  frzs:∀ b o u,H b=some (.frz o u)→H' b=some (.frz o u)
  tbls:∀ b ps,H b=some (.tbl ps)→∃ more,H' b=some (.tbl (ps++more))
section
variable {fs fs' ex ex':List Addr} {H H1 H2:Hp} {h h1 h2 h':Heap} {a x e:Addr} {o:HO}
theorem Un.any (u:Un fs ex H H1 h h1) {b:Addr} {ob:Obj} (q:h.get? b=some ob) (n:H b=none) (hx:b∉ex):∃ sl,h1.get? b=some { ob with slots:=sl }:=by
  by_cases hb:b∈fs
  · exact u.slot b ob q n hb hx
  · exact ⟨ob.slots,u.keep b ob q n hb hx⟩
theorem Un.kept (k:∀ b u,h.get? b=some u→h'.get? b=some u):Un fs ex H H h h' :=
  ⟨fun b ob q _ _ _=>k b ob q,fun b ob q _ _ _=>⟨ob.slots,k b ob q⟩,fun _ _ _ n _=>n,fun b ob q _=>⟨ob,k b ob q⟩,fun _ _ q=>q,fun _ _ _ q=>q,fun _ ps q=>⟨#[],by rw [q];simp⟩⟩
theorem Un.refl:Un fs ex H H h h:=Un.kept fun _ _ q=>q
theorem Un.laid (k:∀ b u,h.get? b=some u→h'.get? b=some u) (hp:h.objs.size≤a) (hn:H a=none):Un fs ex H (upd H a o) h h' where
  keep:=fun b u q _ _ _=>k b u q
  slot:=fun b u q _ _ _=>⟨u.slots,k b u q⟩
  free:=fun b u q n _=>by rw [aD (aap (aar (aak q) hp))];exact n
  there:=fun b u q _=>⟨u,k b u q⟩
  tups:=fun b xs q=>by rw [aD (aK q hn)];exact q
  frzs:=fun b u xs q=>by rw [aD (aK q hn)];exact q
  tbls:=fun b ps q=>⟨#[],by rw [aD (aK q hn),q];simp⟩
theorem Un.write (mu:Mut (H x)) (he:e=x∨H e=some (.own x)) (k:∀ b u,b≠e→h.get? b=some u→h'.get? b=some u) (heo:∃ u,h'.get? e=some u):Un fs ex H (upd H x o) h h':=by
  have hx:∀ b,H b=none→b≠x:=fun b n z=>by subst z;rw [n] at mu;exact mu
  have hb:∀ b,H b=none→b≠e:=fun b n z=>by
    subst z;rcases he with r|r
    · exact hx b n r
    · rw [n] at r;cases r
  have hm:∀ b u,H b=some u→¬ Mut (some u)→b≠x:=fun b u q nm z=>by subst z;rw [q] at mu;exact nm mu
  refine ⟨fun b u q n _ _=>k b u (hb b n) q,fun b u q n _ _=>⟨u.slots,k b u (hb b n) q⟩,fun b u q n _=>by rw [aD (hx b n)];exact n,fun b u q _=>?_,
    fun b xs q=>by rw [aD (hm b _ q fun z=>z)];exact q,fun b u xs q=>by rw [aD (hm b _ q fun z=>z)];exact q,fun b ps q=>⟨#[],by rw [aD (hm b _ q fun z=>z),q];simp⟩⟩
  by_cases hbe:b=e
  · subst hbe;exact heo
  · exact ⟨u,k b u hbe q⟩
end
def trk (h:Heap) (H:Hp):List Addr:=(aaR h.objs.size).filter fun a=>(H a).isSome
def iq (h:Heap) (H:Hp):Heap:=PySem.W.hideAll h (trk h H)
theorem kP (h:Heap) (H:Hp):(iq h H).objs.size=h.objs.size:=PySem.W.hideAll_size _ _
theorem lK {h:Heap} {H:Hp} {b:Addr} {o:Obj} (e:h.get? b=some o) (n:H b=none):(iq h H).get? b=some o :=
  PySem.W.hideAll_get _ e fun hm=>by
    have q:(H b).isSome=true:=(List.mem_filter.mp hm).2;rw [n] at q;simp at q
theorem mI {h:Heap} {H:Hp} {b:Addr} {o:Obj} (e:(iq h H).get? b=some o):h.get? b=some o∧H b=none:=by
  have e':h.get? b=some o:=PySem.W.of_hideAll (trk h H) e;refine ⟨e',?_⟩;cases q:H b with
  | none=>rfl
  | some x =>
    have hm:b∈trk h H:=List.mem_filter.mpr ⟨List.mem_range.mpr (aak e'),by simp [q]⟩;have z:(iq h H).get? b=none:=PySem.W.hideAll_none (trk h H) hm;rw [z] at e;cases e
def mQ (g h:Heap) (L:Addr):List (Addr × Obj):=(aaR h.objs.size).filterMap fun a=>if a=L∨(g.get? a).isSome=true then none else (h.get? a).map fun o=>(a,o)
def ba (g h:Heap) (L d:Addr):List (Addr × Obj):=(mQ g h L).filter fun p=>decide (p.1≠d)
open PySem PySem.Spec PyProof.Rows
structure Mod (K:aaa) (mg:Str→Option Value) (base:Heap):Prop where
  kin:K.In base
  glob:base.Ns mainGlobals mg
  blt:∃ mb,base.Ns builtinsNs mb∧∀ x:Str,x ≠ "__name__"→mb x=bootBuiltins x
  nolimit:base.NoLimit
  sysm:∃ mm,base.Ns sysModules mm
structure Cx where
  prog:Program
  w:World
  K:aaa
  mg:Str→Option Value
  base:Heap
  A:Around
  N:List Str
  s₀:Shared
  H₀:Hp
  env:Env
  outer:List Env
  stack:List Env
  ex:List Addr
  fn:Str→Bool
  calm:Bool
  pn:List (Addr × Obj)
  xe:Value→Shared→Prop
def frs (l:List Env):List Addr:=l.filterMap (·.frame)
abbrev Cx.fs (X:Cx):List Addr:=frs X.outer
def Vis (sc:Scope) (x:Str):Prop:=sc.names.lookup x=some .local∨sc.names.lookup x=some .cell∨sc.names.lookup x=some .free
def Loc (sc:Scope) (x:Str):Prop:=sc.names.lookup x=some .local∨sc.names.lookup x=some .cell
def pq (env:Env) (h:Heap) (m:Str→Option Value) (x:Str) (u:Value):Prop :=
  (env.kindOf x=some .local∧m x=some u)∨((env.kindOf x=some .cell∨env.kindOf x=some .free)∧∃ c,env.cells.lookup x=some c∧h.IsCell c (some u))
structure Cx.Ok (X:Cx):Prop where
  mod:Mod X.K X.mg X.base
  kind:X.env.scope.kind=.function
  glob:X.env.globals=mainGlobals
  blt:X.env.builtins=builtinsNs
  above:X.s₀.heap.objs.size≤X.env.locals
  inj:∀ x y c,X.env.cells.lookup x=some c→X.env.cells.lookup y=some c→x=y
  has:∀ x,(X.env.kindOf x=some .cell∨X.env.kindOf x=some .free)→∃ c,X.env.cells.lookup x=some c
  cab:∀ x c,X.fn x=true→X.env.cells.lookup x=some c→X.s₀.heap.objs.size≤c
  hd:X.calm=true→X.A.handled=none
  frames:X.A.frames=some X.stack
  stk:X.stack=X.outer∨(X.stack=X.env :: X.outer∧X.env.frame=some X.env.locals)
  exf:∀ b∈X.ex,b≠X.env.locals∧∀ x c,X.env.cells.lookup x=some c→c≠b
  bs:∀ b o,X.base.get? b=some o→X.s₀.heap.get? b=some o∧X.H₀ b=none
  bsz:X.base.objs.size≤X.s₀.heap.objs.size
  noex:∀ b o,X.base.get? b=some o→b∉X.ex
  exfs:∀ b∈X.ex,b∉X.fs
  funs:X.s₀.heap.FunFrames X.base X.outer
  frf:∀ b∈X.fs,X.H₀ b=none
structure Inv (X:Cx) (pins:List (Addr × Obj)) (σ:List (Option V)) (H:Hp) (s:Shared):Prop where
  ok:X.Ok
  os:s.os=X.s₀.os
  bare:AllBare s.gens
  base:Un X.fs X.ex X.H₀ H X.s₀.heap s.heap
  loc:∃ m,s.heap.Ns X.env.locals m∧∀ (i:Nat) (x:Str) (v:V),X.N[i]?=some x→σ[i]?=some (some v)→Vis X.env.scope x→∃ u,RelV v u∧pq X.env s.heap m x u
  cell:∀ x c,X.env.cells.lookup x=some c→∃ v,s.heap.IsCell c v
  free:H X.env.locals=none
  freeC:∀ x c,X.env.cells.lookup x=some c→H c=none
  pin:∀ p∈X.pn++pins,s.heap.get? p.1=some p.2∧H p.1=none∧p.1≠X.env.locals∧p.1∉X.fs∧∀ v,p.2.data≠.cell v
  hok:HOk X.prog X.w H s.heap
  len:σ.length=X.N.length
section
variable {X:Cx} {pins:List (Addr × Obj)} {σ:List (Option V)} {H H':Hp} {s:Shared} {h':Heap}
theorem Cx.Ok.nofr (ok:X.Ok) {b:Addr} {o:Obj} (e:X.base.get? b=some o):b∉X.fs:=fun hb=>by
  have:=(ok.funs.mem hb).1;rw [e] at this;cases this
theorem Inv.bs (I:Inv X pins σ H s):∀ b o,X.base.get? b=some o→s.heap.get? b=some o∧H b=none:=fun b o e =>
  ⟨I.base.keep b o (I.ok.bs b o e).1 (I.ok.bs b o e).2 (I.ok.nofr e) (I.ok.noex b o e),I.base.free b o (I.ok.bs b o e).1 (I.ok.bs b o e).2 (I.ok.noex b o e)⟩
theorem Inv.bk (I:Inv X pins σ H s):∀ b o,X.base.get? b=some o→s.heap.get? b=some o:=fun b o e=>(I.bs b o e).1
theorem Inv.mod (I:Inv X pins σ H s):Mod X.K X.mg X.base:=I.ok.mod
theorem Inv.kIn (I:Inv X pins σ H s):X.K.In s.heap:=I.ok.mod.kin.keeps I.bk
theorem Inv.lt (I:Inv X pins σ H s):X.env.locals < s.heap.objs.size:=let ⟨_,hn,_⟩:=I.loc;hn.lt
theorem Inv.sz (I:Inv X pins σ H s):X.s₀.heap.objs.size≤s.heap.objs.size:=aa5 I.ok.above (ab6 I.lt)
theorem Inv.nofs (I:Inv X pins σ H s) {a:Addr} (h:s.heap.objs.size≤a):a∉X.fs:=fun hb=>by
  obtain ⟨_,o,ho,_⟩:=I.ok.funs.mem hb;exact absurd (aar (aak ho) (aa5 I.sz h)) (abr _)
theorem Inv.cne (I:Inv X pins σ H s):∀ x c,X.env.cells.lookup x=some c→c≠X.env.locals:=fun x c e z=>by
  obtain ⟨v,o,ho,hd⟩:=I.cell x c e;obtain ⟨m,⟨o',es,ep,ho',hd',_⟩,_⟩:=I.loc;rw [z,ho'] at ho;cases ho;rw [hd'] at hd;cases hd
theorem Inv.funs (I:Inv X pins σ H s):s.heap.FunFrames X.base X.outer:=by
  have all:∀ (l:List Env),(∀ b∈frs l,b∈X.fs)→X.s₀.heap.FunFrames X.base l→s.heap.FunFrames X.base l:=by
    intro l
    induction l with
    | nil=>intro _ _;trivial
    | cons env r ih =>
      intro hs hl;obtain ⟨hk,⟨L,o,hf,hn,ho,hd⟩,hr⟩:=hl;have hL:L∈X.fs:=hs L (by unfold frs;rw [List.filterMap_cons,hf];exact aaw);obtain ⟨sl,e⟩:=I.base.slot L o ho (I.ok.frf L hL) hL fun z=>I.ok.exfs L z hL;exact ⟨hk,⟨L,_,hf,hn,e,hd⟩,ih (fun b hb=>hs b (by unfold frs;rw [List.filterMap_cons,hf];exact aay _ hb)) hr⟩
  exact all X.outer (fun _ hb=>hb) I.ok.funs
theorem Inv.stack (I:Inv X pins σ H s):s.heap.FunFrames X.base X.stack:=by
  rcases I.ok.stk with e|⟨e,hf⟩
  · rw [e];exact I.funs
  · rw [e];obtain ⟨m,hn,_⟩:=I.loc;refine .cons (by rw [I.ok.kind];decide) hf hn ?_ I.funs;exact Heap.get?_none_of_le (aa5 I.ok.bsz I.ok.above)
theorem Inv.stkSub (I:Inv X pins σ H s):∀ b∈frs X.stack,b∈X.env.locals :: X.fs:=fun b hb=>by
  rcases I.ok.stk with e|⟨e,hf⟩
  · rw [e] at hb;exact aay _ hb
  · rw [e] at hb;unfold frs at hb;rw [List.filterMap_cons,hf] at hb;exact hb
theorem Inv.stkFree (I:Inv X pins σ H s):∀ b∈frs X.stack,H b=none:=fun b hb=>by
  rcases aax.mp (I.stkSub b hb) with e|hb
  · rw [e];exact I.free
  · obtain ⟨_,o,ho,_⟩:=I.ok.funs.mem hb;exact I.base.free b o ho (I.ok.frf b hb) fun z=>I.ok.exfs b z hb
theorem Inv.step {g':Array GenState} {t':Nat} {d':Drawn} {ch:List Addr} (I:Inv X pins σ H s)
    (hch:∀ b∈ch,(b∈X.ex∨X.s₀.heap.objs.size≤b)∧b≠X.env.locals∧(∀ x c,X.env.cells.lookup x=some c→c≠b)∧∀ p∈X.pn++pins,p.1≠b)
    (keep:∀ b o,b≠X.env.locals→b∉X.fs→b∉ch→s.heap.get? b=some o→H b=none→h'.get? b=some o)
    (slot:∀ b o,b≠X.env.locals→b∈X.fs→b∉ch→s.heap.get? b=some o→H b=none→∃ sl,h'.get? b=some { o with slots:=sl }) (free:∀ b o,b∉ch→s.heap.get? b=some o→H b=none→H' b=none)
    (there:∀ b o,b∉ch→s.heap.get? b=some o→∃ o',h'.get? b=some o')
    (tups:∀ b xs,H b=some (.tup xs)→H' b=some (.tup xs)) (frzs:∀ b o u,H b=some (.frz o u)→H' b=some (.frz o u)) (tbls:∀ b ps,H b=some (.tbl ps)→∃ more,H' b=some (.tbl (ps++more)))
    (ns:∀ m,s.heap.Ns X.env.locals m→h'.Ns X.env.locals m) (hok:HOk X.prog X.w H' h') (hg:AllBare g') :
    Inv X pins σ H' { s with heap:=h',gens:=g',drawn:=d',toks:=t' }:=by
  have neL:∀ b o,X.s₀.heap.get? b=some o→b≠X.env.locals:=fun b o e=>aap (aar (aak e) I.ok.above);have neC:∀ b o,X.s₀.heap.get? b=some o→b∉X.ex→b∉ch:=fun b o e hx hb=>by
    rcases (hch b hb).1 with z|z
    · exact hx z
    · exact absurd (aar (aak e) z) (abr _)
  have cellK:∀ x c,X.env.cells.lookup x=some c→∀ v,s.heap.IsCell c v→h'.IsCell c v:=fun x c e v ⟨o,ho,hd⟩=>by
    have nch:c∉ch:=fun z=>(hch c z).2.2.1 x c e rfl;by_cases hc:c∈X.fs
    · obtain ⟨sl,q⟩:=slot c o (I.cne x c e) hc nch ho (I.freeC x c e);exact ⟨_,q,hd⟩
    · exact ⟨o,keep c o (I.cne x c e) hc nch ho (I.freeC x c e),hd⟩
  refine ⟨I.ok,I.os,hg,⟨fun b o e n hb hx=>?_,fun b o e n hb hx=>?_,fun b o e n hx=>?_,fun b o e hx=>?_,fun b xs e=>tups b xs (I.base.tups b xs e),fun b o xs e=>frzs b o xs (I.base.frzs b o xs e),fun b ps e=>?_⟩,?_,fun x c e=>?_,?_,fun x c e=>?_,fun p hp=>?_,hok,I.len⟩
  · exact keep b o (neL b o e) hb (neC b o e hx) (I.base.keep b o e n hb hx) (I.base.free b o e n hx)
  · obtain ⟨sl,e1⟩:=I.base.slot b o e n hb hx;obtain ⟨sl',e2⟩:=slot b _ (neL b o e) hb (neC b o e hx) e1 (I.base.free b o e n hx);exact ⟨sl',e2⟩
  · obtain ⟨o',e1⟩:=I.base.there b o e hx;exact free b o' (neC b o e hx) e1 (I.base.free b o e n hx)
  · obtain ⟨o',e1⟩:=I.base.there b o e hx;exact there b o' (neC b o e hx) e1
  · obtain ⟨m1,e1⟩:=I.base.tbls b ps e;obtain ⟨m2,e2⟩:=tbls b _ e1;exact ⟨m1++m2,by rw [e2,Array.append_assoc]⟩
  · obtain ⟨m,hn,hl⟩:=I.loc;refine ⟨m,ns m hn,fun i x v e1 e2 e3=>?_⟩;obtain ⟨u,r,l⟩:=hl i x v e1 e2 e3;refine ⟨u,r,?_⟩;rcases l with l|⟨k,c,e,z⟩
    · exact .inl l
    · exact .inr ⟨k,c,e,cellK x c e _ z⟩
  · obtain ⟨v,z⟩:=I.cell x c e;exact ⟨v,cellK x c e v z⟩
  · obtain ⟨m,⟨o,_,_,ho,_⟩,_⟩:=I.loc;exact free _ o (fun z=>(hch _ z).2.1 rfl) ho I.free
  · obtain ⟨v,o,ho,hd⟩:=I.cell x c e;exact free c o (fun z=>(hch c z).2.2.1 x c e rfl) ho (I.freeC x c e)
  · obtain ⟨e,n,ne,nf,d⟩:=I.pin p hp;have nch:p.1∉ch:=fun z=>(hch p.1 z).2.2.2 p hp rfl;exact ⟨keep p.1 p.2 ne nf nch e n,free p.1 p.2 nch e n,ne,nf,d⟩
theorem Inv.un {t':Nat} (I:Inv X pins σ H s) (u:Un X.fs [] H H' s.heap h') (hok:HOk X.prog X.w H' h'):Inv X pins σ H' { s with heap:=h',toks:=t' }:=by
  obtain ⟨m,⟨o,es,ep,ho,r⟩,_⟩:=id I.loc;obtain ⟨sl,hL⟩:=u.any ho I.free (by simp);exact I.step (g':=s.gens) (d':=s.drawn) (ch:=[]) (fun _ z=>nomatch z) (fun b o _ hb _ e n=>u.keep b o e n hb (by simp)) (fun b o _ hb _ e n=>u.slot b o e n hb (by simp)) (fun b o _ e n=>u.free b o e n (by simp)) (fun b o _ e=>u.there b o e (by simp)) u.tups u.frzs u.tbls (fun m' hm=>by
    obtain ⟨o',es',ep',ho',r'⟩:=hm;rw [ho] at ho';cases ho';exact ⟨_,es',ep',hL,r'⟩) hok I.bare
theorem Inv.call {g':Array GenState} {t':Nat} {d':Drawn} {ch:List Addr} (I:Inv X pins σ H s) (u:Un (frs X.stack) ch H H' s.heap h') (hok:HOk X.prog X.w H' h') (hg:AllBare g')
    (hch:∀ b∈ch,(b∈X.ex∨X.s₀.heap.objs.size≤b)∧b≠X.env.locals∧(∀ x c,X.env.cells.lookup x=some c→c≠b)∧∀ p∈X.pn++pins,p.1≠b) :
    Inv X pins σ H' { s with heap:=h',gens:=g',drawn:=d',toks:=t' }:=by
  obtain ⟨m,⟨o,es,ep,ho,r⟩,_⟩:=id I.loc;obtain ⟨sl,hL⟩:=u.any ho I.free fun z=>(hch _ z).2.1 rfl;exact I.step (ch:=ch) hch (fun b o hL hb hc e n=>u.keep b o e n (fun z=>(aax.mp (I.stkSub b z)).elim hL hb) hc) (fun b o _ _ hc e n=>u.any e n hc) (fun b o hc e n=>u.free b o e n hc) (fun b o hc e=>u.there b o e hc) u.tups u.frzs u.tbls (fun m' hm=>by
    obtain ⟨o',es',ep',ho',r'⟩:=hm;rw [ho] at ho';cases ho';exact ⟨_,es',ep',hL,r'⟩) hok hg
theorem Inv.turned {t':Nat} {it:Addr} (I:Inv X pins σ H s) (k:∀ b o,b≠it→s.heap.get? b=some o→h'.get? b=some o) (hn:H it=none) (hL:it≠X.env.locals)
    (h1:it∈X.ex∨X.s₀.heap.objs.size≤it) (h2:∀ x c,X.env.cells.lookup x=some c→c≠it) (h3:∀ p∈X.pn++pins,p.1≠it):Inv X pins σ H { s with heap:=h',toks:=t' }:=by
  have nit:∀ b u,H b=some u→b≠it:=fun b u e z=>by rw [z,hn] at e;cases e
  refine I.step (g':=s.gens) (d':=s.drawn) (ch:=[it]) (fun b hb=>?_) (fun b o _ _ hc e _=>k b o (fun z=>hc (by simp [z])) e) (fun b o _ _ hc e _=>⟨o.slots,k b o (fun z=>hc (by simp [z])) e⟩) (fun _ _ _ _ n=>n)
    (fun b o hc e=>⟨o,k b o (fun z=>hc (by simp [z])) e⟩) (fun _ _ e=>e) (fun _ _ _ e=>e) (fun b ps e=>⟨#[],by rw [e];simp⟩) (fun m hm=>?_) (fun b u e=>?_) I.bare
  · have e:b=it:=by simpa using hb
    subst e;exact ⟨h1,hL,h2,h3⟩
  · obtain ⟨o,es,ep,ho,r⟩:=hm;exact ⟨o,es,ep,k _ o (ab0 hL) ho,r⟩
  · refine (I.hok b u e).stay (fun c v hc q=>k c v ?_ q) (fun _ q=>q) fun _ _ q=>q;rcases hc with z|z
    · rw [z];exact nit b u e
    · exact nit c _ z
theorem Inv.tok (I:Inv X pins σ H s) (t:Nat):Inv X pins σ H { s with toks:=t }:=I.un (h':=s.heap) (t':=t) Un.refl I.hok
theorem Inv.kept {t':Nat} (I:Inv X pins σ H s) (k:∀ b u,s.heap.get? b=some u→h'.get? b=some u):Inv X pins σ H { s with heap:=h',toks:=t' }:=I.un (Un.kept k) (I.hok.kept k)
theorem Inv.laid {a:Addr} {o:HO} {t':Nat} (I:Inv X pins σ H s) (k:∀ b u,s.heap.get? b=some u→h'.get? b=some u) (hp:s.heap.objs.size≤a) (new:ObjOk X.prog X.w (upd H a o) h' a o) :
    Inv X pins σ (upd H a o) { s with heap:=h',toks:=t' }:=I.un (Un.laid k hp (I.hok.fresh hp)) (I.hok.laid k hp new)
theorem Inv.write {x e:Addr} {o:HO} {t':Nat} (I:Inv X pins σ H s) (mu:Mut (H x)) (he:e=x∨H e=some (.own x)) (k:∀ b u,b≠e→s.heap.get? b=some u→h'.get? b=some u) (heo:∃ u,h'.get? e=some u)
    (new:ObjOk X.prog X.w (upd H x o) h' x o):Inv X pins σ (upd H x o) { s with heap:=h',toks:=t' }:=I.un (Un.write mu he k heo) (I.hok.write mu he k heo new)
theorem Inv.pins_of {pins':List (Addr × Obj)} (I:Inv X pins σ H s) (h:∀ p∈pins',s.heap.get? p.1=some p.2∧H p.1=none∧p.1≠X.env.locals∧p.1∉X.fs∧∀ v,p.2.data≠.cell v):Inv X pins' σ H s :=
  ⟨I.ok,I.os,I.bare,I.base,I.loc,I.cell,I.free,I.freeC,fun p hp=>(aaE.mp hp).elim (fun z=>I.pin p (abw _ z)) (h p),I.hok,I.len⟩
theorem jc {N:List Str} (hN:N.Nodup) {i j:Nat} {x:Str} (a:N[i]?=some x) (b:N[j]?=some x):i=j:=by
  obtain ⟨h1,e1⟩:=aag.mp a;obtain ⟨h2,e2⟩:=aag.mp b;exact (List.getElem_inj hN).mp (e1.trans e2.symm)
theorem kj {M:Model} {A:Around} {E:Value→Shared→Prop} {i:Nat} {x:Str} {v:V} {u:Value} {Q:Unit→Shared→Prop} (I:Inv X pins σ H s) (hN:X.N.Nodup) (hi:X.N[i]?=some x) (hx:Loc X.env.scope x) (r:RelV v u)
    (h:∀ s',Inv X pins (σ.set i (some v)) H s'→(∃ a,Heap.SameBut a s.heap s'.heap∧(a=X.env.locals∨X.env.cells.lookup x=some a))→Q () s') (hf:X.fn x=true∨X.env.scope.names.lookup x=some .local:=by first|exact .inl rfl|exact .inr rfl|assumption):wpAny M A (storeName X.env x u) Q E s:=by
  obtain ⟨m,hn,hl⟩:=id I.loc;have hcls:(X.env.scope.kind == .class || (X.env.scope.kind == .module && X.env.locals != X.env.globals))=false:=by rw [I.ok.kind];rfl
  have hiσ:i < σ.length:=by rw [I.len];exact (aag.mp hi).1
  have cne:=I.cne;have tracked:∀ {a:Addr} {h':Heap},(∃ o,s.heap.get? a=some o∧H a=none)→Heap.SameBut a s.heap h'→HOk X.prog X.w H h':=fun {a h'} ha hs b ob e=>by
    obtain ⟨_,_,hfree⟩:=ha;refine (I.hok b ob e).stay (fun c w' hc q=>(hs.2 c ?_).trans q) (fun _ q=>q) fun _ _ q=>q;rintro rfl;rcases hc with rfl|hc
    · rw [hfree] at e;cases e
    · rw [hfree] at hc;cases hc
  rcases hx with hk|hk
  · refine wpAny_storeName_local hk hn (fun h' hn' hs=>?_) hcls;obtain ⟨oL,_,_,hoL,_⟩:=id hn;refine h _ ⟨I.ok,I.os,I.bare,⟨fun b o e n hb hx=>?_,fun b o e n hb hx=>?_,I.base.free,fun b o e hx=>?_,I.base.tups,I.base.frzs,I.base.tbls⟩,⟨_,hn',fun j y v' e1 e2 e3=>?_⟩,fun y c e=>?_,I.free,I.freeC,fun p hp=>?_,tracked ⟨oL,hoL,I.free⟩ hs,by simpa using I.len⟩ ⟨_,hs,.inl rfl⟩
    · exact (hs.2 b (aap (aar (aak e) I.ok.above))).trans (I.base.keep b o e n hb hx)
    · obtain ⟨sl,e1⟩:=I.base.slot b o e n hb hx;exact ⟨sl,(hs.2 b (aap (aar (aak e) I.ok.above))).trans e1⟩
    · obtain ⟨o',e1⟩:=I.base.there b o e hx;exact ⟨o',(hs.2 b (aap (aar (aak e) I.ok.above))).trans e1⟩
    · by_cases hj:j=i
      · subst hj;rw [hi] at e1;cases e1;rw [List.getElem?_set_self hiσ] at e2;cases e2;exact ⟨u,r,.inl ⟨hk,by simp⟩⟩
      · rw [List.getElem?_set_ne (ab0 hj)] at e2;obtain ⟨u',r',q⟩:=hl j y v' e1 e2 e3;refine ⟨u',r',?_⟩;rcases q with ⟨k,e⟩|⟨k,c,e,z⟩
        · refine .inl ⟨k,?_⟩;have : y≠x:=fun e=>hj (jc hN e1 (e ▸ hi));simp [this,e]
        · exact .inr ⟨k,c,e,z.sameBut hs (cne y c e)⟩
    · obtain ⟨w',z⟩:=I.cell y c e;exact ⟨w',z.sameBut hs (cne y c e)⟩
    · obtain ⟨e,n,ne,nf,d⟩:=I.pin p hp;exact ⟨(hs.2 p.1 ne).trans e,n,ne,nf,d⟩
  · have hfn:X.fn x=true:=by
      rcases hf with z|z
      · exact z
      · rw [z] at hk;cases hk
    obtain ⟨c,hc⟩:=I.ok.has x (.inl hk);obtain ⟨w',z⟩:=I.cell x c hc;refine wpAny_storeName_cell I.ok.kind hk hc z (fun h' hc' hs=>?_);obtain ⟨oc,hoc,hocd⟩:=id z;refine h { s with heap:=h' } ⟨I.ok,I.os,I.bare,⟨fun b o e n hb hx=>?_,fun b o e n hb hx=>?_,I.base.free,fun b o e hx=>?_,I.base.tups,I.base.frzs,I.base.tbls⟩,⟨m,hn.sameBut hs (ab0 (cne x c hc)),fun j y v' e1 e2 e3=>?_⟩,fun y c' e=>?_,I.free,I.freeC,fun p hp=>?_,tracked ⟨oc,hoc,I.freeC x c hc⟩ hs,by simpa using I.len⟩ ⟨c,hs,.inr hc⟩
    · exact (hs.2 b (aap (aar (aak e) (I.ok.cab x c hfn hc)))).trans (I.base.keep b o e n hb hx)
    · obtain ⟨sl,e1⟩:=I.base.slot b o e n hb hx;exact ⟨sl,(hs.2 b (aap (aar (aak e) (I.ok.cab x c hfn hc)))).trans e1⟩
    · obtain ⟨o',e1⟩:=I.base.there b o e hx;exact ⟨o',(hs.2 b (aap (aar (aak e) (I.ok.cab x c hfn hc)))).trans e1⟩
    · by_cases hj:j=i
      · subst hj;rw [hi] at e1;cases e1;rw [List.getElem?_set_self hiσ] at e2;cases e2;exact ⟨u,r,.inr ⟨.inl hk,c,hc,hc'⟩⟩
      · rw [List.getElem?_set_ne (ab0 hj)] at e2;obtain ⟨u',r',q⟩:=hl j y v' e1 e2 e3;refine ⟨u',r',?_⟩;rcases q with q|⟨k,c',e,z'⟩
        · exact .inl q
        · refine .inr ⟨k,c',e,z'.sameBut hs ?_⟩;rintro rfl;exact hj (jc hN e1 (I.ok.inj _ _ _ e hc ▸ hi))
    · by_cases hcc:c'=c
      · subst hcc;exact ⟨_,hc'⟩
      · obtain ⟨w2,z2⟩:=I.cell y c' e;exact ⟨w2,z2.sameBut hs hcc⟩
    · obtain ⟨e,n,ne,nf,d⟩:=I.pin p hp;refine ⟨(hs.2 p.1 ?_).trans e,n,ne,nf,d⟩;intro q;rw [q,hoc] at e;have q':oc=p.2:=aaN e;exact d w' (by rw [← q'];exact hocd)
theorem ei {M:Model} {A:Around} {E:Value→Shared→Prop} {i:Nat} {x:Str} {v:V} {u:Value} {Q:Unit→Shared→Prop} (I:Inv X pins σ H s) (hN:X.N.Nodup) (hi:X.N[i]?=some x) (hx:Loc X.env.scope x) (r:RelV v u)
    (h:∀ s',Inv X pins (σ.set i (some v)) H s'→Q () s') (hf:X.fn x=true∨X.env.scope.names.lookup x=some .local:=by first|exact .inl rfl|exact .inr rfl|assumption):wpAny M A (storeName X.env x u) Q E s :=
  kj I hN hi hx r (fun s' I' _=>h s' I') hf
theorem Inv.call' {s':Shared} {ch:List Addr} (I:Inv X pins σ H s) (ho:s'.os=s.os) (u:Un (frs X.stack) ch H H' s.heap s'.heap) (hok:HOk X.prog X.w H' s'.heap) (hg:AllBare s'.gens)
    (hch:∀ b∈ch,(b∈X.ex∨X.s₀.heap.objs.size≤b)∧b≠X.env.locals∧(∀ x c,X.env.cells.lookup x=some c→c≠b)∧∀ p∈X.pn++pins,p.1≠b):Inv X pins σ H' s':=by
  obtain ⟨h',g',d',t',o'⟩:=s';have e:o'=s.os:=ho;subst e;exact I.call (g':=g') (t':=t') (d':=d') u hok hg hch
end
abbrev XK:=Value→Option Addr→Hp→Prop
abbrev St:=List (Option V)
abbrev VK:=V→Hp→Prop
abbrev TE:=St→Hp→VK→Prop
abbrev TT:=St→Hp→(Bool→Hp→Prop)→Prop
abbrev TA:=St→Hp→(List V→Hp→Prop)→Prop
structure Ends where
  nx:St→Hp→Prop
  rt:VK
  bk:St→Hp→Prop:=fun _ _=>False
  ct:St→Hp→Prop:=fun _ _=>False
abbrev TS:=Ends→St→Hp→Prop
def EP (X:Cx) (pins:List (Addr × Obj)) (σ:St) (Q:VK) (u:Value) (s':Shared):Prop:=∃ v H',Inv X pins σ H' s'∧RelV v u∧Q v H'
def TP (X:Cx) (pins:List (Addr × Obj)) (σ:St) (Q:Bool→Hp→Prop) (b:Bool) (s':Shared):Prop:=∃ H',Inv X pins σ H' s'∧Q b H'
def AP (X:Cx) (pins:List (Addr × Obj)) (σ:St) (Q:List V→Hp→Prop) (us:List Value) (s':Shared):Prop:=∃ vs H',Inv X pins σ H' s'∧Vals vs us∧Q vs H'
def SP (X:Cx) (pins:List (Addr × Obj)) (D:Ends) (f:Flow) (s':Shared):Prop :=
  match f with
  | .next=>∃ σ' H',Inv X pins σ' H' s'∧D.nx σ' H'
  | .brk=>∃ σ' H',Inv X pins σ' H' s'∧D.bk σ' H'
  | .cont=>∃ σ' H',Inv X pins σ' H' s'∧D.ct σ' H'
  | .ret u=>∃ v σ' H',Inv X pins σ' H' s'∧RelV v u∧D.rt v H'
def PE (X:Cx) (e:Expr) (t:TE):Prop :=
  ∀ (pins:List (Addr × Obj)) (s:Shared) (σ:St) (H:Hp) (Q:VK),Inv X pins σ H s→t σ H Q→wpAny (model X.prog X.w) X.A (eval e X.env) (EP X pins σ Q) X.xe s
def PT (X:Cx) (e:Expr) (t:TT):Prop :=
  ∀ (pins:List (Addr × Obj)) (s:Shared) (σ:St) (H:Hp) (Q:Bool→Hp→Prop),Inv X pins σ H s→t σ H Q→wpAny (model X.prog X.w) X.A (isTrue e X.env (eval e X.env)) (TP X pins σ Q) X.xe s
def PW (X:Cx) (e:Expr) (t:TT):Prop :=
  ∀ (whole:Sem Value) (pins:List (Addr × Obj)) (s:Shared) (σ:St) (H:Hp) (Q:Bool→Hp→Prop),Inv X pins σ H s→t σ H Q→wpAny (model X.prog X.w) X.A (isTrue e X.env whole) (TP X pins σ Q) X.xe s
theorem PW.pt {X:Cx} {e:Expr} {t:TT} (h:PW X e t):PT X e t:=h _
def PA (X:Cx) (es:List Expr) (t:TA):Prop :=
  ∀ (pos:Pos) (pins:List (Addr × Obj)) (s:Shared) (σ:St) (H:Hp) (Q:List V→Hp→Prop),Inv X pins σ H s→t σ H Q→wpAny (model X.prog X.w) X.A (spliced (backTo pos (starEach es X.env))) (AP X pins σ Q) X.xe s
def PS (X:Cx) (st:Stmt) (t:TS):Prop :=
  ∀ (pins:List (Addr × Obj)) (s:Shared) (σ:St) (H:Hp) (D:Ends),Inv X pins σ H s→t D σ H→wpAny (model X.prog X.w) X.A (exec st X.env) (SP X pins D) X.xe s
def PSs (X:Cx) (st:List Stmt) (t:TS):Prop :=
  ∀ (pins:List (Addr × Obj)) (s:Shared) (σ:St) (H:Hp) (D:Ends),Inv X pins σ H s→t D σ H→wpAny (model X.prog X.w) X.A (execs st X.env) (SP X pins D) X.xe s
theorem thn {α:Type} {t:Sem α} {Q Q':α→Shared→Prop} {M:Model} {A:Around} {E:Value→Shared→Prop} {s:Shared} (h:wpAny M A t Q E s) (hQ:∀ a s,Q a s→Q' a s):wpAny M A t Q' E s:=wpAny_mono h hQ fun _ _ x=>x
open PySem PySem.Spec PyProof.Rows
section
variable {X:Cx}
def nZ (i:Nat):TE:=fun σ H Q=>∃ v,σ[i]?=some (some v)∧Q v H
def tC (v:V):TE:=fun _ H Q=>Q v H
theorem nj {i:Nat} {x:Str} {pos:Pos} (hN:X.N[i]?=some x) (hv:Vis X.env.scope x) (hd:(x == ("__debug__":Str))=false:=by decide) (hcd:(x == ("__classdict__":Str))=false:=by decide):PE X (.Name x pos) (nZ i):=by
  intro pins s σ H Q I h;obtain ⟨v,e,h⟩:=h;obtain ⟨m,hn,hl⟩:=I.loc;obtain ⟨u,r,l⟩:=hl i x v hN e hv;have fin:EP X pins σ Q u s:=⟨v,H,I,r,h⟩
  rcases l with ⟨hk,hm⟩|⟨hk,c,hc,hcell⟩
  · exact wpAny_Name (wpAny_loadName_local I.ok.kind hk hn hm fin) hd
  · rcases hk with hk|hk
    · exact wpAny_Name (wpAny_loadName_cell I.ok.kind hk hc hcell fin) hd
    · exact wpAny_Name (wpAny_loadName_free I.ok.kind hk hc hcell fin hcd) hd
theorem ae {i j pos}:PE X (.Constant (.int i) j pos) (tC (.int i)):=fun _ _ _ H _ I h=>wpAny_Constant_int ⟨.int i,H,I.tok _,⟨_,rfl⟩,h⟩
theorem dJ {b j pos}:PE X (.Constant (.bool b) j pos) (tC (.bl b)):=fun _ _ _ H _ I h=>Constant_bool ⟨.bl b,H,I,rfl,h⟩
theorem a9 {x j pos}:PE X (.Constant (.str x) j pos) (tC (.str x)):=fun _ _ _ H _ I h=>Calls.Constant_str ⟨.str x,H,I.tok _,⟨_,rfl⟩,h⟩
def Gl (X:Cx) (x:Str):Prop:=X.env.kindOf x=some .globalImplicit
theorem j5 {E:Value→Shared→Prop} {pins:List (Addr × Obj)} {s:Shared} {σ:St} {H:Hp} {x:Str} {u:Value} {pos:Pos} {Q:Value→Shared→Prop} (I:Inv X pins σ H s) (hg:Gl X x) (hm:X.mg x=some u) (h:Q u s)
    (hd:(x == ("__debug__":Str))=false:=by decide):wpAny (model X.prog X.w) X.A (eval (.Name x pos) X.env) Q E s :=
  Calls.Name_function_global I.ok.kind hg (Calls.loadGlobal_global (by rw [I.ok.glob];exact I.mod.glob.keeps I.bk) hm h) hd
theorem ec {E:Value→Shared→Prop} {pins:List (Addr × Obj)} {s:Shared} {σ:St} {H:Hp} {x:Str} {u:Value} {pos:Pos} {Q:Value→Shared→Prop} (I:Inv X pins σ H s) (hg:Gl X x) (hm:X.mg x=none) (hv:bootBuiltins x=some u) (h:Q u s)
    (hn:x ≠ "__name__":=by decide) (hd:(x == ("__debug__":Str))=false:=by decide):wpAny (model X.prog X.w) X.A (eval (.Name x pos) X.env) Q E s:=by
  obtain ⟨mb,h1,h2⟩:=I.mod.blt;exact Calls.Name_function_global I.ok.kind hg (Calls.loadGlobal_builtin (by rw [I.ok.glob];exact I.mod.glob.keeps I.bk) hm (by rw [I.ok.blt];exact h1.keeps I.bk) ((h2 x hn).trans hv) h) hd
theorem eF {x:Str} {v:V} {u:Value} {pos:Pos} (hg:Gl X x) (hm:X.mg x=some u) (r:RelV v u) (hd:(x == ("__debug__":Str))=false:=by decide):PE X (.Name x pos) (tC v) :=
  fun _ _ _ H _ I h=>j5 I hg hm ⟨v,H,I,r,h⟩ hd
theorem b8 {x:Str} {v:V} {u:Value} {pos:Pos} (hg:Gl X x) (hm:X.mg x=none) (hv:bootBuiltins x=some u) (r:RelV v u) (hn:x ≠ "__name__":=by decide) (hd:(x == ("__debug__":Str))=false:=by decide):PE X (.Name x pos) (tC v) :=
  fun _ _ _ H _ I h=>ec I hg hm hv ⟨v,H,I,r,h⟩ hn hd
variable {a b:Expr} {ta tb:TE} {pos:Pos}
def tB (t:TE):TT:=fun σ H Q=>t σ H fun x H1=>∃ c,x=.bl c∧Q c H1
theorem bf {e:Expr} {t:TE} (h:PE X e t) (he:∀ whole,isTrue e X.env whole=(do let v ← whole;standAt e.pos;holding [v] (truthy v)):=by intro _;rfl):PT X e (tB t):=by
  intro pins s σ H Q I hw;refine isTrue_plain (thn (h pins s σ H _ I hw) fun v s1 ⟨x,H1,I1,r1,q1⟩=>?_) (he _);obtain ⟨d,rfl,q⟩:=q1;cases r1;exact wpAny_truthy_bool ⟨H1,I1,q⟩
variable {tA tB':TT} {ba:List Expr}
def oW (t u:TT):TT:=fun σ H Q=>t σ H fun c H1=>if c=true then u σ H1 Q else Q false H1
def tOr (t u:TT):TT:=fun σ H Q=>t σ H fun c H1=>if c=true then Q true H1 else u σ H1 Q
def oO (t:TT):TT:=fun σ H Q=>t σ H fun c H1=>Q (!c) H1
theorem hZ (ha:PT X a tA):PW X (.BoolOp .And [a] pos) tA:=by
  intro wh pins s σ H Q I h;refine isTrue_and (thn (ha pins s σ H Q I h) fun c s1 e=>?_);cases c with
  | true=>exact isTrue_and_nil e
  | false=>exact e
theorem eW (ha:PT X a tA):PW X (.BoolOp .Or [a] pos) tA:=by
  intro wh pins s σ H Q I h;refine isTrue_or (thn (ha pins s σ H Q I h) fun c s1 e=>?_);cases c with
  | false=>exact isTrue_or_nil e
  | true=>exact e
theorem h7 (ha:PT X a tA) (hb:PW X (.BoolOp .And (b :: ba) pos) tB'):PW X (.BoolOp .And (a :: b :: ba) pos) (oW tA tB'):=by
  intro wh pins s σ H Q I h;refine isTrue_and (thn (ha pins s σ H _ I h) fun c s1 ⟨H1,I1,q1⟩=>?_);cases c with
  | true=>exact hb wh pins s1 σ H1 Q I1 q1
  | false=>exact ⟨H1,I1,q1⟩
theorem gx (ha:PT X a tA) (hb:PW X (.BoolOp .Or (b :: ba) pos) tB'):PW X (.BoolOp .Or (a :: b :: ba) pos) (tOr tA tB'):=by
  intro wh pins s σ H Q I h;refine isTrue_or (thn (ha pins s σ H _ I h) fun c s1 ⟨H1,I1,q1⟩=>?_);cases c with
  | true=>exact ⟨H1,I1,q1⟩
  | false=>exact hb wh pins s1 σ H1 Q I1 q1
theorem bD (ha:PT X a tA):PT X (.UnaryOp .Not a pos) (oO tA):=by
  intro pins s σ H Q I h;exact isTrue_not (ha pins s σ H (fun c H1=>Q (!c) H1) I h)
def oe (ta tb:TE):TE:=fun σ H Q=>ta σ H fun x H1=>∃ c,x=.bl c∧if c=true then tb σ H1 Q else Q (.bl false) H1
def n6 (ta:TE):TE:=fun σ H Q=>ta σ H fun x H1=>∃ c,x=.bl c∧Q (.bl (!c)) H1
theorem fP {op} {t:TE} (h:PE X a t):PE X (.BoolOp op [a] pos) t:=fun pins s σ H Q I hw=>BoolOp_one (h pins s σ H Q I hw)
theorem fQ (ha:PE X a ta) (hb:PE X (.BoolOp .And (b :: ba) pos) tb):PE X (.BoolOp .And (a :: b :: ba) pos) (oe ta tb):=by
  intro pins s σ H Q I h;refine BoolOp_and (thn (ha pins s σ H _ I h) fun v s1 ⟨x,H1,I1,r1,q1⟩=>?_);obtain ⟨c,rfl,q1⟩:=q1;cases r1;refine wpAny_truthy_bool ?_;cases c with
  | true=>exact hb pins s1 σ H1 Q I1 q1
  | false=>exact ⟨.bl false,H1,I1,rfl,q1⟩
theorem nk (ha:PE X a ta):PE X (.UnaryOp .Not a pos) (n6 ta):=by
  intro pins s σ H Q I h;refine UnaryOp_ (thn (ha pins s σ H _ I h) fun v s1 ⟨x,H1,I1,r1,q1⟩=>?_);obtain ⟨c,rfl,q1⟩:=q1;cases r1;exact not_of (wpAny_truthy_bool ⟨.bl (!c),H1,I1,rfl,q1⟩)
end
open PySem PySem.Spec PyProof.Rows
def SqL (K:aaa) (H:Hp) (a:Addr) (xs:List V):Prop :=
  Rd H a (.lst xs) ∨
    ∃ (o:Obj) (its:Array Value) (n:Nat),K.lookup a=some o∧o.cls=.type "list"∧o.dict=none∧o.data=.seq its n∧its.size≤sizeLine∧Vals xs its.toList
def SqT (K:aaa) (H:Hp) (a:Addr) (xs:List V):Prop :=
  Rd H a (.tup xs) ∨
    ∃ (o:Obj) (its:Array Value) (n:Nat),K.lookup a=some o∧o.cls=.type "tuple"∧o.data=.seq its n∧its.size≤sizeLine∧Vals xs its.toList
def pi:Value→Option V
  | .none=>some .non
  | .bool b=>some (.bl b)
  | .int i _=>some (.int i)
  | .str x _=>some (.str x)
  | .bytes b _=>some (.byt b)
  | .float b _=>some (.flt b)
  | .ref a=>some (.ref a)
  | .type n=>some (.ty n)
  | _=>none
theorem RelV.abs {x:V} {u:Value} (r:RelV x u):pi u=some x:=by
  cases x with
  | non=>cases r;rfl
  | bl _=>cases r;rfl
  | int _=>obtain ⟨t,rfl⟩:=r;rfl
  | str _=>obtain ⟨t,rfl⟩:=r;rfl
  | byt _=>obtain ⟨t,rfl⟩:=r;rfl
  | flt _=>obtain ⟨t,rfl⟩:=r;rfl
  | ref _=>cases r;rfl
  | ty _=>cases r;rfl
theorem RelV.inj {x y:V} {u:Value} (r:RelV x u) (q:RelV y u):x=y:=aaN (r.abs.symm.trans q.abs)
theorem Vals.inj:∀ {xs ys:List V} {us:List Value},Vals xs us→Vals ys us→xs=ys
  | _,_,_,.nil,.nil=>rfl
  | _,_,_,.cons r t,.cons r' t'=>by rw [r.inj r',Vals.inj t t']
section
variable {X:Cx} {pins:List (Addr × Obj)} {σ:St} {H:Hp} {s:Shared} {a:Addr} {xs ys:List V}
theorem SqL.of {K:aaa} (h:H a=some (.lst xs)):SqL K H a xs:=.inl (.inl h)
theorem SqT.of {K:aaa} (h:H a=some (.tup xs)):SqT K H a xs:=.inl (.inl h)
theorem Inv.list (I:Inv X pins σ H s) (h:SqL X.K H a xs):∃ its:List Value,Vals xs its∧PlainL s.heap a its.toArray∧xs.length≤sizeLine:=by
  rcases h with h|⟨o,its,n,hk,hc,hd,hs,hz,r⟩
  · obtain ⟨z,its,n,r,e⟩:=h.ok I.hok;exact ⟨its,r,⟨_,n,e,rfl,rfl,rfl⟩,z⟩
  · refine ⟨its.toList,r,⟨o,n,I.kIn a o hk,hc,hd,by simpa using hs⟩,?_⟩;have e:=r.length;simp only [aan] at e;omega
theorem Inv.tuple (I:Inv X pins σ H s) (h:SqT X.K H a xs):∃ its:List Value,Vals xs its∧IsTup s.heap a its.toArray∧xs.length≤sizeLine:=by
  rcases h with h|⟨o,its,n,hk,hc,hs,hz,r⟩
  · obtain ⟨z,its,r,p⟩:=h.ok I.hok;exact ⟨its,r,p,z⟩
  · refine ⟨its.toList,r,⟨o,I.kIn a o hk,hc,n,by simpa using hs⟩,?_⟩;have e:=r.length;simp only [aan] at e;omega
theorem Inv.list_inj (I:Inv X pins σ H s) (h:SqL X.K H a xs) (h':SqL X.K H a ys):xs=ys:=by
  obtain ⟨its,r,⟨o,n,e,_,_,d⟩,_⟩:=I.list h;obtain ⟨its',r',⟨o',n',e',_,_,d'⟩,_⟩:=I.list h';rw [e] at e';cases e';rw [d] at d';injection d' with d1 _
  have : its=its':=by simpa using congrArg Array.toList d1
  subst this;exact r.inj r'
theorem Inv.tuple_inj (I:Inv X pins σ H s) (h:SqT X.K H a xs) (h':SqT X.K H a ys):xs=ys:=by
  obtain ⟨its,r,⟨o,e,_,n,d⟩,_⟩:=I.tuple h;obtain ⟨its',r',⟨o',e',_,n',d'⟩,_⟩:=I.tuple h';rw [e] at e';cases e';rw [d] at d';injection d' with d1 _
  have : its=its':=by simpa using congrArg Array.toList d1
  subst this;exact r.inj r'
end
abbrev Cx.wish (X:Cx) (E:Value→Shared→Prop):Cx:={ X with xe:=E }
abbrev Cx.nox (X:Cx):Cx:=X.wish fun _ _=>False
theorem Cx.Ok.wish {X:Cx} (ok:X.Ok) (E:Value→Shared→Prop):(X.wish E).Ok :=
  ⟨ok.mod,ok.kind,ok.glob,ok.blt,ok.above,ok.inj,ok.has,ok.cab,ok.hd,ok.frames,ok.stk,ok.exf,ok.bs,ok.bsz,ok.noex,ok.exfs,ok.funs,ok.frf⟩
theorem Cx.Ok.unwish {X:Cx} {E:Value→Shared→Prop} (ok:(X.wish E).Ok):X.Ok :=
  ⟨ok.mod,ok.kind,ok.glob,ok.blt,ok.above,ok.inj,ok.has,ok.cab,ok.hd,ok.frames,ok.stk,ok.exf,ok.bs,ok.bsz,ok.noex,ok.exfs,ok.funs,ok.frf⟩
section
variable {X:Cx} {pins:List (Addr × Obj)} {σ:St} {H:Hp} {s:Shared} {E:Value→Shared→Prop}
theorem Inv.wish (I:Inv X pins σ H s) (E:Value→Shared→Prop):Inv (X.wish E) pins σ H s:=⟨I.ok.wish E,I.os,I.bare,I.base,I.loc,I.cell,I.free,I.freeC,I.pin,I.hok,I.len⟩
theorem Inv.unwish (I:Inv (X.wish E) pins σ H s):Inv X pins σ H s:=⟨I.ok.unwish,I.os,I.bare,I.base,I.loc,I.cell,I.free,I.freeC,I.pin,I.hok,I.len⟩
theorem SP.unwish {D:Ends} {f:Flow} {s':Shared} (h:SP (X.wish E) pins D f s'):SP X pins D f s':=by
  cases f with
  | next=>obtain ⟨σ',H',I,q⟩:=h;exact ⟨σ',H',I.unwish,q⟩
  | brk=>obtain ⟨σ',H',I,q⟩:=h;exact ⟨σ',H',I.unwish,q⟩
  | cont=>obtain ⟨σ',H',I,q⟩:=h;exact ⟨σ',H',I.unwish,q⟩
  | ret u=>obtain ⟨v,σ',H',I,r,q⟩:=h;exact ⟨v,σ',H',I.unwish,r,q⟩
theorem PSs.nox {st:List Stmt} {t:TS} (h:PSs X.nox st t):PSs X st t:=fun pins s σ H D I hw =>
  wpAny_mono (h pins s σ H D (I.wish _) hw) (fun _ _ q=>q.unwish) fun _ _ z=>abC z
end
section
variable {X:Cx} {st:Stmt} {ba:List Stmt} {t u:TS} {e:Expr} {te:TE} {pos:Pos}
def n8:TS:=fun D σ H=>D.nx σ H
def oM (t u:TS):TS:=fun D σ H=>t { D with nx:=u D } σ H
theorem aE:PSs X [] n8:=fun _ _ σ H _ I h=>wpAny_execs_nil ⟨σ,H,I,h⟩
theorem af (h1:PS X st t) (h2:PSs X ba u):PSs X (st :: ba) (oM t u):=by
  intro pins s σ H D I h;refine wpAny_execs_cons (thn (h1 pins s σ H { D with nx:=u D } I h) fun f s1 q=>?_);cases f with
  | next =>
    obtain ⟨σ',H',I',q⟩:=q;exact h2 pins s1 σ' H' D I' q
  | ret v=>exact q
  | brk=>exact q
  | cont=>exact q
theorem ah (h1:PS X st t):PSs X [st] t:=by
  intro pins s σ H D I h;refine wpAny_execs_cons (thn (h1 pins s σ H D I h) fun f s1 q=>?_);cases f with
  | next=>exact wpAny_execs_nil q
  | ret v=>exact q
  | brk=>exact q
  | cont=>exact q
theorem Inv.quiet {pins:List (Addr × Obj)} {σ:St} {H:Hp} {s:Shared} (I:Inv X pins σ H s):interactive X.env=false:=by simp [interactive,I.ok.kind]
def n_ (te:TE):TS:=fun D σ H=>te σ H fun _ H1=>D.nx σ H1
theorem bK (he:PE X e te) (hs:swapsWith e none pos.line X.env=pure false:=by rfl):PS X (.Expr e pos) (n_ te):=by
  intro pins s σ H D I h;exact wpAny_Expr_any (thn (he pins s σ H _ I h) fun v s1 ⟨x,H1,I1,r1,q1⟩=>⟨σ,H1,I1,q1⟩) I.quiet hs
def oN (te:TE):TS:=fun D σ H=>te σ H D.rt
theorem ar (he:PE X e te):PS X (.Return (some e) pos) (oN te):=by
  intro pins s σ H D I h;exact wpAny_Return_some (thn (he pins s σ H _ I h) fun v s1 ⟨x,H1,I1,r1,q1⟩=>⟨x,σ,H1,I1,r1,q1⟩)
def oR (c:TT) (t u:TS):TS:=fun D σ H=>c σ H fun b H1=>if b=true then t D σ H1 else u D σ H1
theorem a8 {c:Expr} {a b:List Stmt} {tc:TT} (hc:PT X c tc) (ha:PSs X a t) (hb:PSs X b u):PS X (.If c a b pos) (oR tc t u):=by
  intro pins s σ H D I h;refine wpAny_If (thn (hc pins s σ H _ I h) fun d s1 ⟨H1,I1,q1⟩=>?_);cases d with
  | true=>exact ha pins s1 σ H1 D I1 q1
  | false=>exact hb pins s1 σ H1 D I1 q1
def m9:TS:=fun _ _ _=>False
theorem cR:PS X st m9:=fun _ _ _ _ _ _ h=>h.elim
end
abbrev TG:=V→St→Hp→(St→Hp→Prop)→Prop
abbrev TGs:=List V→St→Hp→(St→Hp→Prop)→Prop
def PG (X:Cx) (target:Expr) (t:TG):Prop :=
  ∀ (pins:List (Addr × Obj)) (s:Shared) (σ:St) (H:Hp) (v:V) (u:Value) (Q:St→Hp→Prop),Inv X pins σ H s→RelV v u→t v σ H Q →
    wpAny (model X.prog X.w) X.A (assign target X.env u) (fun _ s'=>∃ σ' H',Inv X pins σ' H' s'∧Q σ' H') X.xe s
def PGs (X:Cx) (ts:List Expr) (t:TGs):Prop :=
  ∀ (pins:List (Addr × Obj)) (s:Shared) (σ:St) (H:Hp) (vs:List V) (us:List Value) (Q:St→Hp→Prop),Inv X pins σ H s→Vals vs us→t vs σ H Q →
    wpAny (model X.prog X.w) X.A (assignInOrder ((assignEach ts X.env).map (·.2)) us) (fun _ s'=>∃ σ' H',Inv X pins σ' H' s'∧Q σ' H') X.xe s
abbrev nR:=V→V→V→Hp→(Hp→Prop)→Prop
def oJ (X:Cx) (t:nR):Prop :=
  ∀ (pins:List (Addr × Obj)) (s:Shared) (σ:St) (H:Hp) (o i v:V) (ov iv u:Value) (Q:Hp→Prop),Inv X pins σ H s→RelV o ov→RelV i iv→RelV v u→t o i v H Q →
    wpAny (model X.prog X.w) X.A (setItem ov iv u) (fun _ s'=>∃ H',Inv X pins σ H' s'∧Q H') X.xe s
abbrev TIp:=V→V→Hp→VK→Prop
def PIp (X:Cx) (op:Operator) (t:TIp):Prop :=
  ∀ (pins:List (Addr × Obj)) (s:Shared) (σ:St) (H:Hp) (x y:V) (v u:Value) (Q:VK),Inv X pins σ H s→RelV x v→RelV y u→t x y H Q →
    wpAny (model X.prog X.w) X.A (inplaceOp op v u) (EP X pins σ Q) X.xe s
section
variable {X:Cx} {pos:Pos}
def lM (i:Nat):TG:=fun v σ H Q=>Q (σ.set i (some v)) H
theorem au {i:Nat} {x:Str} (hN:X.N.Nodup) (hi:X.N[i]?=some x) (hx:Loc X.env.scope x) (hf:X.fn x=true∨X.env.scope.names.lookup x=some .local:=by first|exact .inl rfl|exact .inr rfl|assumption):PG X (.Name x pos) (lM i):=by
  intro pins s σ H v u Q I r h;exact wpAny_assign_Name (ei I hN hi hx r (fun s' I'=>⟨_,H,I',h⟩) hf)
def o_:TGs:=fun vs σ H Q=>vs=[]∧Q σ H
def oD (t:TG) (u:TGs):TGs:=fun vs σ H Q=>∃ v r,vs=v :: r∧t v σ H fun σ' H'=>u r σ' H' Q
theorem cI:PGs X [] o_:=by
  intro pins s σ H vs us Q I r h;obtain ⟨e,h⟩:=h;subst e;cases r;exact assignInOrder_nil ⟨σ,H,I,h⟩
theorem aH {e:Expr} {es:List Expr} {t:TG} {u:TGs} (h1:PG X e t) (h2:PGs X es u)
    (hs:(assignEach (e :: es) X.env).map (·.2)=assign e X.env :: (assignEach es X.env).map (·.2):=by rfl):PGs X (e :: es) (oD t u):=by
  intro pins s σ H vs us Q I r h;obtain ⟨v,vr,e1,h⟩:=h;subst e1;cases r with
  | cons r rr =>
    rw [hs];refine assignInOrder_cons (thn (h1 pins s σ H _ _ _ I r h) fun _ s1 ⟨σ1,H1,I1,q1⟩=>?_);exact h2 pins s1 σ1 H1 _ _ Q I1 rr q1
def oB (K:aaa) (n:Nat) (t:TGs):TG:=fun v σ H Q=>∃ a xs,v=.ref a∧SqT K H a xs∧xs.length=n∧t xs σ H Q
theorem dw {es:List Expr} {k:Nat} {t:TGs} {n:Nat} (hc:X.calm=true) (h:PGs X es t)
    (hn:(assignEach es X.env).length=n:=by rfl) (hst:(assignEach es X.env).findIdx? (·.1)=none:=by rfl):PG X (.Tuple es k pos) (oB X.K n t):=by
  intro pins s σ H v u Q I r hw;obtain ⟨a,xs,e1,hq,hl,hw⟩:=hw;subst e1;cases r;obtain ⟨its,rv,ht,hz⟩:=I.tuple hq;refine assign_Tuple_tuple (I.ok.hd hc) ht (by simp [hn,← hl,rv.length]) hst fun h' hx=>?_;have I1:Inv X pins σ H { s with heap:=h' }:=I.kept (t':=s.toks) fun b o e=>hx b o (aap (aak e)) e;exact h pins _ σ H xs _ Q I1 (by simpa using rv) hw
def o9 (to ti:TE) (t:nR):TG:=fun v σ H Q=>to σ H fun o H1=>ti σ H1 fun i H2=>t o i v H2 fun H3=>Q σ H3
theorem lj {o i:Expr} {to ti:TE} {t:nR} (ho:PE X o to) (hi:PE X i ti) (hs:oJ X t)
    (ha:∀ v,assign (.Subscript o i pos) X.env v=(do
      let ov ← holding [v] (eval o X.env)
      let iv ← holding [v,ov] (eval i X.env)
      standAt pos
      holding [v,ov,iv] (setItem ov iv v)
      release [v,ov,iv] []):=by intro _;rfl):PG X (.Subscript o i pos) (o9 to ti t):=by
  intro pins s σ H v u Q I r h;rw [ha];refine wpAny_bind (wpAny_holding (thn (ho pins s σ H _ I h) fun ov s1 ⟨x,H1,I1,r1,q1⟩=>?_));refine wpAny_bind (wpAny_holding (thn (hi pins s1 σ H1 _ I1 q1) fun iv s2 ⟨y,H2,I2,r2,q2⟩=>?_));refine wpAny_bind (wpAny_standAt (wpAny_bind (wpAny_holding (thn (hs pins s2 σ H2 x y v ov iv u _ I2 r1 r2 r q2) fun _ s3 ⟨H3,I3,q3⟩=>?_))));exact wpAny_release ⟨σ,H3,I3,q3⟩
def m_ (te:TE) (g:TG):TS:=fun D σ H=>te σ H fun x H1=>g x σ H1 D.nx
theorem d7 {tg e:Expr} {te:TE} {g:TG} (he:PE X e te) (hg:PG X tg g) (hs:swapsWithSole [tg] e pos.line X.env=pure false:=by rfl) (hw:swappedStores [tg] e X.env=pure none:=by rfl)
    (h1:(assignEach [tg] X.env).map (·.2)=[assign tg X.env]:=by rfl):PS X (.Assign [tg] e pos) (m_ te g):=by
  intro pins s σ H D I h;refine wpAny_Assign_stores (thn (he pins s σ H _ I h) fun v s1 ⟨x,H1,I1,r1,q1⟩=>?_) hs hw;rw [h1];exact thn (hg pins s1 σ H1 x v _ I1 r1 q1) fun _ s2 q=>q
theorem aB {i:Nat} {x:Str} {e:Expr} {te:TE} {pos':Pos} (hN:X.N.Nodup) (hi:X.N[i]?=some x) (hx:Loc X.env.scope x) (he:PE X e te) (hs:swapsWith e (some (.Name x pos')) pos.line X.env=pure false:=by rfl) (hf:X.fn x=true∨X.env.scope.names.lookup x=some .local:=by first|exact .inl rfl|exact .inr rfl|assumption) :
    PS X (.Assign [.Name x pos'] e pos) (m_ te (lM i)):=by
  intro pins s σ H D I h;refine wpAny_Assign_Name (thn (he pins s σ H _ I h) fun v s1 ⟨y,H1,I1,r1,q1⟩=>?_) hs;exact ei I1 hN hi hx r1 (fun s2 I2=>⟨_,H1,I2,q1⟩) hf
def oV (i:Nat) (te:TE) (ti:TIp):TS:=fun D σ H=>∃ x,σ[i]?=some (some x)∧te σ H fun y H1=>ti x y H1 fun z H2=>D.nx (σ.set i (some z)) H2
theorem jz {i:Nat} {x:Str} {e:Expr} {te:TE} {op:Operator} {ti:TIp} {pos':Pos} (hN:X.N.Nodup) (hi:X.N[i]?=some x) (hx:Loc X.env.scope x) (he:PE X e te) (ho:PIp X op ti) (hf:X.fn x=true∨X.env.scope.names.lookup x=some .local:=by first|exact .inl rfl|exact .inr rfl|assumption) :
    PS X (.AugAssign (.Name x pos') op e pos) (oV i te ti):=by
  intro pins s σ H D I h;obtain ⟨v,e1,h⟩:=h;obtain ⟨m,hn,hl⟩:=I.loc;have vis:Vis X.env.scope x:=by rcases hx with k|k;exact .inl k;exact .inr (.inl k)
  obtain ⟨u,r,l⟩:=hl i x v hi e1 vis;refine wpAny_AugAssign_Name ?_;have go:wpAny (model X.prog X.w) X.A (eval e X.env) (fun w s₂=>wpAny (model X.prog X.w) X.A (inplaceOp op u w) (fun r s₃=>wpAny (model X.prog X.w) X.A (storeName X.env x r) (fun _=>SP X pins D .next) X.xe s₃) X.xe s₂) X.xe s:=by
    refine thn (he pins s σ H _ I h) fun w s1 ⟨y,H1,I1,r1,q1⟩=>?_;refine thn (ho pins s1 σ H1 v y u w _ I1 r r1 q1) fun z s2 ⟨zv,H2,I2,r2,q2⟩=>?_;exact ei I2 hN hi hx r2 (fun s3 I3=>⟨_,H2,I3,q2⟩) hf
  rcases l with ⟨hk,hm⟩|⟨hk,c,hc,hcell⟩
  · exact wpAny_loadName_local I.ok.kind hk hn hm go
  · rcases hk with hk|hk
    · exact wpAny_loadName_cell I.ok.kind hk hc hcell go
    · rcases hx with k|k
      · have : X.env.scope.names.lookup x=some .free:=hk;rw [k] at this;cases this
      · have : X.env.scope.names.lookup x=some .free:=hk;rw [k] at this;cases this
def ipI (f:Int→Int→Int):TIp:=fun x y H Q=>∃ i j,x=.int i∧y=.int j∧Q (.int (f i j)) H
theorem lI:PIp X .Add (ipI fun i j=>i+j):=by
  intro pins s σ H x y v u Q I r1 r2 h;obtain ⟨i,j,e1,e2,q⟩:=h;subst e1;subst e2;obtain ⟨t,rfl⟩:=r1;obtain ⟨t',rfl⟩:=r2;exact iadd_int ⟨.int _,H,I.tok _,⟨_,rfl⟩,q⟩
theorem nJ:PIp X .Sub (ipI fun i j=>i - j):=by
  intro pins s σ H x y v u Q I r1 r2 h;obtain ⟨i,j,e1,e2,q⟩:=h;subst e1;subst e2;obtain ⟨t,rfl⟩:=r1;obtain ⟨t',rfl⟩:=r2;exact isub_int ⟨.int _,H,I.tok _,⟨_,rfl⟩,q⟩
end
section
variable {X:Cx} {pos:Pos}
def m8 (c:TT) (tb:TS):TS:=fun D σ H=>∃ W:Nat→St→Hp→Prop,(∃ m,W m σ H)∧∀ m σ H,W m σ H →
  c σ H fun b H1=>if b=true then ∃ N:St→Hp→Prop,(∀ σ' H',N σ' H'→∃ m',m' < m∧W m' σ' H')∧tb { D with nx:=N,ct:=N,bk:=D.nx } σ H1 else D.nx σ H1
theorem iX {c:Expr} {body:List Stmt} {tc:TT} {tb:TS} (hp:PassesOwn (model X.prog X.w) X.A X.env X.xe) (hc:PT X c tc) (hb:PSs X body tb):PS X (.While c body [] pos) (m8 tc tb):=by
  intro pins s σ H D I h;obtain ⟨W,⟨m0,w0⟩,turn⟩:=h;refine wpAny_While (codeAny_whileLoop (fun n s'=>∃ σ' H',Inv X pins σ' H' s'∧W n σ' H') ?_ m0 ⟨σ,H,I,w0⟩);rintro n s1 ⟨σ1,H1,I1,w1⟩;refine wpAny_passesOwn hp (thn (hc pins s1 σ1 H1 _ I1 (turn n σ1 H1 w1)) fun b s2 ⟨H2,I2,q2⟩=>?_);cases b with
  | true =>
    obtain ⟨N,hN,q2⟩:=q2;rw [if_pos rfl];refine wpAny_passesOwn hp (thn (hb pins s2 σ1 H2 _ I2 q2) fun f s3 q3=>?_);cases f with
    | next =>
      obtain ⟨σ3,H3,I3,n3⟩:=q3;obtain ⟨m',hm,w3⟩:=hN σ3 H3 n3;exact ⟨m',hm,σ3,H3,I3,w3⟩
    | cont =>
      obtain ⟨σ3,H3,I3,n3⟩:=q3;obtain ⟨m',hm,w3⟩:=hN σ3 H3 n3;exact ⟨m',hm,σ3,H3,I3,w3⟩
    | brk=>exact q3
    | ret v=>exact q3
  | false =>
    rw [if_neg aah];exact wpAny_execs_nil ⟨σ1,H2,I2,q2⟩
end
structure It where
  go:Nat→Hp→Prop
  yld:Nat→Hp→V→Hp→Prop
  stop:Nat→Hp→Prop
def iA (X:Cx) (pins:List (Addr × Obj)) (H:Hp) (b:Addr):Prop :=
  H b=none∧b≠X.env.locals∧b∉X.fs∧(b∈X.ex∨X.s₀.heap.objs.size≤b)∧(∀ x c,X.env.cells.lookup x=some c→c≠b)∧∀ p∈X.pn++pins,p.1≠b
theorem Inv.fpOk {X:Cx} {pins:List (Addr × Obj)} {σ:St} {H H':Hp} {s:Shared} {b:Addr} (I:Inv X pins σ H s) (hb:s.heap.objs.size≤b) (hn:H' b=none):iA X pins H' b:=by
  refine ⟨hn,abK (aar I.lt hb),I.nofs hb,.inr (aa5 I.sz hb),fun x c e z=>?_,fun p hp z=>?_⟩
  · obtain ⟨v,q⟩:=I.cell x c e;exact absurd (aar q.lt (by rw [z];exact hb)) (abr _)
  · exact absurd (aar (aak (I.pin p hp).1) (by rw [z];exact hb)) (abr _)
structure Turn (P:Program) (w:World) (K:aaa) (tg:Expr) (J:It) (fp:List Addr) (it:Addr) (tn:Nat→Heap→Prop):Prop where
  mem:it∈fp
  obj:∀ i h,tn i h→∀ b∈fp,∃ o,h.get? b=some o∧∀ v,o.data≠.cell v
  keep:∀ i h h',tn i h→(∀ b∈fp,∀ o,h.get? b=some o→h'.get? b=some o)→tn i h'
  item:∀ (X:Cx),X.prog=P→X.w=w→X.K=K→X.calm=true→∀ (i:Nat) (pins:List (Addr × Obj)) (s:Shared) (σ:St) (H:Hp) (E:Value→Shared→Prop),Inv X pins σ H s→(∀ b∈fp,iA X pins H b)→tn i s.heap→J.go i H →
    wpAny (model P w) X.A (pyNext (.ref it)) (fun r s1=>∃ u,r=some u ∧
      wpAny (model P w) X.A (letOwnedTupleGo tg (.ref it) u) (fun _ s2=>∃ x H',Inv X pins σ H' s2∧RelV x u∧J.yld i H x H'∧tn (i+1) s2.heap∧∀ b∈fp,H' b=none) E s1) E s
  done:∀ (X:Cx),X.prog=P→X.w=w→X.K=K→X.calm=true→∀ (i:Nat) (pins:List (Addr × Obj)) (s:Shared) (σ:St) (H:Hp) (E:Value→Shared→Prop),Inv X pins σ H s→(∀ b∈fp,iA X pins H b)→tn i s.heap→J.stop i H →
    wpAny (model P w) X.A (pyNext (.ref it)) (fun r s1=>r=none∧Inv X pins σ H s1) E s
  self:∀ (A:Around) (i:Nat) (s:Shared) (Q:Value→Shared→Prop) (E:Value→Shared→Prop),tn i s.heap→Q (.ref it) s→wpAny (model P w) A (pyIter (.ref it)) Q E s
abbrev TI:=St→Hp→(It→Hp→Prop)→Prop
def PIE (X:Cx) (pins:List (Addr × Obj)) (σ:St) (tg:Expr) (R:It→Hp→Prop) (itv:Value) (s2:Shared):Prop :=
  ∃ (it:Addr) (fp:List Addr) (tn:Nat→Heap→Prop) (J:It) (H':Hp),itv=.ref it∧Inv X pins σ H' s2∧Turn X.prog X.w X.K tg J fp it tn∧tn 0 s2.heap∧(∀ b∈fp,iA X pins H' b)∧R J H'
def PI (X:Cx) (tg iter:Expr) (wi:TI):Prop :=
  ∀ (pins:List (Addr × Obj)) (s:Shared) (σ:St) (H:Hp) (R:It→Hp→Prop),Inv X pins σ H s→wi σ H R →
    wpAny (model X.prog X.w) X.A (eval iter X.env) (fun v s1=>wpAny (model X.prog X.w) X.A (pyIter v) (PIE X pins σ tg R) X.xe s1) X.xe s
theorem j7 {M:Model} {A:Around} {E:Value→Shared→Prop} {s:Shared} {tg:Expr} {it:Addr} {u:Value} {o:Obj} {n:String} {vs:Array Value} {Q:Unit→Shared→Prop} (ho:s.heap.get? it=some o) (hc:o.cls=.type n) (hd:o.data=.fields vs)
    (hn:["enumerate","zip","dict_itemiterator","dict_reverseitemiterator","odict_iterator","itertools.zip_longest","itertools.pairwise"].contains n=false) (hQ:Q () s):wpAny M A (letOwnedTupleGo tg (.ref it) u) Q E s:=by
  unfold letOwnedTupleGo;cases tg <;> first
    | exact wpAny_pure hQ
    | (cases u <;> first
        | exact wpAny_pure hQ
        | (refine wpAny_bind (wpAny_load ho ?_)
           rw [hc,hd];show wpAny M A (if (["enumerate","zip","dict_itemiterator","dict_reverseitemiterator","odict_iterator","itertools.zip_longest","itertools.pairwise"].contains n && vs[0]? == some (rawInt _))=true then _ else _) Q E s;rw [if_neg (by intro h;rw [hn,Bool.false_and] at h;cases h)];exact wpAny_pure hQ))
def Itl (K:aaa) (a:Addr):It :=
  ⟨fun i H=>∃ xs x,SqL K H a xs∧xs[i]?=some x,fun i H x H'=>H'=H∧∀ xs,SqL K H a xs→xs[i]?=some x,fun i H=>∃ xs,SqL K H a xs∧xs.length≤i⟩
def Itr (lo:Int) (n:Nat):It:=⟨fun i _=>i < n,fun i H x H'=>H'=H∧x=.int (lo+i),fun i _=>n≤i⟩
theorem kh {P:Program} {w:World} {K:aaa} {tg:Expr} (a it:Addr):Turn P w K tg (Itl K a) [it] it (fun i h=>h.IsListIter it a i) where
  mem:=by simp
  obj:=fun i h st b hb=>by
    have e:b=it:=by simpa using hb
    subst e;obtain ⟨o,e,c,d⟩:=st;exact ⟨o,e,fun v z=>by rw [d] at z;cases z⟩
  keep:=fun i h h' st k=>st.at fun o e=>k it (by simp) o e
  item:=by
    intro X hP hw hK hc i pins s σ H E I hf st hg;subst hP hw hK;obtain ⟨xs,x,hq,hx⟩:=hg;obtain ⟨its,rv,p,hz⟩:=I.list hq;obtain ⟨u,hu,ru⟩:=rv.get hx;obtain ⟨f0,f1,f2,f3,f4,f5⟩:=hf it (by simp);refine wpAny_pyNext_list_item st p.isList (x:=u) (by simpa using hu) fun h' st' sb=>?_;have I1:Inv X pins σ H { s with heap:=h' }:=I.turned (t':=s.toks) (fun b o hb e=>(sb.2 b hb).trans e) f0 f1 f3 f4 f5;obtain ⟨o,e,c,d⟩:=id st';exact ⟨u,rfl,j7 (s:={ s with heap:=h' }) e c d (by decide) ⟨x,H,I1,ru,⟨rfl,fun ys hy=>by rw [I.list_inj hy hq];exact hx⟩,st',fun b hb=>(hf b hb).1⟩⟩
  done:=by
    intro X hP hw hK hc i pins s σ H E I hf st hg;subst hP hw hK;obtain ⟨xs,hq,hx⟩:=hg;obtain ⟨its,rv,p,hz⟩:=I.list hq;obtain ⟨f0,f1,f2,f3,f4,f5⟩:=hf it (by simp);have hl:=rv.length;exact wpAny_pyNext_list_end (I.ok.hd hc) st p.isList (by simp;omega) fun h' eb=>⟨rfl,I.turned (t':=s.toks) (fun b o hb e=>eb b o hb e) f0 f1 f3 f4 f5⟩
  self:=fun _ _ _ _ _ st h=>wpAny_pyIter_listiter st h
theorem jq {P:Program} {w:World} {K:aaa} {tg:Expr} (it:Addr) (lo:Int) (n:Nat):Turn P w K tg (Itr lo n) [it] it (fun i h=>IsRangeIter h it (lo+(i:Nat) * 1) ((n:Int) - (i:Nat)) 1) where
  mem:=by simp
  obj:=fun i h st b hb=>by
    have e:b=it:=by simpa using hb
    subst e;exact ⟨_,st,fun v z=>by
      have z':Data.fields _=Data.cell v:=z;cases z'⟩
  keep:=fun i h h' st k=>k it (by simp) _ st
  item:=by
    intro X hP hw hK hc i pins s σ H E I hf st hg;subst hP hw hK;obtain ⟨f0,f1,f2,f3,f4,f5⟩:=hf it (by simp);have W:=Walks.range (prog:=X.prog) (w:=X.w) (I.ok.hd hc) it lo 1 n;refine W.item i s _ _ hg st fun v h' tk hv st' kk=>?_;obtain ⟨t,rfl⟩:=hv;have I1:Inv X pins σ H { s with heap:=h',toks:=tk }:=I.turned (fun b o hb e=>kk b o (by simpa using hb) e) f0 f1 f3 f4 f5;refine ⟨_,rfl,j7 (s:={ s with heap:=h',toks:=tk }) (n:="range_iterator") st' rfl rfl (by decide) ⟨.int (lo+i),H,I1,⟨t,?_⟩,⟨rfl,rfl⟩,st',fun b hb=>(hf b hb).1⟩⟩;rw [Int.mul_one]
  done:=by
    intro X hP hw hK hc i pins s σ H E I hf st hg;subst hP hw hK;obtain ⟨f0,f1,f2,f3,f4,f5⟩:=hf it (by simp);exact wpAny_pyNext_range_end (I.ok.hd hc) st (by have : n≤i:=hg;omega) fun h' eb=>⟨rfl,I.turned (t':=s.toks) (fun b o hb e=>eb b o hb e) f0 f1 f3 f4 f5⟩
  self:=fun _ _ _ _ _ st h=>wpAny_pyIter_rangeiter st h
open PySem PySem.Spec PyProof.Rows
section
variable {X:Cx} {tg:Expr}
def oz (K:aaa) (tl:TE):TI:=fun σ H R=>tl σ H fun x H1=>∃ a,x=.ref a∧(∃ xs,SqL K H1 a xs)∧R (Itl K a) H1
theorem bX {l:Expr} {tl:TE} (hl:PE X l tl):PI X tg l (oz X.K tl):=by
  intro pins s σ H R I h;refine thn (hl pins s σ H _ I h) fun v s1 ⟨x,H1,I1,r1,q1⟩=>?_;obtain ⟨a,e,⟨xs,hq⟩,q⟩:=q1;subst e;cases r1;obtain ⟨its,rv,p,hz⟩:=I1.list hq;refine wpAny_pyIter_list p.isList ?_;refine ⟨s1.heap.objs.size,[s1.heap.objs.size],_,_,H1,rfl,I1.kept (t':=s1.toks) fun b o e=>aal _ e,kh a _,⟨_,aaA _ rfl,rfl,rfl⟩,fun b hb=>?_,q⟩;have e:b=s1.heap.objs.size:=by simpa using hb
  subst e;exact I1.fpOk (aab _) (I1.hok.fresh (aab _))
theorem iV {pins:List (Addr × Obj)} {σ:St} {H:Hp} {s:Shared} {R:It→Hp→Prop} {E:Value→Shared→Prop} {lo hi:Int} {t u v:Tok} {tk:Nat} (I:Inv X pins σ H s) (h1:-(2 ^ 62)≤lo) (h2:lo < 2 ^ 62) (h3:-(2 ^ 62)≤hi) (h4:hi < 2 ^ 62)
    (q:R (Itr lo (hi - lo).toNat) H):wpAny (model X.prog X.w) X.A (pyIter (.ref s.heap.objs.size)) (PIE X pins σ tg R) E { s with heap:=s.heap.push { cls:=.type "range",data:=.fields #[.int lo t,.int hi u,.int 1 v] },toks:=tk }:=by
  refine wpAny_pyIter_range (IsRange.new ..) (small_one h1 h2 h3 h4) ?_;have I1:Inv X pins σ H { s with heap:=s.heap.push { cls:=.type "range",data:=.fields #[.int lo t,.int hi u,.int 1 v] },toks:=tk }:=I.kept fun b o e=>aal _ e;refine ⟨(s.heap.push { cls:=.type "range",data:=.fields #[.int lo t,.int hi u,.int 1 v] }).objs.size,[(s.heap.push { cls:=.type "range",data:=.fields #[.int lo t,.int hi u,.int 1 v] }).objs.size],_,_,H,rfl,
    I1.kept (t':=tk) fun b o e=>aal _ e,jq _ lo (hi - lo).toNat,?_,fun b hb=>?_,q⟩
  · have e1:lo+((0:Nat):Int) * 1=lo:=by simp
    have e2:(((hi - lo).toNat:Nat):Int) - ((0:Nat):Int)=aaH lo hi 1:=by rw [rangeSize_one];split <;> omega
    show IsRangeIter _ _ (lo+((0:Nat):Int) * 1) ((((hi - lo).toNat:Nat):Int) - ((0:Nat):Int)) 1;rw [e1,e2];exact aaA _ rfl
  · have e:b=(s.heap.push { cls:=.type "range",data:=.fields #[.int lo t,.int hi u,.int 1 v] }).objs.size:=by simpa using hb
    subst e;exact I1.fpOk (aab _) (I1.hok.fresh (aab _))
def oy (ta:TA):TI:=fun σ H R=>ta σ H fun vs H1=>∃ j:Int,vs=[.int j]∧-(2 ^ 62)≤j∧j < 2 ^ 62∧R (Itr 0 j.toNat) H1
def ox (ta:TA):TI:=fun σ H R=>ta σ H fun vs H1=>∃ i j:Int,vs=[.int i,.int j]∧(-(2 ^ 62)≤i∧i < 2 ^ 62∧-(2 ^ 62)≤j∧j < 2 ^ 62)∧R (Itr i (j - i).toNat) H1
theorem gy {a:Expr} {ta:TA} {p pos:Pos} (hg:Gl X "range") (hm:X.mg "range" = none) (ha:PA X [a] ta) (hs:starEach [a] X.env=[(false,eval a X.env)]:=by rfl):PI X tg (.Call (.Name "range" p) [a] [] pos) (oy ta):=by
  intro pins s σ H R I h;refine Call_ (ec I hg hm boot_range (aa3 (thn (ha pos pins s σ H _ I h) fun us s1 ⟨vs,H1,I1,r1,q1⟩=>?_) hs rfl));obtain ⟨j,e,q1,q2,q⟩:=q1;subst e;cases r1 with
  | cons r rr =>
    cases rr;obtain ⟨t,rfl⟩:=r;exact call_range_1 (iV I1 (by omega) (by omega) q1 q2 (by simpa using q))
theorem bE {a b:Expr} {ta:TA} {p pos:Pos} (hg:Gl X "range") (hm:X.mg "range" = none) (ha:PA X [a,b] ta) (hs:starEach [a,b] X.env=[(false,eval a X.env),(false,eval b X.env)]:=by rfl) (hs2:starEach [b] X.env=[(false,eval b X.env)]:=by rfl) :
    PI X tg (.Call (.Name "range" p) [a,b] [] pos) (ox ta):=by
  intro pins s σ H R I h;refine Call_ (ec I hg hm boot_range (aa3 (thn (ha pos pins s σ H _ I h) fun us s1 ⟨vs,H1,I1,r1,q1⟩=>?_) (by rw [hs,hs2]) (by rw [hs2];rfl)));obtain ⟨i,j,e,⟨q1,q2,q3,q4⟩,q⟩:=q1;subst e;cases r1 with
  | cons r rr =>
    cases rr with
    | cons r' rr =>
      cases rr;obtain ⟨t,rfl⟩:=r;obtain ⟨t',rfl⟩:=r';exact call_range_2 (iV I1 q1 q2 q3 q4 q)
def oS (wi:TI) (g:TG) (tb:TS):TS:=fun D σ H=>wi σ H fun J H1=>∃ W:Nat→Nat→St→Hp→Prop,(∃ m,W 0 m σ H1)∧∀ i m σ H,W i m σ H →
  (J.stop i H∧D.nx σ H)∨(J.go i H∧∃ N:St→Hp→Prop,(∀ σ' H',N σ' H'→∃ m',m' < m∧W (i+1) m' σ' H')∧∀ x H',J.yld i H x H'→g x σ H' fun σ2 H2=>tb { D with nx:=N,ct:=N,bk:=D.nx } σ2 H2)
def bB (fp:List Addr) (h:Heap):List (Addr × Obj):=fp.filterMap fun b=>(h.get? b).map fun o=>(b,o)
theorem bH {fp:List Addr} {h:Heap} {b:Addr} {o:Obj} (hb:b∈fp) (e:h.get? b=some o):(b,o)∈bB fp h:=List.mem_filterMap.mpr ⟨b,hb,by rw [e];rfl⟩
theorem fc {fp:List Addr} {h:Heap} {p:Addr × Obj} (hp:p∈bB fp h):p.1∈fp∧h.get? p.1=some p.2:=by
  obtain ⟨b,hb,e⟩:=List.mem_filterMap.mp hp;cases q:h.get? b with
  | none=>rw [q] at e;cases e
  | some o =>
    rw [q] at e;have e':(b,o)=p:=aaN e;subst e';exact ⟨hb,q⟩
theorem Inv.pinned {pins:List (Addr × Obj)} {σ:St} {H:Hp} {s:Shared} {fp:List Addr} (I:Inv X pins σ H s) (hf:∀ b∈fp,iA X pins H b) (ho:∀ b∈fp,∃ o,s.heap.get? b=some o∧∀ v,o.data≠.cell v):Inv X (pins++bB fp s.heap) σ H s :=
  I.pins_of fun p hp=>(aaE.mp hp).elim (fun z=>I.pin p (aaf _ z)) fun z=>by
    obtain ⟨hb,e⟩:=fc z;obtain ⟨f0,f1,f2,_⟩:=hf p.1 hb;obtain ⟨o,e',d⟩:=ho p.1 hb;rw [e] at e';cases e';exact ⟨e,f0,f1,f2,d⟩
theorem Inv.unpinned {pins pl:List (Addr × Obj)} {σ:St} {H:Hp} {s:Shared} (I:Inv X (pins++pl) σ H s):Inv X pins σ H s:=I.pins_of fun p hp=>I.pin p (aaf _ (abw _ hp))
theorem cz {iter:Expr} {body:List Stmt} {wi:TI} {g:TG} {tb:TS} {pos:Pos} (hp:PassesOwn (model X.prog X.w) X.A X.env X.xe) (hc:X.calm=true) (hi:PI X tg iter wi) (hg:PG X tg g) (hb:PSs X body tb)
    (hs:∀ x,foldedSetIterable iter X.env x=pure x:=by intro _;rfl):PS X (.For tg iter body [] pos) (oS wi g tb):=by
  intro pins s σ H D I h;refine wpAny_For (thn (hi pins s σ H _ I h) fun v s1 h1=>thn h1 fun itv s2 h2=>?_) hs;obtain ⟨it,fp,tn,J,H2,e,I2,T,st2,f2,W,⟨m0,w0⟩,turn⟩:=h2;subst e;have stat:∀ {H':Hp},(∀ b∈fp,H' b=none)→∀ b∈fp,iA X pins H' b:=fun hn b hb=>⟨hn b hb,(f2 b hb).2⟩
  refine codeAny_forLoop_any (fun n s'=>∃ i σ' H',Inv X pins σ' H' s'∧tn i s'.heap∧(∀ b∈fp,H' b=none)∧W i n σ' H') ?_ m0 ⟨0,σ,H2,I2,st2,fun b hb=>(f2 b hb).1,w0⟩;rintro n s3 ⟨i,σ3,H3,I3,st3,fr3,w3⟩;rcases turn i n σ3 H3 w3 with ⟨stop,qn⟩|⟨go,N,hN,step⟩
  · refine wpAny_passesOwn hp (thn (T.done X rfl rfl rfl hc i pins s3 σ3 H3 X.xe I3 (stat fr3) st3 stop) fun r s4 ⟨hr,I4⟩=>?_);subst hr;exact wpAny_execs_nil ⟨σ3,H3,I4,qn⟩
  · refine wpAny_passesOwn hp (thn (T.item X rfl rfl rfl hc i pins s3 σ3 H3 X.xe I3 (stat fr3) st3 go) fun r s4 ⟨u,hr,h4⟩=>?_);subst hr;refine wpAny_passesOwn hp (thn h4 fun _ s5 ⟨x,H5,I5,r5,y5,st5,fr5⟩=>?_);have I5':=I5.pinned (stat fr5) (T.obj _ _ st5);refine wpAny_passesOwn hp (thn (hg _ s5 σ3 H5 x u _ I5' r5 (step x H5 y5)) fun _ s6 ⟨σ6,H6,I6,q6⟩=>?_);refine wpAny_passesOwn hp (thn (hb _ s6 σ6 H6 _ I6 q6) fun f s7 q7=>?_);have again:∀ {σ7:St} {H7:Hp},Inv X (pins++bB fp s5.heap) σ7 H7 s7→N σ7 H7→∃ m,m < n∧∃ i σ' H',Inv X pins σ' H' s7∧tn i s7.heap∧(∀ b∈fp,H' b=none)∧W i m σ' H':=fun {σ7 H7} I7 n7=>by
      obtain ⟨m',hm,w7⟩:=hN σ7 H7 n7;refine ⟨m',hm,i+1,σ7,H7,I7.unpinned,T.keep _ _ _ st5 fun b hb o e=>(I7.pin (b,o) (aaf _ (aaf _ (bH hb e)))).1,fun b hb=>?_,w7⟩;obtain ⟨o,e,d⟩:=T.obj _ _ st5 b hb;exact (I7.pin (b,o) (aaf _ (aaf _ (bH hb e)))).2.1
    cases f with
    | next=>obtain ⟨σ7,H7,I7,n7⟩:=q7;exact again I7 n7
    | cont=>obtain ⟨σ7,H7,I7,n7⟩:=q7;exact again I7 n7
    | brk=>obtain ⟨σ7,H7,I7,q7⟩:=q7;exact ⟨σ7,H7,I7.unpinned,q7⟩
    | ret v=>obtain ⟨x7,σ7,H7,I7,r7,q7⟩:=q7;exact ⟨x7,σ7,H7,I7.unpinned,r7,q7⟩
end
theorem gb {K:aaa} {a:Addr} {xs:List V} {g:TG} {tb:TS} {D:Ends} {σ:St} {H:Hp} (Pv:Nat→St→Hp→Prop) (h0:Pv 0 σ H) (hl:∀ i σ H,i≤xs.length→Pv i σ H→SqL K H a xs)
    (hs:∀ i x σ H,xs[i]?=some x→Pv i σ H→g x σ H fun σ2 H2=>tb { D with nx:=Pv (i+1),ct:=Pv (i+1),bk:=D.nx } σ2 H2) (hd:∀ σ H,Pv xs.length σ H→D.nx σ H) :
    ∃ W:Nat→Nat→St→Hp→Prop,(∃ m,W 0 m σ H)∧∀ i m σ H,W i m σ H →
      ((Itl K a).stop i H∧D.nx σ H)∨((Itl K a).go i H∧∃ N:St→Hp→Prop,(∀ σ' H',N σ' H'→∃ m',m' < m∧W (i+1) m' σ' H')∧∀ x H',(Itl K a).yld i H x H'→g x σ H' fun σ2 H2=>tb { D with nx:=N,ct:=N,bk:=D.nx } σ2 H2):=by
  refine ⟨fun i m σ H=>m=xs.length - i∧i≤xs.length∧Pv i σ H,⟨xs.length,by simp,aaB _,h0⟩,?_⟩;rintro i m σ H ⟨rfl,hi,p⟩;have q:=hl i σ H hi p;by_cases hlt:i < xs.length
  · refine .inr ⟨⟨xs,xs[i],q,by simp [hlt]⟩,Pv (i+1),fun σ' H' p'=>⟨xs.length - (i+1),by omega,rfl,hlt,p'⟩,fun x H' y=>?_⟩;obtain ⟨e,y⟩:=y;subst e;exact hs i x σ _ (y xs q) p
  · have e:i=xs.length:=by omega
    subst e;exact .inl ⟨⟨xs,q,aab _⟩,hd σ H p⟩
theorem cT {lo:Int} {n:Nat} {g:TG} {tb:TS} {D:Ends} {σ:St} {H:Hp} (Pv:Nat→St→Hp→Prop) (h0:Pv 0 σ H)
    (hs:∀ i σ H,i < n→Pv i σ H→g (.int (lo+i)) σ H fun σ2 H2=>tb { D with nx:=Pv (i+1),ct:=Pv (i+1),bk:=D.nx } σ2 H2) (hd:∀ σ H,Pv n σ H→D.nx σ H) :
    ∃ W:Nat→Nat→St→Hp→Prop,(∃ m,W 0 m σ H)∧∀ i m σ H,W i m σ H →
      ((Itr lo n).stop i H∧D.nx σ H)∨((Itr lo n).go i H∧∃ N:St→Hp→Prop,(∀ σ' H',N σ' H'→∃ m',m' < m∧W (i+1) m' σ' H')∧∀ x H',(Itr lo n).yld i H x H'→g x σ H' fun σ2 H2=>tb { D with nx:=N,ct:=N,bk:=D.nx } σ2 H2):=by
  refine ⟨fun i m σ H=>m=n - i∧i≤n∧Pv i σ H,⟨n,by simp,aaB _,h0⟩,?_⟩;rintro i m σ H ⟨rfl,hi,p⟩;by_cases hlt:i < n
  · refine .inr ⟨hlt,Pv (i+1),fun σ' H' p'=>⟨n - (i+1),by omega,rfl,hlt,p'⟩,fun x H' y=>?_⟩;obtain ⟨e,y⟩:=y;subst e y;exact hs i σ _ hlt p
  · have e:i=n:=by omega
    subst e;exact .inl ⟨aab _,hd σ H p⟩
open PySem PySem.Spec PyProof.Rows
abbrev R2:=V→V→Hp→VK→Prop
def OpR (X:Cx) (f:Value→Value→Sem Value) (r:R2):Prop :=
  ∀ (pins:List (Addr × Obj)) (s:Shared) (σ:St) (H:Hp) (x y:V) (v u:Value) (Q:VK),Inv X pins σ H s→RelV x v→RelV y u→r x y H Q →
    wpAny (model X.prog X.w) X.A (f v u) (EP X pins σ Q) X.xe s
def UnR (X:Cx) (f:Value→Sem Value) (r:V→Hp→VK→Prop):Prop :=
  ∀ (pins:List (Addr × Obj)) (s:Shared) (σ:St) (H:Hp) (x:V) (v:Value) (Q:VK),Inv X pins σ H s→RelV x v→r x H Q →
    wpAny (model X.prog X.w) X.A (f v) (EP X pins σ Q) X.xe s
def di (X:Cx) (f:Value) (r:List V→Hp→VK→Prop):Prop :=
  ∀ (pins:List (Addr × Obj)) (s:Shared) (σ:St) (H:Hp) (xs:List V) (us:List Value) (Q:VK),Inv X pins σ H s→Vals xs us→r xs H Q →
    wpAny (model X.prog X.w) X.A (call f us) (EP X pins σ Q) X.xe s
def pj (X:Cx) (r:V→Hp→(Bool→Hp→Prop)→Prop):Prop :=
  ∀ (pins:List (Addr × Obj)) (s:Shared) (σ:St) (H:Hp) (x:V) (v:Value) (Q:Bool→Hp→Prop),Inv X pins σ H s→RelV x v→r x H Q →
    wpAny (model X.prog X.w) X.A (truthy v) (TP X pins σ Q) X.xe s
def tOp (r:R2) (ta tb:TE):TE:=fun σ H Q=>ta σ H fun x H1=>tb σ H1 fun y H2=>r x y H2 Q
def tUn (r:V→Hp→VK→Prop) (ta:TE):TE:=fun σ H Q=>ta σ H fun x H1=>r x H1 Q
def rI (C:Int→Int→Prop) (g:Int→Int→V):R2:=fun x y H Q=>∃ i j,x=.int i∧y=.int j∧C i j∧Q (g i j) H
def rI0 (g:Int→Int→V):R2:=fun x y H Q=>∃ i j,x=.int i∧y=.int j∧Q (g i j) H
def rU (g:Int→V):V→Hp→VK→Prop:=fun x H Q=>∃ i,x=.int i∧Q (g i) H
section
variable {X:Cx} {a b c:Expr} {ta tb tc:TE} {pos:Pos}
theorem nO (ha:PE X a ta) (hb:PE X b tb) {pins:List (Addr × Obj)} {s:Shared} {σ:St} {H:Hp} {R:V→V→Hp→Prop} (I:Inv X pins σ H s)
    (h:ta σ H fun x H1=>tb σ H1 fun y H2=>R x y H2) {Q:Value→Shared→Prop} {f:Value→Value→Sem Value}
    (hf:∀ v u s2 x y H2,Inv X pins σ H2 s2→RelV x v→RelV y u→R x y H2→wpAny (model X.prog X.w) X.A (f v u) Q X.xe s2) :
    wpAny (model X.prog X.w) X.A (eval a X.env) (fun v s₁=>wpAny (model X.prog X.w) X.A (eval b X.env) (fun u s₂=>wpAny (model X.prog X.w) X.A (f v u) Q X.xe s₂) X.xe s₁) X.xe s:=by
  refine thn (ha pins s σ H _ I h) fun v s1 ⟨x,H1,I1,r1,q1⟩=>?_;refine thn (hb pins s1 σ H1 _ I1 q1) fun u s2 ⟨y,H2,I2,r2,q2⟩=>?_;exact hf v u s2 x y H2 I2 r1 r2 q2
theorem av {op:Operator} {r:R2} (ho:OpR X (binaryOp op) r) (ha:PE X a ta) (hb:PE X b tb):PE X (.BinOp a op b pos) (tOp r ta tb):=by
  intro pins s σ H Q I h;exact wpAny_BinOp (nO ha hb I h fun v u s2 x y H2 I2 rx ry q=>ho pins s2 σ H2 x y v u Q I2 rx ry q)
theorem ol {op:UnaryOp} {r:V→Hp→VK→Prop} (ho:UnR X (unaryOp op) r) (ha:PE X a ta):PE X (.UnaryOp op a pos) (tUn r ta):=by
  intro pins s σ H Q I h;exact UnaryOp_ (thn (ha pins s σ H _ I h) fun v s1 ⟨x,H1,I1,r1,q1⟩=>ho pins s1 σ H1 x v Q I1 r1 q1)
theorem opI {f:Value→Value→Sem Value} {C:Int→Int→Prop} {g:Int→Int→Int}
    (rule:∀ (i j:Int) (t u:Tok) (s:Shared) (Q:Value→Shared→Prop) (E:Value→Shared→Prop),C i j→Q (.int (g i j) s.toks) { s with toks:=s.toks+1 }→wpAny (model X.prog X.w) X.A (f (.int i t) (.int j u)) Q E s) :
    OpR X f (rI C fun i j=>.int (g i j)):=by
  intro pins s σ H x y v u Q I rx ry h;obtain ⟨i,j,rfl,rfl,hc,q⟩:=h;obtain ⟨t,rfl⟩:=rx;obtain ⟨t',rfl⟩:=ry;exact rule i j t t' s _ _ hc ⟨.int (g i j),H,I.tok _,⟨_,rfl⟩,q⟩
theorem oo {f:Value→Value→Sem Value} {g:Int→Int→Int}
    (rule:∀ (i j:Int) (t u:Tok) (s:Shared) (Q:Value→Shared→Prop) (E:Value→Shared→Prop),Q (.int (g i j) s.toks) { s with toks:=s.toks+1 }→wpAny (model X.prog X.w) X.A (f (.int i t) (.int j u)) Q E s) :
    OpR X f (rI0 fun i j=>.int (g i j)):=by
  intro pins s σ H x y v u Q I rx ry h;obtain ⟨i,j,rfl,rfl,q⟩:=h;obtain ⟨t,rfl⟩:=rx;obtain ⟨t',rfl⟩:=ry;exact rule i j t t' s _ _ ⟨.int (g i j),H,I.tok _,⟨_,rfl⟩,q⟩
theorem mE {f:Value→Value→Sem Value} {g:Int→Int→Bool}
    (rule:∀ (i j:Int) (t u:Tok) (s:Shared) (Q:Value→Shared→Prop) (E:Value→Shared→Prop),Q (.bool (g i j)) s→wpAny (model X.prog X.w) X.A (f (.int i t) (.int j u)) Q E s) :
    OpR X f (rI0 fun i j=>.bl (g i j)):=by
  intro pins s σ H x y v u Q I rx ry h;obtain ⟨i,j,rfl,rfl,q⟩:=h;obtain ⟨t,rfl⟩:=rx;obtain ⟨t',rfl⟩:=ry;exact rule i j t t' s _ _ ⟨.bl (g i j),H,I,rfl,q⟩
def pz (i j:Int):Prop:=0 < j∧j < 1073741824
def py (i j:Int):Prop:=0≤j∧j≤1000000∧i.natAbs < 2 ^ 64
def CMul (i j:Int):Prop:=(-(2 ^ 64) < i∧i < 2 ^ 64)∨(-(2 ^ 64) < j∧j < 2 ^ 64)
theorem CMul.ok {i j:Int} (h:CMul i j):IntMulOk i j:=by
  rcases h with ⟨h1,h2⟩|⟨h1,h2⟩
  · exact .of_left (intBits_le_64 h1 h2)
  · exact .of_right (intBits_le_64 h1 h2)
theorem bw:OpR X (binaryOp .Add) (rI0 fun i j=>.int (i+j)):=oo fun _ _ _ _ _ _ _ q=>add_int q
theorem bG:OpR X (binaryOp .Sub) (rI0 fun i j=>.int (i - j)):=oo fun _ _ _ _ _ _ _ q=>sub_int q
theorem bT:OpR X (binaryOp .Mult) (rI CMul fun i j=>.int (i * j)):=opI fun _ _ _ _ _ _ _ hc q=>mul_int q hc.ok
theorem eZ:OpR X (binaryOp .Mod) (rI (fun _ j=>0 < j) fun i j=>.int (i % j)):=opI fun i j _ _ _ _ _ hc q=>by
  have h1:(0:Int) < j:=hc;exact mod_int' (by omega) (by rw [Int.fmod_eq_emod_of_nonneg i (by omega)];exact q)
theorem jA:OpR X (binaryOp .Pow) (rI py fun i j=>.int (i ^ j.toNat)):=opI fun _ _ _ _ _ _ _ hc q=>pow_int_small hc.1 hc.2.1 hc.2.2 q
theorem unI {f:Value→Sem Value} {g:Int→Int}
    (rule:∀ (i:Int) (t:Tok) (s:Shared) (Q:Value→Shared→Prop) (E:Value→Shared→Prop),Q (.int (g i) s.toks) { s with toks:=s.toks+1 }→wpAny (model X.prog X.w) X.A (f (.int i t)) Q E s) :
    UnR X f (rU fun i=>.int (g i)):=by
  intro pins s σ H x v Q I rx h;obtain ⟨i,rfl,q⟩:=h;obtain ⟨t,rfl⟩:=rx;exact rule i t s _ _ ⟨.int (g i),H,I.tok _,⟨_,rfl⟩,q⟩
theorem m7:UnR X (unaryOp .USub) (rU fun i=>.int (-i)):=unI fun _ _ _ _ _ q=>neg_int q
end
def og:V→V→Bool
  | .non,.non=>true|.non,.int _=>true|.int _,.non=>true|.non,.bl _=>true|.bl _,.non=>true|.non,.str _=>true|.str _,.non=>true
  | .int _,.int _=>true|.bl _,.bl _=>true|.str _,.str _=>true|.byt _,.byt _=>true
  | .int _,.str _=>true|.str _,.int _=>true|.bl _,.str _=>true|.str _,.bl _=>true
  | _,_=>false
def rEq:R2:=fun x y H Q=>og x y=true∧Q (.bl (decide (x=y))) H
def rNe:R2:=fun x y H Q=>og x y=true∧Q (.bl (!decide (x=y))) H
theorem kc {i j:Int}:decide (V.int i=V.int j)=(i == j):=by
  rw [aaX];simp
theorem lU {i j:Bool}:decide (V.bl i=V.bl j)=(i == j):=by
  rw [aaX];simp
theorem j_ {i j:Str}:decide (V.str i=V.str j)=(i == j):=by
  rw [aaX];simp
theorem ke {i j:Array UInt8}:decide (V.byt i=V.byt j)=(i.toList == j.toList):=by
  rw [aaX];cases i;cases j;simp
section
variable {X:Cx} {a b c:Expr} {ta tb tc:TE} {pos:Pos}
theorem aF {pins:List (Addr × Obj)} {σ:St} {H:Hp} {s:Shared} {Q:VK} {k k':Bool} (I:Inv X pins σ H s) (q:Q (.bl k) H) (e:k=k'):EP X pins σ Q (.bool k') s:=by
  subst e;exact ⟨.bl k,H,I,rfl,q⟩
theorem eG:OpR X (compareOp .Eq) rEq:=by
  intro pins s σ H x y v u Q I rx ry h;obtain ⟨hs,q⟩:=h;cases x with
  | non =>
    cases rx;cases y with
    | non=>cases ry;exact PySem.EqNone.eq_none_none (aF I q (by simp))
    | bl j=>cases ry;exact PySem.EqNone.eq_none_bool (aF I q (by simp))
    | int j=>obtain ⟨t',rfl⟩:=ry;exact PySem.EqNone.eq_none_int (aF I q (by simp))
    | str j=>obtain ⟨t',rfl⟩:=ry;exact PySem.EqNone.eq_none_str (aF I q (by simp))
    | _=>exact absurd (show false=true from hs) aah
  | bl i =>
    cases rx;cases y with
    | non=>cases ry;exact PySem.EqNone.eq_bool_none (aF I q (by simp))
    | bl j=>cases ry;exact eq_bool (aF I q lU)
    | str j=>obtain ⟨t',rfl⟩:=ry;exact PySem.EqMixed.eq_bool_str (aF I q (by simp))
    | _=>exact absurd (show false=true from hs) aah
  | int i =>
    obtain ⟨t,rfl⟩:=rx;cases y with
    | non=>cases ry;exact PySem.EqNone.eq_int_none (aF I q (by simp))
    | int j=>obtain ⟨t',rfl⟩:=ry;exact eq_int (aF I q kc)
    | str j=>obtain ⟨t',rfl⟩:=ry;exact PySem.EqMixed.eq_int_str (aF I q (by simp))
    | _=>exact absurd (show false=true from hs) aah
  | str i =>
    obtain ⟨t,rfl⟩:=rx;cases y with
    | non=>cases ry;exact PySem.EqNone.eq_str_none (aF I q (by simp))
    | bl j=>cases ry;exact PySem.EqMixed.eq_str_bool (aF I q (by simp))
    | int j=>obtain ⟨t',rfl⟩:=ry;exact PySem.EqMixed.eq_str_int (aF I q (by simp))
    | str j=>obtain ⟨t',rfl⟩:=ry;exact eq_str (aF I q j_)
    | _=>exact absurd (show false=true from hs) aah
  | byt i =>
    obtain ⟨t,rfl⟩:=rx;cases y with
    | byt j=>obtain ⟨t',rfl⟩:=ry;exact PySem.W.eq_bytes (aF I q ke)
    | _=>exact absurd (show false=true from hs) aah
  | _=>cases y <;> exact absurd (show false=true from hs) aah
theorem fR:OpR X (compareOp .NotEq) rNe:=by
  intro pins s σ H x y v u Q I rx ry h;obtain ⟨hs,q⟩:=h;cases x with
  | non =>
    cases rx;cases y with
    | non=>cases ry;exact PySem.EqNone.ne_none_none (aF I q (by simp))
    | bl j=>cases ry;exact PySem.EqNone.ne_none_bool (aF I q (by simp))
    | int j=>obtain ⟨t',rfl⟩:=ry;exact PySem.EqNone.ne_none_int (aF I q (by simp))
    | str j=>obtain ⟨t',rfl⟩:=ry;exact PySem.EqNone.ne_none_str (aF I q (by simp))
    | _=>exact absurd (show false=true from hs) aah
  | bl i =>
    cases rx;cases y with
    | non=>cases ry;exact PySem.EqNone.ne_bool_none (aF I q (by simp))
    | bl j=>cases ry;exact ne_bool (aF I q (congrArg not lU))
    | str j=>obtain ⟨t',rfl⟩:=ry;exact PySem.EqMixed.ne_bool_str (aF I q (by simp))
    | _=>exact absurd (show false=true from hs) aah
  | int i =>
    obtain ⟨t,rfl⟩:=rx;cases y with
    | non=>cases ry;exact PySem.EqNone.ne_int_none (aF I q (by simp))
    | int j=>obtain ⟨t',rfl⟩:=ry;exact ne_int (aF I q (congrArg not kc))
    | str j=>obtain ⟨t',rfl⟩:=ry;exact PySem.EqMixed.ne_int_str (aF I q (by simp))
    | _=>exact absurd (show false=true from hs) aah
  | str i =>
    obtain ⟨t,rfl⟩:=rx;cases y with
    | non=>cases ry;exact PySem.EqNone.ne_str_none (aF I q (by simp))
    | bl j=>cases ry;exact PySem.EqMixed.ne_str_bool (aF I q (by simp))
    | int j=>obtain ⟨t',rfl⟩:=ry;exact PySem.EqMixed.ne_str_int (aF I q (by simp))
    | str j=>obtain ⟨t',rfl⟩:=ry;exact ne_str (aF I q (congrArg not j_))
    | _=>exact absurd (show false=true from hs) aah
  | byt i =>
    obtain ⟨t,rfl⟩:=rx;cases y with
    | byt j=>obtain ⟨t',rfl⟩:=ry;exact PySem.W.ne_bytes (aF I q (congrArg not ke))
    | _=>exact absurd (show false=true from hs) aah
  | _=>cases y <;> exact absurd (show false=true from hs) aah
theorem mW:OpR X (compareOp .Lt) (rI0 fun i j=>.bl (decide (i < j))):=mE fun _ _ _ _ _ _ _ q=>lt_int q
theorem gC:OpR X (compareOp .LtE) (rI0 fun i j=>.bl (decide (i≤j))):=mE fun _ _ _ _ _ _ _ q=>le_int q
theorem on:OpR X (compareOp .Gt) (rI0 fun i j=>.bl (decide (j < i))):=mE fun _ _ _ _ _ _ _ q=>gt_int q
theorem mX:OpR X (compareOp .GtE) (rI0 fun i j=>.bl (decide (j≤i))):=mE fun _ _ _ _ _ _ _ q=>ge_int q
theorem kE:OpR X (compareOp .In) (fun x y H Q=>∃ i j,x=.str i∧y=.str j∧Q (.bl (!(aa2 j i 0 j.length 1).isEmpty)) H):=by
  intro pins s σ H x y v u Q I rx ry h;obtain ⟨i,j,rfl,rfl,q⟩:=h;obtain ⟨t,rfl⟩:=rx;obtain ⟨t',rfl⟩:=ry;exact in_str (aF I q rfl)
theorem aL (b:Expr) {op:CmpOp} (h:op≠.In:=by decide) (h2:op≠.NotIn:=by decide):behindInMarks op b=false:=by
  have e1:(op == CmpOp.In)=false:=by cases op <;> first|rfl|exact absurd rfl h
  have e2:(op == CmpOp.NotIn)=false:=by cases op <;> first|rfl|exact absurd rfl h2
  cases b <;> simp [behindInMarks,e1,e2]
theorem bZ {op:CmpOp} {r:R2} (ho:OpR X (compareOp op) r) (ha:PE X a ta) (hb:PE X b tb) (hm:behindInMarks op b=false):PE X (.Compare a [op] [b] pos) (tOp r ta tb):=by
  intro pins s σ H Q I h;exact wpAny_Compare1 (nO ha hb I h fun v u s2 x y H2 I2 rx ry q=>ho pins s2 σ H2 x y v u Q I2 rx ry q) hm
def mT (t:TE):TT:=fun σ H Q=>t σ H fun x H'=>∃ k,x=.bl k∧Q k H'
theorem aM {op:CmpOp} {r:R2} (ho:OpR X (compareOp op) r) (ha:PE X a ta) (hb:PE X b tb) (hm:behindInMarks op b=false):PT X (.Compare a [op] [b] pos) (mT (tOp r ta tb)):=by
  intro pins s σ H Q I h;refine wpAny_isTrue_Compare1 (thn (ha pins s σ H _ I h) fun v s1 ⟨x,H1,I1,r1,q1⟩=>thn (hb pins s1 σ H1 _ I1 q1) fun u s2 ⟨y,H2,I2,r2,q2⟩ =>
    thn (ho pins s2 σ H2 x y v u _ I2 r1 r2 q2) fun c s3 ⟨z,H3,I3,r3,k,e,q3⟩=>?_) hm
  subst e;cases r3;exact wpAny_truthy_bool ⟨H3,I3,q3⟩
def kY (r r':R2) (ta tb tc:TE):TE:=fun σ H Q=>ta σ H fun x H1=>tb σ H1 fun y H2=>r x y H2 fun z H3=>∃ k,z=.bl k ∧
  (if k=true then tc σ H3 fun w' H4=>r' y w' H4 Q else Q (.bl false) H3)
theorem lm {op op':CmpOp} {r r':R2} (ho:OpR X (compareOp op) r) (ho':OpR X (compareOp op') r') (ha:PE X a ta) (hb:PE X b tb) (hc:PE X c tc)
    (hm:lastMarks [op,op'] [b,c]=false:=by with_unfolding_all rfl):PE X (.Compare a [op,op'] [b,c] pos) (kY r r' ta tb tc):=by
  intro pins s σ H Q I h;refine Compare_chain (thn (ha pins s σ H _ I h) fun v s1 ⟨x,H1,I1,r1,q1⟩=>chain_link (thn (hb pins s1 σ H1 _ I1 q1) fun u s2 ⟨y,H2,I2,r2,q2⟩ =>
    thn (ho pins s2 σ H2 x y v u _ I2 r1 r2 q2) fun d s3 ⟨z,H3,I3,r3,k,e,q3⟩=>?_)) hm
  subst e;cases r3;refine wpAny_truthy_bool ?_;cases k with
  | false=>exact ite_ff ⟨.bl false,H3,I3,rfl,q3⟩
  | true=>exact ite_tt (chain_last (thn (hc pins s3 σ H3 _ I3 q3) fun w' s4 ⟨z',H4,I4,r4,q4⟩=>ho' pins s4 σ H4 y z' u w' Q I4 r2 r4 q4))
theorem iW {op op':CmpOp} {r r':R2} (ho:OpR X (compareOp op) r) (ho':OpR X (compareOp op') r') (ha:PE X a ta) (hb:PE X b tb) (hc:PE X c tc)
    (hm:lastMarks [op,op'] [b,c]=false:=by with_unfolding_all rfl):PT X (.Compare a [op,op'] [b,c] pos) (mT (kY r r' ta tb tc)):=by
  intro pins s σ H Q I h;refine isTrue_chain (thn (ha pins s σ H _ I h) fun v s1 ⟨x,H1,I1,r1,q1⟩=>test_link (thn (hb pins s1 σ H1 _ I1 q1) fun u s2 ⟨y,H2,I2,r2,q2⟩ =>
    thn (ho pins s2 σ H2 x y v u _ I2 r1 r2 q2) fun d s3 ⟨z,H3,I3,r3,k,e,q3⟩=>?_)) hm
  subst e;cases r3;refine wpAny_truthy_bool ?_;cases k with
  | false =>
    obtain ⟨k',e',q'⟩:=q3;cases e';exact ite_ff ⟨H3,I3,q'⟩
  | true =>
    refine ite_tt (test_last (thn (hc pins s3 σ H3 _ I3 q3) fun w' s4 ⟨z',H4,I4,r4,q4⟩=>thn (ho' pins s4 σ H4 y z' u w' _ I4 r2 r4 q4) fun d' s5 ⟨z2,H5,I5,r5,k2,e2,q5⟩=>?_));subst e2;cases r5;exact wpAny_truthy_bool ⟨H5,I5,q5⟩
def nQ (K:aaa) (x:V) (H:Hp) (k:Bool):Prop :=
  match x with
  | .non=>k=false
  | .bl b=>k=b
  | .int i=>k=(i != 0)
  | .str y=>y.length≤sizeLine∧k=((y.length:Int) != 0)
  | .byt y=>y.size≤sizeLine∧k=((y.size:Int) != 0)
  | .ref p=>(∃ xs,SqL K H p xs∧k=!xs.isEmpty)∨(∃ xs,SqT K H p xs∧k=!xs.isEmpty)∨∃ kvs,H p=some (.dK kvs)∧k=!kvs.isEmpty
  | _=>False
theorem jK {κ:Type} {kvs:List (κ × V)} {vs:List (κ × Value)} (r:KV kvs vs):(!vs.isEmpty)=!kvs.isEmpty:=by
  cases r <;> rfl
theorem fZ {xs:List V} {its:List Value} (r:Vals xs its):(!its.toArray.isEmpty)=!xs.isEmpty:=by
  cases r <;> simp
theorem d_:(sizeLine:Nat) < 2 ^ 63:=by rw [sizeLine_eq];decide
theorem kX:pj X (fun x H Q=>∃ k,nQ X.K x H k∧Q k H):=by
  intro pins s σ H x v Q I rx h;obtain ⟨k,e,q⟩:=h;have hl:=d_;have hs:sizeLine=16777216:=sizeLine_eq;cases x with
  | non =>
    cases rx;have e':k=false:=e;subst e';exact truthy_none ⟨H,I,q⟩
  | bl b =>
    cases rx;have e':k=b:=e;subst e';exact wpAny_truthy_bool ⟨H,I,q⟩
  | int i =>
    obtain ⟨t,rfl⟩:=rx;have e':k=(i != 0):=e;subst e';exact PySem.P.truthy_int ⟨H,I,q⟩
  | str y =>
    obtain ⟨t,rfl⟩:=rx;obtain ⟨hy,e'⟩:y.length≤sizeLine∧k=((y.length:Int) != 0):=e;subst e';exact PySem.P.truthy_str (by omega) ⟨H,I.tok _,q⟩
  | byt y =>
    obtain ⟨t,rfl⟩:=rx;obtain ⟨hy,e'⟩:y.size≤sizeLine∧k=((y.size:Int) != 0):=e;subst e';exact PySem.W.truthy_bytes (by omega) ⟨H,I.tok _,q⟩
  | ref p =>
    cases rx;have e':(∃ xs,SqL X.K H p xs∧k=!xs.isEmpty)∨(∃ xs,SqT X.K H p xs∧k=!xs.isEmpty)∨∃ kvs,H p=some (.dK kvs)∧k=!kvs.isEmpty:=e;rcases e' with ⟨xs,hx,e'⟩|⟨xs,hx,e'⟩|⟨kvs,hx,e'⟩
    · subst e';obtain ⟨its,r,pl,hz⟩:=I.list hx;have hlen:=r.length;exact wpAny_truthy_list pl.isList (by simp only [aac];omega) ⟨H,I.tok _,by rw [fZ r];exact q⟩
    · subst e';obtain ⟨its,r,pl,hz⟩:=I.tuple hx;have hlen:=r.length;exact truthy_tuple pl (by simp only [aac];omega) ⟨H,I.tok _,by rw [fZ r];exact q⟩
    · subst e';obtain ⟨hz,hS,vs,r,m⟩:kvs.length≤sizeLine∧(p == sysModules)=false∧∃ vs,KV kvs vs∧s.heap.DictOf (cK X.prog X.w) p vs:=I.hok p _ hx;have hlen:kvs.length=vs.length:=abS r;exact wpAny_truthy_dict hS m (by omega) ⟨H,I.tok _,by rw [jK r];exact q⟩
  | _=>exact (show False from e).elim
theorem lg (ha:PE X a ta) (he:∀ whole,isTrue a X.env whole=(do let v ← whole;standAt a.pos;holding [v] (truthy v))) :
    PT X a (fun σ H Q=>ta σ H fun x H'=>∃ k,nQ X.K x H' k∧Q k H'):=by
  intro pins s σ H Q I h;exact isTrue_plain (thn (ha pins s σ H _ I h) fun v s1 ⟨x,H1,I1,r1,q1⟩=>kX pins s1 σ H1 x v Q I1 r1 q1) (he _)
theorem fS:OpR X (binaryOp .Add) (fun x y H Q=>∃ i j,x=.str i∧y=.str j∧i.length+j.length≤sizeLine∧Q (.str (i++j)) H):=by
  intro pins s σ H x y v u Q I rx ry h;obtain ⟨i,j,rfl,rfl,hz,q⟩:=h;obtain ⟨t,rfl⟩:=rx;obtain ⟨t',rfl⟩:=ry;exact add_str (fun t' tk=>⟨.str (i++j),H,I.tok _,⟨_,rfl⟩,q⟩) hz
theorem eh {x:V} {us:List Value} (r:Vals [x] us):∃ u,us=[u]∧RelV x u:=by
  cases r with
  | cons r1 r2=>cases r2;exact ⟨_,rfl,r1⟩
theorem kT {x y:V} {us:List Value} (r:Vals [x,y] us):∃ u w',us=[u,w']∧RelV x u∧RelV y w':=by
  cases r with
  | cons r1 r2 =>
    cases r2 with
    | cons r3 r4=>cases r4;exact ⟨_,_,rfl,r1,r3⟩
theorem kR:di X (.type "int") (fun xs H Q=>(∃ i,xs=[.int i]∧Q (.int i) H)∨∃ k,xs=[.bl k]∧Q (.int (if k then 1 else 0)) H):=by
  intro pins s σ H xs us Q I r h;rcases h with ⟨i,rfl,q⟩|⟨k,rfl,q⟩
  · obtain ⟨u,rfl,t,rfl⟩:=eh r;exact call_int_int ⟨.int i,H,I,⟨_,rfl⟩,q⟩
  · obtain ⟨u,rfl,r1⟩:=eh r;cases r1;exact call_int_bool ⟨.int (if k then 1 else 0),H,I.tok _,⟨_,rfl⟩,q⟩
theorem ft:di X (.builtin "divmod") (fun xs H Q=>∃ i j,xs=[.int i,.int j]∧pz i j∧∀ p,H p=none→Q (.ref p) (upd H p (.tup [.int (i / j),.int (i % j)]))):=by
  intro pins s σ H xs us Q I r h;obtain ⟨i,j,rfl,⟨h1,h2⟩,q⟩:=h;obtain ⟨u,w',rfl,⟨t,rfl⟩,⟨t',rfl⟩⟩:=kT r;refine divmod_int (by omega) ?_ (.inl (PyProof.noPylong_small (by omega)));rw [Int.fdiv_eq_ediv_of_nonneg i (by omega),Int.fmod_eq_emod_of_nonneg i (by omega)];have hn:H s.heap.objs.size=none:=I.hok.fresh (aab _);refine ⟨.ref s.heap.objs.size,_,?_,rfl,q _ hn⟩;refine I.laid (fun b o e=>aal _ e) (aab _) ⟨by simp only [abH,List.length_nil];rw [sizeLine_eq];decide,[.int (i / j) s.toks,.int (i % j) (s.toks+1)],.cons ⟨_,rfl⟩ (.cons ⟨_,rfl⟩ .nil),?_⟩;exact ⟨_,aaA s.heap rfl,rfl,0,rfl⟩
end
open PySem PySem.Spec PyProof.Rows
structure ObjM (h:Heap) (x dx C:Addr) (mA:Str→Option Value):Prop where
  obj:h.get? x=some (PySem.W.instObj C dx)
  ns:h.Ns1 dx mA
  ne:dx≠x
theorem kK {h:Heap} {dx:Addr} {mA:Str→Option Value} (n:h.Ns1 dx mA):∃ od,h.get? dx=some od∧∀ name,PySem.W.lookIn name od=some (mA name):=by
  obtain ⟨o,es,ep,ho,hd,hk,_,hm⟩:=n;refine ⟨o,ho,fun name=>?_⟩;have e:=hm name;unfold nsFind findBy at e;rw [← Array.find?_toList] at e;unfold PySem.W.lookIn;rw [hd];dsimp only;split
  · rename_i y q;rw [q] at e;exact congrArg some e
  · rename_i q;rw [q] at e;have a:es.toList.any (·.refKey)=false:=by
      rw [List.any_eq_false];intro y hy;obtain ⟨z,t,hkey⟩:=hk y (Array.mem_toList_iff.mp hy);simp [DictEntry.refKey,hkey]
    have a':¬ es.toList.any (·.refKey)=true:=by rw [a];exact aah
    rw [if_neg a'];exact congrArg some e
theorem ObjM.look {h:Heap} {x dx C:Addr} {mA:Str→Option Value} (I:ObjM h x dx C mA):∃ od,PySem.W.InstAt h x (PySem.W.instObj C dx) C (some od)∧∀ name,PySem.W.lookIn name od=some (mA name) :=
  let ⟨od,ho,hl⟩:=kK I.ns
  ⟨od,⟨I.obj,rfl,rfl,ho⟩,hl⟩
section
variable {prog:Program} {w:World} {A:Around} {E:Value→Shared→Prop} {s:Shared} {K:aaa} {x dx C f:Addr} {mA:Str→Option Value} {name:Str} {v:Value}
end
section
variable {P:Program} {w:World} {H H':Hp} {h h':Heap} {a C dx:Addr} {fs fs':List (Str × V)}
theorem mL (hok:HOk P w H h) (e:H a=some (.ins C dx fs)):∃ mA,ObjM h a dx C mA∧(∀ f,nT (fs.lookup f) (mA f))∧PySem.Within mA (fs.map (·.1))∧fs.length≤1000∧H dx=some (.own a):=by
  obtain ⟨d,z,ne,ob,mA,n,r,q⟩:=(show ObjOk P w H h a (.ins C dx fs) from hok a _ e)
  exact ⟨mA,⟨ob,n,ne⟩,r,q,z,d⟩
end
structure Cls (K:aaa) (C:Addr):Prop where
  pg:PySem.W.plainGet K C Str.empty=true
  hd:PySem.W.hasDictIn K C=true
  po:PySem.W.plainOver K C=true
  sa:ab3 K (.ref C) "__setattr__" = some (some (.builtin "object.__setattr__"))
theorem Cls.get {K:aaa} {C:Addr} (c:Cls K C) (f:Str):PySem.W.plainGet K C f=true:=c.pg
structure Con (K:aaa) (C:Addr) (f:Str) (v:V) (u:Value):Prop where
  at_:ab3 K (.ref C) f=some (some u)
  rel:RelV v u
  get:PySem.W.specialIn K u "__get__" = some none
  cp:PySem.W.copiedNames.contains f=false
structure Meth (K:aaa) (C:Addr) (m:Str) (f:Addr):Prop where
  at_:ab3 K (.ref C) m=some (some (.ref f))
  fn:PySem.W.isFn K (.ref f)=true
  kp:abe K (.ref f)=true
section
variable {X:Cx} {pins:List (Addr × Obj)} {σ:St} {H:Hp} {s:Shared} {a C dx:Addr} {fs:List (Str × V)} {f:Str} {v:V} {A:Around} {E:Value→Shared→Prop}
end
section
variable {X:Cx} {o e value:Expr} {f:Str} {pos pos' tpos:Pos} {ta tv:TE}
end
section
variable {X:Cx} {pins:List (Addr × Obj)} {σ:St} {H:Hp} {s:Shared} {A:Around} {E:Value→Shared→Prop} {Q:Value→Shared→Prop} {c:Value} {b:Bool}
inductive TyOf (K:aaa) (H:Hp):V→Value→Prop where
  | non:TyOf K H .non (.type "NoneType")
  | bl (x:Bool):TyOf K H (.bl x) (.type "bool")
  | int (i:Int):TyOf K H (.int i) (.type "int")
  | str (x:Str):TyOf K H (.str x) (.type "str")
  | flt (x:UInt64):TyOf K H (.flt x) (.type "float")
  | lst {a:Addr} {xs:List V} (e:H a=some (.lst xs)):TyOf K H (.ref a) (.type "list")
  | frz {a:Addr} {o:Obj} {xs:List V} (e:H a=some (.frz o (.lst xs))):TyOf K H (.ref a) (.type "list")
  | tup {a:Addr} {xs:List V} (e:H a=some (.tup xs)):TyOf K H (.ref a) (.type "tuple")
  | dK {a:Addr} {kvs:List (Key × V)} (e:H a=some (.dK kvs)):TyOf K H (.ref a) (.type "dict")
  | dT {a:Addr} {kvs:List (List Key × V)} (e:H a=some (.dT kvs)):TyOf K H (.ref a) (.type "dict")
  | ins {a C dx:Addr} {fs:List (Str × V)} (e:H a=some (.ins C dx fs)) (cl:Cls K C) (ha:ab3 K (.ref C) "__class__" = some (some (.builtin "object.__class__")))
      (hn:PySem.W.specialIn K (.builtin "object.__class__") "__get__" = some (some (.builtin "getset_descriptor.__get__"))) (htk:PySem.W.takesIn K (.builtin "object.__class__")=some true)
      (hm:PySem.W.mroIn K C (.type "object")=some true):TyOf K H (.ref a) (.ref C)
theorem kN {x:V} {u t:Value} (I:Inv X pins σ H s) (rx:RelV x u) (ty:TyOf X.K H x t) (e:PySem.W.kitOne X.K t c=some b) (h:∀ tk,Q (.bool b) { s with toks:=tk }) :
    wpAny (model X.prog X.w) A (call (.builtin "isinstance") [u,c]) Q E s:=by
  cases ty with
  | non=>cases (show u=Value.none from rx);exact aaZ PySem.W.kitx_none I.kIn True.intro e (fun z=>nomatch z) h
  | bl y=>cases (show u=Value.bool y from rx);exact aaZ PySem.W.kitx_bool I.kIn True.intro e (fun z=>nomatch z) h
  | int i=>obtain ⟨t,q⟩:=(show ∃ t,u=Value.int i t from rx);cases q;exact aaZ PySem.W.kitx_int I.kIn True.intro e (fun z=>nomatch z) h
  | str y=>obtain ⟨t,q⟩:=(show ∃ t,u=Value.str y t from rx);cases q;exact aaZ PySem.W.kitx_str I.kIn True.intro e (fun z=>nomatch z) h
  | flt y=>obtain ⟨t,q⟩:=(show ∃ t,u=Value.float y t from rx);cases q;exact aaZ PySem.W.kitx_float I.kIn True.intro e (fun z=>nomatch z) h
  | @lst a xs ea =>
    cases (show u=Value.ref a from rx);obtain ⟨_,_,n,_,h1⟩:=(show ObjOk X.prog X.w H s.heap a (.lst xs) from I.hok a _ ea)
    exact aaZ PySem.W.kitx_list I.kIn ⟨_,h1,rfl⟩ e (fun z=>nomatch z) h
  | @frz a ob xs ea =>
    cases (show u=Value.ref a from rx);obtain ⟨_,_,_,n,_,h1⟩:=(show ObjOk X.prog X.w H s.heap a (.frz ob (.lst xs)) from I.hok a _ ea)
    exact aaZ PySem.W.kitx_list I.kIn ⟨_,h1,rfl⟩ e (fun z=>nomatch z) h
  | @tup a xs ea =>
    cases (show u=Value.ref a from rx);obtain ⟨_,_,_,p⟩:=(show ObjOk X.prog X.w H s.heap a (.tup xs) from I.hok a _ ea)
    obtain ⟨o,h1,h2,_⟩:=p;exact aaZ PySem.W.kitx_tuple I.kIn ⟨o,h1,h2⟩ e (fun z=>nomatch z) h
  | @dK a kvs ea =>
    cases (show u=Value.ref a from rx);obtain ⟨_,_,vs,_,p⟩:=(show ObjOk X.prog X.w H s.heap a (.dK kvs) from I.hok a _ ea)
    obtain ⟨o,es,ep,h1,h2,_⟩:=p;exact aaZ PySem.W.kitx_dict I.kIn ⟨o,h1,h2.1⟩ e (fun z=>nomatch z) h
  | @dT a kvs ea =>
    cases (show u=Value.ref a from rx);obtain ⟨_,_,xs,_,o,es,ep,h1,h2,_⟩:=(show ObjOk X.prog X.w H s.heap a (.dT kvs) from I.hok a _ ea)
    exact aaZ PySem.W.kitx_dict I.kIn ⟨o,h1,h2.1⟩ e (fun z=>nomatch z) h
  | @ins a C dx fs ea cl ha hn htk hm =>
    cases (show u=Value.ref a from rx);obtain ⟨mA,O,_⟩:=mL I.hok ea;obtain ⟨od,J,_⟩:=O.look;exact aaZ (PySem.W.kitx_own (cl.get _) cl.hd ha hn htk hm) I.kIn J e (fun z=>nomatch z) h
end
open PySem PySem.Spec PyProof.Rows
structure Room (k:Nat) (A:Around):Prop where
  hd:A.handled=none
  dp:A.depth+3 * k+5 < recursionLimit
  un:A.units+16 * k+200 < cLine
  gd:A.guards=some []
theorem Room.mono {j k:Nat} {A:Around} (r:Room k A) (h:j≤k):Room j A:=⟨r.hd,by have:=r.dp;omega,by have:=r.un;omega,r.gd⟩
theorem Room.deeper {k:Nat} {A:Around} (r:Room (k+1) A) (env:Env):Room k (A.deeper env) :=
  ⟨r.hd,by have:=r.dp;show A.depth+1+3 * k+5 < _;omega,by have:=r.un;show A.units+3+16 * k+200 < _;omega,r.gd⟩
theorem Room.depth {k:Nat} {A:Around} (r:Room k A):A.depth < recursionLimit:=by have:=r.dp;omega
theorem Room.units {k:Nat} {A:Around} (r:Room k A):A.units+64 < cLine:=by have:=r.un;omega
def oP:TA:=fun _ H Q=>Q [] H
def oa (ta:TE) (tr:TA):TA:=fun σ H Q=>ta σ H fun x H1=>tr σ H1 fun xs H2=>Q (x :: xs) H2
section
variable {X:Cx} {e:Expr} {es:List Expr} {te:TE} {t:TA} {pos:Pos}
theorem ad:PA X [] oP:=fun _ _ _ _ H Q I h=>Calls.spliced_nil ⟨[],H,I,.nil,h⟩
theorem aa (ha:PE X e te) (hr:PA X es t) (hs:starEach (e :: es) X.env=(false,eval e X.env) :: starEach es X.env:=by rfl):PA X (e :: es) (oa te t):=by
  intro pos pins s σ H Q I h;rw [hs];show wpAny _ _ (spliced ((false,eval e X.env) :: backTo pos (starEach es X.env))) _ _ s;refine Calls.spliced_cons (thn (ha pins s σ H _ I h) fun u s1 ⟨x,H1,I1,r1,q1⟩=>?_);exact thn (hr pos pins s1 σ H1 _ I1 q1) fun us s2 ⟨xs,H2,I2,r2,q2⟩=>⟨x :: xs,H2,I2,.cons r1 r2,q2⟩
def oK (t:TA):TE:=fun σ H Q=>t σ H fun xs H1=>xs.length≤sizeLine∧∀ p,H1 p=none→Q (.ref p) (upd H1 p (.tup xs))
def oQ (t:TA):TE:=fun σ H Q=>t σ H fun xs H1=>xs.length≤sizeLine∧∀ p,H1 p=none→Q (.ref p) (upd H1 p (.lst xs))
theorem dy {x1} (h:PA X es t):PE X (.Tuple es x1 pos) (oK t):=by
  intro pins s σ H Q I hq;refine wpAny_Tuple_spliced (thn (h pos pins s σ H _ I hq) fun us s1 ⟨xs,H1,I1,r,z,q⟩=>⟨by rw [← r.length];exact z,?_⟩);have hf:H1 s1.heap.objs.size=none:=I1.hok.fresh (aab _);refine ⟨.ref s1.heap.objs.size,upd H1 s1.heap.objs.size (.tup xs),I1.laid (t':=s1.toks) (fun b u e=>aal _ e) (aab _) ?_,rfl,q _ hf⟩;exact ⟨z,us,r,⟨_,aaA _ rfl,rfl,_,rfl⟩⟩
theorem aW (h:PA X es t):PE X (.List es pos) (oQ t):=by
  intro pins s σ H Q I hq;refine wpAny_List_spliced (thn (h pos pins s σ H _ I hq) fun us s1 ⟨xs,H1,I1,r,z,q⟩=>⟨by rw [← r.length];exact z,?_⟩);have hf:H1 s1.heap.objs.size=none:=I1.hok.fresh (aab _);refine ⟨.ref s1.heap.objs.size,upd H1 s1.heap.objs.size (.lst xs),I1.laid (t':=s1.toks) (fun b u e=>aal _ e) (aab _) ?_,rfl,q _ hf⟩;exact ⟨z,us,0,r,aaA _ rfl⟩
end
abbrev Sp:=List V→Hp→VK→XK→Prop
abbrev CXT:=List Env→Hp→Shared→XK→Value→Shared→Prop
structure Env0 (P:Program) (w:World) (K:aaa) (mg:Str→Option Value) (base:Heap) (A:Around) (outer:List Env) (s:Shared) (H:Hp):Prop where
  frames:A.frames=some outer
  mod:Mod K mg base
  bs:∀ b o,base.get? b=some o→s.heap.get? b=some o∧H b=none
  bsz:base.objs.size≤s.heap.objs.size
  funs:s.heap.FunFrames base outer
  frf:∀ b∈frs outer,H b=none
  hok:HOk P w H s.heap
  bare:AllBare s.gens
def CE (outer:List Env) (P:Program) (w:World) (H:Hp) (s:Shared) (Q:VK) (u:Value) (s':Shared):Prop :=
  ∃ v H',s'.os=s.os∧AllBare s'.gens∧Un (frs outer) [] H H' s.heap s'.heap∧HOk P w H' s'.heap∧RelV v u∧Q v H'
def CR (CX:CXT) (outer:List Env) (P:Program) (w:World) (H:Hp) (s:Shared) (Q:VK) (E:XK) (r:Result) (s':Shared):Prop :=
  match r with
  | .ok (.ret u)=>CE outer P w H s Q u s'
  | .ok _=>False
  | .error e=>CX outer H s E e s'
structure FnOk (P:Program) (w:World) (K:aaa) (mg:Str→Option Value) (base:Heap) (CX:CXT) (k:Nat) (f:Addr) (fd:FuncData) (ps:List Str) (sp:Sp):Prop where
  len:∀ vs H Q E,sp vs H Q E→vs.length=ps.length
  run:∀ (A:Around) (outer:List Env) (s:Shared) (H:Hp) (args:Args) (us:List Value) (vs:List V) (Q:VK) (E:XK),Room k A→Env0 P w K mg base A outer s H→BindsTo s fd args (ps.zip us)→Vals vs us→sp vs H Q E →
    codeAny (model P w) A (.call (.ref f) args) (CR CX outer P w H s Q E) s
section
variable {X:Cx} {pins:List (Addr × Obj)} {σ:St} {H:Hp} {s s':Shared}
theorem Inv.env0 (I:Inv X pins σ H s):Env0 X.prog X.w X.K X.mg X.base X.A X.stack s H :=
  ⟨I.ok.frames,I.ok.mod,I.bs,aa5 I.ok.bsz I.sz,I.stack,I.stkFree,I.hok,I.bare⟩
theorem Inv.after {Q:VK} {u:Value} (I:Inv X pins σ H s) (h:CE X.stack X.prog X.w H s Q u s'):EP X pins σ Q u s':=by
  obtain ⟨v,H',os,bare,un,hok,r,q⟩:=h;obtain ⟨hh,g,d,t,os'⟩:=s';obtain rfl:os'=s.os:=os;exact ⟨v,H',I.call (h':=hh) (g':=g) (d':=d) (t':=t) (ch:=[]) un hok bare (fun b z=>absurd z (by simp)),r,q⟩
end
def mU (sp:Sp) (dvs:List V) (E:XK) (t:TA):TE:=fun σ H Q=>t σ H fun vs H1=>sp (vs++dvs) H1 Q E
def Binds (K:aaa) (fd:FuncData) (ps:List Str) (ds:List Value):Prop :=
  ∀ (s:Shared) (us:List Value),K.In s.heap→(us++ds).length=ps.length→BindsTo s fd ⟨us,[]⟩ (ps.zip (us++ds))
theorem Binds.all {K:aaa} {fd:FuncData} {ps:List Str} (h:∀ us:List Value,us.length=ps.length→bindArgs fd ⟨us,[]⟩=pure (ps.zip us)):Binds K fd ps []:=fun s us _ hl=>by
  rw [List.append_nil] at hl ⊢;exact .of_eq (h us hl)
def jN (CX:CXT) (X:Cx) (E:XK):Prop:=∀ (pins:List (Addr × Obj)) (σ:St) (H:Hp) (s:Shared) (e:Value) (s':Shared),Inv X pins σ H s→CX X.stack H s E e s'→X.xe e s'
section
variable {X:Cx} {CX:CXT} {k:Nat} {f C:Addr} {fd:FuncData} {ps:List Str} {sp:Sp} {dvs:List V} {ds:List Value} {E:XK} {x m:Str} {p pos apos:Pos} {e o:Expr} {es:List Expr} {ta:TE} {t:TA}
theorem ni {pins:List (Addr × Obj)} {σ:St} {H:Hp} {s:Shared} {Q:VK} {us:List Value} {vs:List V} (F:FnOk X.prog X.w X.K X.mg X.base CX k f fd ps sp) (hr:Room k X.A) (hb:Binds X.K fd ps ds) (hd:Vals dvs ds) (hx:jN CX X E)
    (I:Inv X pins σ H s) (r:Vals vs us) (h:sp (vs++dvs) H Q E):wpAny (model X.prog X.w) X.A (call (.ref f) us) (EP X pins σ Q) X.xe s:=by
  have r2:Vals (vs++dvs) (us++ds):=r.append hd;have hl:(us++ds).length=ps.length:=by rw [← r2.length];exact F.len _ _ _ _ h
  refine wpAny_call (codeAny_mono (F.run X.A X.stack s H ⟨us,[]⟩ (us++ds) (vs++dvs) Q E hr I.env0 (hb s us I.kIn hl) r2 h) fun r s' hq=>?_);cases r with
  | error e=>exact hx pins σ H s e s' I hq
  | ok fl =>
    cases fl with
    | ret u=>exact I.after hq
    | next=>exact abC hq
    | brk=>exact abC hq
    | cont=>exact abC hq
theorem mD (F:FnOk X.prog X.w X.K X.mg X.base CX k f fd ps sp) (hr:Room k X.A) (hg:Gl X x) (hm:X.mg x=some (.ref f)) (hk:abe X.K (.ref f)=true) (hb:Binds X.K fd ps ds) (hd:Vals dvs ds) (hx:jN CX X E)
    (ha:PA X (e :: es) t) (hdb:(x == ("__debug__":Str))=false:=by decide) (he:starEach (e :: es) X.env=(false,eval e X.env) :: starEach es X.env:=by rfl) (hpl:(backTo pos (starEach es X.env)).any (·.1)=false:=by rfl) :
    PE X (.Call (.Name x p) (e :: es) [] pos) (mU sp dvs E t):=by
  intro pins s σ H Q I h;refine wpAny_Call_Name_kw (j5 I hg hm ?_ hdb);refine PySem.W.callWith_K (h₀:=X.base) I.ok.mod.kin hk (thn (ha pos pins s σ H _ I h) fun us s1 ⟨vs,H1,I1,r,q⟩=>⟨I1.kIn,?_⟩) he hpl;exact ni F hr hb hd hx I1 r q
structure Mk (K:aaa) (C f:Addr):Prop where
  makes:PySem.W.makesIn K C=true
  init:ab3 K (.ref C) "__init__" = some (some (.ref f))
  fn:PySem.W.isFn K (.ref f)=true
  kp:abe K (.ref C)=true
end
section
variable {X:Cx} {CX:CXT} {k:Nat} {f C:Addr} {fd:FuncData} {ps ks:List Str} {sp:Sp} {E:XK} {x m:Str} {p pos apos kpos:Pos} {e o:Expr} {es:List Expr} {kws:List Keyword} {te ta:TE} {t tk:TA} {nm:Option Str}
structure KBinds (K:aaa) (fd:FuncData) (ps ks:List Str) (g:List Value→List Value→List Value) (gV:List V→List V→List V):Prop where
  to:∀ (s:Shared) (us ws:List Value),K.In s.heap→(g us ws).length=ps.length→BindsTo s fd ⟨us,ks.zip ws⟩ (ps.zip (g us ws))
  rel:∀ {vs:List V} {us:List Value} {zs:List V} {ws:List Value},Vals vs us→Vals zs ws→Vals (gV vs zs) (g us ws)
variable {g:List Value→List Value→List Value} {gV:List V→List V→List V}
end
structure FnScope (N P:List Str) (sc:Scope):Prop where
  kind:sc.kind=.function
  co:sc.isCoroutine=false
  gen:sc.isGenerator=false
  nd:N.Nodup
  pre:N.take P.length=P
  par:∀ x∈P,sc.names.lookup x=some .local∨sc.names.lookup x=some .cell
  nofree:∀ y∈sc.names,y.2≠.free
theorem gL {kindOf:Str→Option NameKind} {x:Str}:∀ {binds:List (Str × Value)} {m:Str→Option Value},(∀ v,(x,v)∉binds)→bindL kindOf binds m x=m x
  | [],_,_=>rfl
  | (n,v) :: r,m,h=>by
    unfold bindL;rw [gL fun w hw=>h w (aay _ hw)];split
    · have : x≠n:=by rintro rfl;exact h v aaw
      simp [this]
    · rfl
theorem gO {kindOf:Str→Option NameKind} {x:Str}:∀ {binds:List (Str × Value)} {m:Str→Option Value},(∀ v,(x,v)∉binds)→bindC kindOf binds m x=m x
  | [],_,_=>rfl
  | (n,v) :: r,m,h=>by
    unfold bindC;rw [gO fun w hw=>h w (aay _ hw)];split
    · rfl
    · have : x≠n:=by rintro rfl;exact h v aaw
      simp [this]
theorem gN {kindOf:Str→Option NameKind} {x:Str} {v:Value}:∀ {P:List Str} {vs:List Value} {i:Nat} {m:Str→Option Value},P.Nodup→P[i]?=some x→vs[i]?=some v→kindOf x=some .local →
    bindL kindOf (P.zip vs) m x=some v
  | [],_,_,_,_,h,_,_=>by simp at h
  | _ :: _,[],_,_,_,_,h,_=>by simp at h
  | p :: P,w :: vs,0,m,nd,h1,h2,hk=>by
    simp at h1 h2;subst h1;subst h2;show bindL kindOf ((p,w) :: P.zip vs) m p=_;unfold bindL;rw [gL fun v hv=>(ab9.mp nd).1 (List.of_mem_zip hv).1,if_pos hk];simp
  | p :: P,w :: vs,i+1,m,nd,h1,h2,hk=>by
    show bindL kindOf ((p,w) :: P.zip vs) m x=_;unfold bindL;exact gN (i:=i) (ab9.mp nd).2 (by simpa using h1) (by simpa using h2) hk
theorem gQ {kindOf:Str→Option NameKind} {x:Str} {v:Value}:∀ {P:List Str} {vs:List Value} {i:Nat} {m:Str→Option Value},P.Nodup→P[i]?=some x→vs[i]?=some v→kindOf x≠some .local →
    bindC kindOf (P.zip vs) m x=some v
  | [],_,_,_,_,h,_,_=>by simp at h
  | _ :: _,[],_,_,_,_,h,_=>by simp at h
  | p :: P,w :: vs,0,m,nd,h1,h2,hk=>by
    simp at h1 h2;subst h1;subst h2;show bindC kindOf ((p,w) :: P.zip vs) m p=_;unfold bindC;rw [gO fun v hv=>(ab9.mp nd).1 (List.of_mem_zip hv).1,if_neg hk];simp
  | p :: P,w :: vs,i+1,m,nd,h1,h2,hk=>by
    show bindC kindOf ((p,w) :: P.zip vs) m x=_;unfold bindC;exact gQ (i:=i) (ab9.mp nd).2 (by simpa using h1) (by simpa using h2) hk
def fm (N:List Str) (vs:List V):St:=vs.map some++aaG (N.length - vs.length) none
def kQ (CX:CXT) (P:Program) (w:World) (K:aaa) (mg:Str→Option Value) (base:Heap) (N:List Str) (qual:Str) (scope:Scope) (f:Addr) (cd:Value) (A:Around) (outer:List Env) (s:Shared) (H:Hp) (E:XK):Cx where
  prog:=P
  w:=w
  K:=K
  mg:=mg
  base:=base
  A:=A.deeper (envOfC qual scope s.heap.objs.size f cd)
  N:=N
  s₀:=s
  H₀:=H
  env:=envOfC qual scope s.heap.objs.size f cd
  outer:=outer
  stack:=envOfC qual scope s.heap.objs.size f cd :: outer
  ex:=[]
  calm:=true
  fn:=fun _=>true
  pn:=[]
  xe:=fun e s'=>wpAny (model P w) (A.deeper (envOfC qual scope s.heap.objs.size f cd)) (leaving (envOfC qual scope s.heap.objs.size f cd) e) (fun _ s''=>CX outer H s E e s'') (fun e' s''=>CX outer H s E e' s'') s'
theorem ji {sc:Scope} {n:Nat} {x:Str} (h:sc.names.lookup x=some .cell):∃ c,(cellsFrom n sc.names []).lookup x=some c:=by
  have q:=PySem.W.cellsFrom_some sc.names n [] (.inl h);exact abL.mp q
theorem kO {CX:CXT} {P:Program} {w:World} {K:aaa} {mg:Str→Option Value} {base:Heap} {N ps:List Str} {qual:Str} {scope:Scope} {f:Addr} {cd:Value} {A:Around} {outer:List Env} {s s1:Shared} {H:Hp} {E:XK} {us:List Value} {vs:List V}
    (S:FnScope N ps scope) (hd:A.handled=none) (e0:Env0 P w K mg base A outer s H) (hl:vs.length=ps.length) (r:Vals vs us)
    (x:InCallC s s.heap.objs.size (bindL (envOfC qual scope s.heap.objs.size f cd).kindOf (ps.zip us) fun _=>none) (cellsFrom (s.heap.objs.size+1) scope.names []) (bindC (envOfC qual scope s.heap.objs.size f cd).kindOf (ps.zip us) fun _=>none) s1) :
    Inv (kQ CX P w K mg base N qual scope f cd A outer s H E) [] (fm N vs) H s1:=by
  have hpl:ps.length≤N.length:=by have:=congrArg List.length S.pre;rw [aas] at this;omega
  obtain ⟨h1,tk,rfl,hk⟩:=x.done;have noA:∀ b:Addr,b∉(kQ CX P w K mg base N qual scope f cd A outer s H E).ex:=fun b z=>absurd (show b∈([]:List Addr) from z) (by simp);refine ⟨⟨e0.mod,S.kind,rfl,rfl,aab _,fun y z c h1 h2=>?_,fun y hy=>?_,fun y c _ h=>?_,fun _=>hd,Around.frames_deeper e0.frames,.inr ⟨rfl,rfl⟩,fun b z=>absurd z (noA b),e0.bs,e0.bsz,fun b _ _=>noA b,fun b z=>absurd z (noA b),e0.funs,e0.frf⟩,
    rfl,e0.bare,Un.kept hk,⟨_,x.toInCall.ns,fun i y v h1 h2 h3=>?_⟩,fun y c h=>⟨_,x.cell y c h⟩,e0.hok.fresh (aab _),fun y c h=>?_,fun p hp=>absurd (show p∈([]:List (Addr × Obj)) from hp) (by simp),e0.hok.kept hk,?_⟩
  · exact name_of_addr x.apart (aa0 h1) (aa0 h2)
  · have hy:scope.names.lookup y=some .cell∨scope.names.lookup y=some .free:=hy;rcases hy with hy|hy
    · exact ji hy
    · exact absurd rfl (S.nofree _ (aa0 hy))
  · exact ab6 (x.above y c (aa0 h))
  · have hi:i < vs.length:=by
      unfold fm at h2;by_cases hi:i < vs.length
      · exact hi
      · rw [abn (by simpa using hi)] at h2;rw [List.getElem?_replicate] at h2;split at h2 <;> cases h2
    have ha:vs[i]?=some v:=by
      unfold fm at h2;rw [abF (by simpa using hi),aaF] at h2;cases e:vs[i]? with
      | none=>rw [e] at h2;cases h2
      | some a=>rw [e] at h2;cases h2;rfl
    obtain ⟨u,hu,rv⟩:=r.get ha;have hp:ps[i]?=some y:=by
      rw [← S.pre,abJ (by omega)];exact h1
    have ndP:ps.Nodup:=by rw [← S.pre];exact S.nd.sublist (List.take_sublist _ _)
    refine ⟨u,rv,?_⟩;rcases S.par y (aam hp) with k|k
    · exact .inl ⟨k,gN ndP hp hu k⟩
    · obtain ⟨c,e⟩:=ji (n:=s.heap.objs.size+1) k;refine .inr ⟨.inl k,c,e,?_⟩;have q:=x.cell y c e;rw [gQ ndP hp hu (by show scope.names.lookup y≠_;rw [k];decide)] at q;exact q
  · exact e0.hok.fresh (ab6 (x.above y c (aa0 h)))
  · unfold fm;show _=N.length;rw [aat,aad,List.length_replicate];omega
theorem oE {CX:CXT} {P:Program} {w:World} {K:aaa} {mg:Str→Option Value} {base:Heap} {k:Nat} {f:Addr} {name qual:Str} {params:Arguments} {body:List Stmt} {scope:Scope} {dV kV doc pm cdv ct oc:Value} {an od:Option Addr}
    {osl:Array (Option Value)} {N ps:List Str} {sp:Sp} (lk:K.lookup f=some ⟨oc,od,.func (abf name qual params body scope dV kV doc pm an cdv ct),osl⟩) (hcd:abz K cdv qual=true) (S:FnScope N ps scope)
    (len:∀ vs H Q E,sp vs H Q E→vs.length=ps.length)
    (hbody:∀ (A:Around) (outer:List Env) (s:Shared) (H:Hp) (vs:List V) (Q:VK) (E:XK),Room k (A.deeper (envOfC qual scope s.heap.objs.size f cdv))→sp vs H Q E →
      ∃ t,PSs (kQ CX P w K mg base N qual scope f cdv A outer s H E) body t∧t { nx:=fun _ H'=>Q .non H',rt:=Q } (fm N vs) H) :
    FnOk P w K mg base CX (k+1) f (abf name qual params body scope dV kV doc pm an cdv ct) ps sp:=by
  refine ⟨len,fun A outer s H args us vs Q E hr e0 hb r hsp=>?_⟩;have hl:=len _ _ _ _ hsp;have KX:K.In s.heap:=e0.mod.kin.keeps fun b o e=>(e0.bs b o e).1;have lim:s.heap.NoLimit:=e0.mod.nolimit.keeps fun b o e=>(e0.bs b o e).1;have hkind:∀ y∈ps.zip us,scope.names.lookup y.1=some .local∨(scope.names.lookup y.1=some .cell∧((cellsFrom (s.heap.objs.size+1) scope.names []).lookup y.1).isSome=true):=fun ⟨n,v⟩ hy=>by
    rcases S.par n (List.of_mem_zip hy).1 with q|q
    · exact .inl q
    · exact .inr ⟨q,PySem.W.cellsFrom_some _ _ _ (.inl q)⟩
  refine codeAny_call_function hr.depth (KX _ _ lk) rfl S.co S.gen rfl (PySem.W.codeRec_of KX hcd) (hb _ _ _ _ ?_);refine wpAny_newFunctionEnv_cells S.kind hkind fun env he s1 x=>?_;subst he;refine ⟨lim.keeps x.toInCall.keep,codeAny_func ?_⟩;obtain ⟨t,ht,hq⟩:=hbody A outer s H vs Q E (hr.deeper _) hsp;have I:Inv (kQ CX P w K mg base N qual scope f cdv A outer s H E) [] (fm N vs) H s1:=kO S hr.hd e0 hl r x;refine wpAny_mono (ht [] s1 (fm N vs) H _ I hq) (fun fl s' hs=>?_) fun e s' hs=>hs;have fin:∀ {σ':St} {H':Hp} {v:V} {u:Value},Inv (kQ CX P w K mg base N qual scope f cdv A outer s H E) [] σ' H' s'→RelV v u→Q v H'→CE outer P w H s Q u s' :=
    fun {σ' H' v u} J rv q=>⟨v,H',J.os,J.bare,J.base,J.hok,rv,q⟩
  cases fl with
  | ret u =>
    obtain ⟨v,σ',H',J,rv,q⟩:=hs;exact fin J rv q
  | next =>
    obtain ⟨σ',H',J,q⟩:=hs;exact fin (v:=V.non) (u:=Value.none) J rfl q
  | brk =>
    obtain ⟨_,_,_,q⟩:=hs;exact abC q
  | cont =>
    obtain ⟨_,_,_,q⟩:=hs;exact abC q
open PySem PySem.Spec PyProof.Rows
section
variable {X:Cx} {x:Str} {p pos:Pos} {e:Expr} {es:List Expr} {t:TA} {id T:String} {r:List V→Hp→VK→Prop}
def tCB (r:List V→Hp→VK→Prop) (t:TA):TE:=fun σ H Q=>t σ H fun vs H1=>r vs H1 Q
theorem ao (hc:di X (.builtin id) r) (hg:Gl X x) (hm:X.mg x=none) (hv:bootBuiltins x=some (.builtin id)) (ha:PA X (e :: es) t) (hn:x ≠ "__name__":=by decide) (hdb:(x == ("__debug__":Str))=false:=by decide)
    (he:starEach (e :: es) X.env=(false,eval e X.env) :: starEach es X.env:=by rfl) (hpl:(backTo pos (starEach es X.env)).any (·.1)=false:=by rfl):PE X (.Call (.Name x p) (e :: es) [] pos) (tCB r t):=by
  intro pins s σ H Q I h;refine wpAny_Call_Name_kw (ec I hg hm hv ?_ hn hdb);exact PyProof.Rows.callWith_builtin1 (thn (ha pos pins s σ H _ I h) fun us s1 ⟨vs,H1,I1,r1,q1⟩=>hc pins s1 σ H1 vs us Q I1 r1 q1) he hpl
theorem kD (hc:di X (.type T) r) (hg:Gl X x) (hm:X.mg x=none) (hv:bootBuiltins x=some (.type T)) (ha:PA X (e :: es) t) (hn:x ≠ "__name__":=by decide) (hdb:(x == ("__debug__":Str))=false:=by decide)
    (he:starEach (e :: es) X.env=(false,eval e X.env) :: starEach es X.env:=by rfl) (hpl:(backTo pos (starEach es X.env)).any (·.1)=false:=by rfl):PE X (.Call (.Name x p) (e :: es) [] pos) (tCB r t):=by
  intro pins s σ H Q I h;refine wpAny_Call_Name_kw (ec I hg hm hv ?_ hn hdb);exact aa3 (thn (ha pos pins s σ H _ I h) fun us s1 ⟨vs,H1,I1,r1,q1⟩=>hc pins s1 σ H1 vs us Q I1 r1 q1) he hpl
end
end L2
namespace HT
open PySem PyProof.Rows
theorem rcLt_int (A:Around) (s:Shared) (a:Int) (t:Tok) (c:Int) (u:Tok) (prog:Program) (w:World) (E:Value→Shared→Prop) (Q:Value→Shared→Prop) (h:Q (.bool (decide (a < c))) s) :
    wpAny (model prog w) A (richCompare .Lt (.int a t) (.int c u)) Q E s :=
  (PyProof.Rows.lt_int h:wpAny (model prog w) A (compareOp .Lt (.int a t) (.int c u)) Q E s)
section
open PySem.SeqAt
open PySem.AutoSeq1 (wpAny_loadPart')
open PySem.MeetsSeq PySem.MeetsSeq2 PySem.MeetsSeq3
end
section
variable {prog:Program} {w:World} {A:Around} {E:Value→Shared→Prop} {s:Shared}
def sIx (n d:Nat):Option Int→Nat
  | none=>d
  | some v=>if v < 0 then (v+(n:Int)).toNat else min v.toNat n
end
end HT
namespace L2
open PySem PySem.Spec PyProof.Rows
abbrev TO:=St→Hp→(Option Int→Hp→Prop)→Prop
def PO (X:Cx) (e:Option Expr) (t:TO):Prop :=
  ∀ (pins:List (Addr × Obj)) (s:Shared) (σ:St) (H:Hp) (Q:Option Int→Hp→Prop),Inv X pins σ H s→t σ H Q →
    wpAny (model X.prog X.w) X.A (evalPart e X.env) (fun u s'=>∃ o H',Inv X pins σ H' s'∧IsPart u o∧Q o H') X.xe s
def mi:TO:=fun _ H Q=>Q none H
def n0 (t:TE):TO:=fun σ H Q=>t σ H fun x H1=>∃ i,x=.int i∧Q (some i) H1
section
variable {X:Cx} {e:Expr} {te:TE} {lo hi:Option Expr} {tl th:TO} {pos p2:Pos}
theorem cH:PO X none mi:=by
  intro pins s σ H Q I h;rw [evalPart_none];exact wpAny_pure ⟨none,H,I,.none,h⟩
theorem cG (h:PE X e te):PO X (some e) (n0 te):=by
  intro pins s σ H Q I hw;rw [evalPart_some];refine thn (h pins s σ H _ I hw) fun u s1 ⟨x,H1,I1,r1,q1⟩=>?_;obtain ⟨i,rfl,q⟩:=q1;obtain ⟨t,rfl⟩:=r1;exact ⟨some i,H1,I1,.int i t,q⟩
def SlR (X:Cx) (r:V→Option Int→Option Int→Hp→VK→Prop):Prop :=
  ∀ (pins:List (Addr × Obj)) (s:Shared) (σ:St) (H:Hp) (x:V) (v vl vu:Value) (lo hi:Option Int) (sl:Addr) (Q:VK),Inv X pins σ H s→RelV x v→s.heap.IsSliceOf sl vl vu .none→IsPart vl lo→IsPart vu hi→r x lo hi H Q →
    ∃ T id,typeLookup (.type T) "__getitem__" = pure (some (.builtin id))∧s.TypeIs v T∧wpAny (model X.prog X.w) X.A (getItem v (.ref sl)) (EP X pins σ Q) X.xe s
def tSl (r:V→Option Int→Option Int→Hp→VK→Prop) (te:TE) (tl th:TO):TE:=fun σ H Q=>te σ H fun x H1=>tl σ H1 fun l H2=>th σ H2 fun u H3=>r x l u H3 Q
theorem bQ {r:V→Option Int→Option Int→Hp→VK→Prop} (hr:SlR X r) (he:PE X e te) (hl:PO X lo tl) (hu:PO X hi th):PE X (.Subscript e (.Slice lo hi none p2) pos) (tSl r te tl th):=by
  intro pins s σ H Q I h;refine Subscript_ (thn (he pins s σ H _ I h) fun v s1 ⟨x,H1,I1,r1,q1⟩=>?_);refine wpAny_Slice (thn (hl pins s1 σ H1 _ I1 q1) fun vl s2 ⟨l,H2,I2,pl,q2⟩=>thn (hu pins s2 σ H2 _ I2 q2) fun vu s3 ⟨u,H3,I3,pu,q3⟩=>?_);rw [evalPart_none];refine wpAny_pure ?_;have I4:Inv X pins σ H3 { s3 with heap:=s3.heap.push { cls:=.type "slice",data:=.fields #[vl,vu,.none] } }:=I3.kept (t':=s3.toks) fun b ob q=>aal _ q;obtain ⟨T,id,hT,ht,hg⟩:=hr pins { s3 with heap:=s3.heap.push { cls:=.type "slice",data:=.fields #[vl,vu,.none] } } σ H3 x v vl vu l u s3.heap.objs.size Q I4 r1 (Heap.IsSliceOf.new ..) pl pu q3;show wpAny (model X.prog X.w) X.A (subscriptTail e (.Slice lo hi none p2) v (.ref s3.heap.objs.size)) (EP X pins σ Q) X.xe { s3 with heap:=s3.heap.push { cls:=.type "slice",data:=.fields #[vl,vu,.none] } };exact tail_any (ops:=[.ref s3.heap.objs.size,v]) ht hT hg (by with_unfolding_all rfl)
def ed (xs:List V) (lo hi:Option Int):List V:=(xs.drop (HT.sIx xs.length 0 lo)).take (HT.sIx xs.length xs.length hi - HT.sIx xs.length 0 lo)
theorem jh (xs:List V) (lo hi:Option Int):(ed xs lo hi).length≤xs.length:=by
  unfold ed;rw [aas,aaC];omega
end
open PySem PySem.Spec PyProof.Rows
def ixN (n:Nat) (i:Int):Option Nat:=if 0≤i then (if i < n then some i.toNat else none) else if -(n:Int)≤i then some (i+n).toNat else none
def atI {α:Type} (xs:List α) (i:Int):Option α:=(ixN xs.length i).bind fun j=>xs[j]?
theorem j6 {n:Nat} {i:Int} {j:Nat} (h:ixN n i=some j):seqIndex? i n=some j∧j < n∧-(n:Int)≤i∧i < n:=by
  unfold ixN at h;by_cases h0:0≤i
  · rw [if_pos h0] at h;by_cases h1:i < n
    · rw [if_pos h1] at h;have e:i.toNat=j:=aaN h;exact ⟨by rw [seqIndex_of h0 h1,e],by omega,by omega,h1⟩
    · rw [if_neg h1] at h;cases h
  · rw [if_neg h0] at h;by_cases h1:-(n:Int)≤i
    · rw [if_pos h1] at h;have e:(i+n).toNat=j:=aaN h;exact ⟨by rw [seqIndex_neg (by omega) h1,e],by omega,h1,by omega⟩
    · rw [if_neg h1] at h;cases h
theorem iy {α:Type} {xs:List α} {i:Int} {v:α} (h:atI xs i=some v):∃ j,seqIndex? i xs.length=some j∧xs[j]?=some v∧j < xs.length∧-(xs.length:Int)≤i∧i < xs.length:=by
  unfold atI at h;cases e:ixN xs.length i with
  | none=>rw [e] at h;cases h
  | some j =>
    rw [e] at h;obtain ⟨h1,h2,h3,h4⟩:=j6 e;exact ⟨j,h1,h,h2,h3,h4⟩
theorem df {α:Type} {xs:List α} {j:Nat} {v:α} (h:xs[j]?=some v):atI xs (j:Int)=some v:=by
  have hj:j < xs.length:=(aag.mp h).1;have e:ixN xs.length (j:Int)=some j:=by
    unfold ixN;rw [if_pos (by omega),if_pos (by omega)];simp
  unfold atI;rw [e];exact h
theorem l8 {α:Type} (xs:List α) (v:α):atI (xs++[v]) (-1)=some v:=by
  have hl:(xs++[v]).length=xs.length+1:=by simp
  have e:ixN (xs++[v]).length (-1)=some xs.length:=by
    unfold ixN;rw [hl,if_neg (by decide),if_pos (by omega)];congr 1;omega
  unfold atI;rw [e];show (xs++[v])[xs.length]?=some v;simp
def mR (b:Expr):Prop:=∀ o i,subscripted b false o i=operate [o,i] (getItem o i)
def IxR (X:Cx) (r:R2):Prop :=
  ∀ (value slice:Expr) (pins:List (Addr × Obj)) (s:Shared) (σ:St) (H:Hp) (x y:V) (v u:Value) (Q:VK),Inv X pins σ H s→RelV x v→RelV y u→r x y H Q →
    subscripted slice false v u=operate [v,u] (getItem v u)→wpAny (model X.prog X.w) X.A (subscriptTail value slice v u) (EP X pins σ Q) X.xe s
def MtR (X:Cx) (id:String) (r:V→List V→Hp→VK→Prop):Prop :=
  ∀ (pins:List (Addr × Obj)) (s:Shared) (σ:St) (H:Hp) (x:V) (xs:List V) (v:Value) (us:List Value) (Q:VK),Inv X pins σ H s→RelV x v→Vals xs us→r x xs H Q →
    wpAny (model X.prog X.w) X.A (call (.builtin id) (v :: us)) (EP X pins σ Q) X.xe s
section
variable {X:Cx} {a b:Expr} {ta tb:TE} {pos:Pos}
theorem aI {r:R2} (hr:IxR X r) (ha:PE X a ta) (hb:PE X b tb) (hs:mR b):PE X (.Subscript a b pos) (tOp r ta tb):=by
  intro pins s σ H Q I h;exact Subscript_ (nO ha hb I h fun v u s2 x y H2 I2 rx ry q=>hr a b pins s2 σ H2 x y v u Q I2 rx ry q (hs _ _))
def o4 (K:aaa):R2:=fun x y H Q=>∃ p xs i v,x=.ref p∧y=.int i∧SqL K H p xs∧atI xs i=some v∧Q v H
def o0 (K:aaa):R2:=fun x y H Q=>∃ p xs i v,x=.ref p∧y=.int i∧SqT K H p xs∧atI xs i=some v∧Q v H
def o3:R2:=fun x y H Q=>∃ z i c,x=.str z∧y=.int i∧z.length≤sizeLine∧atI z.cps.toList i=some c∧Q (.str ⟨#[c]⟩) H
theorem aC:IxR X (o4 X.K):=by
  intro value slice pins s σ H x y v u Q I rx ry h hs;obtain ⟨p,xs,i,z,rfl,rfl,hq,he,q⟩:=h;cases rx;obtain ⟨t,rfl⟩:=ry;obtain ⟨its,r,pl,hz⟩:=I.list hq;obtain ⟨j,h1,h2,h3,h4,h5⟩:=iy he;obtain ⟨w,ew,rw'⟩:=r.get h2;have hl:=r.length;have hn:=d_;have fin:EP X pins σ Q w s:=⟨z,H,I,rw',q⟩
  by_cases h0:0≤i
  · have hj:i.toNat=j:=by
      rw [seqIndex_of h0 h5] at h1;exact aaN h1
    exact item_listR pl.isList h0 (by omega) (by rw [hj];simpa using ew) fin hs
  · have hj:(i+(its.toArray.size:Int)).toNat=j:=by
      rw [seqIndex_neg (by omega) h4] at h1;rw [aac,← hl];exact aaN h1
    exact subscriptTail_builtinR (x:=w) pl.isList.typeIs slot_list_getitem.lookup
      (wpAny_getItem_list_neg (Q:=fun r s'=>r=w∧EP X pins σ Q r s') pl.isList (by omega) (by rw [aac] <;> omega) (by omega) (by rw [hj];simpa using ew) ⟨rfl,fin⟩) hs
theorem dc:IxR X (o0 X.K):=by
  intro value slice pins s σ H x y v u Q I rx ry h hs;obtain ⟨p,xs,i,z,rfl,rfl,hq,he,q⟩:=h;cases rx;obtain ⟨t,rfl⟩:=ry;obtain ⟨its,r,pl,hz⟩:=I.tuple hq;obtain ⟨j,h1,h2,h3,h4,h5⟩:=iy he;obtain ⟨w,ew,rw'⟩:=r.get h2;have hl:=r.length;have hn:=d_;have fin:EP X pins σ Q w s:=⟨z,H,I,rw',q⟩
  exact subscriptTail_builtinR (x:=w) pl.typeIs slot_tuple_getitem.lookup
    (getItem_tuple (j:=j) (Q:=fun r s'=>r=w∧EP X pins σ Q r s') pl (by omega) (by omega) (by rw [aac,← hl];exact h1) (by simpa using ew) ⟨rfl,fin⟩) hs
theorem lF:IxR X o3:=by
  intro value slice pins s σ H x y v u Q I rx ry h hs;obtain ⟨z,i,c,rfl,rfl,hz,he,q⟩:=h;obtain ⟨t,rfl⟩:=rx;obtain ⟨t',rfl⟩:=ry;obtain ⟨j,h1,h2,h3,h4,h5⟩:=iy he;have hl:z.cps.toList.length=z.length:=by simp [Str.length]
  rw [hl] at h1 h4 h5;have hn:=d_;exact tail_any (typeIs_str s z t) slot_str_getitem.lookup (getItem_str (c:=c) (by
    have e1:decide (i < -(2 ^ 63:Int))=false:=decide_eq_false (by omega);have e2:decide (i ≥ 2 ^ 63)=false:=decide_eq_false (by omega);rw [e1,e2,Bool.or_false]) (by rw [h1];simpa using h2) ⟨.str ⟨#[c]⟩,H,I.tok _,⟨_,rfl⟩,q⟩) hs
theorem jI (its:List Value) (n j:Nat) (u:Value):aa1 (·.setIfInBounds j u) { cls:=.type "list",data:=.seq its.toArray n }={ cls:=.type "list",data:=.seq (its.set j u).toArray n }:=by
  simp [aa1]
theorem Inv.lst {pins:List (Addr × Obj)} {σ:St} {H:Hp} {s:Shared} {p:Addr} {xs:List V} (I:Inv X pins σ H s) (h:H p=some (.lst xs)) :
    ∃ (its:List Value) (n:Nat),Vals xs its∧s.heap.get? p=some { cls:=.type "list",data:=.seq its.toArray n }∧xs.length≤sizeLine:=by
  obtain ⟨z,its,n,r,e⟩:=I.hok p _ h;exact ⟨its,n,r,e,z⟩
theorem Inv.lstUpd {pins:List (Addr × Obj)} {σ:St} {H:Hp} {s:Shared} {p:Addr} {xs ys:List V} {its its':List Value} {n n':Nat} {f:Obj→Obj} (I:Inv X pins σ H s) (h:H p=some (.lst xs))
    (ho:s.heap.get? p=some { cls:=.type "list",data:=.seq its.toArray n }) (hf:f { cls:=.type "list",data:=.seq its.toArray n }={ cls:=.type "list",data:=.seq its'.toArray n' }) (r:Vals ys its') (hz:ys.length≤sizeLine) (t:Nat) :
    Inv X pins σ (upd H p (.lst ys)) { s with heap:=s.heap.update p f,toks:=t }:=by
  have e:(s.heap.update p f).get? p=some { cls:=.type "list",data:=.seq its'.toArray n' }:=by
    rw [Heap.get?_update_self f ho (by rw [hf] <;> rfl),hf]
  refine I.write (x:=p) (e:=p) (by rw [h];trivial) (.inl rfl) (fun b u hb q=>(Heap.get?_update_other _ _ (ab0 hb)).trans q) ⟨_,e⟩ ?_;exact ⟨hz,its',n',r,e⟩
def oi:V→V→V→Hp→(Hp→Prop)→Prop:=fun o i v H Q=>∃ p xs k j,o=.ref p∧i=.int k∧H p=some (.lst xs)∧ixN xs.length k=some j∧Q (upd H p (.lst (xs.set j v)))
theorem iM:oJ X oi:=by
  intro pins s σ H o i v ov iv u Q I ro ri rv h;obtain ⟨p,xs,k,j,rfl,rfl,hp,hj,q⟩:=h;cases ro;obtain ⟨t,rfl⟩:=ri;obtain ⟨its,n,r,ho,hz⟩:=I.lst hp;obtain ⟨h1,h2,h3,h4⟩:=j6 hj;have hl:=r.length;have hn:=d_;have I':Inv X pins σ (upd H p (.lst (xs.set j v))) { s with heap:=s.heap.update p (aa1 (·.setIfInBounds j u)) } :=
    I.lstUpd hp ho (jI its n j u) (r.set rv j) (by rw [List.length_set];exact hz) s.toks
  by_cases h0:0≤k
  · have hk:k.toNat=j:=by
      rw [seqIndex_of h0 h4] at h1;exact aaN h1
    exact PySem.W.ki_setAt ho h0 (by omega) (by rw [aac,← hl];exact h4) (by rw [hk];exact ⟨_,I',q⟩)
  · have hk:(k+(its.toArray.size:Int)).toNat=j:=by
      rw [seqIndex_neg (by omega) h3] at h1;rw [aac,← hl];exact aaN h1
    exact PySem.W.ki_setBack ho (by omega) (by rw [aac,← hl];exact h3) (by omega) (by rw [hk];exact ⟨_,I',q⟩)
theorem g8 (lo hi:Option Int) (n:Nat):(sliceBounds lo hi none n).1=((HT.sIx n 0 lo:Nat):Int)∧(sliceBounds lo hi none n).2.1=((HT.sIx n n hi:Nat):Int)∧(sliceBounds lo hi none n).2.2=1:=by
  refine ⟨?_,?_,rfl⟩
  · cases lo with
    | none=>simp [sliceBounds,HT.sIx]
    | some i =>
      simp only [sliceBounds,HT.sIx,Option.getD_none,show (1:Int) > 0 by decide,if_true];by_cases h:i < 0
      · simp only [h,if_true] <;> omega
      · simp only [h,if_false] <;> omega
  · cases hi with
    | none=>simp [sliceBounds,HT.sIx]
    | some i =>
      simp only [sliceBounds,HT.sIx,Option.getD_none,show (1:Int) > 0 by decide,if_true];by_cases h:i < 0
      · simp only [h,if_true] <;> omega
      · simp only [h,if_false] <;> omega
theorem gk (its:List Value) (lo hi:Option Int):slicePick its.toArray lo hi none=((its.drop (HT.sIx its.length 0 lo)).take (HT.sIx its.length its.length hi - HT.sIx its.length 0 lo)).toArray:=by
  obtain ⟨h1,h2,h3⟩:=g8 lo hi its.toArray.size;unfold slicePick;rw [h1,h2,h3];simp only [sliceRange_one,pick_run,aac] <;> rfl
def oX (K:aaa):V→Option Int→Option Int→Hp→VK→Prop:=fun x lo hi H Q=>∃ a xs,x=.ref a∧SqL K H a xs∧∀ p,H p=none→Q (.ref p) (upd H p (.lst (ed xs lo hi)))
theorem cF:SlR X (oX X.K):=by
  intro pins s σ H x v vl vu lo hi sl Q I rx hs pl pu h;obtain ⟨a,xs,rfl,hx,q⟩:=h;cases rx;obtain ⟨its,r,ht,hz⟩:=I.list hx;have hlen:=r.length;refine ⟨"list",_,slot_list_getitem.lookup,ht.isList.typeIs,?_⟩;refine wpAny_getItem_list_slice ht.isList hs pl pu .none (by simp) ?_ (by rw [aac] <;> omega);rw [gk,← hlen];refine ⟨.ref s.heap.objs.size,_,I.laid (t':=s.toks) (o:=.lst (ed xs lo hi)) (fun b ob q=>aal _ q) (aab _) ?_,rfl,q _ (I.hok.fresh (aab _))⟩;exact ⟨aa5 (jh xs lo hi) hz,_,0,(r.drop (HT.sIx xs.length 0 lo)).take (HT.sIx xs.length xs.length hi - HT.sIx xs.length 0 lo),aaA _ rfl⟩
def dA:V→Bool
  | .non=>true
  | .bl _=>true
  | .int _=>true
  | .str _=>true
  | _=>false
def eqV:V→V→Bool
  | .non,.non=>true
  | .bl a,.bl b=>a == b
  | .bl a,.int b=>(if a then 1 else 0) == b
  | .int a,.bl b=>a == (if b then 1 else 0)
  | .int a,.int b=>a == b
  | .str a,.str b=>a == b
  | _,_=>false
theorem lQ {A:Around} {s:Shared} {y x:V} {u v:Value} (ry:RelV y u) (rx:RelV x v) (fy:dA y=true) (fx:dA x=true):SeqAt.EqAt A s u v (eqV y x):=by
  cases y with
  | non =>
    cases ry;cases x with
    | non=>cases rx;exact SeqAt.EqAt.same _
    | bl b=>cases rx;exact SeqAt.EqAt.none_bool b
    | int b=>obtain ⟨t,rfl⟩:=rx;exact SeqAt.EqAt.none_int b t
    | str b=>obtain ⟨t,rfl⟩:=rx;exact SeqAt.EqAt.none_str b t
    | _=>exact absurd (show false=true from fx) aah
  | bl a =>
    cases ry;cases x with
    | non=>cases rx;exact SeqAt.EqAt.bool_none a
    | bl b=>cases rx;exact SeqAt.EqAt.bool_bool a b
    | int b=>obtain ⟨t,rfl⟩:=rx;exact SeqAt.EqAt.bool_int a b t
    | str b=>obtain ⟨t,rfl⟩:=rx;exact SeqAt.EqAt.bool_str a b t
    | _=>exact absurd (show false=true from fx) aah
  | int a =>
    obtain ⟨t',rfl⟩:=ry;cases x with
    | non=>cases rx;exact SeqAt.EqAt.int_none a t'
    | bl b=>cases rx;exact SeqAt.EqAt.int_bool a t' b
    | int b=>obtain ⟨t,rfl⟩:=rx;exact SeqAt.EqAt.int_int a t' b t
    | str b=>obtain ⟨t,rfl⟩:=rx;exact SeqAt.EqAt.int_str a t' b t
    | _=>exact absurd (show false=true from fx) aah
  | str a =>
    obtain ⟨t',rfl⟩:=ry;cases x with
    | non=>cases rx;exact SeqAt.EqAt.str_none a t'
    | bl b=>cases rx;exact SeqAt.EqAt.str_bool a t' b
    | int b=>obtain ⟨t,rfl⟩:=rx;exact SeqAt.EqAt.str_int a t' b t
    | str b=>obtain ⟨t,rfl⟩:=rx;exact SeqAt.EqAt.str_str a t' b t
    | _=>exact absurd (show false=true from fx) aah
  | _=>exact absurd (show false=true from fy) aah
def eqU (x:V) (u:Value):Bool:=match u with
  | .none=>eqV .non x
  | .bool b=>eqV (.bl b) x
  | .int i _=>eqV (.int i) x
  | .str z _=>eqV (.str z) x
  | _=>false
theorem lO {x y:V} {u:Value} (r:RelV y u) (f:dA y=true):eqU x u=eqV y x:=by
  cases y with
  | non=>cases r;rfl
  | bl b=>cases r;rfl
  | int i=>obtain ⟨t,rfl⟩:=r;rfl
  | str z=>obtain ⟨t,rfl⟩:=r;rfl
  | _=>exact absurd (show false=true from f) aah
theorem iz {x:V}:∀ {xs:List V} {us:List Value},Vals xs us→xs.all dA=true→us.any (eqU x)=xs.any fun y=>eqV y x
  | _,_,.nil,_=>rfl
  | y :: xs,u :: us,.cons r t,f=>by
    rw [List.all_cons,abo] at f;rw [List.any_cons,List.any_cons,lO r f.1,iz t f.2]
theorem fW {A:Around} {s:Shared} {x:V} {v:Value} (rx:RelV x v) (fx:dA x=true):∀ {xs:List V} {us:List Value},Vals xs us→xs.all dA=true→∀ u∈us,SeqAt.EqAt A s u v (eqU x u)
  | _,_,.nil,_=>fun u hu=>by cases hu
  | y :: xs,u :: us,.cons r t,f=>fun u' hu=>by
    rw [List.all_cons,abo] at f;rcases aax.mp hu with rfl|hu
    · rw [lO r f.1];exact lQ r rx f.1 fx
    · exact fW rx fx t f.2 u' hu
def inV (x:V) (xs:List V):Bool:=xs.any fun y=>eqV y x
def rIn (K:aaa) (neg:Bool):R2:=fun x y H Q=>∃ p xs,y=.ref p∧(SqL K H p xs∨SqT K H p xs)∧dA x=true∧xs.all dA=true∧Q (.bl (if neg then !inV x xs else inV x xs)) H
theorem gD:OpR X (compareOp .In) (rIn X.K false):=by
  intro pins s σ H x y v u Q I rx ry h;obtain ⟨p,xs,rfl,hq,fx,fs,q⟩:=h;cases ry;rcases hq with hq|hq
  · obtain ⟨its,r,pl,hz⟩:=I.list hq;refine SeqAt.in_listAt (eqU x) pl.isList (fun w hw=>fW rx fx r fs w (by simpa using hw)) ⟨.bl _,H,I,rfl,?_⟩;rw [show its.toArray.any (eqU x)=its.any (eqU x) by simp,iz r fs];exact q
  · obtain ⟨its,r,pl,hz⟩:=I.tuple hq;refine SeqAt.in_tupleAt (eqU x) pl (fun w hw=>fW rx fx r fs w (by simpa using hw)) ⟨.bl _,H,I,rfl,?_⟩;rw [show its.toArray.any (eqU x)=its.any (eqU x) by simp,iz r fs];exact q
theorem aq:di X (.builtin "len") (fun xs H Q=>∃ p ys,xs=[.ref p]∧(SqL X.K H p ys∨SqT X.K H p ys)∧Q (.int ys.length) H):=by
  intro pins s σ H xs us Q I r h;obtain ⟨p,ys,rfl,hq,q⟩:=h;obtain ⟨u,rfl,rx⟩:=eh r;cases rx;have hn:=d_;rcases hq with hq|hq
  · obtain ⟨its,r',pl,hz⟩:=I.list hq;have hlen:=r'.length;exact Calls.call_len_list pl.isList (by simp only [aac] <;> omega) ⟨.int ys.length,H,I.tok _,⟨s.toks+1,by rw [aac,hlen]⟩,q⟩
  · obtain ⟨its,r',pl,hz⟩:=I.tuple hq;have hlen:=r'.length;exact len_tuple pl (by simp only [aac] <;> omega) ⟨.int ys.length,H,I.tok _,⟨s.toks+1,by rw [aac,hlen]⟩,q⟩
theorem de:di X (.builtin "len") (fun xs H Q=>∃ z,xs=[.str z]∧z.length≤sizeLine∧Q (.int z.length) H):=by
  intro pins s σ H xs us Q I r h;obtain ⟨z,rfl,hz,q⟩:=h;obtain ⟨u,rfl,t,rfl⟩:=eh r;have hn:=d_;exact len_str (by omega) ⟨.int z.length,H,I.tok _,⟨_,rfl⟩,q⟩
def tyV (K:aaa) (T:String) (x:V) (H:Hp):Prop:=match x with
  | .str _=>T = "str"
  | .int _=>T = "int"
  | .ref p=>(T = "list"∧∃ xs,SqL K H p xs)∨(T = "tuple"∧∃ o,K.lookup p=some o∧o.cls=.type "tuple"∧o.dict=none) ∨
      (T = "dict"∧((∃ kvs,H p=some (.dK kvs))∨∃ kvs,H p=some (.dT kvs)))∨(T = "set"∧∃ S n,H p=some (.set S n))
  | _=>False
theorem kU {pins:List (Addr × Obj)} {σ:St} {H:Hp} {s:Shared} {T:String} {x:V} {v:Value} (I:Inv X pins σ H s) (r:RelV x v) (ty:tyV X.K T x H) :
    s.TypeIs v T∧∀ a,v=.ref a→∃ ob,s.heap.get? a=some ob∧ob.dict=none:=by
  cases x with
  | str z =>
    obtain ⟨t,rfl⟩:=r;cases (show T = "str" from ty);exact ⟨typeIs_str s z t,fun _ e=>nomatch e⟩
  | int i =>
    obtain ⟨t,rfl⟩:=r;cases (show T = "int" from ty);exact ⟨typeIs_int s i t,fun _ e=>nomatch e⟩
  | ref p =>
    cases r;rcases ty with ⟨rfl,xs,hq⟩|⟨rfl,o,hk,hc,hd⟩|⟨rfl,hk⟩|⟨rfl,S,n,hk⟩
    · obtain ⟨its,_,pl,_⟩:=I.list hq;refine ⟨pl.isList.typeIs,fun a e=>?_⟩;cases e;obtain ⟨o,n,e,c,hd,_⟩:=pl;exact ⟨o,e,hd⟩
    · refine ⟨⟨o,I.kIn p o hk,hc⟩,fun a e=>?_⟩;cases e;exact ⟨o,I.kIn _ o hk,hd⟩
    · have z:∃ o,s.heap.get? p=some o∧o.ExactDict:=by
        rcases hk with ⟨kvs,hk⟩|⟨kvs,hk⟩
        · obtain ⟨_,_,_,_,o,_,_,e,ex,_⟩:=I.hok p _ hk;exact ⟨o,e,ex⟩
        · obtain ⟨_,_,_,_,o,_,_,e,ex,_⟩:=I.hok p _ hk;exact ⟨o,e,ex⟩
      obtain ⟨o,e,ex⟩:=z;refine ⟨⟨o,e,ex.1⟩,fun a e2=>?_⟩;cases e2;exact ⟨o,e,ex.2.1⟩
    · obtain ⟨o,_,_,_,e,ex,_⟩:=I.hok p _ hk;refine ⟨⟨o,e,ex.1⟩,fun a e2=>?_⟩;cases e2;exact ⟨o,e,ex.2.1⟩
  | _=>exact abC ty
def oU (K:aaa) (T:String) (r:V→List V→Hp→VK→Prop) (to:TE):TE:=fun σ H Q=>to σ H fun x H1=>tyV K T x H1∧r x [] H1 Q
def tBM (K:aaa) (T:String) (r:V→List V→Hp→VK→Prop) (to:TE) (t:TA):TE:=fun σ H Q=>to σ H fun x H1=>tyV K T x H1∧t σ H1 fun xs H2=>r x xs H2 Q
variable {o e:Expr} {es:List Expr} {to:TE} {t:TA} {name:Str} {apos cpos:Pos} {T id:String} {r:V→List V→Hp→VK→Prop}
theorem nn (pa:PlainAttrs T) (slot:Slot T name id) (hty:typeOf (.builtin id)=pure (.type "method_descriptor")) (hm:MtR X id r) (ho:PE X o to)
    (hbase:attributeBase o name X.env (eval o X.env)=eval o X.env:=by rfl) (hline:(apos.endLine == cpos.line)=true:=by rfl):PE X (.Call (.Attribute o name apos) [] [] cpos) (oU X.K T r to):=by
  intro pins s σ H Q I h;refine wpAny_Call_method0_late hbase hline (thn (ho pins s σ H _ I h) fun v s1 ⟨x,H1,I1,r1,ty,q1⟩=>?_);obtain ⟨h1,h2⟩:=kU I1 r1 ty;exact ⟨T,id,pa,slot,hty,h1,h2,Calls.callWith_builtin rfl (PySem.evalArgs_none (hm pins s1 σ H1 x [] v [] Q I1 r1 .nil q1))⟩
theorem gA (pa:PlainAttrs T) (slot:Slot T name id) (hty:typeOf (.builtin id)=pure (.type "method_descriptor")) (hm:MtR X id r) (ho:PE X o to) (ha:PA X (e :: es) t)
    (hbase:attributeBase o name X.env (eval o X.env)=eval o X.env:=by rfl)
    (hfew:((backTo cpos (starEach (e :: es) X.env)).all (fun x=>!x.1) && (backToKw cpos (keywordEach [] X.env)).all (fun x=>x.1.isSome)
      && decide ((e :: es).length+([]:List Keyword).length+(if ([]:List Keyword).isEmpty then 0 else 1) < 30))=true:=by rfl)
    (hline:(apos.endLine == cpos.line)=true:=by rfl) (hs:starEach (e :: es) X.env=(false,eval e X.env) :: starEach es X.env:=by rfl) (hplain:(backTo cpos (starEach es X.env)).any (·.1)=false:=by rfl) :
    PE X (.Call (.Attribute o name apos) (e :: es) [] cpos) (tBM X.K T r to t):=by
  intro pins s σ H Q I h;refine wpAny_Call_method_late hbase hfew hline rfl (thn (ho pins s σ H _ I h) fun v s1 ⟨x,H1,I1,r1,ty,q1⟩=>?_);obtain ⟨h1,h2⟩:=kU I1 r1 ty;refine ⟨T,id,pa,slot,hty,h1,h2,?_⟩;have hA:=ha cpos pins s1 σ H1 _ I1 q1;rw [hs] at hA ⊢;refine Calls.callWith_builtin (by show (false || (backTo cpos (starEach es X.env)).any (·.1))=false;rw [hplain] <;> rfl) (Calls.evalArgs_plain ?_);exact thn hA fun us s2 ⟨vs,H2,I2,r2,q2⟩=>hm pins s2 σ H2 x vs v us Q I2 r1 r2 q2
end
open PySem PySem.Spec PyProof.Rows
def MtM (X:Cx) (id:String) (r:V→List V→Hp→VK→Prop):Prop :=
  ∀ (pins:List (Addr × Obj)) (s:Shared) (σ:St) (H:Hp) (x:V) (xs:List V) (v:Value) (us:List Value) (Q:VK),Inv X pins σ H s→RelV x v→Vals xs us→r x xs H Q →
    wpAny (model X.prog X.w) X.A (call (.builtin id) (v :: us)) (EP X pins σ Q) X.xe s
theorem Vals.one:∀ {x:V} {us:List Value},Vals [x] us→∃ u,us=[u]∧RelV x u
  | _,_,.cons r .nil=>⟨_,rfl,r⟩
theorem Vals.zero:∀ {us:List Value},Vals [] us→us=[]
  | _,.nil=>rfl
theorem Vals.dropLast {xs:List V} {us:List Value} (h:Vals xs us):Vals xs.dropLast us.dropLast:=by
  induction h with
  | nil=>exact .nil
  | cons r t ih =>
    cases t with
    | nil=>exact .nil
    | cons q t'=>exact .cons r ih
theorem Vals.rep {xs:List V} {us:List Value} (h:Vals xs us):∀ k:Nat,Vals (aaG k xs).flatten (aaG k us).flatten
  | 0=>.nil
  | k+1=>by
    rw [abm,abm,abD,abD];exact Vals.append h (Vals.rep h k)
theorem jM {α:Type} (l:List α):l.eraseIdx (l.length - 1)=l.dropLast:=by
  induction l with
  | nil=>rfl
  | cons a r ih =>
    cases r with
    | nil=>rfl
    | cons b r =>
      have e:(a :: b :: r).length - 1=((b :: r).length - 1)+1:=by
        have h1:(a :: b :: r).length=r.length+2:=rfl;have h2:(b :: r).length=r.length+1:=rfl;omega
      rw [e,List.eraseIdx_cons_succ,ih]
      all_goals rfl
theorem gG (its:List Value):∀ (k:Nat) (acc:List Value),
    List.foldl (fun x1 x2=>x1++x2) acc.toArray (aaG k its.toArray)=(acc++(aaG k its).flatten).toArray
  | 0,acc=>by simp
  | k+1,acc=>by
    have e:acc.toArray++its.toArray=(acc++its).toArray:=by simp
    have e2:(acc++its)++(aaG k its).flatten=acc++(aaG (k+1) its).flatten:=by
      rw [abm,abD,aaj]
    rw [← e2,← gG its k (acc++its),← e,abm,List.foldl_cons]
section
variable {X:Cx} {pins:List (Addr × Obj)} {σ:St} {H:Hp} {s:Shared} {l b:Addr} {xs ys zs:List V}
theorem Inv.lset {its its':List Value} {n:Nat} {f:Array Value→Array Value} {t':Nat} (I:Inv X pins σ H s) (hH:H l=some (.lst xs))
    (e:s.heap.get? l=some { cls:=.type "list",data:=.seq its.toArray n }) (hf:f its.toArray=its'.toArray) (hv:Vals ys its') (hz:ys.length≤sizeLine) :
    Inv X pins σ (upd H l (.lst ys)) { s with heap:=s.heap.update l (aa1 f),toks:=t' }:=by
  have q:=PySem.IsL.update e f;rw [hf] at q;refine I.write (x:=l) (e:=l) (by rw [hH];exact trivial) (.inl rfl) (fun b' u hb hu=>(Heap.get?_update_other s.heap (aa1 f) (ab0 hb)).trans hu) ⟨_,q⟩ ?_;exact ⟨hz,its',_,hv,q⟩
theorem Inv.lnew {its:List Value} {t':Nat} (I:Inv X pins σ H s) (hv:Vals ys its) (hz:ys.length≤sizeLine) :
    Inv X pins σ (upd H s.heap.objs.size (.lst ys)) { s with heap:=s.heap.push { cls:=.type "list",data:=.seq its.toArray },toks:=t' } :=
  I.laid (fun _ _ q=>aal _ q) (aab _) ⟨hz,its,0,hv,aaA _ rfl⟩
theorem Inv.fresh (I:Inv X pins σ H s):H s.heap.objs.size=none:=I.hok.fresh (aab _)
theorem Inv.lstM (I:Inv X pins σ H s) (hH:H l=some (.lst xs)):xs.length≤sizeLine∧∃ (its:List Value) (n:Nat),Vals xs its∧xs.length=its.length∧s.heap.get? l=some { cls:=.type "list",data:=.seq its.toArray n }:=by
  obtain ⟨z,its,n,r,e⟩:=I.hok l _ hH;exact ⟨z,its,n,r,r.length,e⟩
theorem jb {n:Nat} (h:n≤sizeLine):abx n=false:=by
  unfold abx;exact decide_eq_false (by omega)
end
section
variable {X:Cx}
def mt:V→List V→Hp→VK→Prop:=fun x vs H Q=>∃ l xs y,x=.ref l∧vs=[y]∧H l=some (.lst xs)∧xs.length < sizeLine∧Q .non (upd H l (.lst (xs++[y])))
theorem fe:MtM X "list.append" mt:=by
  intro pins s σ H x vs v us Q I rx rv h;obtain ⟨l,xs,y,rfl,rfl,hH,hz,q⟩:=h;cases rx;obtain ⟨u,rfl,ru⟩:=rv.one;obtain ⟨z,its,n,r,hl,e⟩:=I.lstM hH;refine call_meets F.slot_list_append ⟨_,e,rfl⟩ F.entry_list_append (F.args_list_append_2 _ _) (PySem.list_append l its.toArray n u (by rw [aac];omega)) ⟨e,?_⟩;refine ⟨.non,_,I.lset (its':=its++[u]) hH e (by simp) (r.append (.cons ru .nil)) ?_,rfl,q⟩;rw [aat,abq];omega
def mq:V→List V→Hp→VK→Prop:=fun x vs H Q=>∃ l b xs zs,x=.ref l∧vs=[.ref b]∧H l=some (.lst xs)∧H b=some (.lst zs)∧xs.length+zs.length≤sizeLine∧Q .non (upd H l (.lst (xs++zs)))
theorem kJ:MtM X "list.extend" mq:=by
  intro pins s σ H x vs v us Q I rx rv h;obtain ⟨l,b,xs,zs,rfl,rfl,hH,hB,hz,q⟩:=h;cases rx;obtain ⟨u,rfl,ru⟩:=rv.one;cases ru;obtain ⟨z,its,n,r,hl,e⟩:=I.lstM hH;obtain ⟨z2,its2,n2,r2,hl2,e2⟩:=I.lstM hB;have hsz:its.toArray.size+its2.toArray.size≤sizeLine:=by rw [aac,aac];omega
  have hlong:¬ (!its.toArray.isEmpty && abx (its.toArray.size+its2.toArray.size))=true:=by
    rw [jb hsz,Bool.and_false];exact aah
  refine call_meets F.slot_list_extend ⟨_,e,rfl⟩ F.entry_list_extend (F.args_list_extend_2 _ _)
    (AutoSeq1.list_extend_list_list_0 l its.toArray n b its2.toArray n2 hlong (by rw [aac];omega) (by omega)) ⟨e,e2,?_⟩
  refine ⟨.non,_,I.lset (its':=its++its2) hH e (by simp) (r.append r2) ?_,rfl,q⟩;rw [aat];omega
def oZ:V→List V→Hp→VK→Prop:=fun x vs H Q=>∃ l xs y,x=.ref l∧vs=[]∧H l=some (.lst xs)∧xs[xs.length - 1]?=some y∧Q y (upd H l (.lst xs.dropLast))
theorem nC:MtM X "list.pop" oZ:=by
  intro pins s σ H x vs v us Q I rx rv h;obtain ⟨l,xs,y,rfl,rfl,hH,hy,q⟩:=h;cases rx;have hus:=rv.zero;subst hus;obtain ⟨z,its,n,r,hl,e⟩:=I.lstM hH;obtain ⟨u,hu,ru⟩:=r.get hy;have hy':its.toArray[its.toArray.size - 1]?=some u:=by
    show its.toArray[its.length - 1]?=some u;rw [← aaU,← hl];exact hu
  refine call_meets F.slot_list_pop ⟨_,e,rfl⟩ F.entry_list_pop (F.args_list_pop_1 _) (MeetsSeq.list_pop_last l its.toArray n u hy' (by rw [aac];omega)) ⟨e,?_⟩;refine ⟨y,_,I.lset (its':=its.dropLast) hH e ?_ r.dropLast ?_,ru,q⟩
  · show its.toArray.eraseIdxIfInBounds (its.toArray.size - 1)=its.dropLast.toArray;rw [aac,List.eraseIdxIfInBounds_toArray,jM]
  · rw [List.length_dropLast];omega
def o6:R2:=fun x y H Q=>∃ l b xs zs,x=.ref l∧y=.ref b∧H l=some (.lst xs)∧H b=some (.lst zs)∧xs.length+zs.length≤sizeLine∧∀ p,H p=none→Q (.ref p) (upd H p (.lst (xs++zs)))
theorem h_:OpR X (binaryOp .Add) o6:=by
  intro pins s σ H x y v u Q I rx ry h;obtain ⟨l,b,xs,zs,rfl,rfl,hH,hB,hz,q⟩:=h;cases rx;cases ry;obtain ⟨z,its,n,r,hl,e⟩:=I.lstM hH;obtain ⟨z2,its2,n2,r2,hl2,e2⟩:=I.lstM hB;refine PySem.P.add_list e e2 ?_ (by rw [aac,aac];omega);have ea:its.toArray++its2.toArray=(its++its2).toArray:=by simp
  rw [ea];exact ⟨.ref _,_,I.lnew (t':=s.toks) (r.append r2) (by rw [aat];omega),rfl,q _ I.fresh⟩
def oY:R2:=fun x y H Q=>∃ l k xs,x=.ref l∧y=.int k∧H l=some (.lst xs)∧-(2 ^ 63)≤k∧k < 2 ^ 63∧xs.length * k.toNat≤sizeLine ∧
  ∀ p,H p=none→Q (.ref p) (upd H p (.lst (aaG k.toNat xs).flatten))
theorem mJ {α:Type} (xs:List α) (k:Nat):(aaG k xs).flatten.length=k * xs.length:=by
  induction k with
  | zero=>simp
  | succ k ih=>rw [abm,abD,aat,ih,Nat.succ_mul,Nat.add_comm]
theorem nt:OpR X (binaryOp .Mult) oY:=by
  intro pins s σ H x y v u Q I rx ry h;obtain ⟨l,k,xs,rfl,rfl,hH,h1,h2,hz,q⟩:=h;cases rx;obtain ⟨t,rfl⟩:=ry;obtain ⟨z,its,n,r,hl,e⟩:=I.lstM hH;have hlen:its.toArray.size * k.toNat≤sizeLine:=by rw [aac,← hl];exact hz
  have hcap:¬ its.toArray.size * k.toNat > (2 ^ 63 - 1) / 8:=by
    have : (sizeLine:Nat)≤(2 ^ 63 - 1) / 8:=by decide
    omega
  have hfit:¬ (!Builtin.List.listFitsIndex k)=true:=by
    rw [fitsIndex_both h1 h2];exact aah
  have hlong:¬ abx (its.toArray.size * k.toNat)=true:=by
    rw [jb hlen];exact aah
  have hnew:List.foldl (fun x1 x2=>x1++x2) #[] (aaG (if its.toArray.isEmpty=true then 0 else k.toNat) its.toArray)=(aaG k.toNat its).flatten.toArray:=by
    have f0:∀ m:Nat,List.foldl (fun x1 x2=>x1++x2) #[] (aaG m its.toArray)=(aaG m its).flatten.toArray:=fun m=>by
      have:=gG its m [];rw [List.nil_append] at this;exact this
    rw [f0];cases its with
    | nil=>simp
    | cons a r'=>rw [if_neg (by simp)]
  refine wpAny_binaryOp_repeat_ref (T:="list") (U:="int") (by decide) ⟨_,e,rfl⟩ (fun s'=>typeIs_int s' k t) noFill_list_mul F.fills_int_mul F.slot_int_rmul repeat_list F.slot_int_index.lookup
    (call_meets F.slot_int_rmul (typeIs_int s k t) F.entry_int_rmul (F.args_int_rmul_2 _ _) (int___rmul___int_list k t l its.toArray n)
      ⟨e,rfl,⟨_,e,rfl⟩,call_meets F.slot_list_mul ⟨_,e,rfl⟩ F.entry_list_mul (F.args_list_mul_2 _ _) (AutoListH.list___mul___list_int_3 l its.toArray n k t hfit hcap hlong) ⟨e,?_⟩⟩)
  rw [hnew];exact ⟨.ref _,_,I.lnew (t':=s.toks) (r.rep k.toNat) (by rw [mJ,Nat.mul_comm];exact hz),rfl,q _ I.fresh⟩
end
section
variable {prog:Program} {w:World} {A:Around} {E:Value→Shared→Prop} {s:Shared}
end
section
variable {X:Cx}
end
end L2
namespace Att
open PySem PySem.W PySem.Calls PyProof.Rows
theorem fw {P:Params} {h:Heap}:∀ (ns:List Int) (vs:List Value),WellAll P h vs (ns.map WData.int)→IntsAre vs ns:=by
  intro ns
  induction ns with
  | nil =>
    intro vs w;rw [List.map_nil] at w;cases w;exact .nil
  | cons n ns ih =>
    intro vs w;rw [abQ] at w;cases w with
    | cons a b =>
      cases a;exact .cons _ _ (ih _ b)
theorem kq {l:OpenLaw} {n:Nat} (hn:l.most=some n) {P:Params} {h:Heap} {args:List WData} {vals:List Value}
    (hpre:l.row.toRowW.claim.pre args=true) (hwl:WellAll P h vals args) :
    ∃ a vs ns,vals=[Value.ref a]∧args=[WData.list (ns.map WData.int)]∧h.get? a=some { cls:=.type "list",data:=.seq vs.toArray }∧IntsAre vs ns∧ns.length≤n:=by
  have hsh:WShape.hasAll [] args [.list .int]=true:=(pre_splitW hpre).1;have hc:l.pre.holds [] { args:=args }=true:=(pre_splitW hpre).2;obtain ⟨d,r,rfl,h1,h2⟩:=hasAllW_cons hsh;obtain rfl:=hasAllW_nil h2;obtain ⟨xs,rfl,h3⟩:=hasW_list h1;obtain ⟨ns,rfl⟩:=items_int h3;have hlen:ns.length≤n:=by
    unfold OpenLaw.pre at hc;have h4:(WTm.not (.lt (.lit (.int (n:Int))) (.len (.arg 0)))).holds [] { args:=[.list (ns.map .int)] }=true:=by
      have h4:=(holds_andW hc).1;rw [hn] at h4;exact h4
    have h5:=condW_of h4 (w_not (w_lt w_lit (w_len_list (w_arg rfl))));rw [aad] at h5;refine Nat.le_of_not_lt fun q=>?_;have q':(n:Int) < ((ns.length:Nat):Int):=by omega
    first
      | (rw [decide_eq_true q'] at h5;exact absurd h5 (by decide))
      | (simp at h5;omega)
  cases hwl with
  | cons w1 w2 =>
    cases w2;cases w1 with
    | list ho hall=>exact ⟨_,_,ns,rfl,rfl,ho,fw ns _ hall,hlen⟩
theorem kz (l:OpenLaw) (args:List WData):l.row.toRowW.claim.post args (.bool true) args=true :=
  postW_of (r:=l.row.toRowW) (X:=(true == true))
    (show WShape.has [] (.bool true) .bool=true by first|rfl|decide|simp [WShape.has,WShape.arms,WShape.armsAll])
    (show (WTm.eq .res (.lit (.bool true))).value [] { args:=args,res:=some (.bool true),after:=args }=some (.bool (true == true)) from w_eq_bool (w_res rfl) w_lit) rfl
theorem attach_call {l:OpenLaw} {n:Nat} {q:Program} {loose:List Str} {XP:(Str→Option Value)→Heap→Prop} {YP:World→Heap→Prop} {d:DefRec}
    (hn:l.most=some n) (hdf:d.params.defaults=[])
    (call:∀ (w:World) (s₀ s₁:Shared) (mg mb:Str→Option Value) (fa:Addr) (o:Obj) (pm cd doc:Value) (a:Addr) (vs:List Value) (ns:List Int),
      Ground q loose [] XP w s₀ mg mb s₁.heap→YP w s₁.heap →
      s₁.heap.get? fa=some o→o.data=.func (docDef d.name d.params d.body d.scope pm cd doc)→s₁.heap.CodeRec cd d.name→mg d.name=some (.ref fa) →
      s₁.heap.get? a=some { cls:=.type "list",data:=.seq vs.toArray }→IntsAre vs ns→ns.length≤n→s₁.gens=#[] →
      codeAny (model l.prog w) callerA (.call (.ref fa) ⟨[.ref a],[]⟩) (fun r s'=>r=.ok (.ret (.bool true))∧OldK s₁.heap s'.heap∧s'.os=s₁.os∧AllBare s'.gens) s₁) :
    WalkO q loose XP YP l.row.toRowW d [] (fun f vs=>PySem.call f vs):=by
  intro w s₀ s₁ mg mb G Y fa o pm cd doc dV kV ho hd hcd hD hmg hg args vals as hpre hlay hrd hwl hlo;obtain rfl:dV=.none:=Dflts.none hD hdf;obtain rfl:kV=.none:=Dflts.noKw hD;obtain ⟨a,vs,ns,rfl,rfl,hobj,hints,hlen⟩:=kq hn hpre hwl;refine enter_call (codeAny_mono (call w s₀ s₁ mg mb fa o pm cd doc a vs ns G Y ho (fd_plain hd) hcd hmg hobj hints hlen hg) fun r s' hq=>?_);obtain ⟨rfl,h2,h3,h4⟩:=hq;exact ⟨.inl ⟨.bool true,.bool true,[],rfl,fun _=>rfl,.bool true,kz l _,fun _=>⟨List.Pairwise.nil,fun _ hm=>(nomatch hm)⟩⟩,h2,h3,h4⟩
section
variable {prog:Program} {w:World} {A:Around} {E:Value→Shared→Prop} {s:Shared} {K:Frag}
end
end Att
namespace L2
open PySem PySem.Spec PyProof.Rows
theorem gu:∀ {vs:List Value} {ns:List Int},IntsAre vs ns→Vals (ns.map V.int) vs
  | _,_,.nil=>.nil
  | _,_,.cons n t h=>.cons ⟨t,rfl⟩ (gu h)
def nU (H:Hp):Prop:=∀ b,H b=none∨∃ o xs,H b=some (.frz o (.lst xs))
theorem lD {P:Program} {w:World} {K:aaa} {mg mb:Str→Option Value} {CX:CXT} {k:Nat} {fa a:Addr} {fd:FuncData} {x:Str} {sp:Sp} {s₁:Shared} {vs:List Value} {ns:List Int}
    (KX:K.In s₁.heap) (hns:s₁.heap.Ns mainGlobals mg) (hb:s₁.heap.Ns builtinsNs mb) (hbb:∀ x:Str,x ≠ "__name__"→mb x=bootBuiltins x) (hlim:s₁.heap.NoLimit) (hsm:∃ mm,s₁.heap.Ns sysModules mm) (hg:s₁.gens=#[])
    (ha:s₁.heap.get? a=some { cls:=.type "list",data:=.seq vs.toArray }) (hi:IntsAre vs ns) (hl:ns.length≤sizeLine) (hr:Room k callerA)
    (F:∀ base:Heap,K.In base→base.Ns mainGlobals mg→FnOk P w K mg base CX k fa fd [x] sp) (hbind:∀ (s:Shared) (u:Value),BindsTo s fd ⟨[u],[]⟩ [(x,u)])
    (hsp:∀ H:Hp,nU H→SqL K H a (ns.map V.int)→sp [.ref a] H (fun v _=>v=.bl true) fun _ _ _=>False)
    (hCX:∀ H e s',CX [] H s₁ (fun _ _ _=>False) e s'→False) :
    codeAny (model P w) callerA (.call (.ref fa) ⟨[.ref a],[]⟩) (fun r s'=>r=.ok (.ret (.bool true))∧OldK s₁.heap s'.heap∧s'.os=s₁.os∧AllBare s'.gens) s₁:=by
  have rv:=gu hi;have lenV:=hi.length;have core:∀ H:Hp,nU H→SqL K H a (ns.map V.int)→HOk P w H s₁.heap→(∀ b,H b≠none→b=a)→(H a≠none→K.lookup a=none) →
      codeAny (model P w) callerA (.call (.ref fa) ⟨[.ref a],[]⟩) (fun r s'=>r=.ok (.ret (.bool true))∧OldK s₁.heap s'.heap∧s'.os=s₁.os∧AllBare s'.gens) s₁:=by
    intro H hO hS hok hA hK;have base_of:∀ {b:Addr} {o:Obj},s₁.heap.get? b=some o→H b=none→(iq s₁.heap H).get? b=some o:=fun e n=>lK e n;have noA:∀ {b:Addr} {o:Obj} {es:Array DictEntry} {ep:Nat},s₁.heap.get? b=some o→o.data=.dict es ep→H b=none:=fun {b o es ep} e d=>by
      cases q:H b with
      | none=>rfl
      | some u =>
        have e':b=a:=hA b (by rw [q];simp);subst e';rw [ha] at e;cases e;have d':Data.seq vs.toArray _=Data.dict es ep:=d;cases d'
    have nsK:∀ {b:Addr} {m:Str→Option Value},s₁.heap.Ns b m→(iq s₁.heap H).Ns b m:=fun {b m} ⟨o,es,ep,e,d,r⟩=>⟨o,es,ep,base_of e (noA e d),d,r⟩
    have hKb:K.In (iq s₁.heap H):=fun b o e=>base_of (KX b o e) (by
      cases q:H b with
      | none=>rfl
      | some u =>
        have e':b=a:=hA b (by rw [q];simp);subst e';rw [hK (by rw [q];simp)] at e;cases e)
    have hM:Mod K mg (iq s₁.heap H):=⟨hKb,nsK hns,⟨mb,nsK hb,hbb⟩,let ⟨mc,h1,h2⟩:=hlim;⟨mc,nsK h1,h2⟩,let ⟨mm,h1⟩:=hsm;⟨mm,nsK h1⟩⟩
    have e0:Env0 P w K mg (iq s₁.heap H) callerA [] s₁ H:=⟨rfl,hM,fun b o e=>mI e,Nat.le_of_eq (kP _ _),trivial,fun b hb=>absurd (show b∈([]:List Addr) from hb) (by simp),hok,.of_eq hg⟩
    refine codeAny_mono ((F _ hKb (nsK hns)).run callerA [] s₁ H ⟨[.ref a],[]⟩ [.ref a] [.ref a] _ _ hr e0 (hbind s₁ (.ref a)) (.cons rfl .nil) (hsp H hO hS)) fun r s' h=>?_;cases r with
    | error e=>exact (hCX H e s' h).elim
    | ok fl =>
      cases fl with
      | next=>exact abC h
      | brk=>exact abC h
      | cont=>exact abC h
      | ret u =>
        obtain ⟨v,H',os,bare,un,hok',r',q⟩:=h;have q':v=.bl true:=q;subst q';obtain rfl:u=Value.bool true:=r';refine ⟨rfl,OldK.of_keep fun b o e=>?_,os,bare⟩;cases q:H b with
        | none=>exact un.keep b o e q (by intro z;exact absurd (show b∈([]:List Addr) from z) (by simp)) (by simp)
        | some u =>
          rcases hO b with z|⟨ob,xs,z⟩
          · rw [q] at z;cases z
          · have z2:=un.frzs b ob _ z;obtain ⟨e1,_⟩:=hok b _ z;obtain ⟨e2,_⟩:=hok' b _ z2;rw [e] at e1;cases e1;exact e2
  cases hk:K.lookup a with
  | some o =>
    have e:=KX a o hk;rw [ha] at e;cases e;refine core (fun _=>none) (fun _=>.inl rfl) (.inr ⟨_,vs.toArray,_,hk,rfl,rfl,rfl,by rw [aac,lenV];exact hl,by simpa using rv⟩) (fun b u z=>by have z':(none:Option HO)=some u:=z;cases z') (fun b z=>absurd rfl z) fun z=>absurd rfl z
  | none =>
    refine core (fun b=>if b=a then some (.frz { cls:=.type "list",data:=.seq vs.toArray } (.lst (ns.map V.int))) else none) (fun b=>?_) (.inl (.inr ⟨{ cls:=.type "list",data:=.seq vs.toArray },if_pos rfl⟩)) (fun b u z=>?_) (fun b z=>?_) fun _=>hk
    · by_cases hb:b=a
      · exact .inr ⟨_,_,if_pos hb⟩
      · exact .inl (if_neg hb)
    · by_cases hb:b=a
      · have z':=(if_pos hb).symm.trans z;cases z';subst hb;exact ⟨ha,by rw [aad];exact hl,vs,_,rv,ha⟩
      · have z':=(if_neg hb).symm.trans z;cases z'
    · by_cases hb:b=a
      · exact hb
      · exact absurd (if_neg hb) z
open PySem PySem.Spec PyProof.Rows
theorem walk_of {l:PySem.W.OpenLaw} {n k:Nat} {q:Program} {loose:List Str} {XP:(Str→Option Value)→Heap→Prop} {YP:World→Heap→Prop} {d:DefRec} {K:Params→aaa} {CX:World→CXT} {sp:World→Sp} {x:Str}
    (hn:l.most=some n) (hn2:n≤sizeLine) (hdf:d.params.defaults=[]) (hr:Room k callerA) (hi:PyProof.Rows.importsNone q=true)
    (hY:∀ (w:World) (h:Heap),YP w h→(K w.params).In h)
    (F:∀ (w:World) (mg:Str→Option Value) (fa:Addr) (h:Heap),(K w.params).In h→h.Ns mainGlobals mg→mg d.name=some (.ref fa) →
      ∃ fd:FuncData,(∀ (s:Shared) (u:Value),BindsTo s fd ⟨[u],[]⟩ [(x,u)]) ∧
        ∀ base:Heap,(K w.params).In base→base.Ns mainGlobals mg→FnOk l.prog w (K w.params) mg base (CX w) k fa fd [x] (sp w))
    (hsp:∀ (w:World) (H:Hp) (a:Addr) (ns:List Int),ns.length≤n→nU H→SqL (K w.params) H a (ns.map V.int)→sp w [.ref a] H (fun v _=>v=.bl true) fun _ _ _=>False)
    (hCX:∀ (w:World) (H:Hp) (s:Shared) (e:Value) (s':Shared),CX w [] H s (fun _ _ _=>False) e s'→False) :
    PySem.W.WalkO q loose XP YP l.row.toRowW d [] (fun f vs=>PySem.call f vs):=by
  refine Att.attach_call hn hdf fun w s₀ s₁ mg mb fa o pm cd doc a vs ns G Y ho hd hcd hmg hobj hints hlen hg=>?_;have KX:=hY w _ Y;obtain ⟨fd,hb,hF⟩:=F w mg fa _ KX G.T.g hmg;exact lD KX G.T.g G.T.b G.T.builtins G.T.nolimit (let ⟨mm,h1,_⟩:=(G.T.seer hi).mods;⟨mm,h1⟩) hg hobj hints (aa5 hlen hn2) hr hF hb (fun H hO hS=>hsp w H a ns hlen hO hS) fun H e s'=>hCX w H s₁ e s'
open PySem PySem.Spec PyProof.Rows
def bL (s:Stmt):Arguments:=match s with
  | .FunctionDef _ a _ _ _ _ _ _ _ _=>a
  | _=>{ posonlyargs:=[],args:=[],vararg:=none,kwonlyargs:=[],kw_defaults:=[],kwarg:=none,defaults:=[] }
def bC (s:Stmt):List Stmt:=match s with
  | .FunctionDef _ _ b _ _ _ _ _ _ _=>b
  | _=>[]
def ap (s:Stmt):Scope:=match s with
  | .FunctionDef _ _ _ _ _ _ sc _ _ _=>sc
  | _=>{ kind:=.function,names:=[],isGenerator:=false,isCoroutine:=false }
abbrev CX0:CXT:=fun _ _ _ _ _ _=>False
abbrev E0:XK:=fun _ _ _=>False
theorem om {X:Cx}:jN CX0 X E0:=fun _ _ _ _ _ _ _ h=>h.elim
structure Fun (K:aaa) (x qual:Str) (st:Stmt) (f:Addr) (fd:FuncData):Prop where
  ex:∃ (oc:Value) (od:Option Addr) (kV doc pm:Value) (an:Option Addr) (cdv ct:Value) (osl:Array (Option Value)),
    fd=abf x qual (bL st) (bC st) (ap st) .none kV doc pm an cdv ct∧K.lookup f=some ⟨oc,od,.func fd,osl⟩∧abz K cdv qual=true
  kp:abe K (.ref f)=true
section
variable {P:Program} {w:World} {K:aaa} {mg:Str→Option Value} {base:Heap}
theorem Fun.ok {x qual:Str} {st:Stmt} {f:Addr} {fd:FuncData} {N ps:List Str} {k:Nat} {sp:Sp} (F:Fun K x qual st f fd) (S:FnScope N ps (ap st)) (len:∀ vs H Q E,sp vs H Q E→vs.length=ps.length)
    (hbody:∀ (cdv:Value) (A:Around) (outer:List Env) (s:Shared) (H:Hp) (vs:List V) (Q:VK) (E:XK),Room k (A.deeper (envOfC qual (ap st) s.heap.objs.size f cdv))→sp vs H Q E →
      ∃ t,PSs (kQ CX0 P w K mg base N qual (ap st) f cdv A outer s H E).nox (bC st) t∧t { nx:=fun _ H'=>Q .non H',rt:=Q } (fm N vs) H):FnOk P w K mg base CX0 (k+1) f fd ps sp:=by
  obtain ⟨oc,od,kV,doc,pm,an,cdv,ct,osl,rfl,lk,hcd⟩:=F.ex;refine oE lk hcd S len fun A outer s H vs Q E hr hsp=>?_;obtain ⟨t,h,q⟩:=hbody cdv A outer s H vs Q E hr hsp;exact ⟨t,h.nox,q⟩
theorem Fun.binds {x qual:Str} {st:Stmt} {f:Addr} {fd:FuncData} {ps:List Str} (F:Fun K x qual st f fd)
    (h:∀ (kV doc pm:Value) (an:Option Addr) (cdv ct:Value) (us:List Value),us.length=ps.length→bindArgs (abf x qual (bL st) (bC st) (ap st) .none kV doc pm an cdv ct) ⟨us,[]⟩=pure (ps.zip us)):Binds K fd ps []:=by
  obtain ⟨oc,od,kV,doc,pm,an,cdv,ct,osl,rfl,lk,hcd⟩:=F.ex;exact .all (h kV doc pm an cdv ct)
theorem lN {x qual:Str} {st:Stmt} {f:Addr} {oc:Value} {od an:Option Addr} {osl:Array (Option Value)} {kV doc pm cdv ct:Value} (l:K.lookup f=some ⟨oc,od,.func (abf x qual (bL st) (bC st) (ap st) .none kV doc pm an cdv ct),osl⟩)
    (c:abz K cdv qual=true) (k:abe K (.ref f)=true):Fun K x qual st f (abf x qual (bL st) (bC st) (ap st) .none kV doc pm an cdv ct):=⟨⟨oc,od,kV,doc,pm,an,cdv,ct,osl,rfl,l,c⟩,k⟩
end
theorem aJ {n:Nat} (h:n≤1000):n < sizeLine:=Nat.lt_of_le_of_lt h (by decide)
section
variable {X:Cx}
theorem pv (i:Nat) {x:Str} {pos:Pos} (hN:X.N[i]?=some x:=by rfl) (hv:Vis X.env.scope x:=by first|exact Or.inl rfl|exact Or.inr (Or.inl rfl)|exact Or.inr (Or.inr rfl)) (hd:(x == ("__debug__":Str))=false:=by decide)
    (hcd:(x == ("__classdict__":Str))=false:=by decide):PE X (.Name x pos) (nZ i):=nj hN hv hd hcd
end
theorem a_ {A B:Prop} (h:B):if false=true then A else B:=by
  rw [if_neg aah];exact h
theorem cD {A B:Prop} (h:A):if true=true then A else B:=by
  rw [if_pos rfl];exact h
theorem lG {c A B:Prop} [Decidable c] (h1:c→A) (h2:¬ c→B):if c then A else B:=by
  by_cases h:c
  · rw [if_pos h];exact h1 h
  · rw [if_neg h];exact h2 h
def Same (H H':Hp):Prop:=∀ b o,H b=some o→H' b=some o
theorem Same.refl (H:Hp):Same H H:=fun _ _ h=>h
theorem Same.trans {H H1 H2:Hp} (a:Same H H1) (b:Same H1 H2):Same H H2:=fun c o h=>b c o (a c o h)
theorem Same.free {H H':Hp} (e:Same H H') {l:Addr} (h:H' l=Option.none):H l=Option.none:=by
  cases q:H l with
  | none=>rfl
  | some o =>
    rw [e l o q] at h;cases h
theorem Same.seq {K:aaa} {H H':Hp} {a:Addr} {xs:List V} (e:Same H H') (h:SqL K H a xs):SqL K H' a xs:=by
  rcases h with (h|⟨o,h⟩)|h
  · exact .inl (.inl (e _ _ h))
  · exact .inl (.inr ⟨o,e _ _ h⟩)
  · exact .inr h
open PySem PySem.Spec PyProof.Rows
section
variable {κ:Type} [DecidableEq κ]
def nX (kvs:List (κ × V)) (k:κ):Option V:=(kvs.find? fun kv=>decide (kv.1=k)).map (·.2)
end
section
variable {P:Program} {w:World} {H:Hp} {h:Heap} {a:Addr}
theorem oh {u:HO} (ok:HOk P w H h) (e:Rd H a u):ObjOk P w H h a u:=e.ok ok
theorem oF {kvs:List (Key × V)} (ok:HOk P w H h) (e:Rd H a (.dK kvs)):kvs.length≤sizeLine∧(a == sysModules)=false∧∃ vs,KV kvs vs∧h.DictOf (cK P w) a vs :=
  show ObjOk P w H h a (.dK kvs) from oh ok e
theorem oG {kvs:List (Key × V)} (ok:HOk P w H h) (e:H a=some (.dK kvs)):kvs.length≤sizeLine∧(a == sysModules)=false∧∃ vs,KV kvs vs∧h.DictOf (cK P w) a vs:=oF ok (.inl e)
end
section
variable {X:Cx} {pins:List (Addr × Obj)} {σ:St} {H:Hp} {s:Shared} {a:Addr} {y v:V} {u r:Value} {o:Option V} {A:Around} {E:Value→Shared→Prop}
end
section
variable {X:Cx} {pins:List (Addr × Obj)} {σ:St} {H:Hp} {s:Shared} {a:Addr} {kvs:List (Key × V)} {k:Key} {u:Value} {A:Around} {E:Value→Shared→Prop}
end
section
variable {X:Cx} {o i e value:Expr} {pos pos' tpos:Pos} {td ty tv:TE}
end
section
variable {X:Cx} {pos:Pos}
end
structure M1 (X:Cx) (o:Expr) (m:Str) (apos:Pos) (e:Expr) (cpos:Pos):Prop where
  base:attributeBase o m X.env (eval o X.env)=eval o X.env
  few:((backTo cpos (starEach [e] X.env)).all (fun x=>!x.1) && (backToKw cpos (keywordEach [] X.env)).all (fun x=>x.1.isSome)
    && decide (([e]:List Expr).length+([]:List Keyword).length+(if ([]:List Keyword).isEmpty then 0 else 1) < 30))=true
  line:(apos.endLine == cpos.line)=true
  trees:backTo cpos (starEach [e] X.env)=[(false,eval e X.env)]
structure M2 (X:Cx) (o:Expr) (m:Str) (apos:Pos) (e f:Expr) (cpos:Pos):Prop where
  base:attributeBase o m X.env (eval o X.env)=eval o X.env
  few:((backTo cpos (starEach [e,f] X.env)).all (fun x=>!x.1) && (backToKw cpos (keywordEach [] X.env)).all (fun x=>x.1.isSome)
    && decide (([e,f]:List Expr).length+([]:List Keyword).length+(if ([]:List Keyword).isEmpty then 0 else 1) < 30))=true
  line:(apos.endLine == cpos.line)=true
  trees:backTo cpos (starEach [e,f] X.env)=[(false,eval e X.env),(false,eval f X.env)]
section
variable {X:Cx} {pins:List (Addr × Obj)} {σ:St} {H:Hp} {s:Shared} {a:Addr} {y d:V} {u r:Value} {o:Option V} {A:Around} {E:Value→Shared→Prop}
end
section
variable {X:Cx} {o e f:Expr} {apos cpos:Pos} {td ty tx:TE}
end
section
variable {X:Cx} {pins:List (Addr × Obj)} {σ:St} {H:Hp} {s:Shared} {a:Addr} {kvs:List (Key × V)} {A:Around} {E:Value→Shared→Prop}
end
section
variable {X:Cx} {pins:List (Addr × Obj)} {σ:St} {H:Hp} {s:Shared} {a:Addr} {y:V} {u:Value} {A:Around} {E:Value→Shared→Prop}
end
open PySem PySem.Spec PyProof.Rows
section
variable {X:Cx}
end
section
variable {κ:Type} [DecidableEq κ]
end
end L2
set_option maxHeartbeats 4000000
namespace L2
open PySem PySem.Spec PyProof.Rows
theorem Inv.adopt {X:Cx} {pins:List (Addr × Obj)} {σ:St} {H:Hp} {s:Shared} {a:Addr} {o:HO} (I:Inv X pins σ H s) (hn:H a=none) (hs:X.s₀.heap.objs.size≤a) (hL:a≠X.env.locals) (hC:∀ x c,X.env.cells.lookup x=some c→c≠a) (hp:∀ p∈X.pn++pins,p.1≠a)
    (new:ObjOk X.prog X.w (upd H a o) s.heap a o):Inv X pins σ (upd H a o) s:=by
  have ne:∀ b u,X.s₀.heap.get? b=some u→b≠a:=fun b u e=>aap (aar (aak e) hs);refine ⟨I.ok,I.os,I.bare,⟨I.base.keep,I.base.slot,fun b u e n hx=>?_,I.base.there,fun b xs e=>?_,fun b u xs e=>?_,fun b ps e=>?_⟩,I.loc,I.cell,?_,fun x c e=>?_,fun p hq=>?_,fun b u e=>?_,I.len⟩
  · rw [aD (ne b u e)];exact I.base.free b u e n hx
  · have q:=I.base.tups b xs e;rw [aD (aK q hn)];exact q
  · have q:=I.base.frzs b u xs e;rw [aD (aK q hn)];exact q
  · obtain ⟨m,q⟩:=I.base.tbls b ps e;exact ⟨m,by rw [aD (aK q hn)];exact q⟩
  · rw [aD (ab0 hL)];exact I.free
  · rw [aD (hC x c e)];exact I.freeC x c e
  · obtain ⟨h1,h2,h3⟩:=I.pin p hq;exact ⟨h1,by rw [aD (hp p hq)];exact h2,h3⟩
  · by_cases hb:b=a
    · subst hb;rw [ag] at e;cases e;exact new
    · rw [aD hb] at e;exact (I.hok b u e).stay (fun c v _ q=>q) (fun c q=>by rw [aD (aK q hn)];exact q) fun c xs q=>by rw [aD (aK q hn)];exact q
def CellsIn (E:Env):List (Str × Addr)→Prop
  | []=>True
  | p :: r=>E.cells.lookup p.1=some p.2∧CellsIn E r
theorem CellsIn.get {E:Env}:∀ {cl:List (Str × Addr)} {x:Str} {c:Addr},CellsIn E cl→cl.lookup x=some c→E.cells.lookup x=some c:=by
  intro cl x c h e;have hm:=aa0 e;clear e
  induction cl with
  | nil=>exact nomatch hm
  | cons p r ih =>
    rcases aax.mp hm with q|q
    · have:=h.1;rw [← q] at this;exact this
    · exact ih h.2 q
def CapOk (XE:Env) (sc:Scope) (XN:List Str):List Str→List (Option Nat)→Prop
  | [],[]=>True
  | _ :: n,none :: c=>CapOk XE sc XN n c
  | x :: n,some i :: c=>(XN[i]?=some x∧(XE.kindOf x=some .cell∨XE.kindOf x=some .free)∧(sc.names.lookup x=some .cell∨sc.names.lookup x=some .free))∧CapOk XE sc XN n c
  | _,_=>False
def nN (σ:St) (o:Option Nat):Option V:=match o with
  | none=>none
  | some i=>(σ[i]?).join
def bi (cap:List (Option Nat)) (σ:St):St:=cap.map (nN σ)
theorem CapOk.len {XE:Env} {sc:Scope} {XN:List Str}:∀ {n:List Str} {c:List (Option Nat)},CapOk XE sc XN n c→c.length=n.length
  | [],[],_=>rfl
  | _ :: _,none :: _,h=>congrArg (·+1) (CapOk.len (n:=_) (c:=_) h)
  | _ :: _,some _ :: _,h=>congrArg (·+1) (CapOk.len h.2)
  | [],_ :: _,h=>(show False from h).elim
  | _ :: _,[],h=>(show False from h).elim
theorem CapOk.get {XE:Env} {sc:Scope} {XN:List Str} {σ:St}:∀ {n:List Str} {c:List (Option Nat)} {j:Nat} {x:Str} {v:V},CapOk XE sc XN n c→n[j]?=some x→(bi c σ)[j]?=some (some v) →
    ∃ i:Nat,XN[i]?=some x∧σ[i]?=some (some v)∧(XE.kindOf x=some .cell∨XE.kindOf x=some .free)∧(sc.names.lookup x=some .cell∨sc.names.lookup x=some .free)
  | [],[],_,_,_,_,h,_=>by simp at h
  | y :: n,none :: c,0,x,v,_,_,e=>by simp [bi,nN] at e
  | y :: n,none :: c,j+1,x,v,h,h1,e=>CapOk.get (n:=n) (c:=c) (j:=j) h (by simpa using h1) (by simpa [bi] using e)
  | y :: n,some i :: c,0,x,v,h,h1,e=>by
    simp at h1;subst h1;refine ⟨i,h.1.1,?_,h.1.2⟩;simp only [bi,nN,abQ,List.getElem?_cons_zero] at e;cases q:σ[i]? with
    | none=>rw [q] at e;simp at e
    | some w=>rw [q] at e;simp at e;rw [e]
  | y :: n,some i :: c,j+1,x,v,h,h1,e=>CapOk.get (n:=n) (c:=c) (j:=j) h.2 (by simpa using h1) (by simpa [bi] using e)
  | [],_ :: _,_,_,_,h,_,_=>(show False from h).elim
  | _ :: _,[],_,_,_,h,_,_=>(show False from h).elim
def ax (X:Cx) (scope:Scope) (cl:List (Str × Addr)) (NY:List Str) (fp:List Addr) (s:Shared) (H:Hp) (C:Addr):Cx where
  prog:=X.prog
  w:=X.w
  K:=X.K
  mg:=X.mg
  base:=X.base
  A:=X.A
  N:=NY
  s₀:=s
  H₀:=H
  env:=compEnvC scope cl C X.env
  outer:=X.stack
  stack:=X.stack
  ex:=fp
  fn:=fun _=>false
  calm:=X.calm
  pn:=[]
  xe:=fun _ _=>False
def ma (X:Cx) (ifs:List Expr) (t:TT):Prop :=
  ∀ (pins:List (Addr × Obj)) (s:Shared) (σ:St) (H:Hp) (Q:Bool→Hp→Prop),Inv X pins σ H s→t σ H Q →
    wpAny (model X.prog X.w) X.A (forIn ifs true fun c r=>if r=true then do let ok ← isTrue c X.env (eval c X.env);pure (ForInStep.yield ok) else pure (ForInStep.yield r)) (TP X pins σ Q) X.xe s
theorem bo {X:Cx}:ma X [] (fun _ H Q=>Q true H):=fun _ _ _ H _ I h=>wpAny_tests_nil ⟨H,I,h⟩
theorem iY {X:Cx} {c:Expr} {t:TT} (h:PT X c t):ma X [c] t:=fun pins s σ H Q I q=>wpAny_tests_one (h pins s σ H Q I q)
theorem gJ {prog:Program} {w:World} {A:Around} {R:Result→Shared→Prop} {s:Shared} {elt target iter:Expr} {ifs:List Expr} {scope:Scope} {pos:Pos} {it acc:Value} {env:Env} (J:Nat→Shared→Prop)
    (turn:∀ n s,J n s→wpAny (model prog w) A (pyNext it) (fun r s₁=>match r with
      | none=>R (.ok .next) s₁
      | some v=>wpAny (model prog w) A (letOwnedTupleGo target it v) (fun _ s₁'=>wpAny (model prog w) A (assign target env v) (fun _ s₂ =>
          wpAny (model prog w) A (forIn ifs true fun c r=>if r=true then do let ok ← isTrue c env (eval c env);pure (ForInStep.yield ok) else pure (ForInStep.yield r)) (fun ok s₃ =>
            if ok=true then wpAny (model prog w) A (eval elt env) (fun x s₄ =>
              wpAny (model prog w) A (call (.builtin "list.append") [acc,x]) (fun _ s₅=>∃ m,m < n∧J m s₅) (fun _ _=>False) s₄) (fun _ _=>False) s₃
            else ∃ m,m < n∧J m s₃) (fun _ _=>False) s₂) (fun _ _=>False) s₁') (fun _ _=>False) s₁) (fun _ _=>False) s)
    (n:Nat) (h:J n s) :
    codeAny (model prog w) A (.compLoop (.ListComp elt [⟨target,iter,ifs,0⟩] scope pos) 0 it acc env) R s:=by
  refine codeAny_loop rfl J (fun n s hI=>?_) n h;show wpAny _ A ((compTurn (.ListComp elt [⟨target,iter,ifs,0⟩] scope pos) 0 it acc env).onRaise (fun x=>do noteFrame x env;theTreesLotGoes x)) _ _ s;refine wpAny_noted ?_;rw [compTurn_list];refine wpAny_bind (wpAny_standAt (wpAny_bind (wpAny_mono (turn n s hI) (fun r s₁ h₁=>?_) fun _ _ h'=>h'.elim)));cases r with
  | none=>exact wpAny_pure h₁
  | some v =>
    refine wpAny_bind (wpAny_mono h₁ (fun _ s₁' h₁'=>?_) fun _ _ h'=>h'.elim);refine wpAny_bind (wpAny_mono h₁' (fun _ s₂ h₂=>wpAny_bind (wpAny_mono h₂ (fun ok s₃ h₃=>?_) fun _ _ h'=>h'.elim)) fun _ _ h'=>h'.elim);cases ok with
    | false=>exact wpAny_pure ⟨rfl,h₃⟩
    | true =>
      exact wpAny_bind (wpAny_bind (wpAny_mono h₃ (fun x s₄ h₄=>wpAny_bind (wpAny_mono h₄ (fun _ s₅ h₅=>wpAny_pure (wpAny_pure ⟨rfl,h₅⟩)) fun _ _ h'=>h'.elim)) fun _ _ h'=>h'.elim))
abbrev mS (cap:List (Option Nat)) (g:TG) (tt:TT) (te:TE) (σ:St) (Q:VK) (J:It) (H1:Hp):Prop:=∃ W:Nat→Nat→List V→Hp→Prop,(∃ m,W 0 m [] H1)∧∀ i m ys H,W i m ys H →
  (J.stop i H∧∀ p,H p=none→Q (.ref p) (upd H p (.lst ys))) ∨
  (J.go i H∧ys.length < sizeLine∧∀ x H',J.yld i H x H'→g x (bi cap σ) H' fun σ2 H2=>tt σ2 H2 fun b H3=>if b=true then te σ2 H3 fun v H4=>∃ m',m' < m∧W (i+1) m' (ys++[v]) H4 else ∃ m',m' < m∧W (i+1) m' ys H3)
def tLc (cap:List (Option Nat)) (wi:TI) (g:TG) (tt:TT) (te:TE):TE:=fun σ H Q=>wi σ H (mS cap g tt te σ Q)
section
variable {X:Cx}
theorem eE {elt tg iter:Expr} {ifs:List Expr} {scope:Scope} {pos:Pos} {cl:List (Str × Addr)} {NY:List Str} {cap:List (Option Nat)} {wi:TI} {g:TG} {tt:TT} {te:TE} (hc:X.calm=true) (hi:PI X tg iter wi)
    (hclos:closureFor scope X.env=pure cl) (hci:CellsIn X.env cl) (hcap:CapOk X.env (relabel scope X.env) X.N NY cap)
    (hb:∀ fp s H C,PG (ax X scope cl NY fp s H C) tg g∧ma (ax X scope cl NY fp s H C) ifs tt∧PE (ax X scope cl NY fp s H C) elt te)
    (hkind:scope.kind=.function:=by rfl) (hnc:(scope.names.all fun y=>y.2 != .cell)=true:=by rfl)
    (hnames:(scope.names.all fun y=>y.2 != .local || scope.names.lookup y.1 == some .local)=true:=by rfl)
    (hhas:((relabel scope X.env).names.all fun p=>(p.2 != .cell && p.2 != .free) || (cl.lookup p.1).isSome)=true:=by rfl)
    (hs:∀ x,foldedSetIterable iter X.env x=pure x:=by intro _;rfl) :
    PE X (.ListComp elt [⟨tg,iter,ifs,0⟩] scope pos) (tLc cap wi g tt te):=by
  have hnc':∀ y∈scope.names,y.2≠.cell:=fun y hy=>by
    have q:=aaW.mp hnc y hy;simpa using q
  have hnames':∀ y∈scope.names,y.2=.local→scope.names.lookup y.1=some .local:=fun y hy e=>by
    have q:=aaW.mp hnames y hy;rw [e] at q;simpa using q
  intro pins s σ H Q I h;rw [eval_ListComp];refine wpAny_comprehension_free (use:=none) rfl hs hclos hkind hnames' (wpAny_mono (hi pins s σ H _ I h) (fun v s1 h1=>wpAny_mono h1 (fun itv s2 h2=>?_) fun _ _ e=>e) fun _ _ e=>e);obtain ⟨it,fp,tn,J,H2,e,I2,T,st2,f2,W,⟨m0,w0⟩,turn⟩:=h2;subst e;refine wpAny_newObj_type (wpAny_newFunctionEnv hnc' (by intro y hy;simp at hy) (fun h₁ hns₁ hsb₁=>?_) hkind);dsimp only at hns₁ hsb₁ ⊢;generalize hH2:s2.heap.push { cls:=.type "list",dict:=none,data:=.seq ([]:List Value).toArray }=G2 at hns₁ hsb₁ ⊢;have hC:G2.objs.size=s2.heap.objs.size+1:=by rw [← hH2,Heap.size_push]
  have hDC:s2.heap.objs.size≠G2.objs.size:=by rw [hC];exact aap (Nat.lt_succ_self _)
  have hDlt:s2.heap.objs.size≤G2.objs.size:=by rw [hC];exact abZ _
  have az:∀ b,b < s2.heap.objs.size→b≠G2.objs.size∧b≠s2.heap.objs.size:=fun b hb=>⟨by rw [hC];exact aap (abl hb),aap hb⟩
  have old:∀ b o,s2.heap.get? b=some o→h₁.get? b=some o:=fun b o e=>hsb₁.extBut b o (az b (aak e)).1 (aal _ (hH2 ▸ aal _ e));have hacc:h₁.get? s2.heap.objs.size=some { cls:=.type "list",data:=.seq ([]:List Value).toArray 0 }:=hsb₁.extBut _ _ hDC (aal _ (hH2 ▸ aaA _ rfl));have fpl:∀ b∈fp,b < s2.heap.objs.size:=fun b hb=>by
    obtain ⟨o,e,_⟩:=T.obj _ _ st2 b hb;exact aak e
  have freshD:H2 s2.heap.objs.size=none:=I2.hok.fresh (aab _);have freshC:H2 G2.objs.size=none:=I2.hok.fresh hDlt;have cellLt:∀ x c,X.env.cells.lookup x=some c→c < s2.heap.objs.size:=fun x c e=>by
    obtain ⟨v,q⟩:=I2.cell x c e;exact q.lt
  have hclX:∀ x c,cl.lookup x=some c→X.env.cells.lookup x=some c:=fun x c e=>hci.get e;obtain ⟨hbg,hbt,hbe⟩:=hb fp s2 H2 G2.objs.size;have okY:(ax X scope cl NY fp s2 H2 G2.objs.size).Ok:=by
    refine ⟨I2.ok.mod,hkind,I2.ok.glob,I2.ok.blt,hDlt,fun x y c e1 e2=>I2.ok.inj x y c (hclX x c e1) (hclX y c e2),fun x hx=>?_,fun x c hf _=>?_,I2.ok.hd,I2.ok.frames,.inl rfl,fun b hb=>⟨(az b (fpl b hb)).1,fun x c e z=>?_⟩,I2.bs,
      aa5 I2.ok.bsz I2.sz,fun b o e hb=>?_,fun b hb hz=>?_,I2.stack,I2.stkFree⟩
    · have hx':(relabel scope X.env).names.lookup x=some .cell∨(relabel scope X.env).names.lookup x=some .free:=hx;have key:∀ k,(relabel scope X.env).names.lookup x=some k→(k=.cell∨k=.free)→∃ c,cl.lookup x=some c:=fun k e hk=>by
        have q:=aaW.mp hhas (x,k) (aa0 e);have q':(cl.lookup x).isSome=true:=by
          rcases hk with rfl|rfl <;> simpa using q
        exact abL.mp q'
      rcases hx' with e|e
      · exact key _ e (.inl rfl)
      · exact key _ e (.inr rfl)
    · exact absurd (show false=true from hf) aah
    · exact (f2 b hb).2.2.2.2.1 x c (hclX x c e) z
    · rcases (f2 b hb).2.2.2.1 with z|z
      · exact I2.ok.noex b o e z
      · exact absurd (aar (aak (I2.ok.bs b o e).1) z) (abr _)
    · rcases aax.mp (I2.stkSub b hz) with z|z
      · exact (f2 b hb).2.1 z
      · exact (f2 b hb).2.2.1 z
  have fpYs:∀ {H':Hp} {n:Nat} {its:List Value},(∀ b∈fp,H' b=none)→∀ b∈fp,iA (ax X scope cl NY fp s2 H2 G2.objs.size) [(s2.heap.objs.size,{ cls:=.type "list",data:=.seq its.toArray n })] H' b:=fun {H' n its} hn b hb=>by
    refine ⟨hn b hb,(az b (fpl b hb)).1,fun hz=>?_,.inl hb,fun x c e=>(f2 b hb).2.2.2.2.1 x c (hclX x c e),fun p hp=>?_⟩
    · rcases aax.mp (I2.stkSub b hz) with z|z
      · exact (f2 b hb).2.1 z
      · exact (f2 b hb).2.2.1 z
    · have e:p=(s2.heap.objs.size,{ cls:=.type "list",data:=.seq its.toArray n }):=by simpa [ax] using hp
      rw [e];exact ab0 (az b (fpl b hb)).2
  have nostk:∀ b,s2.heap.objs.size≤b→b∉frs X.stack:=fun b hb hz=>by
    rcases aax.mp (I2.stkSub b hz) with z|z
    · have:=I2.lt;rw [← z] at this;exact absurd (aar this hb) (abr _)
    · exact I2.nofs hb z
  have IY0:Inv (ax X scope cl NY fp s2 H2 G2.objs.size) [(s2.heap.objs.size,{ cls:=.type "list",data:=.seq ([]:List Value).toArray 0 })] (bi cap σ) H2 { s2 with heap:=h₁,toks:=s2.toks+([]:List (Str × Value)).length }:=by
    refine ⟨okY,rfl,I2.bare,Un.kept old,⟨_,hns₁,fun j x v e1 e2 e3=>?_⟩,fun x c e=>?_,freshC,fun x c e=>I2.freeC x c (hclX x c e),fun p hp=>?_,I2.hok.kept old,?_⟩
    · obtain ⟨i,h1,h2,h3,h4⟩:=CapOk.get (σ:=σ) hcap e1 e2;obtain ⟨m,hn,hl⟩:=I2.loc;have vis:Vis X.env.scope x:=by rcases h3 with z|z;exact .inr (.inl z);exact .inr (.inr z)
      obtain ⟨u,r,l⟩:=hl i x v h1 h2 vis;refine ⟨u,r,.inr ⟨h4,?_⟩⟩;rcases l with ⟨k,_⟩|⟨_,c,e,z⟩
      · rcases h3 with z|z <;> (rw [k] at z;cases z)
      · obtain ⟨c',e'⟩:=okY.has x h4;have e':cl.lookup x=some c':=e';have e'':=hclX x c' e';rw [e] at e'';cases e'';obtain ⟨o,ho,hd⟩:=z;exact ⟨c,e',o,old _ _ ho,hd⟩
    · obtain ⟨v,o,ho,hd⟩:=I2.cell x c (hclX x c e);exact ⟨v,o,old _ _ ho,hd⟩
    · have e:p=(s2.heap.objs.size,{ cls:=.type "list",data:=.seq ([]:List Value).toArray 0 }):=by simpa [ax] using hp
      rw [e];exact ⟨hacc,freshD,hDC,nostk _ (aab _),fun v z=>by cases z⟩
    · show (bi cap σ).length=NY.length;unfold bi;rw [aad];exact hcap.len
  have hcY:(ax X scope cl NY fp s2 H2 G2.objs.size).calm=true:=hc;have stW:tn 0 h₁:=T.keep _ _ _ st2 fun b _ o e=>old b o e;have loop:∀ s₃:Shared,s₃={ s2 with heap:=h₁,toks:=s2.toks+([]:List (Str × Value)).length } →
      codeAny (model X.prog X.w) X.A (.compLoop (.ListComp elt [⟨tg,iter,ifs,0⟩] scope pos) 0 (.ref it) (.ref s2.heap.objs.size) (compEnvC scope cl G2.objs.size X.env))
        (compPost (model X.prog X.w) X.A X.xe none (EP X pins σ Q) (.ref s2.heap.objs.size) G2.objs.size) s₃:=by
    rintro s₃ rfl;refine gJ (fun n s'=>∃ i ys its k H',Inv (ax X scope cl NY fp s2 H2 G2.objs.size) [(s2.heap.objs.size,{ cls:=.type "list",data:=.seq its.toArray k })] (bi cap σ) H' s'∧Vals ys its∧ys.length≤sizeLine∧tn i s'.heap∧(∀ b∈fp,H' b=none)∧W i n ys H') ?_ m0
      ⟨0,[],[],0,H2,IY0,.nil,aaB _,stW,fun b hb=>(f2 b hb).1,w0⟩
    rintro n s3 ⟨i,ys,its,k,H3,I3,rv,hz,st3,fr3,w3⟩;rcases turn i n ys H3 w3 with ⟨stop,qn⟩|⟨go,hlt,step⟩
    · refine wpAny_mono (T.done (ax X scope cl NY fp s2 H2 G2.objs.size) rfl rfl rfl hcY i _ s3 _ H3 (fun _ _=>False) I3 (fpYs fr3) st3 stop) (fun r s4 ⟨hr,I4⟩=>?_) fun _ _ z=>z;subst hr;obtain ⟨m,hnC,_⟩:=id I4.loc;have hnC:s4.heap.Ns G2.objs.size m:=hnC;refine ⟨m,hnC,fun h' hsb=>?_⟩;have pD:=(I4.pin (s2.heap.objs.size,{ cls:=.type "list",data:=.seq its.toArray k }) (by simp [ax]))
      have un:Un (frs X.stack) fp H2 H3 s2.heap s4.heap:=I4.base;have I5:Inv X pins σ H3 s4:=I2.call' (ch:=fp) I4.os un I4.hok I4.bare fun b hb=>⟨(f2 b hb).2.2.2.1,(f2 b hb).2.1,(f2 b hb).2.2.2.2.1,(f2 b hb).2.2.2.2.2⟩
      have cC:H3 G2.objs.size=none:=I4.free;have szX:X.s₀.heap.objs.size≤s2.heap.objs.size:=I2.sz;have I6:Inv X pins σ H3 { s4 with heap:=h' }:=I5.turned (t':=s4.toks) (it:=G2.objs.size) (fun b o hb e=>hsb.extBut b o hb e) cC (abK (aar I2.lt hDlt)) (.inr (aa5 szX hDlt))
        (fun x c e z=>absurd (cellLt x c e) (by rw [z];exact Nat.not_lt.mpr hDlt)) (fun p hp z=>absurd (aak (I2.pin p hp).1) (by rw [z];exact Nat.not_lt.mpr hDlt))
      have I7:Inv X pins σ (upd H3 s2.heap.objs.size (.lst ys)) { s4 with heap:=h' }:=I6.adopt pD.2.1 szX (abK I2.lt) (fun x c e=>aap (cellLt x c e)) (fun p hp=>aap (aak (I2.pin p hp).1))
        ⟨hz,its,k,rv,hsb.extBut _ _ hDC pD.1⟩
      exact ⟨.ref s2.heap.objs.size,_,I7,rfl,qn _ pD.2.1⟩
    · refine wpAny_mono (T.item (ax X scope cl NY fp s2 H2 G2.objs.size) rfl rfl rfl hcY i _ s3 _ H3 (fun _ _=>False) I3 (fpYs fr3) st3 go) (fun r s4 ⟨u,hr,h4⟩=>?_) fun _ _ z=>z;subst hr;refine wpAny_mono h4 (fun _ s5 ⟨x,H5,I5,r5,y5,st5,fr5⟩=>?_) fun _ _ z=>z;have I5':=I5.pinned (fpYs fr5) (T.obj _ _ st5);refine wpAny_mono (hbg _ s5 _ H5 x u _ I5' r5 (step x H5 y5)) (fun _ s6 ⟨σ6,H6,I6,q6⟩=>?_) fun _ _ z=>z;refine wpAny_mono (hbt _ s6 σ6 H6 _ I6 q6) (fun ok s7 ⟨H7,I7,q7⟩=>?_) fun _ _ z=>z;have lenY:∀ {σ':St} {pn} {H'} {s'},Inv (ax X scope cl NY fp s2 H2 G2.objs.size) pn σ' H' s'→(bi cap σ).length=σ'.length:=fun {σ' pn H' s'} Z=>IY0.len.trans Z.len.symm;have captured:∀ {σ':St} {pn} {H'} {s'},Inv (ax X scope cl NY fp s2 H2 G2.objs.size) pn σ' H' s'→Inv (ax X scope cl NY fp s2 H2 G2.objs.size) pn (bi cap σ) H' s':=fun {σ' pn H' s'} Z=>by
        refine ⟨Z.ok,Z.os,Z.bare,Z.base,?_,Z.cell,Z.free,Z.freeC,Z.pin,Z.hok,IY0.len⟩;obtain ⟨m,hn,_⟩:=Z.loc;refine ⟨m,hn,fun j x v e1 e2 e3=>?_⟩;obtain ⟨i',h1,h2,h3,h4⟩:=CapOk.get (σ:=σ) hcap e1 e2;obtain ⟨m',hn',hl⟩:=I2.loc;have vis:Vis X.env.scope x:=by rcases h3 with z|z;exact .inr (.inl z);exact .inr (.inr z)
        obtain ⟨u,r,l⟩:=hl i' x v h1 h2 vis;refine ⟨u,r,.inr ⟨h4,?_⟩⟩;rcases l with ⟨kk,_⟩|⟨_,c,e,z⟩
        · rcases h3 with z|z <;> (rw [kk] at z;cases z)
        · obtain ⟨c',e'⟩:=okY.has x h4;have e':cl.lookup x=some c':=e';have e'':=hclX x c' e';rw [e] at e'';cases e'';obtain ⟨o,ho,hd⟩:=z;have nfp:c∉fp:=fun hz=>(f2 c hz).2.2.2.2.1 x c e rfl;obtain ⟨sl,q⟩:=Z.base.any (show s2.heap.get? c=some o from ho) (I2.freeC x c e) nfp;exact ⟨c,e',_,q,hd⟩
      have again:∀ {ys':List V} {its':List Value} {k':Nat} {σ':St} {H':Hp} {s':Shared},Inv (ax X scope cl NY fp s2 H2 G2.objs.size) ([(s2.heap.objs.size,{ cls:=.type "list",data:=.seq its'.toArray k' })]++bB fp s5.heap) σ' H' s'→Vals ys' its'→ys'.length≤sizeLine →
          (∃ m',m' < n∧W (i+1) m' ys' H')→∃ m,m < n∧∃ i ys its k H',Inv (ax X scope cl NY fp s2 H2 G2.objs.size) [(s2.heap.objs.size,{ cls:=.type "list",data:=.seq its.toArray k })] (bi cap σ) H' s'∧Vals ys its∧ys.length≤sizeLine∧tn i s'.heap∧(∀ b∈fp,H' b=none)∧W i m ys H':=fun {ys' its' k' σ' H' s'} Z rv' hz' hw=>by
        obtain ⟨m',hm,w'⟩:=hw;refine ⟨m',hm,i+1,ys',its',k',H',captured Z.unpinned,rv',hz',T.keep _ _ _ st5 fun b hb o e=>(Z.pin (b,o) (aaf _ (aaf _ (bH hb e)))).1,fun b hb=>?_,w'⟩;obtain ⟨o,e,d⟩:=T.obj _ _ st5 b hb;exact (Z.pin (b,o) (aaf _ (aaf _ (bH hb e)))).2.1
      cases ok with
      | false =>
        rw [if_neg aah] at q7 ⊢;exact again I7 rv hz q7
      | true =>
        rw [if_pos rfl] at q7 ⊢;refine wpAny_mono (hbe _ s7 σ6 H7 _ I7 q7) (fun xv s8 ⟨v,H8,I8,r8,q8⟩=>?_) fun _ _ z=>z;have pD:=I8.pin (s2.heap.objs.size,{ cls:=.type "list",data:=.seq its.toArray k }) (by simp [ax]);have hlen:=rv.length;refine append_at pD.1 (fun h9 hs9 hD9=>?_) (by rw [aac];omega);have I9:Inv (ax X scope cl NY fp s2 H2 G2.objs.size) (bB fp s5.heap) σ6 H8 s8:=I8.pins_of fun p hp=>I8.pin p (aaf _ (aaf _ hp));have I10:Inv (ax X scope cl NY fp s2 H2 G2.objs.size) (bB fp s5.heap) σ6 H8 { s8 with heap:=h9 }:=I9.turned (t':=s8.toks) (it:=s2.heap.objs.size) (fun b o hb e=>hs9.extBut b o hb e) pD.2.1 hDC (.inr (aab _))
          (fun x c e=>aap (cellLt x c (hclX x c e))) fun p hp=>by
            have hp':p∈bB fp s5.heap:=by simpa [ax] using hp
            exact ab0 (ab0 (az _ (fpl _ (fc hp').1)).2)
        have I11:Inv (ax X scope cl NY fp s2 H2 G2.objs.size) ([(s2.heap.objs.size,{ cls:=.type "list",data:=.seq (its++[xv]).toArray (k+1) })]++bB fp s5.heap) σ6 H8 { s8 with heap:=h9 }:=I10.pins_of fun p hp=>by
          rcases aaE.mp hp with z|z
          · have e:p=(s2.heap.objs.size,{ cls:=.type "list",data:=.seq (its++[xv]).toArray (k+1) }):=by simpa using z
            rw [e];refine ⟨?_,pD.2.1,hDC,nostk _ (aab _),fun v z=>by cases z⟩;rw [List.push_toArray] at hD9;exact hD9
          · exact I10.pin p (aaf _ z)
        exact again I11 (rv.append (.cons r8 .nil)) (by rw [aat,abq];exact hlt) q8
  exact codeAny_compStart_list (loop _ rfl) (T.self _ 0 _ _ _ stW (loop _ rfl))
end
open PySem PySem.Spec PyProof.Rows
section
variable {X:Cx}
theorem aV {n:String}:di X (.builtin "isinstance") (fun xs H Q=>∃ x t b,xs=[x,.ty n]∧TyOf X.K H x t∧PySem.W.kitOne X.K t (.type n)=some b∧Q (.bl b) H):=by
  intro pins s σ H xs us Q I r h;obtain ⟨x,t,b,rfl,ty,e,q⟩:=h;obtain ⟨u,w',rfl,rx,rt⟩:=kT r;cases rt;exact kN I rx ty e fun tk=>⟨.bl b,H,I.tok _,rfl,q⟩
theorem cB:OpR X (binaryOp .FloorDiv) (rI (fun _ j=>0 < j∧j < 2 ^ 64) fun i j=>.int (i / j)):=opI fun i j _ _ _ _ _ hc q=>by
  have h1:(0:Int) < j:=hc.1;have h2:j < 2 ^ 64:=hc.2;refine floordiv_int (by omega) (by rw [Int.fdiv_eq_ediv_of_nonneg i (by omega)];exact q) (.inl (PyProof.noPylong_of_log2 ?_));have h3:j.natAbs < 2 ^ 64:=by omega
  have h4:j.natAbs≠0:=by omega
  have h5:j.natAbs.log2 < 64:=(Nat.log2_lt h4).mpr h3;omega
def Cal (P:Program) (w:World) (K:aaa) (mg:Str→Option Value) (base:Heap) (x:Str) (k:Nat) (ps:List Str) (sp:Sp):Prop :=
  ∃ f fd,FnOk P w K mg base CX0 k f fd ps sp∧Binds K fd ps []∧abe K (.ref f)=true∧mg x=some (.ref f)
theorem ai {x:Str} {k k':Nat} {ps:List Str} {sp:Sp} {e:Expr} {es:List Expr} {t:TA} {p pos:Pos} (C:Cal X.prog X.w X.K X.mg X.base x k ps sp) (hr:Room k' X.A) (hk:k≤k') (hg:Gl X x) (ha:PA X (e :: es) t)
    (hdb:(x == ("__debug__":Str))=false:=by decide) (he:starEach (e :: es) X.env=(false,eval e X.env) :: starEach es X.env:=by rfl) (hpl:(backTo pos (starEach es X.env)).any (·.1)=false:=by rfl) :
    PE X (.Call (.Name x p) (e :: es) [] pos) (mU sp [] E0 t):=by
  obtain ⟨f,fd,F,b,kp,m⟩:=C;exact mD F (hr.mono hk) hg m kp b .nil om ha hdb he hpl
end
theorem Same.new {H:Hp} {p:Addr} (h:H p=none) (o:HO):Same H (upd H p o):=fun b u q=>by rw [aD (aK q h)];exact q
def But (w:Addr) (H H':Hp):Prop:=∀ b o,b≠w→H b=some o→H' b=some o
theorem But.refl {w:Addr} {H:Hp}:But w H H:=fun _ _ _ h=>h
theorem But.trans {w:Addr} {H H1 H2:Hp} (a:But w H H1) (b:But w H1 H2):But w H H2:=fun c o n h=>b c o n (a c o n h)
theorem But.of {w:Addr} {H H':Hp} (a:Same H H'):But w H H':=fun c o _ h=>a c o h
theorem But.new {w:Addr} {H:Hp} {p:Addr} (h:H p=none) (o:HO):But w H (upd H p o):=But.of (Same.new h o)
theorem But.put {w:Addr} {H:Hp} {o:HO}:But w H (upd H w o):=fun b u n q=>by rw [aD n];exact q
end L2
namespace Srt
open PySem PySem.W PyProof.Rows
def run {α:Type} (lt:Nat→Nat→Bool):KasT α→α
  | .ret a=>a
  | .ask i j k=>run lt (k (lt i j))
section
variable (key:Nat→Int)
abbrev lt:Nat→Nat→Bool:=fun i j=>decide (key i < key j)
def kp (p:Array Nat) (x:Nat):Int:=key (p.getD x 0)
def Up (p:Array Nat) (m:Nat):Prop:=∀ i j,i < j→j < m→kp key p i < kp key p j
variable {key}
end
end Srt
namespace Srt
open PySem PySem.W PyProof.Rows
def Ent (n:Nat) (p:Array Nat):Prop:=∀ x,p.getD x 0 < n
section
variable {prog:Program} {w:World} {A:Around} {E:Value→Shared→Prop} {s:Shared}
theorem jv {a:Addr} {vs:List Value} {n:Nat} {P:PySem.Fin→Shared→Prop} (hoL:s.heap.get? a=some (seqObj "list" vs.toArray n)) (h2:vs.length < 2)
    (h:P (.done (.ret .none)) { s with heap:=sortedHeap s.heap a vs ((pairsOf vs).map (·.2)) }):wpAny (model prog w) A (Builtin.«list.sort» ⟨[.ref a],[]⟩) P E s:=by
  have hz:vs.length≤sizeLine:=by rw [sizeLine_eq];omega
  have ha:a < s.heap.objs.size:=aak hoL;rw [list_sort_plain];refine wpAny_bind (listItems_at hoL rfl (wpAny_bind (listUpdate_at hoL rfl ?_ (by rw [aac];exact hz) (aaB _))));obtain ⟨e1,ho1⟩:∃ e1,(s.heap.update a (aa1 fun _=>(#[]:Array Value))).get? a=some (seqObj "list" #[] e1):=⟨_,get?_update_seq hoL fun _=>#[]⟩
  refine wpAny_bind (seqEpoch_at ho1 rfl (wpAny_bind (wpAny_newTuple (wpAny_bind (wpAny_newList (wpAny_holding ?_) (aaB _))) hz)));have ho6:(((s.heap.update a (aa1 fun _=>(#[]:Array Value))).push (seqObj "tuple" vs.toArray 0)).push (seqObj "list" #[] 0)).get? a=some (seqObj "list" #[] e1):=by
    rw [abc _ _ _ (by rw [size_push',abi];exact aap (abl ha)),abc _ _ _ (by rw [abi];exact aap ha)];exact ho1
  show wpAny (model prog w) A _ P E { s with heap:=(((s.heap.update a (aa1 fun _=>#[])).push (seqObj "tuple" vs.toArray 0)).push (seqObj "list" #[] 0)) };dsimp only;have hs2:vs.toArray.size < 2:=by rw [aac];exact h2
  rw [if_pos hs2,if_pos hs2];refine wpAny_bind (wpAny_pure ?_);rw [StateT.run_pure];refine wpAny_bind (wpAny_pure ?_);dsimp only;refine wpAny_bind (seqEpoch_at ho6 rfl (wpAny_bind (listUpdate_at ho6 rfl ?_ (aaB _) (by rw [Array.size_map];show (pairsOf vs).size≤_;rw [pairsOf_size];omega))));simp only [bne_self_eq_false,abg,if_false];exact wpAny_pure h
theorem sorted_small {l:Addr} {vs:List Value} {Q:Value→Shared→Prop} (hl:s.heap.IsList l vs.toArray) (h2:vs.length < 2)
    (h:Q (.ref (s.heap.objs.size+1)) { s with heap:=sortedAll s.heap vs ((pairsOf vs).map (·.2)) }):wpAny (model prog w) A (call (.builtin "sorted") [.ref l]) Q E s:=by
  have hz:vs.length≤sizeLine:=by rw [sizeLine_eq];omega
  apply Calls.call_function_entry kind_sorted plain_sorted entry_sorted (args_sorted1 _);unfold Builtin.«sorted»;refine wpAny_bind (m:=checkCount "sorted" 1 1 _) (wpAny_pure (wpAny_bind (collect_list hl (wpAny_bind (wpAny_newList ?_ hz)) hz)));have e0:((s.heap.push (seqObj "list" #[] 0)).update s.heap.objs.size (aa1 (·++vs.toArray))).objs.size=s.heap.objs.size+1:=by rw [abi,size_push']
  have hoL:(((s.heap.push (seqObj "list" #[] 0)).update s.heap.objs.size (aa1 (·++vs.toArray))).push (seqObj "list" vs.toArray 0)).get? (s.heap.objs.size+1)=some (seqObj "list" vs.toArray 0):=by rw [← e0];exact aaA _ rfl
  show wpAny _ _ _ _ _ { s with heap:=(((s.heap.push (seqObj "list" #[] 0)).update s.heap.objs.size (aa1 (·++vs.toArray))).push (seqObj "list" vs.toArray 0)) };rw [e0];refine wpAny_bind (wpAny_holding (wpAny_call_entry slot_list_sort ⟨_,hoL,rfl⟩ entry_list_sort (jv hoL h2 ⟨_,rfl,wpAny_pure ⟨_,rfl,h⟩⟩) (args_list_sort _)))
end
end Srt
set_option maxHeartbeats 2000000
namespace L2
open PySem PySem.Spec PyProof.Rows
inductive EqR (K:aaa) (H:Hp):Nat→V→V→Bool→Prop
  | flat {n:Nat} {x y:V} (fx:dA x=true) (fy:dA y=true):EqR K H n x y (eqV x y)
  | lens {n:Nat} {a b:Addr} {xs ys:List V} (ha:SqL K H a xs) (hb:SqL K H b ys) (hl:xs.length≠ys.length):EqR K H (n+1) (.ref a) (.ref b) false
  | lst {n:Nat} {a b:Addr} {xs ys:List V} {e:Nat→Bool} (ha:SqL K H a xs) (hb:SqL K H b ys) (hl:xs.length=ys.length) (h:∀ (j:Nat) x y,xs[j]?=some x→ys[j]?=some y→EqR K H n x y (e j)):EqR K H (n+1) (.ref a) (.ref b) ((aaR xs.length).all e)
  | tup {n:Nat} {a b:Addr} {xs ys:List V} {e:Nat→Bool} (ha:SqT K H a xs) (hb:SqT K H b ys) (h:∀ (j:Nat) x y,xs[j]?=some x→ys[j]?=some y→EqR K H n x y (e j)) :
      EqR K H (n+1) (.ref a) (.ref b) ((aaR (min xs.length ys.length)).all e && xs.length == ys.length)
theorem jg {x:V} (f:dA x=true):eqV x x=true:=by
  cases x <;> first|rfl|(simp [eqV];done)|exact absurd (show false=true from f) aah
section
variable {X:Cx} {pins:List (Addr × Obj)} {σ:St} {H:Hp} {s:Shared}
theorem EqR.self (I:Inv X pins σ H s) {n:Nat} {x y:V} {b:Bool} (h:EqR X.K H n x y b):x=y→b=true:=by
  induction h with
  | flat fx fy=>intro e;subst e;exact jg fx
  | lens ha hb hl =>
    intro e;injection e with e;subst e
    exact absurd (by rw [I.list_inj ha hb]) hl
  | @lst n a b xs ys e ha hb hl h ih =>
    intro q;injection q with q;subst q
    obtain rfl:=I.list_inj ha hb;rw [aaW];intro j hj;have hj':j < xs.length:=abu.mp hj;exact ih j _ _ (aae hj') (aae hj') rfl
  | @tup n a b xs ys e ha hb h ih =>
    intro q;injection q with q;subst q
    obtain rfl:=I.tuple_inj ha hb;rw [abo,aaW];refine ⟨fun j hj=>?_,beq_self_eq_true _⟩;have hj':j < xs.length:=by have:=abu.mp hj;omega
    exact ih j _ _ (aae hj') (aae hj') rfl
theorem aN {xs:List V} {its:List Value} (r:Vals xs its) {j:Nat} (h:j < its.toArray.size):∃ x,xs[j]?=some x∧RelV x its.toArray[j]:=by
  have hl:=r.length;have h':j < xs.length:=by rw [hl];simpa using h
  obtain ⟨u,hu,ru⟩:=r.get (aae h');refine ⟨_,aae h',?_⟩;have e:its.toArray[j]=u:=by
    have : its[j]?=some u:=hu;rw [aae (by simpa using h)] at this;simpa using aaN this
  rw [e];exact ru
theorem EqR.at (I:Inv X pins σ H s) {n:Nat} {x y:V} {b:Bool} (h:EqR X.K H n x y b):∀ {A:Around} {u v:Value},RelV x u→RelV y v→A.units+n < cLine→SeqAt.EqAt A s u v b:=by
  induction h with
  | flat fx fy=>intro A u v rx ry hu;exact lQ rx ry fx fy
  | @lens n a b xs ys ha hb hl =>
    intro A u v rx ry hu;cases rx;cases ry;obtain ⟨its,r,pl,_⟩:=I.list ha;obtain ⟨its2,r2,pl2,_⟩:=I.list hb;have ne:a≠b:=fun e=>by subst e;exact hl (by rw [I.list_inj ha hb])
    refine .of_refs ne (.lists_lengths pl.isList pl2.isList ?_ (by omega));rw [aac,aac,← r.length,← r2.length];exact bne_iff_ne.mpr hl
  | @lst n a b xs ys e ha hb hl h ih =>
    intro A u v rx ry hu;by_cases q:a=b
    · have:=(EqR.lst ha hb hl h).self I (by rw [q]);cases rx;cases ry;rw [this];subst q;exact SeqAt.EqAt.same _
    · cases rx;cases ry;obtain ⟨its,r,pl,_⟩:=I.list ha;obtain ⟨its2,r2,pl2,_⟩:=I.list hb;have e1:its.toArray.size=xs.length:=by rw [aac,r.length]
      rw [← e1];refine .of_refs q (.lists pl.isList pl2.isList (by rw [aac,aac,← r.length,← r2.length];exact hl) (by omega) fun j h1 h2=>?_);obtain ⟨x,hx,rx⟩:=aN r h1;obtain ⟨y,hy,ry⟩:=aN r2 h2;exact ih j x y hx hy rx ry (by show A.units+1+n < cLine;omega)
  | @tup n a b xs ys e ha hb h ih =>
    intro A u v rx ry hu;by_cases q:a=b
    · have:=(EqR.tup ha hb h).self I (by rw [q]);cases rx;cases ry;rw [this];subst q;exact SeqAt.EqAt.same _
    · cases rx;cases ry;obtain ⟨its,r,pl,_⟩:=I.tuple ha;obtain ⟨its2,r2,pl2,_⟩:=I.tuple hb;have e1:its.toArray.size=xs.length:=by rw [aac,r.length]
      have e2:its2.toArray.size=ys.length:=by rw [aac,r2.length]
      rw [← e1,← e2];refine .of_refs q (.tuples pl pl2 (by omega) fun j h1 h2=>?_);obtain ⟨x,hx,rx⟩:=aN r h1;obtain ⟨y,hy,ry⟩:=aN r2 h2;exact ih j x y hx hy rx ry (by show A.units+1+n < cLine;omega)
def oj (K:aaa) (neg:Bool):R2:=fun x y H Q=>∃ n a b xs ys,n≤60∧x=.ref a∧y=.ref b∧SqL K H a xs∧SqL K H b ys ∧
  ((xs.length≠ys.length∧Q (.bl neg) H)∨∃ e:Nat→Bool,xs.length=ys.length∧(∀ (j:Nat) x y,xs[j]?=some x→ys[j]?=some y→EqR K H n x y (e j))∧Q (.bl (if neg then !(aaR xs.length).all e else (aaR xs.length).all e)) H)
theorem jB (hu:X.A.units+64 < cLine):OpR X (compareOp .NotEq) (oj X.K true):=by
  intro pins s σ H x y v u Q I rx ry h;obtain ⟨n,a,b,xs,ys,hn,rfl,rfl,ha,hb,h⟩:=h;cases rx;cases ry;obtain ⟨its,r,pl,_⟩:=I.list ha;obtain ⟨its2,r2,pl2,_⟩:=I.list hb;have e1:its.toArray.size=xs.length:=by rw [aac,r.length]
  have e2:its2.toArray.size=ys.length:=by rw [aac,r2.length]
  rcases h with ⟨hl,q⟩|⟨e,hl,he,q⟩
  · exact SeqAt.RcNeAt.lists_lengths pl.isList pl2.isList (by rw [e1,e2];exact bne_iff_ne.mpr hl) (by omega) _ _ _ _ ⟨.bl true,H,I,rfl,q⟩
  · refine SeqAt.RcNeAt.lists (e:=e) pl.isList pl2.isList (by rw [e1,e2];exact hl) (by omega) (fun j h1 h2=>?_) _ _ _ _ ?_
    · obtain ⟨x,hx,rx⟩:=aN r h1;obtain ⟨y,hy,ry⟩:=aN r2 h2;exact (he j x y hx hy).at I rx ry (by show X.A.units+1+n < cLine;omega)
    · rw [e1];exact ⟨.bl _,H,I,rfl,q⟩
end
open PySem PySem.Spec PyProof.Rows
section
variable {X:Cx}
end
open PySem PySem.Spec PyProof.Rows
section
variable {X:Cx} {K:aaa}
theorem iw {n:String} (hK:X.K=K):di X (.builtin "isinstance") (fun xs H Q=>∃ x t b,xs=[x,.ty n]∧TyOf K H x t∧PySem.W.kitOne K t (.type n)=some b∧Q (.bl b) H):=by subst hK;exact aV
theorem mB {es:List Expr} {k:Nat} {pos:Pos} {t:TGs} {n:Nat} (hK:X.K=K) (hc:X.calm=true) (h:PGs X es t)
    (hn:(assignEach es X.env).length=n:=by rfl) (hst:(assignEach es X.env).findIdx? (·.1)=none:=by rfl):PG X (.Tuple es k pos) (oB K n t):=by subst hK;exact dw hc h hn hst
end
def Nxt (n i:Nat) (P:Prop):Prop:=∃ m',m' < n - i∧m'=n - (i+1)∧i+1≤n∧P
theorem fX {lo:Int} {n:Nat} {cap:List (Option Nat)} {g:TG} {tt:TT} {te:TE} {σ:St} {H:Hp} {Q:VK} (Pv:Nat→List V→Hp→Prop) (h0:Pv 0 [] H) (hl:∀ i ys H,i≤n→Pv i ys H→ys.length < sizeLine)
    (hs:∀ i ys H,i < n→Pv i ys H→(∀ {P:Prop},P→Nxt n i P)→g (.int (lo+i)) (bi cap σ) H fun σ2 H2=>tt σ2 H2 fun b H3=>if b=true then te σ2 H3 fun v H4=>Nxt n i (Pv (i+1) (ys++[v]) H4) else Nxt n i (Pv (i+1) ys H3)) (hd:∀ ys H,Pv n ys H→∀ p,H p=none→Q (.ref p) (upd H p (.lst ys))) :
    mS cap g tt te σ Q (Itr lo n) H:=by
  refine ⟨fun i m ys H=>m=n - i∧i≤n∧Pv i ys H,⟨n,by simp,aaB _,h0⟩,?_⟩;rintro i m ys H ⟨rfl,hi,p⟩;have q:=hl i ys H hi p;by_cases hlt:i < n
  · refine .inr ⟨hlt,q,fun x H' y=>?_⟩;obtain ⟨e,y⟩:=y;subst e y;exact hs i ys _ hlt p fun h=>⟨_,by omega,rfl,hlt,h⟩
  · have e:i=n:=by omega
    subst e;exact .inl ⟨aab _,hd ys H p⟩
open PySem PySem.Spec PyProof.Rows
def ot:Key→PyData
  | .inl i=>.int i
  | .inr x=>.str x
mutual
def Dat (H:Hp):PyData→V→Prop
  | .none,v=>v=.non
  | .bool b,v=>v=.bl b
  | .int i,v=>v=.int i
  | .str x,v=>v=.str x
  | .list ds,v=>∃ a xs,v=.ref a∧H a=some (.lst xs)∧DatAll H ds xs
  | .tuple ds,v=>∃ a xs,v=.ref a∧H a=some (.tup xs)∧DatAll H ds xs
  | .dict kvs,v=>∃ a ks,v=.ref a∧H a=some (.dK ks)∧DatKv H kvs ks
def DatAll (H:Hp):List PyData→List V→Prop
  | [],vs=>vs=[]
  | d :: ds,vs=>∃ v r,vs=v :: r∧Dat H d v∧DatAll H ds r
def DatKv (H:Hp):List (PyData × PyData)→List (Key × V)→Prop
  | [],ks=>ks=[]
  | (k,d) :: r,ks=>∃ q v t,ks=(q,v) :: t∧k=ot q∧Dat H d v∧DatKv H r t
end
section
variable {X:Cx} {pins:List (Addr × Obj)} {σ:St} {H:Hp} {s:Shared}
theorem Inv.nosys (I:Inv X pins σ H s) {a:Addr} {o:HO} (h:H a=some o):a≠sysModules:=fun e=>by
  obtain ⟨mm,ob,es,ep,g,_⟩:=I.mod.sysm;have:=(I.bs _ _ g).2;rw [← e,h] at this;cases this
theorem kM {P:Program} {w:World} {h:Heap} {q:Key} {v:Value} (e:(cK P w).is q v=true):Reads h v (ot q) []:=by
  rw [jH] at e;rcases aR e with ⟨i,t,rfl,rfl⟩|⟨x,t,rfl,rfl⟩
  · exact .int i t
  · exact .str x t
mutual
theorem Dat.reads (I:Inv X pins σ H s):∀ (d:PyData) (v:V) (u:Value),Dat H d v→RelV v u→∃ as,Reads s.heap u d as∧sysModules∉as
  | .none,v,u,h,r=>by
    simp only [Dat] at h;subst h;cases r;exact ⟨_,.none,by simp⟩
  | .bool b,v,u,h,r=>by
    simp only [Dat] at h;subst h;cases r;exact ⟨_,.bool b,by simp⟩
  | .int i,v,u,h,r=>by
    simp only [Dat] at h;subst h;obtain ⟨t,rfl⟩:=r;exact ⟨_,.int i t,by simp⟩
  | .str x,v,u,h,r=>by
    simp only [Dat] at h;subst h;obtain ⟨t,rfl⟩:=r;exact ⟨_,.str x t,by simp⟩
  | .list ds,v,u,h,r=>by
    simp only [Dat] at h;obtain ⟨a,xs,rfl,hr,hd⟩:=h;cases r;obtain ⟨its,rv,⟨o,n,e1,e2,_,e3⟩,_⟩:=I.list (SqL.of hr);obtain ⟨as,ra,na⟩:=DatAll.reads I ds xs its hd rv;have ho:=hr;refine ⟨_,.list e1 e2 e3 (by simpa using ra),fun z=>?_⟩;rcases aax.mp z with z|z
    · exact I.nosys ho z.symm
    · exact na z
  | .tuple ds,v,u,h,r=>by
    simp only [Dat] at h;obtain ⟨a,xs,rfl,hr,hd⟩:=h;cases r;obtain ⟨its,rv,⟨o,e1,e2,n,e3⟩,_⟩:=I.tuple (SqT.of hr);obtain ⟨as,ra,na⟩:=DatAll.reads I ds xs its hd rv;exact ⟨_,.tuple e1 e2 e3 (by simpa using ra),na⟩
  | .dict kvs,v,u,h,r=>by
    simp only [Dat] at h;obtain ⟨a,ks,rfl,hr,hd⟩:=h;cases r;obtain ⟨_,_,vs,rel,o,es,ep,e1,ex,e3,_,pr,_⟩:=oG I.hok hr;obtain ⟨as,bs,ra,rb,na,nb⟩:=DatKv.reads I kvs ks vs es.toList hd rel pr;have ho:=hr;refine ⟨_,.dict e1 ex.1 e3 ra rb,fun z=>?_⟩;rcases aaE.mp z with z|z
    · rcases aax.mp z with z|z
      · exact I.nosys ho z.symm
      · exact na z
    · exact nb z
theorem DatAll.reads (I:Inv X pins σ H s):∀ (ds:List PyData) (vs:List V) (us:List Value),DatAll H ds vs→Vals vs us→∃ as,ReadsAll s.heap us ds as∧sysModules∉as
  | [],vs,us,h,r=>by
    simp only [DatAll] at h;subst h;cases r;exact ⟨_,.nil,by simp⟩
  | d :: ds,vs,us,h,r=>by
    simp only [DatAll] at h;obtain ⟨v,t,rfl,h1,h2⟩:=h;cases r with
    | cons r1 r2 =>
      obtain ⟨as,ra,na⟩:=Dat.reads I d v _ h1 r1;obtain ⟨bs,rb,nb⟩:=DatAll.reads I ds t _ h2 r2;exact ⟨_,.cons ra rb,fun z=>(aaE.mp z).elim na nb⟩
theorem DatKv.reads (I:Inv X pins σ H s):∀ (kvs:List (PyData × PyData)) (ks:List (Key × V)) (vs:List (Key × Value)) (es:List DictEntry),DatKv H kvs ks→KV ks vs→Pairs (cK X.prog X.w) es vs →
    ∃ as bs,ReadsAll s.heap (es.map (·.key)) (kvs.map (·.1)) as∧ReadsAll s.heap (es.map (·.val)) (kvs.map (·.2)) bs∧sysModules∉as∧sysModules∉bs
  | [],ks,vs,es,h,r,p=>by
    simp only [DatKv] at h;subst h;cases r;cases p;exact ⟨_,_,.nil,.nil,by simp,by simp⟩
  | (k,d) :: kr,ks,vs,es,h,r,p=>by
    simp only [DatKv] at h;obtain ⟨q,v,t,rfl,rfl,h1,h2⟩:=h;cases r with
    | cons r1 r2 =>
      cases p with
      | cons p1 p2 p3 =>
        obtain ⟨rk,rv⟩:=r1;obtain ⟨as,bs,ra,rb,na,nb⟩:=DatKv.reads I kr t _ _ h2 r2 p3;obtain ⟨cs,rc,nc⟩:=Dat.reads I d v _ h1 rv;have rk':q=_:=rk;subst rk';have kd:=kM (h:=s.heap) p1;refine ⟨[]++as,cs++bs,.cons kd ra,.cons (by dsimp only;rw [p2];exact rc) rb,by simpa using na,fun z=>(aaE.mp z).elim nc nb⟩
end
theorem b_ (hg:X.A.guards=some []) (hu:X.A.units+64 < cLine):di X (.builtin "repr") (fun xs H Q=>∃ x d,xs=[x]∧Dat H d x∧d.showable=true∧d.depth≤60∧d.shown.length≤sizeLine∧Q (.str d.shown) H):=by
  intro pins s σ H xs us Q I r h;obtain ⟨x,d,rfl,hd,hs,hdp,hl,q⟩:=h;obtain ⟨u,rfl,ru⟩:=eh r;have key:∀ a,u=.ref a→wpAny (model X.prog X.w) X.A (call (.builtin "repr") [u]) (EP X pins σ Q) X.xe s:=fun a e=>by
    subst e;obtain ⟨as,ra,na⟩:=Dat.reads I d x _ hd ru;refine repr_of_reads' ra hs (fun _=>na) hg (by omega) (fun _ _ e=>e) (fun h' u tk hk=>?_) hl;exact ⟨.str d.shown,H,I.kept hk,⟨u,rfl⟩,q⟩
  cases d with
  | none =>
    simp only [Dat] at hd;subst hd;cases ru;rw [PyData.shown_none] at q;exact PySem.P.repr_of_none ⟨.str "None",H,I.tok _,⟨_,rfl⟩,q⟩
  | bool b =>
    simp only [Dat] at hd;subst hd;cases ru;rw [PyData.shown_bool] at q;exact PySem.P.repr_of_bool ⟨.str _,H,I.tok _,⟨_,rfl⟩,q⟩
  | int i =>
    simp only [Dat] at hd;subst hd;obtain ⟨t,rfl⟩:=ru;rw [PyData.shown_int] at q;exact PySem.P.repr_of_int (by simpa [PyData.showable] using hs) ⟨.str _,H,I.tok _,⟨_,rfl⟩,q⟩
  | str z =>
    simp only [Dat] at hd;subst hd;obtain ⟨t,rfl⟩:=ru;rw [PyData.shown_str] at q hl;exact PySem.P.repr_of_str ⟨.str _,H,I.tok _,⟨_,rfl⟩,q⟩ hl
  | list ds =>
    have hd':=hd;simp only [Dat] at hd';obtain ⟨a,_,rfl,_⟩:=hd';exact key a ru
  | tuple ds =>
    have hd':=hd;simp only [Dat] at hd';obtain ⟨a,_,rfl,_⟩:=hd';exact key a ru
  | dict kvs =>
    have hd':=hd;simp only [Dat] at hd';obtain ⟨a,_,rfl,_⟩:=hd';exact key a ru
end
open PySem PySem.Spec PyProof.Rows
section
variable {X:Cx}
def o5 (neg:Bool):R2:=fun x y H Q=>∃ d e,Dat H d x∧Dat H e y∧d.canLay0=true∧e.canLay0=true∧d.depth≤60∧Q (.bl (if neg then !PyData.eqv d e else PyData.eqv d e)) H
theorem ny (hu:X.A.units+64 < cLine):OpR X (compareOp .Eq) (o5 false):=by
  intro pins s σ H x y v u Q I rx ry h;obtain ⟨d,e,hd,he,cd,ce,dp,q⟩:=h;obtain ⟨as,ra,_⟩:=Dat.reads I d x _ hd rx;obtain ⟨bs,rb,_⟩:=Dat.reads I e y _ he ry;exact PySem.SeqAt.compareEq_reads ra rb cd ce (by omega) ⟨.bl _,H,I,rfl,q⟩
theorem eJ:MtR X "str.index" (fun x vs H Q=>∃ z y i ba,x=.str z∧vs=[.str y]∧aa2 z y 0 z.length 1=i :: ba∧Q (.int (i:Nat)) H):=by
  intro pins s σ H x vs v us Q I rx rv h;obtain ⟨z,y,i,ba,rfl,rfl,ho,q⟩:=h;obtain ⟨t,rfl⟩:=rx;obtain ⟨u,rfl,ru⟩:=eh rv;obtain ⟨t2,rfl⟩:=ru;exact PySem.SC.index ho ⟨.int (i:Nat),H,I.tok _,⟨_,rfl⟩,q⟩
end
open PySem PySem.Spec PyProof.Rows
theorem Inv.turnedL {X:Cx} {pins:List (Addr × Obj)} {σ:St} {H:Hp} {s:Shared} {h':Heap} {t':Nat} {fp:List Addr} (I:Inv X pins σ H s) (k:∀ b o,b∉fp→s.heap.get? b=some o→h'.get? b=some o) (hf:∀ b∈fp,iA X pins H b):Inv X pins σ H { s with heap:=h',toks:=t' }:=by
  have nit:∀ b u,H b=some u→b∉fp:=fun b u e z=>by rw [(hf b z).1] at e;cases e
  refine I.step (g':=s.gens) (d':=s.drawn) (ch:=fp) (fun b hb=>⟨(hf b hb).2.2.2.1,(hf b hb).2.1,(hf b hb).2.2.2.2.1,(hf b hb).2.2.2.2.2⟩) (fun b o _ _ hc e _=>k b o hc e) (fun b o _ _ hc e _=>⟨o.slots,k b o hc e⟩) (fun _ _ _ _ n=>n)
    (fun b o hc e=>⟨o,k b o hc e⟩) (fun _ _ e=>e) (fun _ _ _ e=>e) (fun b ps e=>⟨#[],by rw [e];simp⟩) (fun m hm=>?_) (fun b u e=>?_) I.bare
  · obtain ⟨o,es,ep,ho,r⟩:=hm;exact ⟨o,es,ep,k _ o (fun z=>(hf _ z).2.1 rfl) ho,r⟩
  · refine (I.hok b u e).stay (fun c v hc q=>k c v ?_ q) (fun _ q=>q) fun _ _ q=>q;rcases hc with z|z
    · rw [z];exact nit b u e
    · exact nit c _ z
def md (K:aaa) (a:Addr):It :=
  ⟨fun i H=>∃ xs x,SqL K H a xs∧xs[i]?=some x,fun i H x H'=>∃ p y,H p=none∧x=.ref p∧H'=upd H p (.tup [.int i,y])∧∀ xs,SqL K H a xs→xs[i]?=some y,fun i H=>∃ xs,SqL K H a xs∧xs.length≤i⟩
theorem ki {P:Program} {w:World} {K:aaa} {elts:List Expr} {k:Nat} {pos:Pos} (a e it:Addr) (hei:e≠it):Turn P w K (.Tuple elts k pos) (md K a) [e,it] e (fun i h=>(∃ old,IsEnum h e it i old)∧h.IsListIter it a i) where
  mem:=by simp
  obj:=fun i h st b hb=>by
    obtain ⟨⟨old,he⟩,o,e1,c,d⟩:=st;rcases aax.mp hb with z|z
    · subst z;exact ⟨_,he,fun v z=>by cases z⟩
    · have z:b=it:=by simpa using z
      subst z;exact ⟨o,e1,fun v z=>by rw [d] at z;cases z⟩
  keep:=fun i h h' st kp=>⟨let ⟨old,he⟩:=st.1;⟨old,kp e (by simp) _ he⟩,st.2.at fun o x=>kp it (by simp) o x⟩
  item:=by
    intro X hP hw hK hc i pins s σ H E I hf st hg;subst hP hw hK;obtain ⟨xs,x,hq,hx⟩:=hg;obtain ⟨its,rv,p,hz⟩:=I.list hq;obtain ⟨u,hu,ru⟩:=rv.get hx;obtain ⟨⟨old,he⟩,hit⟩:=st;have helt:e < s.heap.objs.size:=aak he;have hilt:it < s.heap.objs.size:=by obtain ⟨_,x,_⟩:=hit;exact aak x
    refine wpAny_pyNext_enum_item he hit p.isList (x:=u) (by simpa using hu) hei fun h' ho hit' hT hsz hk=>?_;refine ⟨_,rfl,wpAny_letOwnedTupleGo_enum ho fun h'' he' hs'=>?_⟩;have hs2:Heap.SameBut e h' h'':=hs';have keep:∀ b o,b∉[e,it]→s.heap.get? b=some o→h''.get? b=some o:=fun b o hb q=>by
      have b1:b≠e:=fun z=>hb (by simp [z]);have b2:b≠it:=fun z=>hb (by simp [z]);exact (hs2.2 b b1).trans (hk b o b1 b2 q)
    have I1:Inv X pins σ H { s with heap:=h'',toks:=s.toks+1 }:=I.turnedL keep hf;have gT:h''.get? s.heap.objs.size=some { cls:=.type "tuple",data:=.seq #[.int i s.toks,u] }:=(hs2.2 _ (abK helt)).trans hT;have fresh:H s.heap.objs.size=none:=I.hok.fresh (aab _);have I2:=I1.adopt (a:=s.heap.objs.size) (o:=.tup [.int i,x]) fresh I.sz (abK I.lt) (fun y c e1=>by
        obtain ⟨v,q⟩:=I.cell y c e1;exact aap q.lt) (fun q hq=>aap (aak (I.pin q hq).1)) ⟨by show 2≤sizeLine;decide,[.int i s.toks,u],.cons ⟨_,rfl⟩ (.cons ru .nil),⟨_,gT,rfl,_,rfl⟩⟩
    refine ⟨.ref s.heap.objs.size,_,I2,rfl,⟨_,x,fresh,rfl,rfl,fun ys hy=>by rw [I.list_inj hy hq];exact hx⟩,⟨⟨u,by simpa using he'⟩,hit'.at fun o y=>(hs2.2 it hei.symm).trans y⟩,fun b hb=>?_⟩;rw [aD]
    · exact (hf b hb).1
    · rcases aax.mp hb with z|z
      · rw [z];exact aap helt
      · have z:b=it:=by simpa using z
        rw [z];exact aap hilt
  done:=by
    intro X hP hw hK hc i pins s σ H E I hf st hg;subst hP hw hK;obtain ⟨xs,hq,hx⟩:=hg;obtain ⟨its,rv,p,hz⟩:=I.list hq;obtain ⟨⟨old,he⟩,hit⟩:=st;have hl:=rv.length;refine wpAny_pyNext_enum_end (I.ok.hd hc) he hit p.isList (by simp;omega) fun h' eb=>⟨rfl,I.turnedL (t':=s.toks) (fp:=[e,it]) (fun b o hb q=>eb b o (fun z=>hb (by simp [z])) q) hf⟩
  self:=fun _ _ _ _ _ st h=>by
    obtain ⟨⟨old,he⟩,_⟩:=st;exact wpAny_pyIter_enum he h
def oA (K:aaa) (ta:TA):TI:=fun σ H R=>ta σ H fun vs H1=>∃ a,vs=[.ref a]∧(∃ xs,SqL K H1 a xs)∧R (md K a) H1
theorem j3 {X:Cx} {elts:List Expr} {k:Nat} {tpos:Pos} {a:Expr} {ta:TA} {p pos:Pos} (hg:Gl X "enumerate") (hm:X.mg "enumerate" = none) (ha:PA X [a] ta) (hs:starEach [a] X.env=[(false,eval a X.env)]:=by rfl):PI X (.Tuple elts k tpos) (.Call (.Name "enumerate" p) [a] [] pos) (oA X.K ta):=by
  intro pins s σ H R I h;refine Call_ (ec I hg hm boot_enumerate (aa3 (thn (ha pos pins s σ H _ I h) fun us s1 ⟨vs,H1,I1,r1,q1⟩=>?_) hs rfl));obtain ⟨l,e,⟨xs,hq⟩,q⟩:=q1;subst e;cases r1 with
  | cons r rr =>
    cases rr;cases r;obtain ⟨its,rv,pl,hz⟩:=I1.list hq;refine call_enumerate_list pl.isList fun h' he hit hsz hk=>?_;refine wpAny_pyIter_enum (s:={ s1 with heap:=h' }) he ?_;have I2:Inv X pins σ H1 { s1 with heap:=h' }:=I1.kept (t':=s1.toks) hk;refine ⟨s1.heap.objs.size+1,[s1.heap.objs.size+1,s1.heap.objs.size],_,_,H1,rfl,I2,ki l _ _ (Nat.succ_ne_self _),⟨⟨_,he⟩,hit⟩,fun b hb=>?_,q⟩;have hb2:s1.heap.objs.size≤b:=by
      rcases aax.mp hb with z|z
      · rw [z];exact abZ _
      · have z:b=s1.heap.objs.size:=by simpa using z
        rw [z];exact aab _
    exact I1.fpOk hb2 (I1.hok.fresh hb2)
theorem je {K:aaa} {a:Addr} {xs:List V} {g:TG} {tb:TS} {D:Ends} {σ:St} {H:Hp} (Pv:Nat→St→Hp→Prop) (h0:Pv 0 σ H) (hl:∀ i σ H,i≤xs.length→Pv i σ H→SqL K H a xs)
    (hs:∀ i x p σ H,xs[i]?=some x→Pv i σ H→H p=none→g (.ref p) σ (upd H p (.tup [.int i,x])) fun σ2 H2=>tb { D with nx:=Pv (i+1),ct:=Pv (i+1),bk:=D.nx } σ2 H2) (hd:∀ σ H,Pv xs.length σ H→D.nx σ H) :
    ∃ W:Nat→Nat→St→Hp→Prop,(∃ m,W 0 m σ H)∧∀ i m σ H,W i m σ H →
      ((md K a).stop i H∧D.nx σ H)∨((md K a).go i H∧∃ N:St→Hp→Prop,(∀ σ' H',N σ' H'→∃ m',m' < m∧W (i+1) m' σ' H')∧∀ x H',(md K a).yld i H x H'→g x σ H' fun σ2 H2=>tb { D with nx:=N,ct:=N,bk:=D.nx } σ2 H2):=by
  refine ⟨fun i m σ H=>m=xs.length - i∧i≤xs.length∧Pv i σ H,⟨xs.length,by simp,aaB _,h0⟩,?_⟩;rintro i m σ H ⟨rfl,hi,p⟩;have q:=hl i σ H hi p;by_cases hlt:i < xs.length
  · refine .inr ⟨⟨xs,xs[i],q,by simp [hlt]⟩,Pv (i+1),fun σ' H' p'=>⟨xs.length - (i+1),by omega,rfl,hlt,p'⟩,fun x H' y=>?_⟩;obtain ⟨pa,z,n,e1,e2,y⟩:=y;subst e1 e2;exact hs i z pa σ _ (y xs q) p n
  · have e:i=xs.length:=by omega
    subst e;exact .inl ⟨⟨xs,q,aab _⟩,hd σ H p⟩
open PySem PySem.Spec PyProof.Rows
section
variable {prog:Program} {w:World} {κ:Type} [DecidableEq κ] {knd:HeapKind prog w κ} {A:Around} {E:Value→Shared→Prop} {s:Shared}
end
open PySem PySem.Spec PyProof.Rows
section
variable {prog:Program} {w:World} {κ:Type} [DecidableEq κ] {knd:HeapKind prog w κ} {A:Around} {E:Value→Shared→Prop} {s:Shared}
inductive HitsH (A:Around) (s:Shared) (kb:List (κ × Addr × Value)):List (κ × Addr × Value)→Bool→Prop
  | nil:HitsH A s kb [] true
  | miss {k:κ} {a:Addr} {v:Value} {r:List (κ × Addr × Value)}:atKey kb k=none→HitsH A s kb ((k,a,v) :: r) false
  | hit {k:κ} {a c:Addr} {v y:Value} {r:List (κ × Addr × Value)} {e b:Bool}:atKey kb k=some (c,y)→SeqAt.EqAt A s v y e→HitsH A s kb r b→HitsH A s kb ((k,a,v) :: r) (e && b)
end
open PySem PySem.Spec PyProof.Rows
inductive HitsV (K:aaa) (H:Hp) (n:Nat) (kb:List (List Key × V)):List (List Key × V)→Bool→Prop
  | nil:HitsV K H n kb [] true
  | miss {k:List Key} {v:V} {r:List (List Key × V)}:nX kb k=none→HitsV K H n kb ((k,v) :: r) false
  | hit {k:List Key} {v y:V} {r:List (List Key × V)} {e b:Bool}:nX kb k=some y→EqR K H n v y e→HitsV K H n kb r b→HitsV K H n kb ((k,v) :: r) (e && b)
open PySem PySem.Spec PyProof.Rows
section
variable {prog:Program} {w:World} {κ:Type} [DecidableEq κ] {knd:HeapKind prog w κ} {A:Around} {E:Value→Shared→Prop}
variable {s:Shared}
end
open PySem PySem.Spec PyProof.Rows
section
variable {prog:Program} {w:World} {A:Around} {E:Value→Shared→Prop} {s:Shared}
end
end L2
namespace L2
open PySem PySem.Spec PyProof.Rows PySem.W
section
variable {prog:Program} {w:World} {A:Around} {E:Value→Shared→Prop} {s:Shared}
end
end L2
namespace L2
open PySem PySem.Spec PyProof.Rows
section
variable {prog:Program} {w:World} {A:Around} {E:Value→Shared→Prop} {s:Shared}
end
open PySem PySem.Spec PyProof.Rows
open PySem PySem.Spec PyProof.Rows
def Its (z:Str):It :=
  ⟨fun i _=>i < z.cps.size,fun i H x H'=>H'=H∧∃ c,z.cps[i]?=some c∧x=.str ⟨#[c]⟩,fun i _=>z.cps.size≤i⟩
theorem kW {P:Program} {w:World} {K:aaa} {tg:Expr} (it:Addr) (z:Str) (t:Tok):Turn P w K tg (Its z) [it] it (fun i h=>h.IsStrIter it "str_ascii_iterator" z t i) where
  mem:=by simp
  obj:=fun i h st b hb=>by
    have e:b=it:=by simpa using hb
    subst e;obtain ⟨o,e,c,d⟩:=st;exact ⟨o,e,fun v z=>by rw [d] at z;cases z⟩
  keep:=fun i h h' st k=>by
    obtain ⟨o,e,r⟩:=st;exact ⟨o,k it (by simp) o e,r⟩
  item:=by
    intro X hP hw hK hc i pins s σ H E I hf st hg;subst hP hw hK;have hg:i < z.cps.size:=hg;obtain ⟨f0,f1,f2,f3,f4,f5⟩:=hf it (by simp);have hx:z.cps[i]?=some z.cps[i]:=by simp [hg]
    refine wpAny_pyNext_ascii_item st (c:=z.cps[i]) hx fun h' st' sb=>?_;have I1:Inv X pins σ H { s with heap:=h',toks:=s.toks+1 }:=I.turned (t':=s.toks+1) (fun b o hb e=>(sb.2 b hb).trans e) f0 f1 f3 f4 f5;obtain ⟨o,e,c,d⟩:=id st';exact ⟨_,rfl,j7 (s:={ s with heap:=h',toks:=s.toks+1 }) e c d (by decide) ⟨.str ⟨#[z.cps[i]]⟩,H,I1,⟨_,rfl⟩,⟨rfl,_,hx,rfl⟩,st',fun b hb=>(hf b hb).1⟩⟩
  done:=by
    intro X hP hw hK hc i pins s σ H E I hf st hg;subst hP hw hK;have hg:z.cps.size≤i:=hg;obtain ⟨f0,f1,f2,f3,f4,f5⟩:=hf it (by simp);exact wpAny_pyNext_ascii_end (I.ok.hd hc) st (by simp [hg]) fun h' eb=>⟨rfl,I.turned (t':=s.toks) (fun b o hb e=>eb b o hb e) f0 f1 f3 f4 f5⟩
  self:=fun _ _ _ _ _ st h=>wpAny_pyIter_striter_ascii st h
def o8 (tl:TE):TI:=fun σ H R=>tl σ H fun x H1=>∃ z,x=.str z∧z.cps.all (· < 128)=true∧R (Its z) H1
theorem li {X:Cx} {tg l:Expr} {tl:TE} (hl:PE X l tl):PI X tg l (o8 tl):=by
  intro pins s σ H R I h;refine thn (hl pins s σ H _ I h) fun v s1 ⟨x,H1,I1,r1,q1⟩=>?_;obtain ⟨z,e,ha,q⟩:=q1;subst e;obtain ⟨t,rfl⟩:=r1;refine wpAny_pyIter_ascii ha ?_;refine ⟨s1.heap.objs.size,[s1.heap.objs.size],_,_,H1,rfl,I1.kept (t':=s1.toks) fun b o e=>aal _ e,kW _ z t,⟨_,aaA _ rfl,rfl,rfl⟩,fun b hb=>?_,q⟩;have e:b=s1.heap.objs.size:=by simpa using hb
  subst e;exact I1.fpOk (aab _) (I1.hok.fresh (aab _))
theorem lz {z:Str} {cap:List (Option Nat)} {g:TG} {tt:TT} {te:TE} {σ:St} {H:Hp} {Q:VK} (Pv:Nat→List V→Hp→Prop) (h0:Pv 0 [] H) (hl:∀ i ys H,i≤z.cps.size→Pv i ys H→ys.length < sizeLine)
    (hs:∀ i c ys H,z.cps[i]?=some c→Pv i ys H→(∀ {P:Prop},P→Nxt z.cps.size i P)→g (.str ⟨#[c]⟩) (bi cap σ) H fun σ2 H2=>tt σ2 H2 fun b H3=>if b=true then te σ2 H3 fun v H4=>Nxt z.cps.size i (Pv (i+1) (ys++[v]) H4) else Nxt z.cps.size i (Pv (i+1) ys H3)) (hd:∀ ys H,Pv z.cps.size ys H→∀ p,H p=none→Q (.ref p) (upd H p (.lst ys))) :
    mS cap g tt te σ Q (Its z) H:=by
  refine ⟨fun i m ys H=>m=z.cps.size - i∧i≤z.cps.size∧Pv i ys H,⟨z.cps.size,by simp,aaB _,h0⟩,?_⟩;rintro i m ys H ⟨rfl,hi,p⟩;have q:=hl i ys H hi p;by_cases hlt:i < z.cps.size
  · refine .inr ⟨hlt,q,fun x H' y=>?_⟩;obtain ⟨e,c,y,ex⟩:=y;subst e ex;exact hs i c ys _ y p fun h=>⟨_,by omega,rfl,hlt,h⟩
  · have e:i=z.cps.size:=by omega
    subst e;exact .inl ⟨aab _,hd ys H p⟩
def oT (t u:TS):TS:=fun D σ H=>∃ J:St→Hp→Prop,t { D with nx:=J } σ H∧∀ σ' H',J σ' H'→u D σ' H'
theorem mv {X:Cx} {st:Stmt} {ba:List Stmt} {t u:TS} (h1:PS X st t) (h2:PSs X ba u):PSs X (st :: ba) (oT t u):=by
  intro pins s σ H D I h;obtain ⟨J,h,hJ⟩:=h;refine wpAny_execs_cons (thn (h1 pins s σ H { D with nx:=J } I h) fun f s1 q=>?_);cases f with
  | next =>
    obtain ⟨σ',H',I',q⟩:=q;exact h2 pins s1 σ' H' D I' (hJ σ' H' q)
  | ret v=>exact q
  | brk=>exact q
  | cont=>exact q
end L2
namespace PySem
open Sem (wp)
namespace F
end F
section
variable {prog:Program} {w:World} {A:Around} {E:Value→Shared→Prop} {h:Heap} {g:Array GenState} {d:Drawn} {t:Nat} {os:OsState} {a:Addr} {vs:Array Value}
end
end PySem
namespace L2
open PySem PySem.Spec PyProof.Rows
section
variable {prog:Program} {w:World} {A:Around} {E:Value→Shared→Prop} {s:Shared}
end
theorem Paired.app {α β:Type} {R:α→β→Prop} {a c:List α} {b d:List β} (h:Paired R a b) (k:Paired R c d):Paired R (a++c) (b++d):=by
  induction h with
  | nil=>exact k
  | cons x _ ih=>exact .cons x ih
open PySem PySem.Spec PyProof.Rows
theorem jk {X:Cx} (hc:X.calm=true):di X (.builtin "all") (fun xs H Q=>∃ (p:Addr) (bs:List Bool),xs=[.ref p]∧SqL X.K H p (bs.map V.bl)∧Q (.bl (bs.all id)) H):=by
  intro pins s σ H xs us Q I r h;obtain ⟨p,bs,rfl,hq,q⟩:=h;obtain ⟨u,rfl,rx⟩:=eh r;cases rx;obtain ⟨its,r',pl,hz⟩:=I.list hq;have hlen:=r'.length;rw [aad] at hlen;have hps:p < s.heap.objs.size:=by obtain ⟨o,n,ho,_⟩:=pl;exact aak ho
  refine call_all_walk (wpAny_pyIter_list pl.isList ?_);refine ⟨s.heap.objs.size,_,_,_,_,_,fun i=>bs.getD i true,rfl,Walks.list (A:=X.A.in1) (I.ok.hd hc) s.heap.objs.size p (aap hps) its.toArray,⟨⟨_,aaA _ rfl,rfl,rfl⟩,pl.isList.at fun o x=>aal _ x⟩,?_,?_⟩
  · intro i v s' Q' E' hP hQ';have hv:its.toArray[i]?=some v:=hP;have hv2:its[i]?=some v:=by simpa using hv
    have hi:i < bs.length:=by
      have:=(aag.mp hv2).1;omega
    have hb:(bs.map V.bl)[i]?=some (.bl bs[i]):=by rw [aaF,aae hi];rfl
    obtain ⟨u,hu,ru⟩:=r'.get hb;rw [hv2] at hu;cases hu;cases ru;have e:bs.getD i true=bs[i]:=by rw [aa8,aae hi];rfl
    have hQ2:Q' (bs.getD i true) s':=hQ';rw [e] at hQ2;exact wpAny_pure hQ2
  · intro h' tk k;have I2:Inv X pins σ H { s with heap:=h',toks:=tk }:=by
      refine I.turnedL (fp:=[s.heap.objs.size]) (t':=tk) (fun b o hb x=>k b o (by simpa using hb) (aal _ x)) fun b hb=>?_;have e:b=s.heap.objs.size:=by simpa using hb
      subst e;exact I.fpOk (aab _) (I.hok.fresh (aab _))
    have e:(aaR its.toArray.size).all (fun i=>bs.getD i true)=bs.all id:=by
      have e1:its.toArray.size=bs.length:=by simp;omega
      rw [e1];apply Bool.eq_iff_iff.mpr;rw [aaW,aaW];constructor
      · intro hh b hb;obtain ⟨i,hi,e⟩:=abI hb;have:=hh i (List.mem_range.mpr hi);rw [aa8,aae hi] at this;rw [← e];exact this
      · intro hh i hi;have hi:=abu.mp hi;rw [aa8,aae hi];exact hh _ (abG hi)
    rw [e];exact ⟨.bl (bs.all id),H,I2,rfl,q⟩
open PySem PySem.Spec PyProof.Rows
open PySem PySem.Spec PyProof.Rows
structure PCl (Y:Cx) (c:Comprehension) (r:TI × TG × TT):Prop where
  as:c.is_async=0
  it:PI Y c.target c.iter r.1
  tg:PG Y c.target r.2.1
  fs:ma Y c.ifs r.2.2
  st:∀ E x,foldedSetIterable c.iter E x=pure x
section
variable {X:Cx}
end
section
variable {X:Cx}
end
open PySem PySem.Spec PyProof.Rows
section
variable {M:Model} {A:Around} {E:Value→Shared→Prop} {s:Shared}
structure Lft (l:List Env) (e:Addr) (x:List Addr) (h h':Heap):Prop where
  keep:∀ b o,b∉l.filterMap (·.frame)→b≠e→b∉x→h.get? b=some o→h'.get? b=some o
  slot:∀ b o,b∈l.filterMap (·.frame)→h.get? b=some o→∃ sl,h'.get? b=some { o with slots:=sl }
end
section
variable {P:Program} {w:World} {K:aaa} {mg:Str→Option Value} {base:Heap} {N:List Str} {qual:Str} {scope:Scope} {f:Addr} {cd:Value} {A:Around} {outer:List Env} {s0:Shared} {H0:Hp} {E:XK}
end
structure EC (K:aaa) (C:Addr):Prop where
  ex:∃ nm q N bs bm hdct sn sub ab col dd k0 k1 k2 k3 k5 B newId initId bmB mN,ExcBaseFacts B newId initId bmB∧bm.contains (.type "BaseException")=true∧mN ("__init__":Str)=none ∧
    ∀ h,K.In h→h.get? C=some (excClassObj nm q C N bs bm hdct sn sub ab col dd k0 k1 k2 k3 k5 newId)∧h.Ns N mN∧OwnTail h bmB bm
section
variable {X:Cx} {pins0 pins:List (Addr × Obj)} {Cat:St→Addr→Hp→Prop} {σ:St} {H:Hp} {s:Shared}
end
section
variable {M:Model} {A:Around} {E:Value→Shared→Prop} {s:Shared}
end
structure Und (K:aaa) (C P:Addr):Prop where
  ex:∃ nm q N bs bm hdct sn sub ab col dd k0 k1 k2 k3 k5 newId nm' q' N' bs' bm' hdct' sn' sub' ab' col' dd' k0' k1' k2' k3' k5' newId',(Value.ref C :: bm).contains (.ref P)=true∧bm'.contains (.type "BaseException")=true ∧
    ∀ h,K.In h→h.get? C=some (excClassObj nm q C N bs bm hdct sn sub ab col dd k0 k1 k2 k3 k5 newId)∧h.get? P=some (excClassObj nm' q' P N' bs' bm' hdct' sn' sub' ab' col' dd' k0' k1' k2' k3' k5' newId')
section
variable {X:Cx} {pins:List (Addr × Obj)} {σ:St} {H:Hp} {s:Shared}
end
section
variable {M:Model} {A:Around} {E:Value→Shared→Prop} {s:Shared}
end
section
variable {X:Cx} {pins:List (Addr × Obj)} {σ:St} {H:Hp} {s:Shared}
end
open PySem PySem.Spec PyProof.Rows
structure Lkp (M:Model) (h:Heap) (C:Addr):Prop where
  ga:ab8 M h (typeLookup (.ref C) "__getattribute__") (some (.builtin "BaseException.__getattribute__"))
  no:ab8 M h (typeLookup (.ref C) "__getattr__") none
  cls:ab8 M h (typeLookup (.ref C) "__class__") (some (.builtin "object.__class__"))
  be:ab8 M h (isSubtype (.ref C) (.type "BaseException")) true
  obj:ab8 M h (isSubtype (.ref C) (.type (".".intercalate ("object.__class__".cutAt '.').dropLast))) true
section
variable {prog:Program} {w:World} {A:Around} {E:Value→Shared→Prop} {h:Heap} {g:Array GenState} {d:Drawn} {t:Nat} {os:OsState} {a C:Addr} {o:Obj}
end
structure ExC (K:aaa) (C:Addr):Prop where
  lk:∀ (M:Model) (h:Heap),K.In h→Lkp M h C
  cl:(PySem.W.clsIn K C).isSome=true
  sl:∃ B,Slot B "__getattribute__" "BaseException.__getattribute__"
open PySem PySem.Spec PyProof.Rows
theorem fC:∀ {ns:List Int} {its:List Value},Vals (ns.map V.int) its→∃ ts:List (Int × Tok),its=ts.map (fun p=>Value.int p.1 p.2)∧ts.map (·.1)=ns
  | [],_,.nil=>⟨[],rfl,rfl⟩
  | i :: r,_,.cons h t=>by
    obtain ⟨k,rfl⟩:=(show ∃ k,_=Value.int i k from h)
    obtain ⟨ts,e1,e2⟩:=fC t;exact ⟨(i,k) :: ts,by rw [e1];rfl,by rw [abQ,e2]⟩
theorem jj {X:Cx} (hc:X.calm=true):di X (.builtin "sum") (fun xs H Q=>∃ (p:Addr) (ns:List Int),xs=[.ref p]∧SqL X.K H p (ns.map V.int)∧Q (.int ns.sum) H):=by
  intro pins s σ H xs us Q I r h;obtain ⟨p,ns,rfl,hq,q⟩:=h;obtain ⟨u,rfl,rx⟩:=eh r;cases rx;obtain ⟨its,r',pl,hz⟩:=I.list hq;obtain ⟨ts,e1,e2⟩:=fC r';subst e1;have el:(ts.map (fun p=>Value.int p.1 p.2)).toArray=intItems ts.toArray:=by unfold intItems;simp
  refine sum_intListG (xs:=ts.toArray) (I.ok.hd hc) (by rw [← el];exact pl.isList) fun h' tk t' hk=>?_;have e:preSum (numAt ts.toArray) ts.toArray.size=ns.sum:=by
    rw [preSum_eq,aba (by simp),← e2]
  rw [e];exact ⟨.int ns.sum,H,I.kept (t':=tk) hk,⟨t',rfl⟩,q⟩
open PySem PySem.Spec PyProof.Rows
open PySem PySem.Spec PyProof.Rows
section
variable {K:aaa} {C Pa N N':Addr} {nm nm' q q':Str} {bs bs' sub sub':List Value} {hdct hdct':Bool} {sn sn':List Str} {ab ab':Bool} {col col':Option Bool} {dd dd':Option Addr} {k0 k1 k2 k3 k5 k0' k1' k2' k3' k5' oc oc':Option Value}
  {c1 c2:Value} {od od':Option Addr} {es es':Array DictEntry} {n n':Nat} {sl sl':Array (Option Value)}
end
end L2
namespace L2
open PySem
open PySem PySem.Spec PyProof.Rows
open PySem PySem.Spec PyProof.Rows
section
variable {X:Cx}
theorem h8 {i₀:Nat} {x:Str} {px spos:Pos} {elt tg iter:Expr} {ifs:List Expr} {scope:Scope} {pos:Pos} {cl:List (Str × Addr)} {NY:List Str} {cap:List (Option Nat)} {wi:TI} {g:TG} {tt:TT} {te:TE} (hN:X.N.Nodup) (hiN:X.N[i₀]?=some x) (hx:Loc X.env.scope x) (hc:X.calm=true) (hi:PI X tg iter wi)
    (hclos:closureFor scope X.env=pure cl) (hci:CellsIn X.env cl) (hcap:CapOk X.env (relabel scope X.env) X.N NY cap)
    (hb:∀ fp s H C,PG (ax X scope cl NY fp s H C) tg g∧ma (ax X scope cl NY fp s H C) ifs tt∧PE (ax X scope cl NY fp s H C) elt te)
    (hkind:scope.kind=.function:=by rfl) (hnc:(scope.names.all fun y=>y.2 != .cell)=true:=by rfl)
    (hnames:(scope.names.all fun y=>y.2 != .local || scope.names.lookup y.1 == some .local)=true:=by rfl)
    (hhas:((relabel scope X.env).names.all fun p=>(p.2 != .cell && p.2 != .free) || (cl.lookup p.1).isSome)=true:=by rfl)
    (hs:∀ x,foldedSetIterable iter X.env x=pure x:=by intro _;rfl) (hsw:swapsWith (.ListComp elt [⟨tg,iter,ifs,0⟩] scope pos) (some (.Name x px)) spos.line X.env=pure true:=by rfl)
    (hf:X.fn x=true∨X.env.scope.names.lookup x=some .local:=by first|exact .inl rfl|exact .inr rfl|assumption) :
    PS X (.Assign [.Name x px] (.ListComp elt [⟨tg,iter,ifs,0⟩] scope pos) spos) (m_ (tLc cap wi g tt te) (lM i₀)):=by
  have hnc':∀ y∈scope.names,y.2≠.cell:=fun y hy=>by
    have q:=aaW.mp hnc y hy;simpa using q
  have hnames':∀ y∈scope.names,y.2=.local→scope.names.lookup y.1=some .local:=fun y hy e=>by
    have q:=aaW.mp hnames y hy;rw [e] at q;simpa using q
  intro pins s σ H D I h;rw [exec_Assign_Name_used _ _ _ _ hsw];refine wpAny_bind (wpAny_standAt (wpAny_bind ?_));show wpAny _ X.A (do let _ ← comprehension (.ListComp elt [⟨tg,iter,ifs,0⟩] scope pos) scope X.env _ (newList []) false (eval iter X.env) (some (assign (.Name x px) X.env))) _ _ s;refine wpAny_bind (wpAny_mono (wpAny_comprehension_free (use:=some (assign (.Name x px) X.env)) (Q:=fun _ s'=>∃ σ' H',Inv X pins σ' H' s'∧D.nx σ' H') rfl hs hclos hkind hnames' (wpAny_mono (hi pins s σ H _ I h) (fun v s1 h1=>wpAny_mono h1 (fun itv s2 h2=>?_) fun _ _ e=>e) fun _ _ e=>e)) (fun _ s' hq=>wpAny_pure (wpAny_pure hq)) fun _ _ e=>e);obtain ⟨it,fp,tn,J,H2,e,I2,T,st2,f2,W,⟨m0,w0⟩,turn⟩:=h2;subst e;refine wpAny_newObj_type (wpAny_newFunctionEnv hnc' (by intro y hy;simp at hy) (fun h₁ hns₁ hsb₁=>?_) hkind);dsimp only at hns₁ hsb₁ ⊢;generalize hH2:s2.heap.push { cls:=.type "list",dict:=none,data:=.seq ([]:List Value).toArray }=G2 at hns₁ hsb₁ ⊢;have hC:G2.objs.size=s2.heap.objs.size+1:=by rw [← hH2,Heap.size_push]
  have hDC:s2.heap.objs.size≠G2.objs.size:=by rw [hC];exact aap (Nat.lt_succ_self _)
  have hDlt:s2.heap.objs.size≤G2.objs.size:=by rw [hC];exact abZ _
  have az:∀ b,b < s2.heap.objs.size→b≠G2.objs.size∧b≠s2.heap.objs.size:=fun b hb=>⟨by rw [hC];exact aap (abl hb),aap hb⟩
  have old:∀ b o,s2.heap.get? b=some o→h₁.get? b=some o:=fun b o e=>hsb₁.extBut b o (az b (aak e)).1 (aal _ (hH2 ▸ aal _ e));have hacc:h₁.get? s2.heap.objs.size=some { cls:=.type "list",data:=.seq ([]:List Value).toArray 0 }:=hsb₁.extBut _ _ hDC (aal _ (hH2 ▸ aaA _ rfl));have fpl:∀ b∈fp,b < s2.heap.objs.size:=fun b hb=>by
    obtain ⟨o,e,_⟩:=T.obj _ _ st2 b hb;exact aak e
  have freshD:H2 s2.heap.objs.size=none:=I2.hok.fresh (aab _);have freshC:H2 G2.objs.size=none:=I2.hok.fresh hDlt;have cellLt:∀ x c,X.env.cells.lookup x=some c→c < s2.heap.objs.size:=fun x c e=>by
    obtain ⟨v,q⟩:=I2.cell x c e;exact q.lt
  have hclX:∀ x c,cl.lookup x=some c→X.env.cells.lookup x=some c:=fun x c e=>hci.get e;obtain ⟨hbg,hbt,hbe⟩:=hb fp s2 H2 G2.objs.size;have okY:(ax X scope cl NY fp s2 H2 G2.objs.size).Ok:=by
    refine ⟨I2.ok.mod,hkind,I2.ok.glob,I2.ok.blt,hDlt,fun x y c e1 e2=>I2.ok.inj x y c (hclX x c e1) (hclX y c e2),fun x hx=>?_,fun x c hf _=>?_,I2.ok.hd,I2.ok.frames,.inl rfl,fun b hb=>⟨(az b (fpl b hb)).1,fun x c e z=>?_⟩,I2.bs,
      aa5 I2.ok.bsz I2.sz,fun b o e hb=>?_,fun b hb hz=>?_,I2.stack,I2.stkFree⟩
    · have hx':(relabel scope X.env).names.lookup x=some .cell∨(relabel scope X.env).names.lookup x=some .free:=hx;have key:∀ k,(relabel scope X.env).names.lookup x=some k→(k=.cell∨k=.free)→∃ c,cl.lookup x=some c:=fun k e hk=>by
        have q:=aaW.mp hhas (x,k) (aa0 e);have q':(cl.lookup x).isSome=true:=by
          rcases hk with rfl|rfl <;> simpa using q
        exact abL.mp q'
      rcases hx' with e|e
      · exact key _ e (.inl rfl)
      · exact key _ e (.inr rfl)
    · exact absurd (show false=true from hf) aah
    · exact (f2 b hb).2.2.2.2.1 x c (hclX x c e) z
    · rcases (f2 b hb).2.2.2.1 with z|z
      · exact I2.ok.noex b o e z
      · exact absurd (aar (aak (I2.ok.bs b o e).1) z) (abr _)
    · rcases aax.mp (I2.stkSub b hz) with z|z
      · exact (f2 b hb).2.1 z
      · exact (f2 b hb).2.2.1 z
  have fpYs:∀ {H':Hp} {n:Nat} {its:List Value},(∀ b∈fp,H' b=none)→∀ b∈fp,iA (ax X scope cl NY fp s2 H2 G2.objs.size) [(s2.heap.objs.size,{ cls:=.type "list",data:=.seq its.toArray n })] H' b:=fun {H' n its} hn b hb=>by
    refine ⟨hn b hb,(az b (fpl b hb)).1,fun hz=>?_,.inl hb,fun x c e=>(f2 b hb).2.2.2.2.1 x c (hclX x c e),fun p hp=>?_⟩
    · rcases aax.mp (I2.stkSub b hz) with z|z
      · exact (f2 b hb).2.1 z
      · exact (f2 b hb).2.2.1 z
    · have e:p=(s2.heap.objs.size,{ cls:=.type "list",data:=.seq its.toArray n }):=by simpa [ax] using hp
      rw [e];exact ab0 (az b (fpl b hb)).2
  have nostk:∀ b,s2.heap.objs.size≤b→b∉frs X.stack:=fun b hb hz=>by
    rcases aax.mp (I2.stkSub b hz) with z|z
    · have:=I2.lt;rw [← z] at this;exact absurd (aar this hb) (abr _)
    · exact I2.nofs hb z
  have IY0:Inv (ax X scope cl NY fp s2 H2 G2.objs.size) [(s2.heap.objs.size,{ cls:=.type "list",data:=.seq ([]:List Value).toArray 0 })] (bi cap σ) H2 { s2 with heap:=h₁,toks:=s2.toks+([]:List (Str × Value)).length }:=by
    refine ⟨okY,rfl,I2.bare,Un.kept old,⟨_,hns₁,fun j x v e1 e2 e3=>?_⟩,fun x c e=>?_,freshC,fun x c e=>I2.freeC x c (hclX x c e),fun p hp=>?_,I2.hok.kept old,?_⟩
    · obtain ⟨i,h1,h2,h3,h4⟩:=CapOk.get (σ:=σ) hcap e1 e2;obtain ⟨m,hn,hl⟩:=I2.loc;have vis:Vis X.env.scope x:=by rcases h3 with z|z;exact .inr (.inl z);exact .inr (.inr z)
      obtain ⟨u,r,l⟩:=hl i x v h1 h2 vis;refine ⟨u,r,.inr ⟨h4,?_⟩⟩;rcases l with ⟨k,_⟩|⟨_,c,e,z⟩
      · rcases h3 with z|z <;> (rw [k] at z;cases z)
      · obtain ⟨c',e'⟩:=okY.has x h4;have e':cl.lookup x=some c':=e';have e'':=hclX x c' e';rw [e] at e'';cases e'';obtain ⟨o,ho,hd⟩:=z;exact ⟨c,e',o,old _ _ ho,hd⟩
    · obtain ⟨v,o,ho,hd⟩:=I2.cell x c (hclX x c e);exact ⟨v,o,old _ _ ho,hd⟩
    · have e:p=(s2.heap.objs.size,{ cls:=.type "list",data:=.seq ([]:List Value).toArray 0 }):=by simpa [ax] using hp
      rw [e];exact ⟨hacc,freshD,hDC,nostk _ (aab _),fun v z=>by cases z⟩
    · show (bi cap σ).length=NY.length;unfold bi;rw [aad];exact hcap.len
  have hcY:(ax X scope cl NY fp s2 H2 G2.objs.size).calm=true:=hc;have stW:tn 0 h₁:=T.keep _ _ _ st2 fun b _ o e=>old b o e;have loop:∀ s₃:Shared,s₃={ s2 with heap:=h₁,toks:=s2.toks+([]:List (Str × Value)).length } →
      codeAny (model X.prog X.w) X.A (.compLoop (.ListComp elt [⟨tg,iter,ifs,0⟩] scope pos) 0 (.ref it) (.ref s2.heap.objs.size) (compEnvC scope cl G2.objs.size X.env))
        (compPost (model X.prog X.w) X.A X.xe (some (assign (.Name x px) X.env)) (fun _ s'=>∃ σ' H',Inv X pins σ' H' s'∧D.nx σ' H') (.ref s2.heap.objs.size) G2.objs.size) s₃:=by
    rintro s₃ rfl;refine gJ (fun n s'=>∃ i ys its k H',Inv (ax X scope cl NY fp s2 H2 G2.objs.size) [(s2.heap.objs.size,{ cls:=.type "list",data:=.seq its.toArray k })] (bi cap σ) H' s'∧Vals ys its∧ys.length≤sizeLine∧tn i s'.heap∧(∀ b∈fp,H' b=none)∧W i n ys H') ?_ m0
      ⟨0,[],[],0,H2,IY0,.nil,aaB _,stW,fun b hb=>(f2 b hb).1,w0⟩
    rintro n s3 ⟨i,ys,its,k,H3,I3,rv,hz,st3,fr3,w3⟩;rcases turn i n ys H3 w3 with ⟨stop,qn⟩|⟨go,hlt,step⟩
    · refine wpAny_mono (T.done (ax X scope cl NY fp s2 H2 G2.objs.size) rfl rfl rfl hcY i _ s3 _ H3 (fun _ _=>False) I3 (fpYs fr3) st3 stop) (fun r s4 ⟨hr,I4⟩=>?_) fun _ _ z=>z;subst hr;obtain ⟨m,hnC,_⟩:=id I4.loc;have hnC:s4.heap.Ns G2.objs.size m:=hnC;have pD:=(I4.pin (s2.heap.objs.size,{ cls:=.type "list",data:=.seq its.toArray k }) (by simp [ax]))
      have un:Un (frs X.stack) fp H2 H3 s2.heap s4.heap:=I4.base;have I5:Inv X pins σ H3 s4:=I2.call' (ch:=fp) I4.os un I4.hok I4.bare fun b hb=>⟨(f2 b hb).2.2.2.1,(f2 b hb).2.1,(f2 b hb).2.2.2.2.1,(f2 b hb).2.2.2.2.2⟩
      have cC:H3 G2.objs.size=none:=I4.free;have szX:X.s₀.heap.objs.size≤s2.heap.objs.size:=I2.sz;have I7:Inv X pins σ (upd H3 s2.heap.objs.size (.lst ys)) s4:=I5.adopt pD.2.1 szX (abK I2.lt) (fun x c e=>aap (cellLt x c e)) (fun p hp=>aap (aak (I2.pin p hp).1))
        ⟨hz,its,k,rv,pD.1⟩
      obtain ⟨oC,es,ep,hoC,hdC,rC⟩:=hnC;have nL:G2.objs.size≠X.env.locals:=abK (aar I2.lt hDlt);have cC':upd H3 s2.heap.objs.size (.lst ys) G2.objs.size=none:=by rw [aD (ab0 hDC)];exact cC
      have I8:Inv X ((G2.objs.size,oC) :: pins) σ (upd H3 s2.heap.objs.size (.lst ys)) s4:=I7.pins_of fun p hp=>by
        rcases aax.mp hp with z|z
        · rw [z];exact ⟨hoC,cC',nL,fun hz=>I2.nofs hDlt hz,fun v z=>by rw [hdC] at z;cases z⟩
        · exact I7.pin p (aaf _ z)
      show wpAny _ X.A (assign (.Name x px) X.env (.ref s2.heap.objs.size)) _ _ s4;refine wpAny_assign_Name (ei (v:=.ref s2.heap.objs.size) I8 hN hiN hx rfl (fun s5 I9=>?_) hf);have pC:=I9.pin (G2.objs.size,oC) (aaf _ aaw);refine ⟨m,⟨oC,es,ep,pC.1,hdC,rC⟩,fun h' hsb=>?_⟩;have I10:Inv X pins (σ.set i₀ (some (.ref s2.heap.objs.size))) (upd H3 s2.heap.objs.size (.lst ys)) s5:=I9.pins_of fun p hp=>I9.pin p (aaf _ (aay _ hp));have I11:Inv X pins (σ.set i₀ (some (.ref s2.heap.objs.size))) (upd H3 s2.heap.objs.size (.lst ys)) { s5 with heap:=h' }:=I10.turned (t':=s5.toks) (it:=G2.objs.size) (fun b o hb e=>hsb.extBut b o hb e) cC' nL (.inr (aa5 szX hDlt))
        (fun x c e z=>absurd (cellLt x c e) (by rw [z];exact Nat.not_lt.mpr hDlt)) (fun p hp z=>absurd (aak (I2.pin p hp).1) (by rw [z];exact Nat.not_lt.mpr hDlt))
      exact ⟨_,_,I11,qn _ pD.2.1⟩
    · refine wpAny_mono (T.item (ax X scope cl NY fp s2 H2 G2.objs.size) rfl rfl rfl hcY i _ s3 _ H3 (fun _ _=>False) I3 (fpYs fr3) st3 go) (fun r s4 ⟨u,hr,h4⟩=>?_) fun _ _ z=>z;subst hr;refine wpAny_mono h4 (fun _ s5 ⟨x,H5,I5,r5,y5,st5,fr5⟩=>?_) fun _ _ z=>z;have I5':=I5.pinned (fpYs fr5) (T.obj _ _ st5);refine wpAny_mono (hbg _ s5 _ H5 x u _ I5' r5 (step x H5 y5)) (fun _ s6 ⟨σ6,H6,I6,q6⟩=>?_) fun _ _ z=>z;refine wpAny_mono (hbt _ s6 σ6 H6 _ I6 q6) (fun ok s7 ⟨H7,I7,q7⟩=>?_) fun _ _ z=>z;have lenY:∀ {σ':St} {pn} {H'} {s'},Inv (ax X scope cl NY fp s2 H2 G2.objs.size) pn σ' H' s'→(bi cap σ).length=σ'.length:=fun {σ' pn H' s'} Z=>IY0.len.trans Z.len.symm;have captured:∀ {σ':St} {pn} {H'} {s'},Inv (ax X scope cl NY fp s2 H2 G2.objs.size) pn σ' H' s'→Inv (ax X scope cl NY fp s2 H2 G2.objs.size) pn (bi cap σ) H' s':=fun {σ' pn H' s'} Z=>by
        refine ⟨Z.ok,Z.os,Z.bare,Z.base,?_,Z.cell,Z.free,Z.freeC,Z.pin,Z.hok,IY0.len⟩;obtain ⟨m,hn,_⟩:=Z.loc;refine ⟨m,hn,fun j x v e1 e2 e3=>?_⟩;obtain ⟨i',h1,h2,h3,h4⟩:=CapOk.get (σ:=σ) hcap e1 e2;obtain ⟨m',hn',hl⟩:=I2.loc;have vis:Vis X.env.scope x:=by rcases h3 with z|z;exact .inr (.inl z);exact .inr (.inr z)
        obtain ⟨u,r,l⟩:=hl i' x v h1 h2 vis;refine ⟨u,r,.inr ⟨h4,?_⟩⟩;rcases l with ⟨kk,_⟩|⟨_,c,e,z⟩
        · rcases h3 with z|z <;> (rw [kk] at z;cases z)
        · obtain ⟨c',e'⟩:=okY.has x h4;have e':cl.lookup x=some c':=e';have e'':=hclX x c' e';rw [e] at e'';cases e'';obtain ⟨o,ho,hd⟩:=z;have nfp:c∉fp:=fun hz=>(f2 c hz).2.2.2.2.1 x c e rfl;obtain ⟨sl,q⟩:=Z.base.any (show s2.heap.get? c=some o from ho) (I2.freeC x c e) nfp;exact ⟨c,e',_,q,hd⟩
      have again:∀ {ys':List V} {its':List Value} {k':Nat} {σ':St} {H':Hp} {s':Shared},Inv (ax X scope cl NY fp s2 H2 G2.objs.size) ([(s2.heap.objs.size,{ cls:=.type "list",data:=.seq its'.toArray k' })]++bB fp s5.heap) σ' H' s'→Vals ys' its'→ys'.length≤sizeLine →
          (∃ m',m' < n∧W (i+1) m' ys' H')→∃ m,m < n∧∃ i ys its k H',Inv (ax X scope cl NY fp s2 H2 G2.objs.size) [(s2.heap.objs.size,{ cls:=.type "list",data:=.seq its.toArray k })] (bi cap σ) H' s'∧Vals ys its∧ys.length≤sizeLine∧tn i s'.heap∧(∀ b∈fp,H' b=none)∧W i m ys H':=fun {ys' its' k' σ' H' s'} Z rv' hz' hw=>by
        obtain ⟨m',hm,w'⟩:=hw;refine ⟨m',hm,i+1,ys',its',k',H',captured Z.unpinned,rv',hz',T.keep _ _ _ st5 fun b hb o e=>(Z.pin (b,o) (aaf _ (aaf _ (bH hb e)))).1,fun b hb=>?_,w'⟩;obtain ⟨o,e,d⟩:=T.obj _ _ st5 b hb;exact (Z.pin (b,o) (aaf _ (aaf _ (bH hb e)))).2.1
      cases ok with
      | false =>
        rw [if_neg aah] at q7 ⊢;exact again I7 rv hz q7
      | true =>
        rw [if_pos rfl] at q7 ⊢;refine wpAny_mono (hbe _ s7 σ6 H7 _ I7 q7) (fun xv s8 ⟨v,H8,I8,r8,q8⟩=>?_) fun _ _ z=>z;have pD:=I8.pin (s2.heap.objs.size,{ cls:=.type "list",data:=.seq its.toArray k }) (by simp [ax]);have hlen:=rv.length;refine append_at pD.1 (fun h9 hs9 hD9=>?_) (by rw [aac];omega);have I9:Inv (ax X scope cl NY fp s2 H2 G2.objs.size) (bB fp s5.heap) σ6 H8 s8:=I8.pins_of fun p hp=>I8.pin p (aaf _ (aaf _ hp));have I10:Inv (ax X scope cl NY fp s2 H2 G2.objs.size) (bB fp s5.heap) σ6 H8 { s8 with heap:=h9 }:=I9.turned (t':=s8.toks) (it:=s2.heap.objs.size) (fun b o hb e=>hs9.extBut b o hb e) pD.2.1 hDC (.inr (aab _))
          (fun x c e=>aap (cellLt x c (hclX x c e))) fun p hp=>by
            have hp':p∈bB fp s5.heap:=by simpa [ax] using hp
            exact ab0 (ab0 (az _ (fpl _ (fc hp').1)).2)
        have I11:Inv (ax X scope cl NY fp s2 H2 G2.objs.size) ([(s2.heap.objs.size,{ cls:=.type "list",data:=.seq (its++[xv]).toArray (k+1) })]++bB fp s5.heap) σ6 H8 { s8 with heap:=h9 }:=I10.pins_of fun p hp=>by
          rcases aaE.mp hp with z|z
          · have e:p=(s2.heap.objs.size,{ cls:=.type "list",data:=.seq (its++[xv]).toArray (k+1) }):=by simpa using z
            rw [e];refine ⟨?_,pD.2.1,hDC,nostk _ (aab _),fun v z=>by cases z⟩;rw [List.push_toArray] at hD9;exact hD9
          · exact I10.pin p (aaf _ z)
        exact again I11 (rv.append (.cons r8 .nil)) (by rw [aat,abq];exact hlt) q8
  exact codeAny_compStart_list (loop _ rfl) (T.self _ 0 _ _ _ stW (loop _ rfl))
end
open PySem PySem.Spec PyProof.Rows
section
variable {X:Cx}
end
open PySem PySem.Spec PyProof.Rows
section
variable {prog:Program} {w:World} {A:Around} {E:Value→Shared→Prop} {s:Shared} {I:Addr} {fp wr:List Addr} {G:Array GenState→Array GenState→Prop} {n:Nat} {P:Nat→Value→Prop} {St:Nat→Shared→Prop}
end
end L2
set_option maxHeartbeats 1000000
namespace L2
open PySem PySem.Spec PyProof.Rows
section
variable {X:Cx} {pos:Pos} {t u:TS}
end
open PySem PySem.Spec PyProof.Rows
section
variable {X:Cx}
end
open PySem PySem.Spec PyProof.Rows
section
variable {X:Cx}
end
end L2
namespace PySem
open Builtin Builtin.Str Builtin.Int
section
variable {prog:Program} {w:World} {A:Around} {E:Value→Shared→Prop} {s:Shared} {x:Str} {t:Tok} {Q:Value→Shared→Prop}
  {I:Addr} {fp wr:List Addr} {G:Array GenState→Array GenState→Prop} {n:Nat} {P:Nat→Value→Prop} {St:Nat→Shared→Prop}
end
end PySem
namespace L2
open PySem PySem.Spec PyProof.Rows
section
variable {X:Cx}
end
open PySem PySem.Spec PyProof.Rows
section
variable {X:Cx}
end
open PySem PySem.Spec PyProof.Rows
section
variable {X:Cx} {pins:List (Addr × Obj)} {σ:St} {H:Hp} {s:Shared} {A:Around} {Q:Value→Shared→Prop} {E:Value→Shared→Prop} {b:Bool}
end
section
variable {X:Cx} {a b c d:Expr} {ta tb tc td:TE} {pos:Pos}
end
section
variable {X:Cx}
end
open PySem PySem.Spec PyProof.Rows
section
variable {X:Cx} {o e:Expr} {es:List Expr} {to:TE} {t:TA} {name:Str} {apos cpos:Pos} {T id:String} {r:V→List V→Hp→VK→Prop} {K:aaa}
end
open PySem PySem.Spec PyProof.Rows
structure Trn (J:It) (n:Nat) (Kp:Hp→Prop) (item:Nat→V→Hp→Hp→Prop):Prop where
  go:∀ i H,i < n→Kp H→J.go i H
  stop:∀ H,Kp H→J.stop n H
  yld:∀ i H x H',i < n→Kp H→J.yld i H x H'→item i x H H'
theorem Trn.list {K:aaa} {a:Addr} {xs:List V}:Trn (Itl K a) xs.length (fun H=>SqL K H a xs) (fun i x H H'=>H'=H∧xs[i]?=some x) :=
  ⟨fun i H hi q=>⟨xs,xs[i],q,by simp [hi]⟩,fun H q=>⟨xs,q,aab _⟩,fun i H x H' hi q y=>⟨y.1,y.2 xs q⟩⟩
theorem gF {J:It} {n:Nat} {Kp:Hp→Prop} {item:Nat→V→Hp→Hp→Prop} (T:Trn J n Kp item) {cap:List (Option Nat)} {g:TG} {tt:TT} {te:TE} {σ:St} {H:Hp} {Q:VK} (Pv:Nat→List V→Hp→Prop) (h0:Pv 0 [] H) (hk:∀ i ys H,i≤n→Pv i ys H→Kp H∧ys.length < sizeLine)
    (hs:∀ i x ys H H',i < n→item i x H H'→Pv i ys H→∀ Nx:List V→Hp→Prop,(∀ ys' H2,Pv (i+1) ys' H2→Nx ys' H2)→g x (bi cap σ) H' fun σ2 H2=>tt σ2 H2 fun b H3=>if b=true then te σ2 H3 fun v H4=>Nx (ys++[v]) H4 else Nx ys H3)
    (hd:∀ ys H,Pv n ys H→∀ p,H p=none→Q (.ref p) (upd H p (.lst ys))):mS cap g tt te σ Q J H:=by
  refine ⟨fun i m ys H=>m=n - i∧i≤n∧Pv i ys H,⟨n,by simp,aaB _,h0⟩,?_⟩;rintro i m ys H ⟨rfl,hi,p⟩;by_cases hlt:i < n
  · refine .inr ⟨T.go i H hlt (hk i ys H hi p).1,(hk i ys H hi p).2,fun x H' y=>?_⟩;exact hs i x ys H H' hlt (T.yld i H x H' hlt (hk i ys H hi p).1 y) p (fun ys' H4=>∃ m',m' < n - i∧m'=n - (i+1)∧i+1≤n∧Pv (i+1) ys' H4) fun ys' H2 h=>⟨_,by omega,rfl,hlt,h⟩
  · have e:i=n:=by omega
    subst e;exact .inl ⟨T.stop H (hk _ ys H hi p).1,hd ys H p⟩
open PySem PySem.Spec PyProof.Rows
theorem gg {n:Nat} (h:n≤1000000):n < sizeLine:=Nat.lt_of_le_of_lt h (by decide)
open PySem PySem.Spec PyProof.Rows
section
variable {X:Cx}
end
open PySem PySem.Spec PyProof.Rows
section
variable {X:Cx} {a b c d e:Expr} {ta tb tc td te:TE} {pos:Pos}
end
theorem neE {K:aaa} {H:Hp} {Q:V→Hp→Prop} {a b:Addr} {xs:List V} (ha:SqL K H a xs) (hb:SqL K H b []) (h:Q (.bl (!decide (xs=[]))) H):oj K true (.ref a) (.ref b) H Q:=by
  refine ⟨0,a,b,xs,[],by decide,rfl,rfl,ha,hb,?_⟩;by_cases c:xs=[]
  · subst c;exact .inr ⟨fun _=>true,rfl,fun j x y h=>by simp at h,h⟩
  · rw [decide_eq_false c] at h;exact .inl ⟨fun e=>c (List.length_eq_zero_iff.mp e),h⟩
end L2
namespace L2
open PySem PySem.Spec PyProof.Rows PySem.W
def cdO (c:Addr) (qual:Str):HO:=.ext fun h=>h.CodeRec (.ref c) qual
structure LTab (P:Addr) (qual:Str) (H:Hp) (ps:Array Value):Prop where
  tab:H P=some (.tbl ps)
  tri:TriplesOk ps.toList
  cds:∀ pos cv,codeAmong pos ps.toList=some cv→∃ c',cv=.ref c'∧H c'=some (cdO c' qual)
section
variable {X:Cx} {pins:List (Addr × Obj)} {σ:St} {H:Hp} {s:Shared}
end
section
variable {CX:CXT} {P:Program} {w:World} {K:aaa} {mg:Str→Option Value} {base:Heap} {k:Nat}
end
section
variable {X:Cx} {pins pl:List (Addr × Obj)} {σ:St} {H:Hp} {s:Shared}
end
section
variable {X:Cx}
end
end L2
namespace L2
open PySem PySem.Spec PyProof.Rows PySem.W
section
variable {X:Cx} {pins pl:List (Addr × Obj)} {σ:St} {H:Hp} {s:Shared}
end
section
variable {X:Cx}
end
end L2
namespace L2
open PySem PySem.Spec PyProof.Rows PySem.W
structure FunC (K:aaa) (x qual:Str) (st:Stmt) (f:Addr) (fd:FuncData) (c:Addr):Prop where
  ex:∃ (oc:Value) (od:Option Addr) (kV doc pm:Value) (an:Option Addr) (ct:Value) (osl:Array (Option Value)),
    fd=abf x qual (bL st) (bC st) (ap st) .none kV doc pm an (.ref c) ct∧K.lookup f=some ⟨oc,od,.func fd,osl⟩∧abz K (.ref c) qual=true
  kp:abe K (.ref f)=true
section
variable {P:Program} {w:World} {K:aaa} {mg:Str→Option Value} {base:Heap}
end
open PySem PySem.Spec PyProof.Rows
open PySem PySem.Spec PyProof.Rows
open PySem PySem.Spec PyProof.Rows
open PySem PySem.Spec PyProof.Rows
section
variable {prog:Program} {w:World} {A:Around} {E:Value→Shared→Prop} {s:Shared}
end
def Ent (P:Program) (w:World) (d:Addr) (o:Obj) (u:HO) (n:Nat) (rw:Nat→V→V→Hp→Prop) (es:Array DictEntry) (ep:Nat):Prop :=
  o.data=.dict es ep∧es.size=n∧∀ H h,HOk P w H h→H d=some (.frz o u)→h.get? d=some o∧∀ i e,es[i]?=some e→∃ k y,RelV k e.key∧RelV y e.val∧rw i k y H
theorem nK {J:It} {n:Nat} {Kp:Hp→Prop} {item:Nat→V→Hp→Hp→Prop} (T:Trn J n Kp item) {g:TG} {tb:TS} {D:Ends} {σ:St} {H:Hp} (Pv:Nat→St→Hp→Prop) (h0:Pv 0 σ H) (hk:∀ i σ H,i≤n→Pv i σ H→Kp H)
    (hs:∀ i x σ H H',i < n→item i x H H'→Pv i σ H→g x σ H' fun σ2 H2=>tb { D with nx:=Pv (i+1),ct:=Pv (i+1),bk:=D.nx } σ2 H2) (hd:∀ σ H,Pv n σ H→D.nx σ H) :
    ∃ W:Nat→Nat→St→Hp→Prop,(∃ m,W 0 m σ H)∧∀ i m σ H,W i m σ H →
      (J.stop i H∧D.nx σ H)∨(J.go i H∧∃ N:St→Hp→Prop,(∀ σ' H',N σ' H'→∃ m',m' < m∧W (i+1) m' σ' H')∧∀ x H',J.yld i H x H'→g x σ H' fun σ2 H2=>tb { D with nx:=N,ct:=N,bk:=D.nx } σ2 H2):=by
  refine ⟨fun i m σ H=>m=n - i∧i≤n∧Pv i σ H,⟨n,by simp,aaB _,h0⟩,?_⟩;rintro i m σ H ⟨rfl,hi,p⟩;have q:=hk i σ H hi p;by_cases hlt:i < n
  · exact .inr ⟨T.go i H hlt q,Pv (i+1),fun σ' H' p'=>⟨n - (i+1),by omega,rfl,hlt,p'⟩,fun x H' y=>hs i x σ H H' hlt (T.yld i H x H' hlt q y) p⟩
  · have e:i=n:=by omega
    subst e;exact .inl ⟨T.stop H q,hd σ H p⟩
end L2
namespace PySem
open Sem (wp)
namespace F
end F
section
variable {prog:Program} {w:World} {A:Around} {E:Value→Shared→Prop} {h:Heap} {g:Array GenState} {d:Drawn} {t:Nat} {os:OsState} {a:Addr} {xs:Array Value} {k:Nat}
end
end PySem
namespace L2
open PySem PySem.Spec PyProof.Rows
section
variable {prog:Program} {w:World} {A:Around} {E:Value→Shared→Prop} {s:Shared}
end
open PySem PySem.Spec PyProof.Rows
section
variable {X:Cx}
end
structure FunD (K:aaa) (x qual:Str) (st:Stmt) (f:Addr) (fd:FuncData) (tD:Addr):Prop where
  ex:∃ (oc:Value) (od:Option Addr) (kV doc pm:Value) (an:Option Addr) (cdv ct:Value) (osl:Array (Option Value)),
    fd=abf x qual (bL st) (bC st) (ap st) (.ref tD) kV doc pm an cdv ct∧K.lookup f=some ⟨oc,od,.func fd,osl⟩∧abz K cdv qual=true
  kp:abe K (.ref f)=true
section
variable {P:Program} {w:World} {K:aaa} {mg:Str→Option Value} {base:Heap}
end
open PySem PySem.Spec PyProof.Rows
section
variable {X:Cx} {tg:Expr}
end
open PySem PySem.Spec PyProof.Rows
end L2
namespace L2
open PySem PySem.Spec PyProof.Rows PySem.W
section
variable {prog:Program} {w:World} {A:Around} {E:Value→Shared→Prop} {s:Shared}
end
open PySem PySem.Spec PyProof.Rows
def im (e l:Nat→Bool) (n m:Nat):Nat→Nat→Bool
  | _,0=>decide (n < m)
  | j,k+1=>if e j=true then im e l n m (j+1) k else l j
def LtAt (A:Around) (s:Shared) (u v:Value) (b:Bool):Prop:=∀ (prog:Program) (w:World) (E Q:Value→Shared→Prop),Q (.bool b) s→wpAny (model prog w) A (richCompare .Lt u v) Q E s
section
open PySem.SeqAt
open PySem.AutoSeq1 (wpAny_loadPart')
open PySem.MeetsSeq PySem.MeetsSeq2 PySem.MeetsSeq3
end
inductive LtR (K:aaa) (H:Hp):Nat→V→V→Bool→Prop
  | int {n:Nat} {a b:Int}:LtR K H n (.int a) (.int b) (decide (a < b))
  | tup {n:Nat} {a b:Addr} {xs ys:List V} {e l:Nat→Bool} (ha:SqT K H a xs) (hb:SqT K H b ys) (h:∀ (j:Nat) x y,xs[j]?=some x→ys[j]?=some y→EqR K H n x y (e j)) (hl:∀ (j:Nat) x y,xs[j]?=some x→ys[j]?=some y→e j=false→LtR K H n x y (l j)) :
      LtR K H (n+1) (.ref a) (.ref b) (im e l xs.length ys.length 0 (min xs.length ys.length))
section
variable {X:Cx} {pins:List (Addr × Obj)} {σ:St} {H:Hp} {s:Shared}
end
section
variable {X:Cx}
end
open PySem PySem.Spec PyProof.Rows
def Fq (K:aaa) (x:Str) (s:Stmt) (f:Addr):Prop:=aav K mainGlobals x=some (some (.ref f))∧∃ fd,Fun K x x s f fd
theorem Fq.mk4 {K:aaa} {x:Str} {st:Stmt} {f:Addr} {oc:Value} {od an:Option Addr} {osl:Array (Option Value)} {kV doc pm cdv ct:Value} (a:aav K mainGlobals x=some (some (.ref f))) (l:K.lookup f=some ⟨oc,od,.func (abf x x (bL st) (bC st) (ap st) .none kV doc pm an cdv ct),osl⟩)
    (c:abz K cdv x=true) (k:abe K (.ref f)=true):Fq K x st f:=⟨a,_,lN l c k⟩
theorem Fq.use {K:aaa} {x:Str} {st:Stmt} {f:Addr} {h:Heap} {mg:Str→Option Value} (q:Fq K x st f) (X:K.In h) (G:h.Ns mainGlobals mg) {ps:List Str}
    (hb:∀ (kV doc pm:Value) (an:Option Addr) (cdv ct:Value) (us:List Value),us.length=ps.length→bindArgs (abf x x (bL st) (bC st) (ap st) .none kV doc pm an cdv ct) ⟨us,[]⟩=pure (ps.zip us)):∃ fd,Fun K x x st f fd∧Binds K fd ps []∧mg x=some (.ref f):=by
  obtain ⟨a,fd,F⟩:=q;exact ⟨fd,F,F.binds hb,abU X G a⟩
end L2
namespace Tim
open PySem PyProof.Rows
def mM:Bool→Keyed→Array Keyed→Nat→Nat→Nat→StateT SortSt Sem (Option Nat):=sortPriv% PySem.Builtin.gallop
def lu:Array Keyed→Array Keyed→StateT SortSt Sem (Array Keyed):=sortPriv% PySem.Builtin.mergeLo
def lx:Array Keyed→Array Keyed→StateT SortSt Sem (Array Keyed):=sortPriv% PySem.Builtin.mergeHi
structure Ord (M:Model) (A:Around) (E:Value→Shared→Prop) (s:Shared) (κ:SortKind) (P:Keyed→Prop) (lt:Keyed→Keyed→Bool):Prop where
  ask:∀ {x y:Keyed} {st:SortSt} {Q:Option Bool→SortSt→Prop},P x→P y→kindOf st=κ→Q (some (lt x y)) st→wpS M A E s (lt' x y) Q st
  asym:∀ {x y:Keyed},P x→P y→lt x y=true→lt y x=false
  trans:∀ {x y z:Keyed},P x→P y→P z→lt y x=false→lt z y=false→lt z x=false
section
variable {M:Model} {A:Around} {E:Value→Shared→Prop} {s:Shared} {κ:SortKind} {P:Keyed→Prop} {lt:Keyed→Keyed→Bool}
theorem am {arr:Array Keyed} {i:Nat} {x:Keyed} {st:SortSt} {Q:Keyed→SortSt→Prop} (h:arr[i]?=some x) (q:Q x st):wpS M A E s (elem' arr i) Q st:=by
  rw [elem'_eq,h];exact wpS_pure q
structure Bnd (B:Nat→Bool) (n k:Nat):Prop where
  le:k≤n
  lo:∀ i,i < k→B i=true
  hi:∀ i,k≤i→i < n→B i=false
theorem aG (O:Ord M A E s κ P lt) {left:Bool} {key:Keyed} {arr:Array Keyed} {base n hint:Nat} {st:SortSt} {Q:Option Nat→SortSt→Prop} (hk:kindOf st=κ) (hkey:P key) (hP:∀ x∈arr.toList,P x) (hn:base+n≤arr.size) (hh:hint < n) (B:Nat→Bool)
    (hB:∀ i x,i < n→arr[base+i]?=some x→B i=if left=true then lt x key else !lt key x) (mono:∀ i j,i≤j→j < n→B j=true→B i=true)
    (q:∀ k,Bnd B n k→Q (some k) st):wpS M A E s (mM left key arr base n hint) Q st:=by
  have beyond:∀ {i:Nat} {Q':Option Bool→SortSt→Prop},i < n→Q' (some (B i)) st→wpS M A E s (do
      let x ← elem' arr (base+i)
      if left=true then lt' x key else do
        let r ← lt' key x
        pure (r.map (!·))) Q' st:=by
    intro i Q' hi hq;have hsz:base+i < arr.size:=by omega
    have hx:arr[base+i]?=some (arr[base+i]'hsz):=getElem?_pos arr (base+i) hsz;have pm:P (arr[base+i]'hsz):=hP _ (by simp);refine wpS_bind (am hx ?_);have e:=hB i _ hi hx;by_cases c:left=true
    · rw [if_pos c] at e ⊢;rw [e] at hq;exact O.ask pm hkey hk hq
    · rw [if_neg c] at e ⊢;refine wpS_bind (O.ask hkey pm hk (wpS_pure ?_));rw [e] at hq;exact hq
  refine wpS_bind (wpS_mono (beyond (i:=hint) hh (Q':=fun r st'=>r=some (B hint)∧st'=st) ⟨rfl,rfl⟩) ?_);rintro r st' ⟨rfl,rfl⟩;dsimp only;by_cases c:B hint=true
  · rw [if_pos c];refine wpS_bind (wpS_mono (wpS_forRange (I:=fun x c st''=>st''=st'∧∃ la o,c=(none,la,o)∧la < o∧x+1≤o∧hint+la < n∧B (hint+la)=true) (Q:=fun c st''=>st''=st'∧∃ la o,c=(none,la,o)∧la < o∧hint+la < n∧B (hint+la)=true∧(n - hint≤o∨(hint+o < n∧B (hint+o)=false))) ?step ?fin ⟨rfl,0,1,rfl,by omega,by omega,by omega,c⟩) ?_)
    case fin =>
      rintro c st'' ⟨rfl,la,o,rfl,h1,h2,h3,h4⟩;exact ⟨rfl,la,o,rfl,h1,h3,h4,.inl (by omega)⟩
    case step =>
      rintro x c st'' _ hx ⟨rfl,la,o,rfl,h1,h2,h3,h4⟩;dsimp only;by_cases ge:o ≥ n - hint
      · rw [if_pos ge];exact wpS_pure ⟨rfl,la,o,rfl,h1,h3,h4,.inl ge⟩
      · rw [if_neg ge];refine wpS_bind (wpS_mono (beyond (i:=hint+o) (by omega) (Q':=fun r st'=>r=some (B (hint+o))∧st'=st'') ⟨rfl,rfl⟩) ?_);rintro r st' ⟨rfl,rfl⟩;dsimp only;by_cases d:B (hint+o)=true
        · rw [d];simp only [ab7,abg,if_false];exact wpS_pure ⟨rfl,_,_,rfl,by omega,by omega,by omega,d⟩
        · have d:B (hint+o)=false:=by simpa using d
          rw [d];simp only [Bool.not_false,if_true];exact wpS_pure ⟨rfl,la,o,rfl,h1,h3,h4,.inr ⟨by omega,d⟩⟩
    rintro c2 st3 ⟨rfl,la,o,rfl,h1,h3,h4,h5⟩;dsimp only;refine wpS_bind (wpS_mono (wpS_forRange (I:=fun x c st'=>st'=st3∧∃ lo hi,c=(none,lo,hi)∧lo≤hi∧hi≤n∧hi - lo≤n - x∧(∀ i,i < lo→B i=true)∧∀ i,hi≤i→i < n→B i=false) (Q:=fun c st'=>st'=st3∧∃ lo hi,c=(none,lo,hi)∧Bnd B n hi) ?bstep ?bfin ?binit) ?bpost)
    case binit =>
      refine ⟨rfl,_,_,rfl,by omega,by omega,by omega,fun i hi=>mono i _ (by omega) h3 h4,fun i hi hi2=>?_⟩;rcases h5 with h5|⟨h5,h6⟩
      · omega
      · cases e:B i with
        | false=>rfl
        | true=>rw [mono (hint+o) i (by omega) hi2 e] at h6;cases h6
    case bfin =>
      rintro c st' ⟨rfl,lo,hi,rfl,a1,a2,a3,a4,a5⟩;have : lo=hi:=by omega
      subst this;exact ⟨rfl,lo,lo,rfl,a2,a4,a5⟩
    case bstep =>
      rintro x c st' _ hx ⟨rfl,lo,hi,rfl,a1,a2,a3,a4,a5⟩;dsimp only;by_cases ge:lo ≥ hi
      · rw [if_pos ge];have : lo=hi:=by omega
        subst this;exact wpS_pure ⟨rfl,lo,lo,rfl,a2,a4,a5⟩
      · rw [if_neg ge];refine wpS_bind (wpS_mono (beyond (i:=lo+(hi - lo) / 2) (by omega) (Q':=fun r st''=>r=some (B (lo+(hi - lo) / 2))∧st''=st') ⟨rfl,rfl⟩) ?_);rintro r st'' ⟨rfl,rfl⟩;dsimp only;by_cases d:B (lo+(hi - lo) / 2)=true
        · rw [if_pos d];exact wpS_pure ⟨rfl,_,_,rfl,by omega,a2,by omega,fun i hi'=>mono i _ (by omega) (by omega) d,a5⟩
        · rw [if_neg d];refine wpS_pure ⟨rfl,_,_,rfl,by omega,by omega,by omega,a4,fun i h1 h2=>?_⟩;cases e:B i with
          | false=>rfl
          | true=>exact absurd (mono _ i h1 h2 e) d
    case bpost =>
      rintro c st' ⟨rfl,lo,hi,rfl,b⟩;exact wpS_pure (q hi b)
  · rw [if_neg c];have c:B hint=false:=by simpa using c
    refine wpS_bind (wpS_mono (wpS_forRange (I:=fun x c st''=>st''=st'∧∃ la o,c=(none,la,o)∧la < o∧x+1≤o∧la≤hint∧B (hint - la)=false) (Q:=fun c st''=>st''=st'∧∃ la o,c=(none,la,o)∧la < o∧la≤hint∧B (hint - la)=false∧(hint+1≤o∨(o≤hint∧B (hint - o)=true))) ?step ?fin ⟨rfl,0,1,rfl,by omega,by omega,by omega,c⟩) ?_)
    case fin =>
      rintro c st'' ⟨rfl,la,o,rfl,h1,h2,h3,h4⟩;exact ⟨rfl,la,o,rfl,h1,h3,h4,.inl (by omega)⟩
    case step =>
      rintro x c st'' _ hx ⟨rfl,la,o,rfl,h1,h2,h3,h4⟩;dsimp only;by_cases ge:o ≥ hint+1
      · rw [if_pos ge];exact wpS_pure ⟨rfl,la,o,rfl,h1,h3,h4,.inl ge⟩
      · rw [if_neg ge];refine wpS_bind (wpS_mono (beyond (i:=hint - o) (by omega) (Q':=fun r st'=>r=some (B (hint - o))∧st'=st'') ⟨rfl,rfl⟩) ?_);rintro r st' ⟨rfl,rfl⟩;dsimp only;by_cases d:B (hint - o)=true
        · rw [if_pos d];exact wpS_pure ⟨rfl,la,o,rfl,h1,h3,h4,.inr ⟨by omega,d⟩⟩
        · rw [if_neg d];exact wpS_pure ⟨rfl,_,_,rfl,by omega,by omega,by omega,by simpa using d⟩
    rintro c2 st3 ⟨rfl,la,o,rfl,h1,h3,h4,h5⟩;dsimp only;refine wpS_bind (wpS_mono (wpS_forRange (I:=fun x c st'=>st'=st3∧∃ lo hi,c=(none,lo,hi)∧lo≤hi∧hi≤n∧hi - lo≤n - x∧(∀ i,i < lo→B i=true)∧∀ i,hi≤i→i < n→B i=false) (Q:=fun c st'=>st'=st3∧∃ lo hi,c=(none,lo,hi)∧Bnd B n hi) ?bstep ?bfin ?binit) ?bpost)
    case binit =>
      refine ⟨rfl,_,_,rfl,by omega,by omega,by omega,fun i hi=>?_,fun i hi hi2=>?_⟩
      · rcases h5 with h5|⟨h5,h6⟩
        · omega
        · exact mono i _ (by omega) (by omega) h6
      · cases e:B i with
        | false=>rfl
        | true=>rw [mono (hint - la) i (by omega) hi2 e] at h4;cases h4
    case bfin =>
      rintro c st' ⟨rfl,lo,hi,rfl,a1,a2,a3,a4,a5⟩;have : lo=hi:=by omega
      subst this;exact ⟨rfl,lo,lo,rfl,a2,a4,a5⟩
    case bstep =>
      rintro x c st' _ hx ⟨rfl,lo,hi,rfl,a1,a2,a3,a4,a5⟩;dsimp only;by_cases ge:lo ≥ hi
      · rw [if_pos ge];have : lo=hi:=by omega
        subst this;exact wpS_pure ⟨rfl,lo,lo,rfl,a2,a4,a5⟩
      · rw [if_neg ge];refine wpS_bind (wpS_mono (beyond (i:=lo+(hi - lo) / 2) (by omega) (Q':=fun r st''=>r=some (B (lo+(hi - lo) / 2))∧st''=st') ⟨rfl,rfl⟩) ?_);rintro r st'' ⟨rfl,rfl⟩;dsimp only;by_cases d:B (lo+(hi - lo) / 2)=true
        · rw [if_pos d];exact wpS_pure ⟨rfl,_,_,rfl,by omega,a2,by omega,fun i hi'=>mono i _ (by omega) (by omega) d,a5⟩
        · rw [if_neg d];refine wpS_pure ⟨rfl,_,_,rfl,by omega,by omega,by omega,a4,fun i h1 h2=>?_⟩;cases e:B i with
          | false=>rfl
          | true=>exact absurd (mono _ i h1 h2 e) d
    case bpost =>
      rintro c st' ⟨rfl,lo,hi,rfl,b⟩;exact wpS_pure (q hi b)
end
end Tim
namespace Tim
open PySem PyProof.Rows
def Le (lt:Keyed→Keyed→Bool) (x y:Keyed):Prop:=lt y x=false
structure Mg (lt:Keyed→Keyed→Bool) (a b out:List Keyed) (ia ib:Nat):Prop where
  ha:ia≤a.length
  hb:ib≤b.length
  perm:out.Perm (a.take ia++b.take ib)
  srt:out.Pairwise (Le lt)
  le:∀ x∈out,∀ y,(y∈a.drop ia∨y∈b.drop ib)→Le lt x y
def Res (lt:Keyed→Keyed→Bool) (a b r:List Keyed):Prop:=r.Perm (a++b)∧r.Pairwise (Le lt)
section
variable {lt:Keyed→Keyed→Bool} {a b out:List Keyed} {ia ib:Nat}
theorem Mg.swap (h:Mg lt a b out ia ib):Mg lt b a out ib ia:=⟨h.hb,h.ha,h.perm.trans aaM,h.srt,fun x hx y hy=>h.le x hx y hy.symm⟩
theorem Mg.nil:Mg lt a b [] 0 0:=⟨aaB _,aaB _,by simp,.nil,fun x hx=>by cases hx⟩
theorem k_ (ha:a.Pairwise (Le lt)) {i:Nat} {x:Keyed} (hx:a[i]?=some x):∀ y∈a.drop (i+1),Le lt x y:=by
  obtain ⟨hi,e⟩:=aag.mp hx;intro y hy;obtain ⟨k,hk,ek⟩:=abI hy;rw [List.getElem_drop] at ek;rw [← e,← ek];exact aaY.mp ha i (i+1+k) hi (by rw [aaC] at hk;lia) (by lia)
theorem Mg.pushA (h:Mg lt a b out ia ib) (sa:a.Pairwise (Le lt)) {x:Keyed} (hx:a[ia]?=some x) (hl:∀ y∈b.drop ib,Le lt x y):Mg lt a b (out++[x]) (ia+1) ib:=by
  obtain ⟨hi,e⟩:=aag.mp hx;have hd:a.drop ia=x :: a.drop (ia+1):=by rw [aaP hi,e]
  refine ⟨hi,h.hb,?_,?_,?_⟩
  · rw [aaK,hx];show (out++[x]).Perm (a.take ia++[x]++b.take ib);refine (h.perm.append_right [x]).trans ?_;rw [aaj,aaj];exact List.perm_append_comm.append_left _
  · rw [abj];refine ⟨h.srt,by simp,fun o ho y hy=>?_⟩;rw [abh.mp hy];exact h.le o ho x (.inl (by rw [hd];exact aaw))
  · intro o ho y hy;rcases aaE.mp ho with ho|ho
    · rcases hy with hy|hy
      · exact h.le o ho y (.inl (by rw [hd];exact aay _ hy))
      · exact h.le o ho y (.inr hy)
    · rw [abh.mp ho];rcases hy with hy|hy
      · exact k_ sa hx y hy
      · exact hl y hy
theorem Mg.pushB (h:Mg lt a b out ia ib) (sb:b.Pairwise (Le lt)) {x:Keyed} (hx:b[ib]?=some x) (hl:∀ y∈a.drop ia,Le lt x y):Mg lt a b (out++[x]) ia (ib+1):=(h.swap.pushA sb hx hl).swap
theorem Mg.appA (h:Mg lt a b out ia ib) (sa:a.Pairwise (Le lt)):∀ k,ia+k≤a.length→(∀ i x,i < k→a[ia+i]?=some x→∀ y∈b.drop ib,Le lt x y)→Mg lt a b (out++(a.drop ia).take k) (ia+k) ib
  | 0,_,_=>by simpa using h
  | k+1,hk,hl=>by
    have ih:=Mg.appA h sa k (by lia) fun i x hi=>hl i x (by lia);have hi:ia+k < a.length:=by lia
    have hx:a[ia+k]?=some a[ia+k]:=aae hi;have:=ih.pushA sa hx (hl k _ (by lia) hx);rw [aaj] at this;have e:(a.drop ia).take (k+1)=(a.drop ia).take k++[a[ia+k]]:=by
      rw [aaK,abP,hx];rfl
    rw [e];exact this
theorem Mg.appB (h:Mg lt a b out ia ib) (sb:b.Pairwise (Le lt)) (k:Nat) (hk:ib+k≤b.length) (hl:∀ i x,i < k→b[ib+i]?=some x→∀ y∈a.drop ia,Le lt x y):Mg lt a b (out++(b.drop ib).take k) ia (ib+k):=(h.swap.appA sb k hk hl).swap
theorem Mg.fin (h:Mg lt a b out ia ib) {X:List Keyed} (hp:X.Perm (a.drop ia++b.drop ib)) (hs:X.Pairwise (Le lt)):Res lt a b (out++X):=by
  refine ⟨?_,?_⟩
  · refine (h.perm.append hp).trans ?_;have e:(a++b).Perm (a.take ia++a.drop ia++(b.take ib++b.drop ib)):=by rw [aaI,aaI]
    refine List.Perm.trans ?_ e.symm;rw [aaj,aaj];refine aaV _ ?_;rw [← aaj,← aaj];exact aa9 _ aaM
  · rw [abj];refine ⟨h.srt,hs,fun x hx y hy=>h.le x hx y ?_⟩;exact aaE.mp (hp.mem_iff.mp hy)
theorem gf (sa:a.Pairwise (Le lt)) (i:Nat):(a.drop i).Pairwise (Le lt):=sa.sublist (List.drop_sublist i a)
theorem Mg.done (h:Mg lt a b out ia ib) (sa:a.Pairwise (Le lt)) (e:ib=b.length):Res lt a b (out++a.drop ia++b.drop ib):=by
  rw [aaj];have e2:b.drop ib=[]:=by rw [e,List.drop_length]
  refine h.fin (ab2 _) ?_;rw [e2,List.append_nil];exact gf sa ia
theorem Mg.last (h:Mg lt a b out ia ib) (sb:b.Pairwise (Le lt)) {x:Keyed} (e:a.drop ia=[x]) (hl:∀ y∈b,Le lt y x):Res lt a b (out++b.drop ib++a.drop ia):=by
  rw [aaj];refine h.fin aaM ?_;rw [abj];refine ⟨gf sb ib,by rw [e];simp,fun y hy z hz=>?_⟩;rw [e] at hz;rw [abh.mp hz];exact hl y (List.mem_of_mem_drop hy)
end
structure SameS (st st':SortSt):Prop where
  arr:arrOf st'=arrOf st
  pend:pendingOf st'=pendingOf st
  kind:kindOf st'=kindOf st
  fail:failedOf st'=failedOf st
theorem SameS.refl (st:SortSt):SameS st st:=⟨rfl,rfl,rfl,rfl⟩
section
variable {M:Model} {A:Around} {E:Value→Shared→Prop} {s:Shared} {κ:SortKind} {P:Keyed→Prop} {lt:Keyed→Keyed→Bool}
theorem aj {a:Array Keyed} {i:Nat} {x:Keyed} (h:a[i]?=some x):a.toList[i]?=some x:=by simpa using h
theorem aA {a:Array Keyed} {i:Nat} (h:i < a.size):∃ x,a[i]?=some x∧x∈a.toList:=⟨a[i],getElem?_pos a i h,by simp⟩
theorem dI (a:Array Keyed) (i:Nat):(a.extract i a.size).toList=a.toList.drop i:=by
  rw [abv,abd,← aan,← aaC,aa4]
theorem gH (a:Array Keyed) (i k:Nat):(a.extract i (i+k)).toList=(a.toList.drop i).take k:=by
  rw [abv,abd,Nat.add_sub_cancel_left]
theorem bg (O:Ord M A E s κ P lt) {a:List Keyed} (sa:a.Pairwise (Le lt)) (pa:∀ x∈a,P x) {x y0:Keyed} (px:P x) {i:Nat} (hy:a[i]?=some y0) (h:Le lt x y0):∀ y∈a.drop i,Le lt x y:=by
  obtain ⟨hi,e⟩:=aag.mp hy;intro y hm;rw [aaP hi,e] at hm;rcases aax.mp hm with rfl|hm
  · exact h
  · exact O.trans px (pa _ (aam hy)) (pa _ (List.mem_of_mem_drop hm)) h (k_ sa hy y hm)
def bM (lt:Keyed→Keyed→Bool) (key:Keyed) (a:Array Keyed) (base:Nat) (i:Nat):Bool:=match a[base+i]? with|some x=>!lt key x|none=>false
def az (lt:Keyed→Keyed→Bool) (key:Keyed) (a:Array Keyed) (base:Nat) (i:Nat):Bool:=match a[base+i]? with|some x=>lt x key|none=>false
theorem mZ {a:Array Keyed} (sa:a.toList.Pairwise (Le lt)) {i j:Nat} {x y:Keyed} (hx:a[i]?=some x) (hy:a[j]?=some y) (hij:i < j):Le lt x y:=by
  obtain ⟨h1,e1⟩:=aag.mp (aj hx);obtain ⟨h2,e2⟩:=aag.mp (aj hy);rw [← e1,← e2];exact aaY.mp sa i j h1 h2 hij
theorem dD (O:Ord M A E s κ P lt) {a:Array Keyed} (pa:∀ x∈a.toList,P x) (sa:a.toList.Pairwise (Le lt)) {key:Keyed} (pk:P key) {base n:Nat} (hn:base+n≤a.size):∀ i j,i≤j→j < n→bM lt key a base j=true→bM lt key a base i=true:=by
  intro i j hij hj h;obtain ⟨x,hx,mx⟩:=aA (a:=a) (i:=base+i) (by lia);obtain ⟨y,hy,my⟩:=aA (a:=a) (i:=base+j) (by lia);unfold bM at h ⊢;rw [hy] at h;rw [hx];by_cases e:i=j
  · subst e;rw [hx] at hy;cases hy;exact h
  · have h1:Le lt x y:=mZ sa hx hy (by lia);have h2:lt key y=false:=by simpa using h
    have:=O.trans (pa x mx) (pa y my) pk h1 h2;simp [this]
theorem bj (O:Ord M A E s κ P lt) {a:Array Keyed} (pa:∀ x∈a.toList,P x) (sa:a.toList.Pairwise (Le lt)) {key:Keyed} (pk:P key) {base n:Nat} (hn:base+n≤a.size):∀ i j,i≤j→j < n→az lt key a base j=true→az lt key a base i=true:=by
  intro i j hij hj h;obtain ⟨x,hx,mx⟩:=aA (a:=a) (i:=base+i) (by lia);obtain ⟨y,hy,my⟩:=aA (a:=a) (i:=base+j) (by lia);unfold az at h ⊢;rw [hy] at h;rw [hx];by_cases e:i=j
  · subst e;rw [hx] at hy;cases hy;exact h
  · have h1:Le lt x y:=mZ sa hx hy (by lia);show lt x key=true;cases c:lt x key with
    | true=>rfl
    | false =>
      have:=O.trans pk (pa x mx) (pa y my) c h1;have h:lt y key=true:=h;rw [this] at h;cases h
theorem iB (O:Ord M A E s κ P lt) {a b:Array Keyed} {st:SortSt} {Q:Array Keyed→SortSt→Prop} (hk:kindOf st=κ) (pa:∀ x∈a.toList,P x) (pb:∀ x∈b.toList,P x) (sa:a.toList.Pairwise (Le lt)) (sb:b.toList.Pairwise (Le lt)) {b0 al:Keyed} (hb0:b[0]?=some b0) (hl0:∀ y∈a.toList,Le lt b0 y) (hal:a.toList.getLast?=some al) (hll:∀ y∈b.toList,Le lt y al)
    (q:∀ r st',SameS st st'→Res lt a.toList b.toList r.toList→Q r st'):wpS M A E s (lu a b) Q st:=by
  refine wpS_bind (wpS_lift (wpAny_rule ⟨rfl,?_⟩));refine wpS_bind (am hb0 ?_);have hz:=aj hb0;have lenA:a.toList.length=a.size:=aan;have lenB:b.toList.length=b.size:=aan;obtain ⟨hb1,_⟩:=aag.mp hz;have m0:Mg lt a.toList b.toList (#[b0]:Array Keyed).toList 0 1:=by
    have:=(Mg.nil (lt:=lt) (a:=a.toList) (b:=b.toList)).pushB sb hz (by simpa using hl0);exact this
  have doneB:∀ {out:Array Keyed} {ia ib:Nat},Mg lt a.toList b.toList out.toList ia ib→ib=b.size→Res lt a.toList b.toList (out++a.extract ia a.size++b.extract ib b.size).toList:=fun {out ia ib} h e=>by
    rw [aao,aao,dI,dI];exact h.done sa (by lia)
  have doneA:∀ {out:Array Keyed} {ia ib:Nat},Mg lt a.toList b.toList out.toList ia ib→ia=a.size→Res lt a.toList b.toList (out++a.extract ia a.size++b.extract ib b.size).toList:=fun {out ia ib} h e=>by
    rw [aao,aao,dI,dI,aaj];have e2:a.toList.drop ia=[]:=by rw [e,← lenA,List.drop_length]
    refine h.fin (ab2 _) ?_;rw [e2,List.nil_append];exact gf sb ib
  have lastA:∀ {out:Array Keyed} {ia ib:Nat},Mg lt a.toList b.toList out.toList ia ib→ia+1=a.size→Res lt a.toList b.toList (out++b.extract ib b.size++a.extract ia a.size).toList:=fun {out ia ib} h e=>by
    rw [aao,aao,dI,dI];refine h.last sb (x:=al) ?_ hll;have hi:ia < a.toList.length:=by lia
    rw [aaP hi,aaS (by lia)];rw [List.getLast?_eq_getElem?,lenA,show a.size - 1=ia by lia,aae hi] at hal;rw [aaN hal]
  dsimp only;by_cases c1:(1 == b.size)=true
  · rw [if_pos c1];exact wpS_pure (q _ _ (SameS.refl _) (doneB m0 (by simpa using c1)))
  rw [if_neg c1];by_cases c2:(0+1 == a.size)=true
  · rw [if_pos c2];exact wpS_pure (q _ _ (SameS.refl _) (lastA m0 (by simpa using c2)))
  rw [if_neg c2];have c1:1≠b.size:=by simpa using c1
  have c2:1≠a.size:=by simpa using c2
  have a1:1≤a.size:=by
    cases h:a.toList with
    | nil=>rw [h] at hal;cases hal
    | cons x l=>rw [← lenA,h];simp
  refine wpS_bind (wpS_get ?_);refine wpS_bind (wpS_mono (wpS_forRange (I:=fun x c st'=>SameS st st'∧∃ out ia ib mg,c=(none,out,ia,ib,mg)∧Mg lt a.toList b.toList out.toList ia ib∧ia+1 < a.size∧ib < b.size∧x+1≤ia+ib)
    (Q:=fun c st'=>SameS st st'∧∃ r ba,c=(some r,ba)∧Res lt a.toList b.toList r.toList) ?step ?fin ⟨SameS.refl _,_,0,1,_,rfl,m0,by lia,by lia,by lia⟩) ?post)
  case post =>
    rintro c st' ⟨hs,r,ba,rfl,hr⟩;exact wpS_pure (q _ _ hs hr)
  case fin =>
    rintro c st' ⟨hs,out,ia,ib,mg,rfl,hm,h1,h2,h3⟩
    lia
  case step =>
    rintro x c st' _ hx ⟨hs,out,ia,ib,mg,rfl,hm,h1,h2,h3⟩;dsimp only;have hk':kindOf st'=κ:=hs.kind.trans hk;refine wpS_bind (wpS_mono (wpS_forRange (I:=fun y c st''=>st''=st'∧∃ out ia ib ac bc,c=(none,out,ia,ib,ac,bc)∧Mg lt a.toList b.toList out.toList ia ib∧ia+1 < a.size∧ib < b.size∧x+1+y≤ia+ib)
      (Q:=fun c st''=>st''=st'∧((∃ r ba,c=(some r,ba)∧Res lt a.toList b.toList r.toList)∨∃ out ia ib ac bc,c=(none,out,ia,ib,ac,bc)∧Mg lt a.toList b.toList out.toList ia ib∧ia+1 < a.size∧ib < b.size∧x+2≤ia+ib)) ?step1 ?fin1 ⟨rfl,out,ia,ib,0,0,rfl,hm,h1,h2,by lia⟩) ?post1)
    case fin1 =>
      rintro c st'' ⟨rfl,out,ia,ib,ac,bc,rfl,hm,h1,h2,h3⟩
      lia
    case step1 =>
      rintro y c st'' _ hy ⟨rfl,out,ia,ib,ac,bc,rfl,hm,h1,h2,h3⟩;dsimp only;obtain ⟨xa,exa,mxa⟩:=aA (a:=a) (i:=ia) (by lia);obtain ⟨xb,exb,mxb⟩:=aA (a:=b) (i:=ib) (by lia);refine wpS_bind (am exb (wpS_bind (am exa (wpS_bind (O.ask (pb _ mxb) (pa _ mxa) hk' ?_)))));dsimp only;by_cases d:lt xb xa=true
      · rw [if_pos d];refine wpS_bind (am exb ?_);have hm':Mg lt a.toList b.toList (out.push xb).toList ia (ib+1):=by
          rw [aai];exact hm.pushB sb (aj exb) (bg O sa pa (pb _ mxb) (aj exa) (O.asym (pb _ mxb) (pa _ mxa) d))
        by_cases e1:(ib+1 == b.size)=true
        · rw [if_pos e1];exact wpS_pure ⟨rfl,.inl ⟨_,_,rfl,doneB hm' (by simpa using e1)⟩⟩
        · rw [if_neg e1];have e1:ib+1≠b.size:=by simpa using e1
          by_cases e2:bc+1 ≥ mg
          · rw [if_pos e2];exact wpS_pure ⟨rfl,.inr ⟨_,_,_,_,_,rfl,hm',h1,by lia,by lia⟩⟩
          · rw [if_neg e2];exact wpS_pure ⟨rfl,_,_,_,_,_,rfl,hm',h1,by lia,by lia⟩
      · rw [if_neg d];have d:lt xb xa=false:=by simpa using d
        refine wpS_bind (am exa ?_);have hm':Mg lt a.toList b.toList (out.push xa).toList (ia+1) ib:=by
          rw [aai];exact hm.pushA sa (aj exa) (bg O sb pb (pa _ mxa) (aj exb) d)
        by_cases e1:(ia+1+1 == a.size)=true
        · rw [if_pos e1];exact wpS_pure ⟨rfl,.inl ⟨_,_,rfl,lastA hm' (by simpa using e1)⟩⟩
        · rw [if_neg e1];have e1:ia+1+1≠a.size:=by simpa using e1
          by_cases e2:ac+1 ≥ mg
          · rw [if_pos e2];exact wpS_pure ⟨rfl,.inr ⟨_,_,_,_,_,rfl,hm',by lia,h2,by lia⟩⟩
          · rw [if_neg e2];exact wpS_pure ⟨rfl,_,_,_,_,_,rfl,hm',by lia,h2,by lia⟩
    case post1 =>
      rintro c st'' ⟨rfl,⟨r,ba,rfl,hr⟩|⟨out,ia,ib,ac,bc,rfl,hm,h1,h2,h3⟩⟩
      · exact wpS_pure ⟨hs,_,_,rfl,hr⟩
      dsimp only;refine wpS_bind (wpS_lift (wpAny_rule ⟨rfl,?_⟩));refine wpS_bind (wpS_mono (wpS_forRange (I:=fun y c st''=>SameS st st''∧∃ out ia ib mg ac bc,c=(none,out,ia,ib,mg,ac,bc)∧Mg lt a.toList b.toList out.toList ia ib∧ia+1 < a.size∧ib < b.size∧x+2+y≤ia+ib)
        (Q:=fun c st''=>SameS st st''∧((∃ r ba,c=(some r,ba)∧Res lt a.toList b.toList r.toList)∨∃ out ia ib mg ac bc,c=(none,out,ia,ib,mg,ac,bc)∧Mg lt a.toList b.toList out.toList ia ib∧ia+1 < a.size∧ib < b.size∧x+2≤ia+ib)) ?step2 ?fin2 ⟨hs,out,ia,ib,_,_,_,rfl,hm,h1,h2,by lia⟩) ?post2)
      case fin2 =>
        rintro c st2 ⟨hs2,out,ia,ib,mg,ac,bc,rfl,hm,h1,h2,h3⟩
        lia
      case post2 =>
        rintro c st2 ⟨hs2,⟨r,ba,rfl,hr⟩|⟨out,ia,ib,mg,ac,bc,rfl,hm,h1,h2,h3⟩⟩
        · exact wpS_pure ⟨hs2,_,_,rfl,hr⟩
        dsimp only;refine wpS_bind (wpS_modify (wpS_pure ⟨⟨hs2.arr,hs2.pend,hs2.kind,hs2.fail⟩,_,_,_,_,rfl,hm,h1,h2,by lia⟩))
      case step2 =>
        rintro y c st2 _ hy ⟨hs2,out,ia,ib,mg,ac,bc,rfl,hm,h1,h2,h3⟩;dsimp only;have hk2:kindOf st2=κ:=hs2.kind.trans hk;by_cases cm:mg > 1
        · rw [if_pos cm];obtain ⟨xb,exb,mxb⟩:=aA (a:=b) (i:=ib) (by lia);refine wpS_bind (wpS_modify (wpS_bind (am exb (wpS_bind (aG O (B:=bM lt xb a ia) hk2 (pb _ mxb) pa (by lia) (by lia) (fun i x hi hx=>by unfold bM;rw [hx];rfl) (dD O pa sa (pb _ mxb) (by lia)) fun k bk=>?_)))));dsimp only;have hle:=bk.le;have hA0:∀ i x,i < k→a.toList[ia+i]?=some x→∀ y∈b.toList.drop ib,Le lt x y:=fun i x hi hx=>by
            have hx':a[ia+i]?=some x:=by simpa using hx
            have hb:=bk.lo i hi;unfold bM at hb;rw [hx'] at hb;have hb:lt xb x=false:=by simpa using hb
            exact bg O sb pb (pa x (aam hx)) (aj exb) hb
          have hmA0:=hm.appA sa k (by lia) hA0;have hKB0:∀ y∈a.toList.drop (ia+k),Le lt xb y:=by
            by_cases c:ia+k < a.size
            · obtain ⟨x3,ex3,mx3⟩:=aA (a:=a) (i:=ia+k) c;have hb:=bk.hi k (aab _) (by lia);unfold bM at hb;rw [ex3] at hb;have hb:lt xb x3=true:=by simpa using hb
              exact bg O sa pa (pb _ mxb) (aj ex3) (O.asym (pb _ mxb) (pa _ mx3) hb)
            · rw [aaS (by lia)];intro y hy;cases hy
          by_cases ck:k > 0
          · rw [if_pos ck];have hmA:Mg lt a.toList b.toList (out++a.extract ia (ia+k)).toList (ia+k) ib:=by
              rw [aao,gH];exact hmA0
            by_cases e5:(ia+k+1 == a.size)=true
            · rw [if_pos e5];exact wpS_pure ⟨⟨hs2.arr,hs2.pend,hs2.kind,hs2.fail⟩,.inl ⟨_,_,rfl,lastA hmA (by simpa using e5)⟩⟩
            rw [if_neg e5];have e5:ia+k+1≠a.size:=by simpa using e5
            by_cases e6:(ia+k == a.size)=true
            · rw [if_pos e6];exact wpS_pure ⟨⟨hs2.arr,hs2.pend,hs2.kind,hs2.fail⟩,.inl ⟨_,_,rfl,doneA hmA (by simpa using e6)⟩⟩
            rw [if_neg e6];have e6:ia+k≠a.size:=by simpa using e6
            have hKB:=hKB0;refine wpS_bind (am exb ?_);have hmA2:Mg lt a.toList b.toList ((out++a.extract ia (ia+k)).push xb).toList (ia+k) (ib+1):=by
              rw [aai];exact hmA.pushB sb (aj exb) hKB
            by_cases e1:(ib+1 == b.size)=true
            · rw [if_pos e1];exact wpS_pure ⟨⟨hs2.arr,hs2.pend,hs2.kind,hs2.fail⟩,.inl ⟨_,_,rfl,doneB hmA2 (by simpa using e1)⟩⟩
            rw [if_neg e1];have e1:ib+1≠b.size:=by simpa using e1
            obtain ⟨xa2,exa2,mxa2⟩:=aA (a:=a) (i:=ia+k) (by lia);refine wpS_bind (am exa2 (wpS_bind (aG O (B:=az lt xa2 b (ib+1)) hk2 (pa _ mxa2) pb (by lia) (by lia) (fun i x hi hx=>by unfold az;rw [hx];rfl) (bj O pb sb (pa _ mxa2) (by lia)) fun k2 bk2=>?_)));dsimp only;have hle2:=bk2.le;have hA2:∀ i x,i < k2→b.toList[ib+1+i]?=some x→∀ y∈a.toList.drop (ia+k),Le lt x y:=fun i x hi hx=>by
              have hx':b[ib+1+i]?=some x:=by simpa using hx
              have hb:=bk2.lo i hi;unfold az at hb;rw [hx'] at hb;have px:=pb x (aam hx);exact bg O sa pa px (aj exa2) (O.asym px (pa _ mxa2) hb)
            have hmB0:=hmA2.appB sb k2 (by lia) hA2;have hKA:∀ y∈b.toList.drop (ib+1+k2),Le lt xa2 y:=by
              by_cases c:ib+1+k2 < b.size
              · obtain ⟨x3,ex3,mx3⟩:=aA (a:=b) (i:=ib+1+k2) c;have hb:=bk2.hi k2 (aab _) (by lia);unfold az at hb;rw [ex3] at hb;exact bg O sb pb (pa _ mxa2) (aj ex3) hb
              · rw [aaS (by lia)];intro y hy;cases hy
            by_cases ck2:k2 > 0
            · rw [if_pos ck2];have hmB:Mg lt a.toList b.toList ((out++a.extract ia (ia+k)).push xb++b.extract (ib+1) (ib+1+k2)).toList (ia+k) (ib+1+k2):=by
                rw [aao,gH];exact hmB0
              by_cases e2:(ib+1+k2 == b.size)=true
              · rw [if_pos e2];exact wpS_pure ⟨⟨hs2.arr,hs2.pend,hs2.kind,hs2.fail⟩,.inl ⟨_,_,rfl,doneB hmB (by simpa using e2)⟩⟩
              rw [if_neg e2];have e2:ib+1+k2≠b.size:=by simpa using e2
              refine wpS_bind (am exa2 ?_);have hmC:Mg lt a.toList b.toList (((out++a.extract ia (ia+k)).push xb++b.extract (ib+1) (ib+1+k2)).push xa2).toList (ia+k+1) (ib+1+k2):=by
                rw [aai];exact hmB.pushA sa (aj exa2) hKA
              by_cases e3:(ia+k+1+1 == a.size)=true
              · rw [if_pos e3];exact wpS_pure ⟨⟨hs2.arr,hs2.pend,hs2.kind,hs2.fail⟩,.inl ⟨_,_,rfl,lastA hmC (by simpa using e3)⟩⟩
              · rw [if_neg e3];have e3:ia+k+1+1≠a.size:=by simpa using e3
                by_cases e4:(decide (k < 7) && decide (k2 < 7))=true
                · rw [if_pos e4];exact wpS_pure ⟨⟨hs2.arr,hs2.pend,hs2.kind,hs2.fail⟩,.inr ⟨_,_,_,_,_,_,rfl,hmC,by lia,by lia,by lia⟩⟩
                · rw [if_neg e4];exact wpS_pure ⟨⟨hs2.arr,hs2.pend,hs2.kind,hs2.fail⟩,_,_,_,_,_,_,rfl,hmC,by lia,by lia,by lia⟩
            · rw [if_neg ck2];obtain rfl:k2=0:=by lia
              have hmB:Mg lt a.toList b.toList ((out++a.extract ia (ia+k)).push xb).toList (ia+k) (ib+1):=hmA2;have hKA:∀ y∈b.toList.drop (ib+1),Le lt xa2 y:=hKA;refine wpS_bind (am exa2 ?_);have hmC:Mg lt a.toList b.toList (((out++a.extract ia (ia+k)).push xb).push xa2).toList (ia+k+1) (ib+1):=by
                rw [aai];exact hmB.pushA sa (aj exa2) hKA
              by_cases e3:(ia+k+1+1 == a.size)=true
              · rw [if_pos e3];exact wpS_pure ⟨⟨hs2.arr,hs2.pend,hs2.kind,hs2.fail⟩,.inl ⟨_,_,rfl,lastA hmC (by simpa using e3)⟩⟩
              · rw [if_neg e3];have e3:ia+k+1+1≠a.size:=by simpa using e3
                by_cases e4:(decide (k < 7) && decide (0 < 7))=true
                · rw [if_pos e4];exact wpS_pure ⟨⟨hs2.arr,hs2.pend,hs2.kind,hs2.fail⟩,.inr ⟨_,_,_,_,_,_,rfl,hmC,by lia,by lia,by lia⟩⟩
                · rw [if_neg e4];exact wpS_pure ⟨⟨hs2.arr,hs2.pend,hs2.kind,hs2.fail⟩,_,_,_,_,_,_,rfl,hmC,by lia,by lia,by lia⟩
          · rw [if_neg ck];obtain rfl:k=0:=by lia
            have hmA:Mg lt a.toList b.toList out.toList ia ib:=hm;have hKB:∀ y∈a.toList.drop ia,Le lt xb y:=hKB0;refine wpS_bind (am exb ?_);have hmA2:Mg lt a.toList b.toList ((out).push xb).toList (ia) (ib+1):=by
              rw [aai];exact hmA.pushB sb (aj exb) hKB
            by_cases e1:(ib+1 == b.size)=true
            · rw [if_pos e1];exact wpS_pure ⟨⟨hs2.arr,hs2.pend,hs2.kind,hs2.fail⟩,.inl ⟨_,_,rfl,doneB hmA2 (by simpa using e1)⟩⟩
            rw [if_neg e1];have e1:ib+1≠b.size:=by simpa using e1
            obtain ⟨xa2,exa2,mxa2⟩:=aA (a:=a) (i:=ia) (by lia);refine wpS_bind (am exa2 (wpS_bind (aG O (B:=az lt xa2 b (ib+1)) hk2 (pa _ mxa2) pb (by lia) (by lia) (fun i x hi hx=>by unfold az;rw [hx];rfl) (bj O pb sb (pa _ mxa2) (by lia)) fun k2 bk2=>?_)));dsimp only;have hle2:=bk2.le;have hA2:∀ i x,i < k2→b.toList[ib+1+i]?=some x→∀ y∈a.toList.drop (ia),Le lt x y:=fun i x hi hx=>by
              have hx':b[ib+1+i]?=some x:=by simpa using hx
              have hb:=bk2.lo i hi;unfold az at hb;rw [hx'] at hb;have px:=pb x (aam hx);exact bg O sa pa px (aj exa2) (O.asym px (pa _ mxa2) hb)
            have hmB0:=hmA2.appB sb k2 (by lia) hA2;have hKA:∀ y∈b.toList.drop (ib+1+k2),Le lt xa2 y:=by
              by_cases c:ib+1+k2 < b.size
              · obtain ⟨x3,ex3,mx3⟩:=aA (a:=b) (i:=ib+1+k2) c;have hb:=bk2.hi k2 (aab _) (by lia);unfold az at hb;rw [ex3] at hb;exact bg O sb pb (pa _ mxa2) (aj ex3) hb
              · rw [aaS (by lia)];intro y hy;cases hy
            by_cases ck2:k2 > 0
            · rw [if_pos ck2];have hmB:Mg lt a.toList b.toList ((out).push xb++b.extract (ib+1) (ib+1+k2)).toList (ia) (ib+1+k2):=by
                rw [aao,gH];exact hmB0
              by_cases e2:(ib+1+k2 == b.size)=true
              · rw [if_pos e2];exact wpS_pure ⟨⟨hs2.arr,hs2.pend,hs2.kind,hs2.fail⟩,.inl ⟨_,_,rfl,doneB hmB (by simpa using e2)⟩⟩
              rw [if_neg e2];have e2:ib+1+k2≠b.size:=by simpa using e2
              refine wpS_bind (am exa2 ?_);have hmC:Mg lt a.toList b.toList (((out).push xb++b.extract (ib+1) (ib+1+k2)).push xa2).toList (ia+1) (ib+1+k2):=by
                rw [aai];exact hmB.pushA sa (aj exa2) hKA
              by_cases e3:(ia+1+1 == a.size)=true
              · rw [if_pos e3];exact wpS_pure ⟨⟨hs2.arr,hs2.pend,hs2.kind,hs2.fail⟩,.inl ⟨_,_,rfl,lastA hmC (by simpa using e3)⟩⟩
              · rw [if_neg e3];have e3:ia+1+1≠a.size:=by simpa using e3
                by_cases e4:(decide (0 < 7) && decide (k2 < 7))=true
                · rw [if_pos e4];exact wpS_pure ⟨⟨hs2.arr,hs2.pend,hs2.kind,hs2.fail⟩,.inr ⟨_,_,_,_,_,_,rfl,hmC,by lia,by lia,by lia⟩⟩
                · rw [if_neg e4];exact wpS_pure ⟨⟨hs2.arr,hs2.pend,hs2.kind,hs2.fail⟩,_,_,_,_,_,_,rfl,hmC,by lia,by lia,by lia⟩
            · rw [if_neg ck2];obtain rfl:k2=0:=by lia
              have hmB:Mg lt a.toList b.toList ((out).push xb).toList (ia) (ib+1):=hmA2;have hKA:∀ y∈b.toList.drop (ib+1),Le lt xa2 y:=hKA;refine wpS_bind (am exa2 ?_);have hmC:Mg lt a.toList b.toList (((out).push xb).push xa2).toList (ia+1) (ib+1):=by
                rw [aai];exact hmB.pushA sa (aj exa2) hKA
              by_cases e3:(ia+1+1 == a.size)=true
              · rw [if_pos e3];exact wpS_pure ⟨⟨hs2.arr,hs2.pend,hs2.kind,hs2.fail⟩,.inl ⟨_,_,rfl,lastA hmC (by simpa using e3)⟩⟩
              · rw [if_neg e3];have e3:ia+1+1≠a.size:=by simpa using e3
                by_cases e4:(decide (0 < 7) && decide (0 < 7))=true
                · rw [if_pos e4];exact wpS_pure ⟨⟨hs2.arr,hs2.pend,hs2.kind,hs2.fail⟩,.inr ⟨_,_,_,_,_,_,rfl,hmC,by lia,by lia,by lia⟩⟩
                · rw [if_neg e4];exact wpS_pure ⟨⟨hs2.arr,hs2.pend,hs2.kind,hs2.fail⟩,_,_,_,_,_,_,rfl,hmC,by lia,by lia,by lia⟩
        · rw [if_neg cm];obtain ⟨xb,exb,mxb⟩:=aA (a:=b) (i:=ib) (by lia);refine wpS_bind (wpS_modify (wpS_bind (am exb (wpS_bind (aG O (B:=bM lt xb a ia) hk2 (pb _ mxb) pa (by lia) (by lia) (fun i x hi hx=>by unfold bM;rw [hx];rfl) (dD O pa sa (pb _ mxb) (by lia)) fun k bk=>?_)))));dsimp only;have hle:=bk.le;have hA0:∀ i x,i < k→a.toList[ia+i]?=some x→∀ y∈b.toList.drop ib,Le lt x y:=fun i x hi hx=>by
            have hx':a[ia+i]?=some x:=by simpa using hx
            have hb:=bk.lo i hi;unfold bM at hb;rw [hx'] at hb;have hb:lt xb x=false:=by simpa using hb
            exact bg O sb pb (pa x (aam hx)) (aj exb) hb
          have hmA0:=hm.appA sa k (by lia) hA0;have hKB0:∀ y∈a.toList.drop (ia+k),Le lt xb y:=by
            by_cases c:ia+k < a.size
            · obtain ⟨x3,ex3,mx3⟩:=aA (a:=a) (i:=ia+k) c;have hb:=bk.hi k (aab _) (by lia);unfold bM at hb;rw [ex3] at hb;have hb:lt xb x3=true:=by simpa using hb
              exact bg O sa pa (pb _ mxb) (aj ex3) (O.asym (pb _ mxb) (pa _ mx3) hb)
            · rw [aaS (by lia)];intro y hy;cases hy
          by_cases ck:k > 0
          · rw [if_pos ck];have hmA:Mg lt a.toList b.toList (out++a.extract ia (ia+k)).toList (ia+k) ib:=by
              rw [aao,gH];exact hmA0
            by_cases e5:(ia+k+1 == a.size)=true
            · rw [if_pos e5];exact wpS_pure ⟨⟨hs2.arr,hs2.pend,hs2.kind,hs2.fail⟩,.inl ⟨_,_,rfl,lastA hmA (by simpa using e5)⟩⟩
            rw [if_neg e5];have e5:ia+k+1≠a.size:=by simpa using e5
            by_cases e6:(ia+k == a.size)=true
            · rw [if_pos e6];exact wpS_pure ⟨⟨hs2.arr,hs2.pend,hs2.kind,hs2.fail⟩,.inl ⟨_,_,rfl,doneA hmA (by simpa using e6)⟩⟩
            rw [if_neg e6];have e6:ia+k≠a.size:=by simpa using e6
            have hKB:=hKB0;refine wpS_bind (am exb ?_);have hmA2:Mg lt a.toList b.toList ((out++a.extract ia (ia+k)).push xb).toList (ia+k) (ib+1):=by
              rw [aai];exact hmA.pushB sb (aj exb) hKB
            by_cases e1:(ib+1 == b.size)=true
            · rw [if_pos e1];exact wpS_pure ⟨⟨hs2.arr,hs2.pend,hs2.kind,hs2.fail⟩,.inl ⟨_,_,rfl,doneB hmA2 (by simpa using e1)⟩⟩
            rw [if_neg e1];have e1:ib+1≠b.size:=by simpa using e1
            obtain ⟨xa2,exa2,mxa2⟩:=aA (a:=a) (i:=ia+k) (by lia);refine wpS_bind (am exa2 (wpS_bind (aG O (B:=az lt xa2 b (ib+1)) hk2 (pa _ mxa2) pb (by lia) (by lia) (fun i x hi hx=>by unfold az;rw [hx];rfl) (bj O pb sb (pa _ mxa2) (by lia)) fun k2 bk2=>?_)));dsimp only;have hle2:=bk2.le;have hA2:∀ i x,i < k2→b.toList[ib+1+i]?=some x→∀ y∈a.toList.drop (ia+k),Le lt x y:=fun i x hi hx=>by
              have hx':b[ib+1+i]?=some x:=by simpa using hx
              have hb:=bk2.lo i hi;unfold az at hb;rw [hx'] at hb;have px:=pb x (aam hx);exact bg O sa pa px (aj exa2) (O.asym px (pa _ mxa2) hb)
            have hmB0:=hmA2.appB sb k2 (by lia) hA2;have hKA:∀ y∈b.toList.drop (ib+1+k2),Le lt xa2 y:=by
              by_cases c:ib+1+k2 < b.size
              · obtain ⟨x3,ex3,mx3⟩:=aA (a:=b) (i:=ib+1+k2) c;have hb:=bk2.hi k2 (aab _) (by lia);unfold az at hb;rw [ex3] at hb;exact bg O sb pb (pa _ mxa2) (aj ex3) hb
              · rw [aaS (by lia)];intro y hy;cases hy
            by_cases ck2:k2 > 0
            · rw [if_pos ck2];have hmB:Mg lt a.toList b.toList ((out++a.extract ia (ia+k)).push xb++b.extract (ib+1) (ib+1+k2)).toList (ia+k) (ib+1+k2):=by
                rw [aao,gH];exact hmB0
              by_cases e2:(ib+1+k2 == b.size)=true
              · rw [if_pos e2];exact wpS_pure ⟨⟨hs2.arr,hs2.pend,hs2.kind,hs2.fail⟩,.inl ⟨_,_,rfl,doneB hmB (by simpa using e2)⟩⟩
              rw [if_neg e2];have e2:ib+1+k2≠b.size:=by simpa using e2
              refine wpS_bind (am exa2 ?_);have hmC:Mg lt a.toList b.toList (((out++a.extract ia (ia+k)).push xb++b.extract (ib+1) (ib+1+k2)).push xa2).toList (ia+k+1) (ib+1+k2):=by
                rw [aai];exact hmB.pushA sa (aj exa2) hKA
              by_cases e3:(ia+k+1+1 == a.size)=true
              · rw [if_pos e3];exact wpS_pure ⟨⟨hs2.arr,hs2.pend,hs2.kind,hs2.fail⟩,.inl ⟨_,_,rfl,lastA hmC (by simpa using e3)⟩⟩
              · rw [if_neg e3];have e3:ia+k+1+1≠a.size:=by simpa using e3
                by_cases e4:(decide (k < 7) && decide (k2 < 7))=true
                · rw [if_pos e4];exact wpS_pure ⟨⟨hs2.arr,hs2.pend,hs2.kind,hs2.fail⟩,.inr ⟨_,_,_,_,_,_,rfl,hmC,by lia,by lia,by lia⟩⟩
                · rw [if_neg e4];exact wpS_pure ⟨⟨hs2.arr,hs2.pend,hs2.kind,hs2.fail⟩,_,_,_,_,_,_,rfl,hmC,by lia,by lia,by lia⟩
            · rw [if_neg ck2];obtain rfl:k2=0:=by lia
              have hmB:Mg lt a.toList b.toList ((out++a.extract ia (ia+k)).push xb).toList (ia+k) (ib+1):=hmA2;have hKA:∀ y∈b.toList.drop (ib+1),Le lt xa2 y:=hKA;refine wpS_bind (am exa2 ?_);have hmC:Mg lt a.toList b.toList (((out++a.extract ia (ia+k)).push xb).push xa2).toList (ia+k+1) (ib+1):=by
                rw [aai];exact hmB.pushA sa (aj exa2) hKA
              by_cases e3:(ia+k+1+1 == a.size)=true
              · rw [if_pos e3];exact wpS_pure ⟨⟨hs2.arr,hs2.pend,hs2.kind,hs2.fail⟩,.inl ⟨_,_,rfl,lastA hmC (by simpa using e3)⟩⟩
              · rw [if_neg e3];have e3:ia+k+1+1≠a.size:=by simpa using e3
                by_cases e4:(decide (k < 7) && decide (0 < 7))=true
                · rw [if_pos e4];exact wpS_pure ⟨⟨hs2.arr,hs2.pend,hs2.kind,hs2.fail⟩,.inr ⟨_,_,_,_,_,_,rfl,hmC,by lia,by lia,by lia⟩⟩
                · rw [if_neg e4];exact wpS_pure ⟨⟨hs2.arr,hs2.pend,hs2.kind,hs2.fail⟩,_,_,_,_,_,_,rfl,hmC,by lia,by lia,by lia⟩
          · rw [if_neg ck];obtain rfl:k=0:=by lia
            have hmA:Mg lt a.toList b.toList out.toList ia ib:=hm;have hKB:∀ y∈a.toList.drop ia,Le lt xb y:=hKB0;refine wpS_bind (am exb ?_);have hmA2:Mg lt a.toList b.toList ((out).push xb).toList (ia) (ib+1):=by
              rw [aai];exact hmA.pushB sb (aj exb) hKB
            by_cases e1:(ib+1 == b.size)=true
            · rw [if_pos e1];exact wpS_pure ⟨⟨hs2.arr,hs2.pend,hs2.kind,hs2.fail⟩,.inl ⟨_,_,rfl,doneB hmA2 (by simpa using e1)⟩⟩
            rw [if_neg e1];have e1:ib+1≠b.size:=by simpa using e1
            obtain ⟨xa2,exa2,mxa2⟩:=aA (a:=a) (i:=ia) (by lia);refine wpS_bind (am exa2 (wpS_bind (aG O (B:=az lt xa2 b (ib+1)) hk2 (pa _ mxa2) pb (by lia) (by lia) (fun i x hi hx=>by unfold az;rw [hx];rfl) (bj O pb sb (pa _ mxa2) (by lia)) fun k2 bk2=>?_)));dsimp only;have hle2:=bk2.le;have hA2:∀ i x,i < k2→b.toList[ib+1+i]?=some x→∀ y∈a.toList.drop (ia),Le lt x y:=fun i x hi hx=>by
              have hx':b[ib+1+i]?=some x:=by simpa using hx
              have hb:=bk2.lo i hi;unfold az at hb;rw [hx'] at hb;have px:=pb x (aam hx);exact bg O sa pa px (aj exa2) (O.asym px (pa _ mxa2) hb)
            have hmB0:=hmA2.appB sb k2 (by lia) hA2;have hKA:∀ y∈b.toList.drop (ib+1+k2),Le lt xa2 y:=by
              by_cases c:ib+1+k2 < b.size
              · obtain ⟨x3,ex3,mx3⟩:=aA (a:=b) (i:=ib+1+k2) c;have hb:=bk2.hi k2 (aab _) (by lia);unfold az at hb;rw [ex3] at hb;exact bg O sb pb (pa _ mxa2) (aj ex3) hb
              · rw [aaS (by lia)];intro y hy;cases hy
            by_cases ck2:k2 > 0
            · rw [if_pos ck2];have hmB:Mg lt a.toList b.toList ((out).push xb++b.extract (ib+1) (ib+1+k2)).toList (ia) (ib+1+k2):=by
                rw [aao,gH];exact hmB0
              by_cases e2:(ib+1+k2 == b.size)=true
              · rw [if_pos e2];exact wpS_pure ⟨⟨hs2.arr,hs2.pend,hs2.kind,hs2.fail⟩,.inl ⟨_,_,rfl,doneB hmB (by simpa using e2)⟩⟩
              rw [if_neg e2];have e2:ib+1+k2≠b.size:=by simpa using e2
              refine wpS_bind (am exa2 ?_);have hmC:Mg lt a.toList b.toList (((out).push xb++b.extract (ib+1) (ib+1+k2)).push xa2).toList (ia+1) (ib+1+k2):=by
                rw [aai];exact hmB.pushA sa (aj exa2) hKA
              by_cases e3:(ia+1+1 == a.size)=true
              · rw [if_pos e3];exact wpS_pure ⟨⟨hs2.arr,hs2.pend,hs2.kind,hs2.fail⟩,.inl ⟨_,_,rfl,lastA hmC (by simpa using e3)⟩⟩
              · rw [if_neg e3];have e3:ia+1+1≠a.size:=by simpa using e3
                by_cases e4:(decide (0 < 7) && decide (k2 < 7))=true
                · rw [if_pos e4];exact wpS_pure ⟨⟨hs2.arr,hs2.pend,hs2.kind,hs2.fail⟩,.inr ⟨_,_,_,_,_,_,rfl,hmC,by lia,by lia,by lia⟩⟩
                · rw [if_neg e4];exact wpS_pure ⟨⟨hs2.arr,hs2.pend,hs2.kind,hs2.fail⟩,_,_,_,_,_,_,rfl,hmC,by lia,by lia,by lia⟩
            · rw [if_neg ck2];obtain rfl:k2=0:=by lia
              have hmB:Mg lt a.toList b.toList ((out).push xb).toList (ia) (ib+1):=hmA2;have hKA:∀ y∈b.toList.drop (ib+1),Le lt xa2 y:=hKA;refine wpS_bind (am exa2 ?_);have hmC:Mg lt a.toList b.toList (((out).push xb).push xa2).toList (ia+1) (ib+1):=by
                rw [aai];exact hmB.pushA sa (aj exa2) hKA
              by_cases e3:(ia+1+1 == a.size)=true
              · rw [if_pos e3];exact wpS_pure ⟨⟨hs2.arr,hs2.pend,hs2.kind,hs2.fail⟩,.inl ⟨_,_,rfl,lastA hmC (by simpa using e3)⟩⟩
              · rw [if_neg e3];have e3:ia+1+1≠a.size:=by simpa using e3
                by_cases e4:(decide (0 < 7) && decide (0 < 7))=true
                · rw [if_pos e4];exact wpS_pure ⟨⟨hs2.arr,hs2.pend,hs2.kind,hs2.fail⟩,.inr ⟨_,_,_,_,_,_,rfl,hmC,by lia,by lia,by lia⟩⟩
                · rw [if_neg e4];exact wpS_pure ⟨⟨hs2.arr,hs2.pend,hs2.kind,hs2.fail⟩,_,_,_,_,_,_,rfl,hmC,by lia,by lia,by lia⟩
end
end Tim
namespace Tim
open PySem PyProof.Rows
structure Mh (lt:Keyed→Keyed→Bool) (a b out:List Keyed) (na nb:Nat):Prop where
  ha:na≤a.length
  hb:nb≤b.length
  perm:out.Perm (a.drop na++b.drop nb)
  srt:out.Pairwise fun x y=>Le lt y x
  le:∀ x∈out,∀ y,(y∈a.take na∨y∈b.take nb)→Le lt y x
section
variable {lt:Keyed→Keyed→Bool} {a b out:List Keyed} {na nb:Nat}
theorem Mh.swap (h:Mh lt a b out na nb):Mh lt b a out nb na:=⟨h.hb,h.ha,h.perm.trans aaM,h.srt,fun x hx y hy=>h.le x hx y hy.symm⟩
theorem Mh.nil:Mh lt a b [] a.length b.length:=⟨aab _,aab _,by simp,.nil,fun x hx=>by cases hx⟩
theorem kZ (ha:a.Pairwise (Le lt)) {i:Nat} {x:Keyed} (hx:a[i]?=some x):∀ y∈a.take i,Le lt y x:=by
  obtain ⟨hi,e⟩:=aag.mp hx;intro y hy;obtain ⟨k,hk,ek⟩:=abI hy;rw [List.getElem_take] at ek;rw [← e,← ek];rw [aas] at hk;exact aaY.mp ha k i (by lia) hi (by lia)
theorem Mh.pushA (h:Mh lt a b out (na+1) nb) (sa:a.Pairwise (Le lt)) {x:Keyed} (hx:a[na]?=some x) (hl:∀ y∈b.take nb,Le lt y x):Mh lt a b (out++[x]) na nb:=by
  obtain ⟨hi,e⟩:=aag.mp hx;have hd:a.drop na=x :: a.drop (na+1):=by rw [aaP hi,e]
  have ht:a.take (na+1)=a.take na++[x]:=by rw [aaK,hx];rfl
  refine ⟨by lia,h.hb,?_,?_,?_⟩
  · rw [hd];show (out++[x]).Perm (x :: (a.drop (na+1)++b.drop nb));exact (h.perm.append_right [x]).trans (aaM (l₂:=[x]))
  · rw [abj];refine ⟨h.srt,by simp,fun o ho y hy=>?_⟩;rw [abh.mp hy];exact h.le o ho x (.inl (by rw [ht];simp))
  · intro o ho y hy;rcases aaE.mp ho with ho|ho
    · rcases hy with hy|hy
      · exact h.le o ho y (.inl (by rw [ht];exact abw _ hy))
      · exact h.le o ho y (.inr hy)
    · rw [abh.mp ho];rcases hy with hy|hy
      · exact kZ sa hx y hy
      · exact hl y hy
theorem Mh.pushB (h:Mh lt a b out na (nb+1)) (sb:b.Pairwise (Le lt)) {x:Keyed} (hx:b[nb]?=some x) (hl:∀ y∈a.take na,Le lt y x):Mh lt a b (out++[x]) na nb:=(h.swap.pushA sb hx hl).swap
theorem Mh.appA (sa:a.Pairwise (Le lt)):∀ (k at_:Nat) {out:List Keyed},Mh lt a b out (at_+k) nb→(∀ i x,at_≤i→i < at_+k→a[i]?=some x→∀ y∈b.take nb,Le lt y x)→Mh lt a b (out++((a.drop at_).take k).reverse) at_ nb
  | 0,at_,out,h,_=>by simpa using h
  | k+1,at_,out,h,hl=>by
    have hi:at_+k < a.length:=by have:=h.ha;lia
    have hx:a[at_+k]?=some a[at_+k]:=aae hi;have h1:=h.pushA (na:=at_+k) sa hx (hl _ _ (by lia) (by lia) hx);have h2:=Mh.appA sa k at_ h1 fun i x h1 h2=>hl i x h1 (by lia);have e:(a.drop at_).take (k+1)=(a.drop at_).take k++[a[at_+k]]:=by
      rw [aaK,abP,hx];rfl
    rw [e,List.reverse_append];rw [aaj] at h2;exact h2
theorem Mh.appB (sb:b.Pairwise (Le lt)) (k at_:Nat) (h:Mh lt a b out na (at_+k)) (hl:∀ i x,at_≤i→i < at_+k→b[i]?=some x→∀ y∈a.take na,Le lt y x):Mh lt a b (out++((b.drop at_).take k).reverse) na at_:=(Mh.appA sb k at_ h.swap hl).swap
theorem Mh.fin (h:Mh lt a b out na nb) {X:List Keyed} (hp:X.Perm (a.take na++b.take nb)) (hs:X.Pairwise (Le lt)):Res lt a b (X++out.reverse):=by
  refine ⟨?_,?_⟩
  · refine (hp.append ((List.reverse_perm out).trans h.perm)).trans ?_;have e:(a++b).Perm (a.take na++a.drop na++(b.take nb++b.drop nb)):=by rw [aaI,aaI]
    refine List.Perm.trans ?_ e.symm;rw [aaj,aaj];refine aaV _ ?_;rw [← aaj,← aaj];exact aa9 _ aaM
  · rw [abj];refine ⟨hs,List.pairwise_reverse.mpr h.srt,fun x hx y hy=>h.le y (List.mem_reverse.mp hy) x ?_⟩;exact aaE.mp (hp.mem_iff.mp hx)
theorem fD (sa:a.Pairwise (Le lt)) (i:Nat):(a.take i).Pairwise (Le lt):=sa.sublist (List.take_sublist i a)
theorem j9 (a:Array Keyed) (i:Nat):(a.extract 0 i).toList=a.toList.take i:=by
  rw [abv,abd,List.drop_zero,Nat.sub_zero]
theorem cU (a:Array Keyed) (i j:Nat) (h:i≤j):((a.extract i j).reverse).toList=((a.toList.drop i).take (j - i)).reverse:=by
  rw [Array.toList_reverse,abv,abd]
end
section
variable {M:Model} {A:Around} {E:Value→Shared→Prop} {s:Shared} {κ:SortKind} {P:Keyed→Prop} {lt:Keyed→Keyed→Bool}
theorem bh (O:Ord M A E s κ P lt) {a:List Keyed} (sa:a.Pairwise (Le lt)) (pa:∀ x∈a,P x) {x y0:Keyed} (px:P x) {i:Nat} (hy:a[i]?=some y0) (h:Le lt y0 x):∀ y∈a.take (i+1),Le lt y x:=by
  intro y hm;rw [aaK,hy] at hm;rcases aaE.mp hm with hm|hm
  · exact O.trans (pa _ (abE hm)) (pa _ (aam hy)) px (kZ sa hy y hm) h
  · have : y=y0:=by simpa using hm
    rw [this];exact h
theorem iC (O:Ord M A E s κ P lt) {a b:Array Keyed} {st:SortSt} {Q:Array Keyed→SortSt→Prop} (hk:kindOf st=κ) (pa:∀ x∈a.toList,P x) (pb:∀ x∈b.toList,P x) (sa:a.toList.Pairwise (Le lt)) (sb:b.toList.Pairwise (Le lt)) {b0 al:Keyed} (hb0:b[0]?=some b0) (hl0:∀ y∈a.toList,Le lt b0 y) (hal:a[a.size - 1]?=some al) (hll:∀ y∈b.toList,Le lt y al)
    (q:∀ r st',SameS st st'→Res lt a.toList b.toList r.toList→Q r st'):wpS M A E s (lx a b) Q st:=by
  refine wpS_bind (wpS_lift (wpAny_rule ⟨rfl,?_⟩));refine wpS_bind (am hal ?_);have lenA:a.toList.length=a.size:=aan;have lenB:b.toList.length=b.size:=aan;obtain ⟨hb1,_⟩:=aag.mp (aj hb0);obtain ⟨ha1,_⟩:=aag.mp (aj hal);have a1:1≤a.size:=by lia
  have m0:Mh lt a.toList b.toList (#[al]:Array Keyed).toList (a.size - 1) b.size:=by
    have h0:=Mh.nil (lt:=lt) (a:=a.toList) (b:=b.toList);rw [lenA,lenB,show a.size=a.size - 1+1 by lia] at h0;exact h0.pushA sa (aj hal) fun y hy=>hll y (abE hy)
  have done0:∀ {out:Array Keyed} {na nb:Nat},Mh lt a.toList b.toList out.toList na nb→(na=0∨nb=0)→Res lt a.toList b.toList (a.extract 0 na++b.extract 0 nb++out.reverse).toList:=fun {out na nb} h e=>by
    rw [aao,aao,j9,j9,Array.toList_reverse];refine h.fin (ab2 _) ?_;rcases e with e|e
    · rw [e,List.take_zero,List.nil_append];exact fD sb nb
    · rw [e,List.take_zero,List.append_nil];exact fD sa na
  have firstB:∀ {out:Array Keyed} {na nb:Nat},Mh lt a.toList b.toList out.toList na nb→nb=1→Res lt a.toList b.toList (b.extract 0 nb++a.extract 0 na++out.reverse).toList:=fun {out na nb} h e=>by
    rw [aao,aao,j9,j9,Array.toList_reverse];refine h.fin aaM ?_;have e1:b.toList.take nb=[b0]:=by
      rw [e,aaK,aj hb0];rfl
    rw [e1,abj];refine ⟨by simp,fD sa na,fun x hx y hy=>?_⟩;rw [abh.mp hx];exact hl0 y (abE hy)
  dsimp only;by_cases c1:(a.size - 1 == 0)=true
  · rw [if_pos c1];exact wpS_pure (q _ _ (SameS.refl _) (done0 m0 (.inl (by simpa using c1))))
  rw [if_neg c1];by_cases c2:(b.size == 1)=true
  · rw [if_pos c2];exact wpS_pure (q _ _ (SameS.refl _) (firstB m0 (by simpa using c2)))
  rw [if_neg c2];have c1:a.size - 1≠0:=by simpa using c1
  have c2:b.size≠1:=by simpa using c2
  refine wpS_bind (wpS_get ?_);refine wpS_bind (wpS_mono (wpS_forRange (I:=fun x c st'=>SameS st st'∧∃ na nb out mg,c=(none,na,nb,out,mg)∧Mh lt a.toList b.toList out.toList na nb∧0 < na∧1 < nb∧x+1+na+nb≤a.size+b.size)
    (Q:=fun c st'=>SameS st st'∧∃ r ba,c=(some r,ba)∧Res lt a.toList b.toList r.toList) ?step ?fin ⟨SameS.refl _,_,_,_,_,rfl,m0,by lia,by lia,by lia⟩) ?post)
  case post =>
    rintro c st' ⟨hs,r,ba,rfl,hr⟩;exact wpS_pure (q _ _ hs hr)
  case fin =>
    rintro c st' ⟨hs,na,nb,out,mg,rfl,hm,h1,h2,h3⟩
    lia
  case step =>
    rintro x c st' _ hx ⟨hs,na,nb,out,mg,rfl,hm,h1,h2,h3⟩;dsimp only;have hk':kindOf st'=κ:=hs.kind.trans hk;refine wpS_bind (wpS_mono (wpS_forRange (I:=fun y c st''=>st''=st'∧∃ na nb out ac bc,c=(none,na,nb,out,ac,bc)∧Mh lt a.toList b.toList out.toList na nb∧0 < na∧1 < nb∧x+1+y+na+nb≤a.size+b.size)
      (Q:=fun c st''=>st''=st'∧((∃ r ba,c=(some r,ba)∧Res lt a.toList b.toList r.toList)∨∃ na nb out ac bc,c=(none,na,nb,out,ac,bc)∧Mh lt a.toList b.toList out.toList na nb∧0 < na∧1 < nb∧x+2+na+nb≤a.size+b.size)) ?step1 ?fin1 ⟨rfl,na,nb,out,0,0,rfl,hm,h1,h2,by lia⟩) ?post1)
    case fin1 =>
      rintro c st'' ⟨rfl,na,nb,out,ac,bc,rfl,hm,h1,h2,h3⟩
      lia
    case step1 =>
      rintro y c st'' _ hy ⟨rfl,na,nb,out,ac,bc,rfl,hm,h1,h2,h3⟩;dsimp only;have la:=hm.ha;have lb:=hm.hb;obtain ⟨xa,exa,mxa⟩:=aA (a:=a) (i:=na - 1) (by lia);obtain ⟨xb,exb,mxb⟩:=aA (a:=b) (i:=nb - 1) (by lia);refine wpS_bind (am exb (wpS_bind (am exa (wpS_bind (O.ask (pb _ mxb) (pa _ mxa) hk' ?_)))));dsimp only;by_cases d:lt xb xa=true
      · rw [if_pos d];refine wpS_bind (am exa ?_);have hm':Mh lt a.toList b.toList (out.push xa).toList (na - 1) nb:=by
          rw [aai];have hm2:Mh lt a.toList b.toList out.toList (na - 1+1) nb:=by rw [show na - 1+1=na by lia];exact hm
          refine hm2.pushA sa (aj exa) ?_;have:=bh O sb pb (pa _ mxa) (aj exb) (O.asym (pb _ mxb) (pa _ mxa) d)
          rwa [show nb - 1+1=nb by lia] at this
        by_cases e1:(na - 1 == 0)=true
        · rw [if_pos e1];exact wpS_pure ⟨rfl,.inl ⟨_,_,rfl,done0 hm' (.inl (by simpa using e1))⟩⟩
        · rw [if_neg e1];have e1:na - 1≠0:=by simpa using e1
          by_cases e2:ac+1 ≥ mg
          · rw [if_pos e2];exact wpS_pure ⟨rfl,.inr ⟨_,_,_,_,_,rfl,hm',by lia,h2,by lia⟩⟩
          · rw [if_neg e2];exact wpS_pure ⟨rfl,_,_,_,_,_,rfl,hm',by lia,h2,by lia⟩
      · rw [if_neg d];have d:lt xb xa=false:=by simpa using d
        refine wpS_bind (am exb ?_);have hm':Mh lt a.toList b.toList (out.push xb).toList na (nb - 1):=by
          rw [aai];have hm2:Mh lt a.toList b.toList out.toList na (nb - 1+1):=by rw [show nb - 1+1=nb by lia];exact hm
          refine hm2.pushB sb (aj exb) ?_;have:=bh O sa pa (pb _ mxb) (aj exa) d
          rwa [show na - 1+1=na by lia] at this
        by_cases e1:(nb - 1 == 1)=true
        · rw [if_pos e1];exact wpS_pure ⟨rfl,.inl ⟨_,_,rfl,firstB hm' (by simpa using e1)⟩⟩
        · rw [if_neg e1];have e1:nb - 1≠1:=by simpa using e1
          by_cases e2:bc+1 ≥ mg
          · rw [if_pos e2];exact wpS_pure ⟨rfl,.inr ⟨_,_,_,_,_,rfl,hm',h1,by lia,by lia⟩⟩
          · rw [if_neg e2];exact wpS_pure ⟨rfl,_,_,_,_,_,rfl,hm',h1,by lia,by lia⟩
    case post1 =>
      rintro c st'' ⟨rfl,⟨r,ba,rfl,hr⟩|⟨na,nb,out,ac,bc,rfl,hm,h1,h2,h3⟩⟩
      · exact wpS_pure ⟨hs,_,_,rfl,hr⟩
      dsimp only;refine wpS_bind (wpS_lift (wpAny_rule ⟨rfl,?_⟩));refine wpS_bind (wpS_mono (wpS_forRange (I:=fun y c st''=>SameS st st''∧∃ na nb out mg ac bc,c=(none,na,nb,out,mg,ac,bc)∧Mh lt a.toList b.toList out.toList na nb∧0 < na∧1 < nb∧x+2+y+na+nb≤a.size+b.size)
        (Q:=fun c st''=>SameS st st''∧((∃ r ba,c=(some r,ba)∧Res lt a.toList b.toList r.toList)∨∃ na nb out mg ac bc,c=(none,na,nb,out,mg,ac,bc)∧Mh lt a.toList b.toList out.toList na nb∧0 < na∧1 < nb∧x+2+na+nb≤a.size+b.size)) ?step2 ?fin2 ⟨hs,na,nb,out,_,_,_,rfl,hm,h1,h2,by lia⟩) ?post2)
      case fin2 =>
        rintro c st2 ⟨hs2,na,nb,out,mg,ac,bc,rfl,hm,h1,h2,h3⟩
        lia
      case post2 =>
        rintro c st2 ⟨hs2,⟨r,ba,rfl,hr⟩|⟨na,nb,out,mg,ac,bc,rfl,hm,h1,h2,h3⟩⟩
        · exact wpS_pure ⟨hs2,_,_,rfl,hr⟩
        dsimp only;refine wpS_bind (wpS_modify (wpS_pure ⟨⟨hs2.arr,hs2.pend,hs2.kind,hs2.fail⟩,_,_,_,_,rfl,hm,h1,h2,by lia⟩))
      case step2 =>
        rintro y c st2 _ hy ⟨hs2,na,nb,out,mg,ac,bc,rfl,hm,h1,h2,h3⟩;dsimp only;have hk2:kindOf st2=κ:=hs2.kind.trans hk;have la:=hm.ha;have lb:=hm.hb;by_cases cm:mg > 1
        · rw [if_pos cm];obtain ⟨xb,exb,mxb⟩:=aA (a:=b) (i:=nb - 1) (by lia);refine wpS_bind (wpS_modify (wpS_bind (am exb (wpS_bind (aG O (B:=bM lt xb a 0) hk2 (pb _ mxb) pa (by lia) (by lia) (fun i x hi hx=>by unfold bM;rw [hx];rfl) (dD O pa sa (pb _ mxb) (by lia)) fun p1 bk=>?_)))));dsimp only;have hle:=bk.le;have hA0:∀ i x,p1≤i→i < p1+(na - p1)→a.toList[i]?=some x→∀ y∈b.toList.take nb,Le lt y x:=fun i x h1 h2 hx=>by
            have hx':a[0+i]?=some x:=by rw [aa6];simpa using hx
            have hb:=bk.hi i h1 (by lia);unfold bM at hb;rw [hx'] at hb;have hb:lt xb x=true:=by simpa using hb
            have px:=pa x (aam hx);have:=bh O sb pb px (aj exb) (O.asym (pb _ mxb) px hb)
            rwa [show nb - 1+1=nb by lia] at this
          have hmA0:=Mh.appA sa (na - p1) p1 (by rw [show p1+(na - p1)=na by lia];exact hm) hA0;have hKB0:0 < p1→∀ y∈a.toList.take p1,Le lt y xb:=fun hp=>by
            obtain ⟨x3,ex3,mx3⟩:=aA (a:=a) (i:=p1 - 1) (by lia);have hb:=bk.lo (p1 - 1) (by lia);unfold bM at hb;rw [aa6,ex3] at hb;have hb:lt xb x3=false:=by simpa using hb
            have:=bh O sa pa (pb _ mxb) (aj ex3) hb
            rwa [show p1 - 1+1=p1 by lia] at this
          by_cases ck:na - p1 > 0
          · rw [if_pos ck];have hmA:Mh lt a.toList b.toList (out++(a.extract p1 na).reverse).toList p1 nb:=by
              rw [aao,cU _ _ _ (by lia)];exact hmA0
            by_cases e5:(p1 == 0)=true
            · rw [if_pos e5];exact wpS_pure ⟨⟨hs2.arr,hs2.pend,hs2.kind,hs2.fail⟩,.inl ⟨_,_,rfl,done0 hmA (.inl (by simpa using e5))⟩⟩
            rw [if_neg e5];have e5:p1≠0:=by simpa using e5
            have hKB:=hKB0 (by lia);refine wpS_bind (am exb ?_);have hmA2:Mh lt a.toList b.toList ((out++(a.extract p1 na).reverse).push xb).toList (p1) (nb - 1):=by
              rw [aai];have hmA':Mh lt a.toList b.toList (out++(a.extract p1 na).reverse).toList (p1) (nb - 1+1):=by rw [show nb - 1+1=nb by lia];exact hmA
              exact hmA'.pushB sb (aj exb) hKB
            by_cases e1:(nb - 1 == 1)=true
            · rw [if_pos e1];exact wpS_pure ⟨⟨hs2.arr,hs2.pend,hs2.kind,hs2.fail⟩,.inl ⟨_,_,rfl,firstB hmA2 (by simpa using e1)⟩⟩
            rw [if_neg e1];have e1:nb - 1≠1:=by simpa using e1
            obtain ⟨xa2,exa2,mxa2⟩:=aA (a:=a) (i:=p1 - 1) (by lia);refine wpS_bind (am exa2 (wpS_bind (aG O (B:=az lt xa2 b 0) hk2 (pa _ mxa2) pb (by lia) (by lia) (fun i x hi hx=>by unfold az;rw [hx];rfl) (bj O pb sb (pa _ mxa2) (by lia)) fun p2 bk2=>?_)));dsimp only;have hle2:=bk2.le;have hA2:∀ i x,p2≤i→i < p2+(nb - 1 - p2)→b.toList[i]?=some x→∀ y∈a.toList.take (p1),Le lt y x:=fun i x h1 h2 hx=>by
              have hx':b[0+i]?=some x:=by rw [aa6];simpa using hx
              have hb:=bk2.hi i h1 (by lia);unfold az at hb;rw [hx'] at hb;have:=bh O sa pa (pb x (aam hx)) (aj exa2) hb
              rwa [show p1 - 1+1=p1 by lia] at this
            have hmB0:=Mh.appB sb (nb - 1 - p2) p2 (by rw [show p2+(nb - 1 - p2)=nb - 1 by lia];exact hmA2) hA2;have hKA0:0 < p2→∀ y∈b.toList.take p2,Le lt y xa2:=fun hp=>by
              obtain ⟨x3,ex3,mx3⟩:=aA (a:=b) (i:=p2 - 1) (by lia);have hb:=bk2.lo (p2 - 1) (by lia);unfold az at hb;rw [aa6,ex3] at hb;have:=bh O sb pb (pa _ mxa2) (aj ex3) (O.asym (pb _ mx3) (pa _ mxa2) hb)
              rwa [show p2 - 1+1=p2 by lia] at this
            by_cases ck2:nb - 1 - p2 > 0
            · rw [if_pos ck2];have hmB:Mh lt a.toList b.toList ((out++(a.extract p1 na).reverse).push xb++(b.extract p2 (nb - 1)).reverse).toList (p1) p2:=by
                rw [aao,cU _ _ _ (by lia)];exact hmB0
              by_cases e2:(p2 == 1)=true
              · rw [if_pos e2];exact wpS_pure ⟨⟨hs2.arr,hs2.pend,hs2.kind,hs2.fail⟩,.inl ⟨_,_,rfl,firstB hmB (by simpa using e2)⟩⟩
              rw [if_neg e2];have e2:p2≠1:=by simpa using e2
              by_cases e7:(p2 == 0)=true
              · rw [if_pos e7];exact wpS_pure ⟨⟨hs2.arr,hs2.pend,hs2.kind,hs2.fail⟩,.inl ⟨_,_,rfl,done0 hmB (.inr (by simpa using e7))⟩⟩
              rw [if_neg e7];have e7:p2≠0:=by simpa using e7
              have hKA:=hKA0 (by lia);refine wpS_bind (am exa2 ?_);have hmC:Mh lt a.toList b.toList (((out++(a.extract p1 na).reverse).push xb++(b.extract p2 (nb - 1)).reverse).push xa2).toList (p1 - 1) (p2):=by
                rw [aai];have hmB':Mh lt a.toList b.toList ((out++(a.extract p1 na).reverse).push xb++(b.extract p2 (nb - 1)).reverse).toList (p1 - 1+1) (p2):=by rw [show p1 - 1+1=p1 by lia];exact hmB
                exact hmB'.pushA sa (aj exa2) hKA
              by_cases e3:(p1 - 1 == 0)=true
              · rw [if_pos e3];exact wpS_pure ⟨⟨hs2.arr,hs2.pend,hs2.kind,hs2.fail⟩,.inl ⟨_,_,rfl,done0 hmC (.inl (by simpa using e3))⟩⟩
              · rw [if_neg e3];have e3:p1 - 1≠0:=by simpa using e3
                by_cases e4:(decide (na - p1 < 7) && decide (nb - 1 - p2 < 7))=true
                · rw [if_pos e4];exact wpS_pure ⟨⟨hs2.arr,hs2.pend,hs2.kind,hs2.fail⟩,.inr ⟨_,_,_,_,_,_,rfl,hmC,by lia,by lia,by lia⟩⟩
                · rw [if_neg e4];exact wpS_pure ⟨⟨hs2.arr,hs2.pend,hs2.kind,hs2.fail⟩,_,_,_,_,_,_,rfl,hmC,by lia,by lia,by lia⟩
            · rw [if_neg ck2];have ep:p2=nb - 1:=by lia
              have hmB:Mh lt a.toList b.toList ((out++(a.extract p1 na).reverse).push xb).toList (p1) (nb - 1):=hmA2;have hKA:∀ y∈b.toList.take (nb - 1),Le lt y xa2:=by rw [← ep];exact hKA0 (by lia)
              refine wpS_bind (am exa2 ?_);have hmC:Mh lt a.toList b.toList (((out++(a.extract p1 na).reverse).push xb).push xa2).toList (p1 - 1) (nb - 1):=by
                rw [aai];have hmB':Mh lt a.toList b.toList ((out++(a.extract p1 na).reverse).push xb).toList (p1 - 1+1) (nb - 1):=by rw [show p1 - 1+1=p1 by lia];exact hmB
                exact hmB'.pushA sa (aj exa2) hKA
              by_cases e3:(p1 - 1 == 0)=true
              · rw [if_pos e3];exact wpS_pure ⟨⟨hs2.arr,hs2.pend,hs2.kind,hs2.fail⟩,.inl ⟨_,_,rfl,done0 hmC (.inl (by simpa using e3))⟩⟩
              · rw [if_neg e3];have e3:p1 - 1≠0:=by simpa using e3
                by_cases e4:(decide (na - p1 < 7) && decide (nb - 1 - p2 < 7))=true
                · rw [if_pos e4];exact wpS_pure ⟨⟨hs2.arr,hs2.pend,hs2.kind,hs2.fail⟩,.inr ⟨_,_,_,_,_,_,rfl,hmC,by lia,by lia,by lia⟩⟩
                · rw [if_neg e4];exact wpS_pure ⟨⟨hs2.arr,hs2.pend,hs2.kind,hs2.fail⟩,_,_,_,_,_,_,rfl,hmC,by lia,by lia,by lia⟩
          · rw [if_neg ck];have ep1:p1=na:=by lia
            have hmA:Mh lt a.toList b.toList out.toList na nb:=hm;have hKB:∀ y∈a.toList.take na,Le lt y xb:=by rw [← ep1];exact hKB0 (by lia)
            refine wpS_bind (am exb ?_);have hmA2:Mh lt a.toList b.toList ((out).push xb).toList (na) (nb - 1):=by
              rw [aai];have hmA':Mh lt a.toList b.toList (out).toList (na) (nb - 1+1):=by rw [show nb - 1+1=nb by lia];exact hmA
              exact hmA'.pushB sb (aj exb) hKB
            by_cases e1:(nb - 1 == 1)=true
            · rw [if_pos e1];exact wpS_pure ⟨⟨hs2.arr,hs2.pend,hs2.kind,hs2.fail⟩,.inl ⟨_,_,rfl,firstB hmA2 (by simpa using e1)⟩⟩
            rw [if_neg e1];have e1:nb - 1≠1:=by simpa using e1
            obtain ⟨xa2,exa2,mxa2⟩:=aA (a:=a) (i:=na - 1) (by lia);refine wpS_bind (am exa2 (wpS_bind (aG O (B:=az lt xa2 b 0) hk2 (pa _ mxa2) pb (by lia) (by lia) (fun i x hi hx=>by unfold az;rw [hx];rfl) (bj O pb sb (pa _ mxa2) (by lia)) fun p2 bk2=>?_)));dsimp only;have hle2:=bk2.le;have hA2:∀ i x,p2≤i→i < p2+(nb - 1 - p2)→b.toList[i]?=some x→∀ y∈a.toList.take (na),Le lt y x:=fun i x h1 h2 hx=>by
              have hx':b[0+i]?=some x:=by rw [aa6];simpa using hx
              have hb:=bk2.hi i h1 (by lia);unfold az at hb;rw [hx'] at hb;have:=bh O sa pa (pb x (aam hx)) (aj exa2) hb
              rwa [show na - 1+1=na by lia] at this
            have hmB0:=Mh.appB sb (nb - 1 - p2) p2 (by rw [show p2+(nb - 1 - p2)=nb - 1 by lia];exact hmA2) hA2;have hKA0:0 < p2→∀ y∈b.toList.take p2,Le lt y xa2:=fun hp=>by
              obtain ⟨x3,ex3,mx3⟩:=aA (a:=b) (i:=p2 - 1) (by lia);have hb:=bk2.lo (p2 - 1) (by lia);unfold az at hb;rw [aa6,ex3] at hb;have:=bh O sb pb (pa _ mxa2) (aj ex3) (O.asym (pb _ mx3) (pa _ mxa2) hb)
              rwa [show p2 - 1+1=p2 by lia] at this
            by_cases ck2:nb - 1 - p2 > 0
            · rw [if_pos ck2];have hmB:Mh lt a.toList b.toList ((out).push xb++(b.extract p2 (nb - 1)).reverse).toList (na) p2:=by
                rw [aao,cU _ _ _ (by lia)];exact hmB0
              by_cases e2:(p2 == 1)=true
              · rw [if_pos e2];exact wpS_pure ⟨⟨hs2.arr,hs2.pend,hs2.kind,hs2.fail⟩,.inl ⟨_,_,rfl,firstB hmB (by simpa using e2)⟩⟩
              rw [if_neg e2];have e2:p2≠1:=by simpa using e2
              by_cases e7:(p2 == 0)=true
              · rw [if_pos e7];exact wpS_pure ⟨⟨hs2.arr,hs2.pend,hs2.kind,hs2.fail⟩,.inl ⟨_,_,rfl,done0 hmB (.inr (by simpa using e7))⟩⟩
              rw [if_neg e7];have e7:p2≠0:=by simpa using e7
              have hKA:=hKA0 (by lia);refine wpS_bind (am exa2 ?_);have hmC:Mh lt a.toList b.toList (((out).push xb++(b.extract p2 (nb - 1)).reverse).push xa2).toList (na - 1) (p2):=by
                rw [aai];have hmB':Mh lt a.toList b.toList ((out).push xb++(b.extract p2 (nb - 1)).reverse).toList (na - 1+1) (p2):=by rw [show na - 1+1=na by lia];exact hmB
                exact hmB'.pushA sa (aj exa2) hKA
              by_cases e3:(na - 1 == 0)=true
              · rw [if_pos e3];exact wpS_pure ⟨⟨hs2.arr,hs2.pend,hs2.kind,hs2.fail⟩,.inl ⟨_,_,rfl,done0 hmC (.inl (by simpa using e3))⟩⟩
              · rw [if_neg e3];have e3:na - 1≠0:=by simpa using e3
                by_cases e4:(decide (na - p1 < 7) && decide (nb - 1 - p2 < 7))=true
                · rw [if_pos e4];exact wpS_pure ⟨⟨hs2.arr,hs2.pend,hs2.kind,hs2.fail⟩,.inr ⟨_,_,_,_,_,_,rfl,hmC,by lia,by lia,by lia⟩⟩
                · rw [if_neg e4];exact wpS_pure ⟨⟨hs2.arr,hs2.pend,hs2.kind,hs2.fail⟩,_,_,_,_,_,_,rfl,hmC,by lia,by lia,by lia⟩
            · rw [if_neg ck2];have ep:p2=nb - 1:=by lia
              have hmB:Mh lt a.toList b.toList ((out).push xb).toList (na) (nb - 1):=hmA2;have hKA:∀ y∈b.toList.take (nb - 1),Le lt y xa2:=by rw [← ep];exact hKA0 (by lia)
              refine wpS_bind (am exa2 ?_);have hmC:Mh lt a.toList b.toList (((out).push xb).push xa2).toList (na - 1) (nb - 1):=by
                rw [aai];have hmB':Mh lt a.toList b.toList ((out).push xb).toList (na - 1+1) (nb - 1):=by rw [show na - 1+1=na by lia];exact hmB
                exact hmB'.pushA sa (aj exa2) hKA
              by_cases e3:(na - 1 == 0)=true
              · rw [if_pos e3];exact wpS_pure ⟨⟨hs2.arr,hs2.pend,hs2.kind,hs2.fail⟩,.inl ⟨_,_,rfl,done0 hmC (.inl (by simpa using e3))⟩⟩
              · rw [if_neg e3];have e3:na - 1≠0:=by simpa using e3
                by_cases e4:(decide (na - p1 < 7) && decide (nb - 1 - p2 < 7))=true
                · rw [if_pos e4];exact wpS_pure ⟨⟨hs2.arr,hs2.pend,hs2.kind,hs2.fail⟩,.inr ⟨_,_,_,_,_,_,rfl,hmC,by lia,by lia,by lia⟩⟩
                · rw [if_neg e4];exact wpS_pure ⟨⟨hs2.arr,hs2.pend,hs2.kind,hs2.fail⟩,_,_,_,_,_,_,rfl,hmC,by lia,by lia,by lia⟩
        · rw [if_neg cm];obtain ⟨xb,exb,mxb⟩:=aA (a:=b) (i:=nb - 1) (by lia);refine wpS_bind (wpS_modify (wpS_bind (am exb (wpS_bind (aG O (B:=bM lt xb a 0) hk2 (pb _ mxb) pa (by lia) (by lia) (fun i x hi hx=>by unfold bM;rw [hx];rfl) (dD O pa sa (pb _ mxb) (by lia)) fun p1 bk=>?_)))));dsimp only;have hle:=bk.le;have hA0:∀ i x,p1≤i→i < p1+(na - p1)→a.toList[i]?=some x→∀ y∈b.toList.take nb,Le lt y x:=fun i x h1 h2 hx=>by
            have hx':a[0+i]?=some x:=by rw [aa6];simpa using hx
            have hb:=bk.hi i h1 (by lia);unfold bM at hb;rw [hx'] at hb;have hb:lt xb x=true:=by simpa using hb
            have px:=pa x (aam hx);have:=bh O sb pb px (aj exb) (O.asym (pb _ mxb) px hb)
            rwa [show nb - 1+1=nb by lia] at this
          have hmA0:=Mh.appA sa (na - p1) p1 (by rw [show p1+(na - p1)=na by lia];exact hm) hA0;have hKB0:0 < p1→∀ y∈a.toList.take p1,Le lt y xb:=fun hp=>by
            obtain ⟨x3,ex3,mx3⟩:=aA (a:=a) (i:=p1 - 1) (by lia);have hb:=bk.lo (p1 - 1) (by lia);unfold bM at hb;rw [aa6,ex3] at hb;have hb:lt xb x3=false:=by simpa using hb
            have:=bh O sa pa (pb _ mxb) (aj ex3) hb
            rwa [show p1 - 1+1=p1 by lia] at this
          by_cases ck:na - p1 > 0
          · rw [if_pos ck];have hmA:Mh lt a.toList b.toList (out++(a.extract p1 na).reverse).toList p1 nb:=by
              rw [aao,cU _ _ _ (by lia)];exact hmA0
            by_cases e5:(p1 == 0)=true
            · rw [if_pos e5];exact wpS_pure ⟨⟨hs2.arr,hs2.pend,hs2.kind,hs2.fail⟩,.inl ⟨_,_,rfl,done0 hmA (.inl (by simpa using e5))⟩⟩
            rw [if_neg e5];have e5:p1≠0:=by simpa using e5
            have hKB:=hKB0 (by lia);refine wpS_bind (am exb ?_);have hmA2:Mh lt a.toList b.toList ((out++(a.extract p1 na).reverse).push xb).toList (p1) (nb - 1):=by
              rw [aai];have hmA':Mh lt a.toList b.toList (out++(a.extract p1 na).reverse).toList (p1) (nb - 1+1):=by rw [show nb - 1+1=nb by lia];exact hmA
              exact hmA'.pushB sb (aj exb) hKB
            by_cases e1:(nb - 1 == 1)=true
            · rw [if_pos e1];exact wpS_pure ⟨⟨hs2.arr,hs2.pend,hs2.kind,hs2.fail⟩,.inl ⟨_,_,rfl,firstB hmA2 (by simpa using e1)⟩⟩
            rw [if_neg e1];have e1:nb - 1≠1:=by simpa using e1
            obtain ⟨xa2,exa2,mxa2⟩:=aA (a:=a) (i:=p1 - 1) (by lia);refine wpS_bind (am exa2 (wpS_bind (aG O (B:=az lt xa2 b 0) hk2 (pa _ mxa2) pb (by lia) (by lia) (fun i x hi hx=>by unfold az;rw [hx];rfl) (bj O pb sb (pa _ mxa2) (by lia)) fun p2 bk2=>?_)));dsimp only;have hle2:=bk2.le;have hA2:∀ i x,p2≤i→i < p2+(nb - 1 - p2)→b.toList[i]?=some x→∀ y∈a.toList.take (p1),Le lt y x:=fun i x h1 h2 hx=>by
              have hx':b[0+i]?=some x:=by rw [aa6];simpa using hx
              have hb:=bk2.hi i h1 (by lia);unfold az at hb;rw [hx'] at hb;have:=bh O sa pa (pb x (aam hx)) (aj exa2) hb
              rwa [show p1 - 1+1=p1 by lia] at this
            have hmB0:=Mh.appB sb (nb - 1 - p2) p2 (by rw [show p2+(nb - 1 - p2)=nb - 1 by lia];exact hmA2) hA2;have hKA0:0 < p2→∀ y∈b.toList.take p2,Le lt y xa2:=fun hp=>by
              obtain ⟨x3,ex3,mx3⟩:=aA (a:=b) (i:=p2 - 1) (by lia);have hb:=bk2.lo (p2 - 1) (by lia);unfold az at hb;rw [aa6,ex3] at hb;have:=bh O sb pb (pa _ mxa2) (aj ex3) (O.asym (pb _ mx3) (pa _ mxa2) hb)
              rwa [show p2 - 1+1=p2 by lia] at this
            by_cases ck2:nb - 1 - p2 > 0
            · rw [if_pos ck2];have hmB:Mh lt a.toList b.toList ((out++(a.extract p1 na).reverse).push xb++(b.extract p2 (nb - 1)).reverse).toList (p1) p2:=by
                rw [aao,cU _ _ _ (by lia)];exact hmB0
              by_cases e2:(p2 == 1)=true
              · rw [if_pos e2];exact wpS_pure ⟨⟨hs2.arr,hs2.pend,hs2.kind,hs2.fail⟩,.inl ⟨_,_,rfl,firstB hmB (by simpa using e2)⟩⟩
              rw [if_neg e2];have e2:p2≠1:=by simpa using e2
              by_cases e7:(p2 == 0)=true
              · rw [if_pos e7];exact wpS_pure ⟨⟨hs2.arr,hs2.pend,hs2.kind,hs2.fail⟩,.inl ⟨_,_,rfl,done0 hmB (.inr (by simpa using e7))⟩⟩
              rw [if_neg e7];have e7:p2≠0:=by simpa using e7
              have hKA:=hKA0 (by lia);refine wpS_bind (am exa2 ?_);have hmC:Mh lt a.toList b.toList (((out++(a.extract p1 na).reverse).push xb++(b.extract p2 (nb - 1)).reverse).push xa2).toList (p1 - 1) (p2):=by
                rw [aai];have hmB':Mh lt a.toList b.toList ((out++(a.extract p1 na).reverse).push xb++(b.extract p2 (nb - 1)).reverse).toList (p1 - 1+1) (p2):=by rw [show p1 - 1+1=p1 by lia];exact hmB
                exact hmB'.pushA sa (aj exa2) hKA
              by_cases e3:(p1 - 1 == 0)=true
              · rw [if_pos e3];exact wpS_pure ⟨⟨hs2.arr,hs2.pend,hs2.kind,hs2.fail⟩,.inl ⟨_,_,rfl,done0 hmC (.inl (by simpa using e3))⟩⟩
              · rw [if_neg e3];have e3:p1 - 1≠0:=by simpa using e3
                by_cases e4:(decide (na - p1 < 7) && decide (nb - 1 - p2 < 7))=true
                · rw [if_pos e4];exact wpS_pure ⟨⟨hs2.arr,hs2.pend,hs2.kind,hs2.fail⟩,.inr ⟨_,_,_,_,_,_,rfl,hmC,by lia,by lia,by lia⟩⟩
                · rw [if_neg e4];exact wpS_pure ⟨⟨hs2.arr,hs2.pend,hs2.kind,hs2.fail⟩,_,_,_,_,_,_,rfl,hmC,by lia,by lia,by lia⟩
            · rw [if_neg ck2];have ep:p2=nb - 1:=by lia
              have hmB:Mh lt a.toList b.toList ((out++(a.extract p1 na).reverse).push xb).toList (p1) (nb - 1):=hmA2;have hKA:∀ y∈b.toList.take (nb - 1),Le lt y xa2:=by rw [← ep];exact hKA0 (by lia)
              refine wpS_bind (am exa2 ?_);have hmC:Mh lt a.toList b.toList (((out++(a.extract p1 na).reverse).push xb).push xa2).toList (p1 - 1) (nb - 1):=by
                rw [aai];have hmB':Mh lt a.toList b.toList ((out++(a.extract p1 na).reverse).push xb).toList (p1 - 1+1) (nb - 1):=by rw [show p1 - 1+1=p1 by lia];exact hmB
                exact hmB'.pushA sa (aj exa2) hKA
              by_cases e3:(p1 - 1 == 0)=true
              · rw [if_pos e3];exact wpS_pure ⟨⟨hs2.arr,hs2.pend,hs2.kind,hs2.fail⟩,.inl ⟨_,_,rfl,done0 hmC (.inl (by simpa using e3))⟩⟩
              · rw [if_neg e3];have e3:p1 - 1≠0:=by simpa using e3
                by_cases e4:(decide (na - p1 < 7) && decide (nb - 1 - p2 < 7))=true
                · rw [if_pos e4];exact wpS_pure ⟨⟨hs2.arr,hs2.pend,hs2.kind,hs2.fail⟩,.inr ⟨_,_,_,_,_,_,rfl,hmC,by lia,by lia,by lia⟩⟩
                · rw [if_neg e4];exact wpS_pure ⟨⟨hs2.arr,hs2.pend,hs2.kind,hs2.fail⟩,_,_,_,_,_,_,rfl,hmC,by lia,by lia,by lia⟩
          · rw [if_neg ck];have ep1:p1=na:=by lia
            have hmA:Mh lt a.toList b.toList out.toList na nb:=hm;have hKB:∀ y∈a.toList.take na,Le lt y xb:=by rw [← ep1];exact hKB0 (by lia)
            refine wpS_bind (am exb ?_);have hmA2:Mh lt a.toList b.toList ((out).push xb).toList (na) (nb - 1):=by
              rw [aai];have hmA':Mh lt a.toList b.toList (out).toList (na) (nb - 1+1):=by rw [show nb - 1+1=nb by lia];exact hmA
              exact hmA'.pushB sb (aj exb) hKB
            by_cases e1:(nb - 1 == 1)=true
            · rw [if_pos e1];exact wpS_pure ⟨⟨hs2.arr,hs2.pend,hs2.kind,hs2.fail⟩,.inl ⟨_,_,rfl,firstB hmA2 (by simpa using e1)⟩⟩
            rw [if_neg e1];have e1:nb - 1≠1:=by simpa using e1
            obtain ⟨xa2,exa2,mxa2⟩:=aA (a:=a) (i:=na - 1) (by lia);refine wpS_bind (am exa2 (wpS_bind (aG O (B:=az lt xa2 b 0) hk2 (pa _ mxa2) pb (by lia) (by lia) (fun i x hi hx=>by unfold az;rw [hx];rfl) (bj O pb sb (pa _ mxa2) (by lia)) fun p2 bk2=>?_)));dsimp only;have hle2:=bk2.le;have hA2:∀ i x,p2≤i→i < p2+(nb - 1 - p2)→b.toList[i]?=some x→∀ y∈a.toList.take (na),Le lt y x:=fun i x h1 h2 hx=>by
              have hx':b[0+i]?=some x:=by rw [aa6];simpa using hx
              have hb:=bk2.hi i h1 (by lia);unfold az at hb;rw [hx'] at hb;have:=bh O sa pa (pb x (aam hx)) (aj exa2) hb
              rwa [show na - 1+1=na by lia] at this
            have hmB0:=Mh.appB sb (nb - 1 - p2) p2 (by rw [show p2+(nb - 1 - p2)=nb - 1 by lia];exact hmA2) hA2;have hKA0:0 < p2→∀ y∈b.toList.take p2,Le lt y xa2:=fun hp=>by
              obtain ⟨x3,ex3,mx3⟩:=aA (a:=b) (i:=p2 - 1) (by lia);have hb:=bk2.lo (p2 - 1) (by lia);unfold az at hb;rw [aa6,ex3] at hb;have:=bh O sb pb (pa _ mxa2) (aj ex3) (O.asym (pb _ mx3) (pa _ mxa2) hb)
              rwa [show p2 - 1+1=p2 by lia] at this
            by_cases ck2:nb - 1 - p2 > 0
            · rw [if_pos ck2];have hmB:Mh lt a.toList b.toList ((out).push xb++(b.extract p2 (nb - 1)).reverse).toList (na) p2:=by
                rw [aao,cU _ _ _ (by lia)];exact hmB0
              by_cases e2:(p2 == 1)=true
              · rw [if_pos e2];exact wpS_pure ⟨⟨hs2.arr,hs2.pend,hs2.kind,hs2.fail⟩,.inl ⟨_,_,rfl,firstB hmB (by simpa using e2)⟩⟩
              rw [if_neg e2];have e2:p2≠1:=by simpa using e2
              by_cases e7:(p2 == 0)=true
              · rw [if_pos e7];exact wpS_pure ⟨⟨hs2.arr,hs2.pend,hs2.kind,hs2.fail⟩,.inl ⟨_,_,rfl,done0 hmB (.inr (by simpa using e7))⟩⟩
              rw [if_neg e7];have e7:p2≠0:=by simpa using e7
              have hKA:=hKA0 (by lia);refine wpS_bind (am exa2 ?_);have hmC:Mh lt a.toList b.toList (((out).push xb++(b.extract p2 (nb - 1)).reverse).push xa2).toList (na - 1) (p2):=by
                rw [aai];have hmB':Mh lt a.toList b.toList ((out).push xb++(b.extract p2 (nb - 1)).reverse).toList (na - 1+1) (p2):=by rw [show na - 1+1=na by lia];exact hmB
                exact hmB'.pushA sa (aj exa2) hKA
              by_cases e3:(na - 1 == 0)=true
              · rw [if_pos e3];exact wpS_pure ⟨⟨hs2.arr,hs2.pend,hs2.kind,hs2.fail⟩,.inl ⟨_,_,rfl,done0 hmC (.inl (by simpa using e3))⟩⟩
              · rw [if_neg e3];have e3:na - 1≠0:=by simpa using e3
                by_cases e4:(decide (na - p1 < 7) && decide (nb - 1 - p2 < 7))=true
                · rw [if_pos e4];exact wpS_pure ⟨⟨hs2.arr,hs2.pend,hs2.kind,hs2.fail⟩,.inr ⟨_,_,_,_,_,_,rfl,hmC,by lia,by lia,by lia⟩⟩
                · rw [if_neg e4];exact wpS_pure ⟨⟨hs2.arr,hs2.pend,hs2.kind,hs2.fail⟩,_,_,_,_,_,_,rfl,hmC,by lia,by lia,by lia⟩
            · rw [if_neg ck2];have ep:p2=nb - 1:=by lia
              have hmB:Mh lt a.toList b.toList ((out).push xb).toList (na) (nb - 1):=hmA2;have hKA:∀ y∈b.toList.take (nb - 1),Le lt y xa2:=by rw [← ep];exact hKA0 (by lia)
              refine wpS_bind (am exa2 ?_);have hmC:Mh lt a.toList b.toList (((out).push xb).push xa2).toList (na - 1) (nb - 1):=by
                rw [aai];have hmB':Mh lt a.toList b.toList ((out).push xb).toList (na - 1+1) (nb - 1):=by rw [show na - 1+1=na by lia];exact hmB
                exact hmB'.pushA sa (aj exa2) hKA
              by_cases e3:(na - 1 == 0)=true
              · rw [if_pos e3];exact wpS_pure ⟨⟨hs2.arr,hs2.pend,hs2.kind,hs2.fail⟩,.inl ⟨_,_,rfl,done0 hmC (.inl (by simpa using e3))⟩⟩
              · rw [if_neg e3];have e3:na - 1≠0:=by simpa using e3
                by_cases e4:(decide (na - p1 < 7) && decide (nb - 1 - p2 < 7))=true
                · rw [if_pos e4];exact wpS_pure ⟨⟨hs2.arr,hs2.pend,hs2.kind,hs2.fail⟩,.inr ⟨_,_,_,_,_,_,rfl,hmC,by lia,by lia,by lia⟩⟩
                · rw [if_neg e4];exact wpS_pure ⟨⟨hs2.arr,hs2.pend,hs2.kind,hs2.fail⟩,_,_,_,_,_,_,rfl,hmC,by lia,by lia,by lia⟩
end
end Tim
namespace Tim
open PySem PyProof.Rows
def seg (L:List Keyed) (s n:Nat):List Keyed:=(L.drop s).take n
theorem dE {L:List Keyed} {s n:Nat} (h:s+n≤L.length):(seg L s n).length=n:=by unfold seg;rw [aas,aaC];lia
theorem hE (L:List Keyed) (s n m:Nat):seg L s n++seg L (s+n) m=seg L s (n+m):=by
  unfold seg;rw [List.take_add,List.drop_drop]
theorem eP {L:List Keyed} {s n i:Nat} (h:i < n):(seg L s n)[i]?=L[s+i]?:=by
  unfold seg;rw [abJ h,abP]
theorem bp {L:List Keyed} {s n:Nat} {x:Keyed} (h:x∈seg L s n):x∈L:=List.mem_of_mem_drop (abE h)
theorem lc (L:List Keyed) (s n:Nat):L=L.take s++seg L s n++L.drop (s+n):=by
  unfold seg;rw [aaj,← List.drop_drop,aaI,aaI]
theorem j0:∀ (l:List Keyed) (arr:Array Keyed) (o j:Nat),o+j+l.length≤arr.size→((l.zipIdx j).foldl (fun a p=>a.setIfInBounds (o+p.2) p.1) arr).toList=arr.toList.take (o+j)++l++arr.toList.drop (o+j+l.length)
  | [],arr,o,j,h=>by simp
  | p :: l,arr,o,j,h=>by
    have h:o+j+(l.length+1)≤arr.size:=h;rw [List.zipIdx_cons,List.foldl_cons,j0 l _ o (j+1) (by rw [Array.size_setIfInBounds];lia)];have hi:o+j < arr.toList.length:=by rw [aan];lia
    have e:(arr.setIfInBounds (o+j) p).toList=arr.toList.take (o+j)++p :: arr.toList.drop (o+j+1):=by
      rw [Array.toList_setIfInBounds,List.set_eq_take_append_cons_drop,if_pos hi]
    have l1:(arr.toList.take (o+j)).length=o+j:=by rw [aas];lia
    rw [e];have e1:(arr.toList.take (o+j)++p :: arr.toList.drop (o+j+1)).take (o+(j+1))=arr.toList.take (o+j)++[p]:=by
      rw [List.take_append,l1,aba (by lia),show o+(j+1) - (o+j)=1 by lia];rfl
    have e2:(arr.toList.take (o+j)++p :: arr.toList.drop (o+j+1)).drop (o+(j+1)+l.length)=arr.toList.drop (o+j+(l.length+1)):=by
      rw [List.drop_append,l1,aaS (by lia),show o+(j+1)+l.length - (o+j)=l.length+1 by lia,List.nil_append,List.drop_succ_cons,List.drop_drop];congr 1;lia
    rw [e1,e2];simp
structure Mrgd (lt:Keyed→Keyed→Bool) (L L':List Keyed) (s n:Nat):Prop where
  ex:∃ R,R.Perm (seg L s n)∧R.Pairwise (Le lt)∧L'=L.take s++R++L.drop (s+n)
theorem hX {lt:Keyed→Keyed→Bool} {X Y:List Keyed} (hx:X.Pairwise (Le lt)) (hy:Y.Pairwise (Le lt)) (h:∀ x∈X,∀ y∈Y,Le lt x y):(X++Y).Pairwise (Le lt):=List.pairwise_append.mpr ⟨hx,hy,h⟩
section
variable {M:Model} {A:Around} {E:Value→Shared→Prop} {s:Shared} {κ:SortKind} {P:Keyed→Prop} {lt:Keyed→Keyed→Bool}
theorem me {σ:Type} {x:σ} {Q:PUnit→σ→Prop} {st:σ} (h:Q ⟨⟩ x):wpS M A E s (set x:StateT σ Sem PUnit) Q st:=by
  unfold wpS;rw [StateT.run_set];exact wpAny_pure ⟨rfl,h⟩
theorem g_ {a:Array Keyed} {base n:Nat} (r:(seg a.toList base n).Pairwise (Le lt)) {i j:Nat} {x y:Keyed} (hx:a[base+i]?=some x) (hy:a[base+j]?=some y) (hij:i < j) (hj:j < n):Le lt x y:=by
  have e1:=eP (L:=a.toList) (s:=base) (n:=n) (i:=i) (by lia);have e2:=eP (L:=a.toList) (s:=base) (n:=n) (i:=j) hj;rw [aj hx] at e1;rw [aj hy] at e2;obtain ⟨h1,e1⟩:=aag.mp e1;obtain ⟨h2,e2⟩:=aag.mp e2;rw [← e1,← e2];exact aaY.mp r i j h1 h2 hij
theorem jp (O:Ord M A E s κ P lt) {a:Array Keyed} (pa:∀ x∈a.toList,P x) {key:Keyed} (pk:P key) {base n:Nat} (r:(seg a.toList base n).Pairwise (Le lt)) (hn:base+n≤a.size):∀ i j,i≤j→j < n→bM lt key a base j=true→bM lt key a base i=true:=by
  intro i j hij hj h;obtain ⟨x,hx,mx⟩:=aA (a:=a) (i:=base+i) (by lia);obtain ⟨y,hy,my⟩:=aA (a:=a) (i:=base+j) (by lia);unfold bM at h ⊢;rw [hy] at h;rw [hx];by_cases e:i=j
  · subst e;rw [hx] at hy;cases hy;exact h
  · have h1:Le lt x y:=g_ r hx hy (by lia) hj;have h2:lt key y=false:=by simpa using h
    have:=O.trans (pa x mx) (pa y my) pk h1 h2;simp [this]
theorem jl (O:Ord M A E s κ P lt) {a:Array Keyed} (pa:∀ x∈a.toList,P x) {key:Keyed} (pk:P key) {base n:Nat} (r:(seg a.toList base n).Pairwise (Le lt)) (hn:base+n≤a.size):∀ i j,i≤j→j < n→az lt key a base j=true→az lt key a base i=true:=by
  intro i j hij hj h;obtain ⟨x,hx,mx⟩:=aA (a:=a) (i:=base+i) (by lia);obtain ⟨y,hy,my⟩:=aA (a:=a) (i:=base+j) (by lia);unfold az at h ⊢;rw [hy] at h;rw [hx];by_cases e:i=j
  · subst e;rw [hx] at hy;cases hy;exact h
  · have h1:Le lt x y:=g_ r hx hy (by lia) hj;show lt x key=true;cases c:lt x key with
    | true=>rfl
    | false =>
      have:=O.trans pk (pa x mx) (pa y my) c h1;have h:lt y key=true:=h;rw [this] at h;cases h
theorem dF {a:Array Keyed} {base n:Nat} (hn:base+n≤a.size) {x:Keyed} (h:x∈seg a.toList base n):∃ i,i < n∧a[base+i]?=some x:=by
  obtain ⟨i,hi,e⟩:=abI h;have hi':i < n:=by rw [dE (by rw [aan];exact hn)] at hi;exact hi
  refine ⟨i,hi',?_⟩;have:=eP (L:=a.toList) (s:=base) (n:=n) hi';rw [aae hi,e] at this;simpa using this.symm
theorem j8 (a:Array Keyed) (i j:Nat):(a.extract i j).toList=seg a.toList i (j - i):=by
  unfold seg;rw [abv,abd]
theorem iD (O:Ord M A E s κ P lt) {st:SortSt} {i sa na pw sb nb pw2:Nat} {Q:Bool→SortSt→Prop} (hk:kindOf st=κ) (hf:failedOf st=none) (hP:∀ x∈(arrOf st).toList,P x) (h1:(pendingOf st)[i]?=some (sa,na,pw)) (h2:(pendingOf st)[i+1]?=some (sb,nb,pw2)) (hsb:sb=sa+na) (n1:1≤na) (n2:1≤nb) (hsz:sb+nb≤(arrOf st).size)
    (r1:(seg (arrOf st).toList sa na).Pairwise (Le lt)) (r2:(seg (arrOf st).toList sb nb).Pairwise (Le lt))
    (q:∀ st',kindOf st'=κ→failedOf st'=none→pendingOf st'=((pendingOf st).setIfInBounds i (sa,na+nb,pw)).eraseIdxIfInBounds (i+1)→Mrgd lt (arrOf st).toList (arrOf st').toList sa (na+nb)→Q true st'):wpS M A E s (mergeAt' i) Q st:=by
  refine wpS_bind (wpS_get ?_);rw [h1,h2];dsimp only;refine wpS_bind (me ?_);obtain ⟨L,hL⟩:∃ L,L=(arrOf st).toList:=⟨_,rfl⟩
  have lenL:L.length=(arrOf st).size:=by rw [hL,aan]
  obtain ⟨xb,exb,mxb⟩:=aA (a:=arrOf st) (i:=sb) (by lia);have pxb:=hP _ mxb;have exb0:(arrOf st)[sb+0]?=some xb:=exb;have bY:∀ y∈seg (arrOf st).toList sb nb,Le lt xb y:=fun y hy=>by
    obtain ⟨j,hj,ej⟩:=dF hsz hy;by_cases c:j=0
    · subst c;have e:xb=y:=aaN (exb0.symm.trans ej);rw [← e];cases hh:lt xb xb with
      | false=>exact hh
      | true=>have:=O.asym (hP _ mxb) (hP _ mxb) hh;rw [hh] at this;cases this
    · exact g_ r2 exb0 ej (by lia) hj
  have hn1:sa+na≤(arrOf st).size:=by lia
  refine wpS_bind (am exb (wpS_bind (aG O (B:=bM lt xb (arrOf st) sa) hk pxb hP hn1 (by lia) (fun i x hi hx=>by unfold bM;rw [hx];rfl) (jp O hP pxb r1 hn1) fun k bk=>?_)));have hle:=bk.le;dsimp only;have same:∀ (R:List Keyed),R=seg (arrOf st).toList sa (na+nb)→R.Pairwise (Le lt)→Mrgd lt (arrOf st).toList (arrOf st).toList sa (na+nb):=fun R e hR=>⟨R,by rw [e],hR,by rw [e];exact lc _ _ _⟩
  have XY:seg (arrOf st).toList sa na++seg (arrOf st).toList sb nb=seg (arrOf st).toList sa (na+nb):=by rw [hsb];exact hE _ _ _ _
  have f1:∀ x∈seg (arrOf st).toList sa k,Le lt x xb:=fun x hx=>by
    obtain ⟨j,hj,ej⟩:=dF (by lia) hx;have:=bk.lo j hj;unfold bM at this;rw [ej] at this;simpa [Le] using this
  by_cases c1:(na - k == 0)=true
  · rw [if_pos c1];have c1:na - k=0:=by simpa using c1
    have ek:k=na:=by lia
    rw [ek] at f1;exact wpS_pure (q _ hk hf rfl (same _ XY (hX r1 r2 fun x hx y hy=>O.trans (hP _ (bp hx)) pxb (hP _ (bp hy)) (f1 x hx) (bY y hy))))
  rw [if_neg c1];have c1:na - k≠0:=by simpa using c1
  obtain ⟨al,eal,mal⟩:=aA (a:=arrOf st) (i:=sa+k+(na - k) - 1) (by lia);have pal:=hP _ mal;have eal0:(arrOf st)[sa+(na - 1)]?=some al:=by rw [show sa+(na - 1)=sa+k+(na - k) - 1 by lia];exact eal
  refine wpS_bind (am eal (wpS_bind (aG O (B:=az lt al (arrOf st) sb) hk pal hP hsz (by lia) (fun i x hi hx=>by unfold az;rw [hx];rfl) (jl O hP pal r2 hsz) fun k2 bk2=>?_)));have hle2:=bk2.le;dsimp only;have refl_:∀ x,P x→Le lt x x:=fun x px=>by
    cases hh:lt x x with
    | false=>exact hh
    | true=>have:=O.asym px px hh;rw [hh] at this;cases this
  have aX:∀ x∈seg (arrOf st).toList sa na,Le lt x al:=fun x hx=>by
    obtain ⟨j,hj,ej⟩:=dF (by lia) hx;by_cases c:j=na - 1
    · subst c;rw [eal0] at ej;cases ej;exact refl_ _ pal
    · exact g_ r1 ej eal0 (by lia) (by lia)
  have g2:∀ y∈seg (arrOf st).toList (sb+k2) (nb - k2),Le lt al y:=fun y hy=>by
    obtain ⟨j,hj,ej⟩:=dF (by lia) hy;have:=bk2.hi (k2+j) (by lia) (by lia);unfold az at this;rw [← Nat.add_assoc,ej] at this;exact this
  by_cases c2:(k2 == 0)=true
  · rw [if_pos c2];have c2:k2=0:=by simpa using c2
    subst c2;have g2:∀ y∈seg (arrOf st).toList sb nb,Le lt al y:=g2;exact wpS_pure (q _ hk hf rfl (same _ XY (hX r1 r2 fun x hx y hy=>O.trans (hP _ (bp hx)) pal (hP _ (bp hy)) (aX x hx) (g2 y hy))))
  rw [if_neg c2];have c2:k2≠0:=by simpa using c2
  have eX:((arrOf st).extract (sa+k) sb).toList=seg (arrOf st).toList (sa+k) (na - k):=by rw [j8,show sb - (sa+k)=na - k by lia]
  have eY:((arrOf st).extract sb (sb+k2)).toList=seg (arrOf st).toList sb k2:=by rw [j8,Nat.add_sub_cancel_left]
  have X12:seg (arrOf st).toList sa k++seg (arrOf st).toList (sa+k) (na - k)=seg (arrOf st).toList sa na:=by rw [hE,show k+(na - k)=na by lia]
  have Y12:seg (arrOf st).toList sb k2++seg (arrOf st).toList (sb+k2) (nb - k2)=seg (arrOf st).toList sb nb:=by rw [hE,show k2+(nb - k2)=nb by lia]
  rw [← X12] at r1 aX;rw [← Y12] at r2 bY;obtain ⟨s1,s2,s12⟩:=List.pairwise_append.mp r1;obtain ⟨t1,t2,t12⟩:=List.pairwise_append.mp r2;have pX:∀ x∈((arrOf st).extract (sa+k) sb).toList,P x:=fun x hx=>by rw [eX] at hx;exact hP _ (bp hx)
  have pY:∀ x∈((arrOf st).extract sb (sb+k2)).toList,P x:=fun x hx=>by rw [eY] at hx;exact hP _ (bp hx)
  have sX:((arrOf st).extract (sa+k) sb).toList.Pairwise (Le lt):=by rw [eX];exact s2
  have sY:((arrOf st).extract sb (sb+k2)).toList.Pairwise (Le lt):=by rw [eY];exact t1
  have hb0:((arrOf st).extract sb (sb+k2))[0]?=some xb:=by
    have:=eP (L:=(arrOf st).toList) (s:=sb) (n:=k2) (i:=0) (by lia);rw [← eY] at this;rw [← aaU,this];exact aj exb
  have hl0:∀ y∈((arrOf st).extract (sa+k) sb).toList,Le lt xb y:=fun y hy=>by
    rw [eX] at hy;obtain ⟨j,hj,ej⟩:=dF (by lia) hy;have hb:=bk.hi (k+j) (by lia) (by lia);unfold bM at hb;rw [← Nat.add_assoc,ej] at hb;have hb:lt xb y=true:=by simpa using hb
    exact O.asym pxb (hP _ (bp hy)) hb
  have szX:((arrOf st).extract (sa+k) sb).size=na - k:=by rw [← aan,eX,dE (by rw [aan];lia)]
  have hal:((arrOf st).extract (sa+k) sb)[((arrOf st).extract (sa+k) sb).size - 1]?=some al:=by
    have:=eP (L:=(arrOf st).toList) (s:=sa+k) (n:=na - k) (i:=na - k - 1) (by lia);rw [← eX] at this;rw [← aaU,szX,this,show sa+k+(na - k - 1)=sa+k+(na - k) - 1 by lia];exact aj eal
  have hll:∀ y∈((arrOf st).extract sb (sb+k2)).toList,Le lt y al:=fun y hy=>by
    rw [eY] at hy;obtain ⟨j,hj,ej⟩:=dF (by lia) hy;have hb:=bk2.lo j hj;unfold az at hb;rw [ej] at hb;exact O.asym (hP _ (bp hy)) pal hb
  have fin:∀ (r:Array Keyed) (st':SortSt),SameS (SortSt.mk' (kindOf st) (arrOf st) (((pendingOf st).setIfInBounds i (sa,na+nb,pw)).eraseIdxIfInBounds (i+1)) (gallopOf st) (failedOf st)) st'→Res lt ((arrOf st).extract (sa+k) sb).toList ((arrOf st).extract sb (sb+k2)).toList r.toList →
      Mrgd lt (arrOf st).toList (List.foldl (fun a p=>a.setIfInBounds (sa+k+p.2) p.1) (arrOf st') r.toList.zipIdx).toList sa (na+nb):=fun r st' hS hr=>by
    have ea:arrOf st'=arrOf st:=hS.arr;rw [eX,eY] at hr;obtain ⟨hp,hs⟩:=hr;have lr:r.toList.length=na - k+k2:=by rw [hp.length_eq,aat,dE (by rw [aan];lia),dE (by rw [aan];lia)]
    have hput:=j0 r.toList (arrOf st) (sa+k) 0 (by lia);rw [ea];have hput:(List.foldl (fun a p=>a.setIfInBounds (sa+k+p.2) p.1) (arrOf st) r.toList.zipIdx).toList=(arrOf st).toList.take (sa+k)++r.toList++(arrOf st).toList.drop (sa+k+r.toList.length):=hput;rw [hput,lr,show sa+k+(na - k+k2)=sb+k2 by lia];refine ⟨seg (arrOf st).toList sa k++(r.toList++seg (arrOf st).toList (sb+k2) (nb - k2)),?_,?_,?_⟩
    · rw [← XY,← X12,← Y12,aaj];refine aaV _ ?_;rw [← aaj (seg (arrOf st).toList (sa+k) (na - k))];exact aa9 _ hp
    · have mem:∀ z∈r.toList,z∈seg (arrOf st).toList (sa+k) (na - k)∨z∈seg (arrOf st).toList sb k2:=fun z hz=>aaE.mp (hp.mem_iff.mp hz);refine hX s1 (hX hs t2 fun x hx y hy=>?_) fun x hx y hy=>?_
      · rcases mem x hx with h|h
        · exact O.trans (hP _ (bp h)) pal (hP _ (bp hy)) (aX x (aaf _ h)) (g2 y hy)
        · exact t12 x h y hy
      · have up:∀ y,y∈seg (arrOf st).toList sb k2++seg (arrOf st).toList (sb+k2) (nb - k2)→Le lt x y:=fun y hy=>O.trans (hP _ (bp hx)) pxb (hP _ (by rcases aaE.mp hy with h|h <;> exact bp h)) (f1 x hx) (bY y hy);rcases aaE.mp hy with h|h
        · rcases mem y h with h|h
          · exact s12 x hx y h
          · exact up y (abw _ h)
        · exact up y (aaf _ h)
    · have e1:(arrOf st).toList.take (sa+k)=(arrOf st).toList.take sa++seg (arrOf st).toList sa k:=by unfold seg;rw [List.take_add]
      have e2:(arrOf st).toList.drop (sb+k2)=seg (arrOf st).toList (sb+k2) (nb - k2)++(arrOf st).toList.drop (sa+(na+nb)):=by
        unfold seg;rw [show sa+(na+nb)=sb+k2+(nb - k2) by lia];have:=aaI (nb - k2) ((arrOf st).toList.drop (sb+k2));rw [List.drop_drop] at this;exact this.symm
      rw [e1,e2];simp only [aaj]
  by_cases c3:na - k≤k2
  · rw [if_pos c3];refine wpS_bind (iB O hk pX pY sX sY hb0 hl0 (by rw [List.getLast?_eq_getElem?,aan,aaU];exact hal) hll fun r st' hS hr=>?_);refine wpS_bind (wpS_modify (wpS_bind (wpS_get (wpS_pure ?_))));have ef:failedOf st'=none:=hS.fail.trans hf;show Q (failedOf st').isNone _;rw [ef];exact q _ (hS.kind.trans hk) ef hS.pend (fin r st' hS hr)
  · rw [if_neg c3];refine wpS_bind (iC O hk pX pY sX sY hb0 hl0 hal hll fun r st' hS hr=>?_);refine wpS_bind (wpS_modify (wpS_bind (wpS_get (wpS_pure ?_))));have ef:failedOf st'=none:=hS.fail.trans hf;show Q (failedOf st').isNone _;rw [ef];exact q _ (hS.kind.trans hk) ef hS.pend (fin r st' hS hr)
end
end Tim
namespace Tim
open PySem PyProof.Rows
def vx (a:Array Keyed) (i:Nat):Keyed:=(a[i]?).getD (Value.none,Value.none)
theorem jO {a:Array Keyed} {i:Nat} (h:i < a.size):a[i]?=some (vx a i):=by
  unfold vx;rw [getElem?_pos a i h];rfl
theorem aQ {a:Array Keyed} {i:Nat} (h:i < a.size):vx a i∈a.toList:=by
  have:=aam (aj (jO h));exact this
theorem cc {a b:Array Keyed} {i j:Nat} (h:a[i]?=b[j]?):vx a i=vx b j:=by unfold vx;rw [h]
theorem dC {a:Array Keyed} {i j:Nat} (hj:j≤a.size) (k:Nat):vx (mirror a i j ((j - i) / 2)) k=if i≤k∧k < j then vx a (i+j - 1 - k) else vx a k:=by
  have e:=getElem?_mirror_all (i:=i) hj k;by_cases h1:i≤k∧k < j
  · rw [if_pos h1] at e ⊢;exact cc e
  · rw [if_neg h1] at e ⊢;exact cc e
theorem gr {a:Array Keyed} {src d:Nat} (hs:src < a.size) (hd:d≤src) (k:Nat):vx (bubble a src d) k=if k=src - d then vx a src else if src - d < k∧k≤src then vx a (k - 1) else vx a k:=by
  have e:=getElem?_bubble hs d hd k;by_cases h1:k=src - d
  · rw [if_pos h1] at e ⊢;exact cc e
  · rw [if_neg h1] at e ⊢;by_cases h2:src - d < k∧k≤src
    · rw [if_pos h2] at e ⊢;exact cc e
    · rw [if_neg h2] at e ⊢;exact cc e
section
variable (lt:Keyed→Keyed→Bool)
def Up (a:Array Keyed) (lo n:Nat):Prop:=∀ i j,i < j→j < n→Le lt (vx a (lo+i)) (vx a (lo+j))
def Dn (a:Array Keyed) (lo n:Nat):Prop:=∀ i j,i < j→j < n→Le lt (vx a (lo+j)) (vx a (lo+i))
end
structure Kp (a a':Array Keyed) (lo:Nat):Prop where
  perm:a'.Perm a
  low:∀ k,k < lo→a'[k]?=a[k]?
theorem Kp.refl (a:Array Keyed) (lo:Nat):Kp a a lo:=⟨Array.Perm.refl _,fun _ _=>rfl⟩
theorem Kp.trans {a b c:Array Keyed} {lo:Nat} (h:Kp a b lo) (g:Kp b c lo):Kp a c lo:=⟨g.perm.trans h.perm,fun k hk=>(g.low k hk).trans (h.low k hk)⟩
theorem Kp.size {a b:Array Keyed} {lo:Nat} (h:Kp a b lo):b.size=a.size:=h.perm.size_eq
theorem Kp.all {a b:Array Keyed} {lo:Nat} (h:Kp a b lo) {P:Keyed→Prop} (hP:∀ x∈a.toList,P x):∀ x∈b.toList,P x:=fun x hx=>hP x ((aa7.mp h.perm).mem_iff.mp hx)
theorem Kp.mirror {a:Array Keyed} {lo i j:Nat} (hi:lo≤i) (hj:j≤a.size):Kp a (mirror a i j ((j - i) / 2)) lo:=⟨mirror_perm _ _ _ _,fun k hk=>by rw [getElem?_mirror_all hj,if_neg (by lia)]⟩
theorem Kp.bubble {a:Array Keyed} {lo src d:Nat} (hs:src < a.size) (hd:d≤src) (hl:lo≤src - d):Kp a (bubble a src d) lo:=⟨bubble_perm _ _ _,fun k hk=>by rw [getElem?_bubble hs d hd,if_neg (by lia),if_neg (by lia)]⟩
structure SameA (st st':SortSt):Prop where
  pend:pendingOf st'=pendingOf st
  kind:kindOf st'=kindOf st
  fail:failedOf st'=failedOf st
theorem SameA.refl (st:SortSt):SameA st st:=⟨rfl,rfl,rfl⟩
section
variable {M:Model} {A:Around} {E:Value→Shared→Prop} {s:Shared} {κ:SortKind} {P:Keyed→Prop} {lt:Keyed→Keyed→Bool}
theorem bx (O:Ord M A E s κ P lt) {st:SortSt} {i j:Nat} {Q:Option Bool→SortSt→Prop} (hk:kindOf st=κ) (hP:∀ x∈(arrOf st).toList,P x) (hi:i < (arrOf st).size) (hj:j < (arrOf st).size) (h:Q (some (lt (vx (arrOf st) i) (vx (arrOf st) j))) st):wpS M A E s (ltAt' i j) Q st:=by
  rw [ltAt'_eq];refine wpS_bind (wpS_get ?_);exact wpS_bind (am (jO hi) (wpS_bind (am (jO hj) (O.ask (hP _ (aQ hi)) (hP _ (aQ hj)) hk h))))
theorem bV {st:SortSt} {i j:Nat} {Q:Unit→SortSt→Prop} (h:Q () (setArr st (mirror (arrOf st) i j ((j - i) / 2)))):wpS M A E s (reverseSlice' i j) Q st:=by
  rw [reverseSlice'_eq];exact wpS_modify h
theorem dh (O:Ord M A E s κ P lt) {x:Keyed} (px:P x):Le lt x x:=by
  cases hh:lt x x with
  | false=>exact hh
  | true=>have:=O.asym px px hh;rw [hh] at this;cases this
theorem Up.more (O:Ord M A E s κ P lt) {a:Array Keyed} (hP:∀ x∈a.toList,P x) {lo n:Nat} (hn:lo+n < a.size) (h1:1≤n) (h:Up lt a lo n) (c:Le lt (vx a (lo+n - 1)) (vx a (lo+n))):Up lt a lo (n+1):=fun i j hij hj=>by
  by_cases hjn:j < n
  · exact h i j hij hjn
  · obtain rfl:j=n:=by lia
    by_cases hi:i=j - 1
    · subst hi;rw [show lo+(j - 1)=lo+j - 1 by lia];exact c
    · have:=h i (j - 1) (by lia) (by lia);rw [show lo+(j - 1)=lo+j - 1 by lia] at this;exact O.trans (hP _ (aQ (by lia))) (hP _ (aQ (by lia))) (hP _ (aQ hn)) this c
theorem Dn.more (O:Ord M A E s κ P lt) {a:Array Keyed} (hP:∀ x∈a.toList,P x) {lo n:Nat} (hn:lo+n < a.size) (h1:1≤n) (h:Dn lt a lo n) (c:Le lt (vx a (lo+n)) (vx a (lo+n - 1))):Dn lt a lo (n+1):=fun i j hij hj=>by
  by_cases hjn:j < n
  · exact h i j hij hjn
  · obtain rfl:j=n:=by lia
    by_cases hi:i=j - 1
    · subst hi;rw [show lo+(j - 1)=lo+j - 1 by lia];exact c
    · have:=h i (j - 1) (by lia) (by lia);rw [show lo+(j - 1)=lo+j - 1 by lia] at this;exact O.trans (hP _ (aQ hn)) (hP _ (aQ (by lia))) (hP _ (aQ (by lia))) c this
theorem Dn.turn {a:Array Keyed} {lo n p q:Nat} (h:Dn lt a lo n) (hq:q≤n) (hsz:lo+n≤a.size) (eqv:∀ u v,p≤u→u < q→p≤v→v < q→Le lt (vx a (lo+u)) (vx a (lo+v))):Dn lt (mirror a (lo+p) (lo+q) ((lo+q - (lo+p)) / 2)) lo n:=fun i j hij hj=>by
  rw [dC (by lia),dC (by lia)];have e:∀ k,p≤k→k < q→lo+p+(lo+q) - 1 - (lo+k)=lo+(p+q - 1 - k):=fun k h1 h2=>by lia
  by_cases c1:lo+p≤lo+j∧lo+j < lo+q
  · rw [if_pos c1,e j (by lia) (by lia)];by_cases c2:lo+p≤lo+i∧lo+i < lo+q
    · rw [if_pos c2,e i (by lia) (by lia)];exact eqv _ _ (by lia) (by lia) (by lia) (by lia)
    · rw [if_neg c2];exact h i _ (by lia) (by lia)
  · rw [if_neg c1];by_cases c2:lo+p≤lo+i∧lo+i < lo+q
    · rw [if_pos c2,e i (by lia) (by lia)];exact h _ j (by lia) hj
    · rw [if_neg c2];exact h i j hij hj
theorem Dn.flip {a:Array Keyed} {lo n:Nat} (h:Dn lt a lo n) (hsz:lo+n≤a.size):Up lt (mirror a lo (lo+n) ((lo+n - lo) / 2)) lo n:=fun i j hij hj=>by
  rw [dC (by lia),dC (by lia),if_pos (by lia),if_pos (by lia),show lo+(lo+n) - 1 - (lo+i)=lo+(n - 1 - i) by lia,show lo+(lo+n) - 1 - (lo+j)=lo+(n - 1 - j) by lia];exact h _ _ (by lia) (by lia)
theorem gj (O:Ord M A E s κ P lt) {st:SortSt} {lo nrem:Nat} {Q:Option Nat→SortSt→Prop} (hk:kindOf st=κ) (hP:∀ x∈(arrOf st).toList,P x) (h1:1≤nrem) (hsz:lo+nrem≤(arrOf st).size)
    (q:∀ m st',SameA st st'→Kp (arrOf st) (arrOf st') lo→1≤m→m≤nrem→Up lt (arrOf st') lo m→Q (some m) st'):wpS M A E s (countRun' lo nrem) Q st:=by
  refine wpS_bind (wpS_mono (wpS_forRange (I:=fun x c st'=>st'=st∧c=(none,x)∧Up lt (arrOf st) lo x) (Q:=fun c st'=>st'=st∧∃ n,c=(none,n)∧1≤n∧n≤nrem∧Up lt (arrOf st) lo n∧(n=nrem∨lt (vx (arrOf st) (lo+n)) (vx (arrOf st) (lo+n - 1))=true)) ?step ?fin ⟨rfl,rfl,fun i j hij hj=>by lia⟩) ?post)
  case fin =>
    rintro c st' ⟨rfl,rfl,hs⟩;rw [show max 1 nrem=nrem by lia] at hs ⊢;exact ⟨rfl,nrem,rfl,h1,aab _,hs,.inl rfl⟩
  case step =>
    rintro x c st' hax hxn ⟨rfl,rfl,hs⟩;dsimp only;refine wpS_bind (bx O hk hP (by lia) (by lia) ?_);dsimp only;by_cases d:lt (vx (arrOf st') (lo+x)) (vx (arrOf st') (lo+x - 1))=true
    · rw [if_pos d];exact wpS_pure ⟨rfl,x,rfl,hax,by lia,hs,.inr d⟩
    · rw [if_neg d];have d:lt (vx (arrOf st') (lo+x)) (vx (arrOf st') (lo+x - 1))=false:=by simpa using d
      exact wpS_pure ⟨rfl,rfl,hs.more O hP (by lia) hax d⟩
  case post =>
    rintro c st' ⟨rfl,n,rfl,hn1,hn2,hup,hor⟩;dsimp only;by_cases c0:(n == nrem)=true
    · rw [if_pos c0];exact wpS_pure (q n _ (SameA.refl _) (Kp.refl _ _) hn1 hn2 hup)
    rw [if_neg c0];have c0:n≠nrem:=by simpa using c0
    have hn3:n+1≤nrem:=by lia
    have hlt:=hor.resolve_left c0;have hle:=O.asym (hP _ (aQ (by lia))) (hP _ (aQ (by lia))) hlt;by_cases cg:n > 1
    · rw [if_pos cg];refine wpS_bind (bx O hk hP (by lia) (by lia) ?_);dsimp only;by_cases d:lt (vx (arrOf st') lo) (vx (arrOf st') (lo+n - 1))=true
      · rw [if_pos d];exact wpS_pure (q n _ (SameA.refl _) (Kp.refl _ _) hn1 hn2 hup)
      rw [if_neg d];have d:lt (vx (arrOf st') lo) (vx (arrOf st') (lo+n - 1))=false:=by simpa using d
      have pv:∀ k,k≤n→P (vx (arrOf st') (lo+k)):=fun k hk=>hP _ (aQ (by lia));have pl:=pv (n - 1) (by lia);rw [show lo+(n - 1)=lo+n - 1 by lia] at pl;have p0:=pv 0 (by lia);have top:∀ k,k < n→Le lt (vx (arrOf st') (lo+k)) (vx (arrOf st') (lo+n - 1)):=fun k hk=>by
        by_cases c:k=n - 1
        · rw [c,show lo+(n - 1)=lo+n - 1 by lia];exact dh O pl
        · have:=hup k (n - 1) (by lia) (by lia)
          rwa [show lo+(n - 1)=lo+n - 1 by lia] at this
      have bot:∀ k,k < n→Le lt (vx (arrOf st') (lo+n - 1)) (vx (arrOf st') (lo+k)):=fun k hk=>by
        have d':Le lt (vx (arrOf st') (lo+n - 1)) (vx (arrOf st') (lo+0)):=d;by_cases c:k=0
        · rw [c];exact d'
        · exact O.trans pl p0 (pv k (by lia)) d' (hup 0 k (by lia) hk)
      have eqv:∀ u v,0≤u→u < n→0≤v→v < n→Le lt (vx (arrOf st') (lo+u)) (vx (arrOf st') (lo+v)):=fun u v _ hu _ hv=>O.trans (pv u (by lia)) pl (pv v (by lia)) (top u hu) (bot v hv);have hD0:Dn lt (arrOf st') lo n:=fun i j hij hj=>eqv j i (aaB _) hj (aaB _) (by lia);have hDn:=(hD0.more O hP (by lia) hn1 hle).turn (p:=0) (q:=n) (by lia) (by lia) eqv;rw [Nat.add_zero] at hDn;refine wpS_bind (bV ?_);obtain ⟨st1,est1⟩:∃ st1,st1=setArr st' (mirror (arrOf st') lo (lo+n) ((lo+n - lo) / 2)):=⟨_,rfl⟩
      have hD1:Dn lt (arrOf st1) lo (n+1):=by rw [est1];exact hDn
      have sA1:SameA st' st1:=by rw [est1];exact ⟨rfl,rfl,rfl⟩
      have kp1:Kp (arrOf st') (arrOf st1) lo:=by rw [est1];exact Kp.mirror (aab _) (by lia)
      rw [← est1];refine wpS_bind (wpS_lift (wpAny_rule ⟨rfl,?_⟩));have hz1:=kp1.size;refine wpS_bind (wpS_mono (wpS_forRange (I:=fun x c st2=>SameA st' st2∧Kp (arrOf st') (arrOf st2) lo∧∃ neq,c=(none,x,neq)∧Dn lt (arrOf st2) lo x∧neq+1≤x∧∀ u v,x - (neq+1)≤u→u < x→x - (neq+1)≤v→v < x→Le lt (vx (arrOf st2) (lo+u)) (vx (arrOf st2) (lo+v)))
        (Q:=fun c st2=>SameA st' st2∧Kp (arrOf st') (arrOf st2) lo∧∃ m neq,c=(none,m,neq)∧n+1≤m∧m≤nrem∧Dn lt (arrOf st2) lo m∧neq+1≤m∧∀ u v,m - (neq+1)≤u→u < m→m - (neq+1)≤v→v < m→Le lt (vx (arrOf st2) (lo+u)) (vx (arrOf st2) (lo+v))) ?step2 ?fin2 ⟨sA1,kp1,0,rfl,hD1,by lia,fun u v a1 a2 a3 a4=>by
          have : u=v:=by lia
          subst this;exact dh O (kp1.all hP _ (aQ (by lia)))⟩) ?post2)
      case fin2 =>
        rintro c st2 ⟨sA,kp,neq,rfl,hD,a1,a2⟩;rw [show max (n+1) nrem=nrem by lia] at hD a1 a2 ⊢;exact ⟨sA,kp,nrem,neq,rfl,hn3,aab _,hD,a1,a2⟩
      case step2 =>
        rintro x c st2 hax hxn ⟨sA,kp,neq,rfl,hD,a1,a2⟩;dsimp only;have hk2:kindOf st2=κ:=sA.kind.trans hk;have hP2:=kp.all hP;have hz2:=kp.size;refine wpS_bind (bx O hk2 hP2 (by lia) (by lia) ?_);dsimp only;by_cases d:lt (vx (arrOf st2) (lo+x)) (vx (arrOf st2) (lo+x - 1))=true
        · rw [if_pos d];have hD2:=hD.more O hP2 (by lia) (by lia) (O.asym (hP2 _ (aQ (by lia))) (hP2 _ (aQ (by lia))) d);by_cases c:neq > 0
          · rw [if_pos c];refine wpS_bind (bV (wpS_pure ⟨⟨sA.pend,sA.kind,sA.fail⟩,?_,0,rfl,?_,by lia,fun u v b1 b2 b3 b4=>?_⟩))
            · rw [show lo+x - (neq+1)=lo+(x - (neq+1)) by lia];exact kp.trans (Kp.mirror (by lia) (by lia))
            · rw [show lo+x - (neq+1)=lo+(x - (neq+1)) by lia];exact hD2.turn (by lia) (by lia) a2
            · have : u=v:=by lia
              subst this;refine dh O ?_;refine (kp.trans (Kp.mirror (lo:=lo) (i:=lo+x - (neq+1)) (j:=lo+x) (by lia) (by lia))).all hP _ (aQ ?_);rw [mirror_size];lia
          · rw [if_neg c];refine wpS_pure ⟨sA,kp,0,rfl,hD2,by lia,fun u v b1 b2 b3 b4=>?_⟩;have : u=v:=by lia
            subst this;exact dh O (hP2 _ (aQ (by lia)))
        · rw [if_neg d];have d:lt (vx (arrOf st2) (lo+x)) (vx (arrOf st2) (lo+x - 1))=false:=by simpa using d
          refine wpS_bind (bx O hk2 hP2 (by lia) (by lia) ?_);dsimp only;by_cases e:lt (vx (arrOf st2) (lo+x - 1)) (vx (arrOf st2) (lo+x))=true
          · rw [if_pos e];exact wpS_pure ⟨sA,kp,x,neq,rfl,hax,by lia,hD,a1,a2⟩
          · rw [if_neg e];have e:lt (vx (arrOf st2) (lo+x - 1)) (vx (arrOf st2) (lo+x))=false:=by simpa using e
            have pv:∀ k,k≤x→P (vx (arrOf st2) (lo+k)):=fun k hk=>hP2 _ (aQ (by lia));have px1:=pv (x - 1) (by lia);rw [show lo+(x - 1)=lo+x - 1 by lia] at px1;refine wpS_pure ⟨sA,kp,neq+1,rfl,hD.more O hP2 (by lia) (by lia) e,by lia,fun u v b1 b2 b3 b4=>?_⟩;have toL:∀ k,x - (neq+1)≤k→k < x→Le lt (vx (arrOf st2) (lo+k)) (vx (arrOf st2) (lo+x - 1))∧Le lt (vx (arrOf st2) (lo+x - 1)) (vx (arrOf st2) (lo+k)):=fun k c1 c2=>by
              have z1:=a2 k (x - 1) c1 c2 (by lia) (by lia);have z2:=a2 (x - 1) k (by lia) (by lia) c1 c2;rw [show lo+(x - 1)=lo+x - 1 by lia] at z1 z2;exact ⟨z1,z2⟩
            by_cases cu:u=x
            · by_cases cv:v=x
              · subst cu;subst cv;exact dh O (pv _ (aab _))
              · rw [cu];exact O.trans (pv _ (aab _)) px1 (pv v (by lia)) e (toL v (by lia) (by lia)).2
            · by_cases cv:v=x
              · rw [cv];exact O.trans (pv u (by lia)) px1 (pv _ (aab _)) (toL u (by lia) (by lia)).1 d
              · exact a2 u v (by lia) (by lia) (by lia) (by lia)
      case post2 =>
        rintro c st2 ⟨sA2,kp2,m,neq,rfl,m1,m2,hD2,a1,a2⟩;dsimp only;have hz2:=kp2.size;by_cases cn:neq > 0
        · rw [if_pos cn];refine wpS_bind (bV ?_);have kp3:=kp2.trans (Kp.mirror (lo:=lo) (i:=lo+(m - (neq+1))) (j:=lo+m) (by lia) (by lia));have hD3:=hD2.turn (p:=m - (neq+1)) (q:=m) (aab _) (by lia) a2;rw [show lo+m - (neq+1)=lo+(m - (neq+1)) by lia];have hz3:=kp3.size;refine wpS_bind (bV ?_);have hU:=Dn.flip hD3 (by rw [hz3];lia);have kpR:=kp3.trans (Kp.mirror (lo:=lo) (i:=lo) (j:=lo+m) (aab _) (by rw [hz3];lia));refine wpS_bind (wpS_mono (wpS_forRange (I:=fun x c st4=>SameA st' st4∧arrOf st4=mirror (mirror (arrOf st2) (lo+(m - (neq+1))) (lo+m) ((lo+m - (lo+(m - (neq+1)))) / 2)) lo (lo+m) ((lo+m - lo) / 2)∧c=(none,x)∧Up lt (mirror (mirror (arrOf st2) (lo+(m - (neq+1))) (lo+m) ((lo+m - (lo+(m - (neq+1)))) / 2)) lo (lo+m) ((lo+m - lo) / 2)) lo x) (Q:=fun c st4=>SameA st' st4∧arrOf st4=mirror (mirror (arrOf st2) (lo+(m - (neq+1))) (lo+m) ((lo+m - (lo+(m - (neq+1)))) / 2)) lo (lo+m) ((lo+m - lo) / 2)∧∃ n',c=(none,n')∧1≤n'∧n'≤nrem∧Up lt (mirror (mirror (arrOf st2) (lo+(m - (neq+1))) (lo+m) ((lo+m - (lo+(m - (neq+1)))) / 2)) lo (lo+m) ((lo+m - lo) / 2)) lo n') ?step3 ?fin3 ⟨⟨sA2.pend,sA2.kind,sA2.fail⟩,rfl,rfl,hU⟩) ?post3)
          case post3 =>
            rintro c st4 ⟨sA4,e4,n',rfl,n1',n2',hU'⟩;exact wpS_pure (q n' st4 sA4 (by rw [e4];exact kpR) n1' n2' (by rw [e4];exact hU'))
          case fin3 =>
            rintro c st4 ⟨sA4,e4,rfl,hU'⟩;rw [show max m nrem=nrem by lia] at hU' ⊢;exact ⟨sA4,e4,nrem,rfl,h1,aab _,hU'⟩
          case step3 =>
            rintro x c st4 hax hxn ⟨sA4,e4,rfl,hU'⟩;dsimp only;have hk4:kindOf st4=κ:=sA4.kind.trans hk;have hP4:∀ x∈(arrOf st4).toList,P x:=by rw [e4];exact kpR.all hP
            have hz4:(arrOf st4).size=(arrOf st').size:=by rw [e4];exact kpR.size
            refine wpS_bind (bx O hk4 hP4 (by lia) (by lia) ?_);dsimp only;by_cases d:lt (vx (arrOf st4) (lo+x)) (vx (arrOf st4) (lo+x - 1))=true
            · rw [if_pos d];exact wpS_pure ⟨sA4,e4,x,rfl,by lia,by lia,hU'⟩
            · rw [if_neg d];have d:lt (vx (arrOf st4) (lo+x)) (vx (arrOf st4) (lo+x - 1))=false:=by simpa using d
              refine wpS_pure ⟨sA4,e4,rfl,?_⟩;rw [← e4] at hU' ⊢;exact hU'.more O hP4 (by lia) (by lia) d
        · rw [if_neg cn];have hz3:=hz2;refine wpS_bind (bV ?_);have hU:=Dn.flip hD2 (by rw [hz3];lia);have kpR:=kp2.trans (Kp.mirror (lo:=lo) (i:=lo) (j:=lo+m) (aab _) (by rw [hz3];lia));refine wpS_bind (wpS_mono (wpS_forRange (I:=fun x c st4=>SameA st' st4∧arrOf st4=mirror (arrOf st2) lo (lo+m) ((lo+m - lo) / 2)∧c=(none,x)∧Up lt (mirror (arrOf st2) lo (lo+m) ((lo+m - lo) / 2)) lo x) (Q:=fun c st4=>SameA st' st4∧arrOf st4=mirror (arrOf st2) lo (lo+m) ((lo+m - lo) / 2)∧∃ n',c=(none,n')∧1≤n'∧n'≤nrem∧Up lt (mirror (arrOf st2) lo (lo+m) ((lo+m - lo) / 2)) lo n') ?step3 ?fin3 ⟨⟨sA2.pend,sA2.kind,sA2.fail⟩,rfl,rfl,hU⟩) ?post3)
          case post3 =>
            rintro c st4 ⟨sA4,e4,n',rfl,n1',n2',hU'⟩;exact wpS_pure (q n' st4 sA4 (by rw [e4];exact kpR) n1' n2' (by rw [e4];exact hU'))
          case fin3 =>
            rintro c st4 ⟨sA4,e4,rfl,hU'⟩;rw [show max m nrem=nrem by lia] at hU' ⊢;exact ⟨sA4,e4,nrem,rfl,h1,aab _,hU'⟩
          case step3 =>
            rintro x c st4 hax hxn ⟨sA4,e4,rfl,hU'⟩;dsimp only;have hk4:kindOf st4=κ:=sA4.kind.trans hk;have hP4:∀ x∈(arrOf st4).toList,P x:=by rw [e4];exact kpR.all hP
            have hz4:(arrOf st4).size=(arrOf st').size:=by rw [e4];exact kpR.size
            refine wpS_bind (bx O hk4 hP4 (by lia) (by lia) ?_);dsimp only;by_cases d:lt (vx (arrOf st4) (lo+x)) (vx (arrOf st4) (lo+x - 1))=true
            · rw [if_pos d];exact wpS_pure ⟨sA4,e4,x,rfl,by lia,by lia,hU'⟩
            · rw [if_neg d];have d:lt (vx (arrOf st4) (lo+x)) (vx (arrOf st4) (lo+x - 1))=false:=by simpa using d
              refine wpS_pure ⟨sA4,e4,rfl,?_⟩;rw [← e4] at hU' ⊢;exact hU'.more O hP4 (by lia) (by lia) d
    · rw [if_neg cg];obtain rfl:n=1:=by lia
      have hD1:Dn lt (arrOf st') lo (1+1):=Dn.more O hP (by lia) (aab _) (fun i j hij hj=>by lia) hle;have sA1:=SameA.refl st';have kp1:=Kp.refl (arrOf st') lo;refine wpS_bind (wpS_lift (wpAny_rule ⟨rfl,?_⟩));have hz1:=kp1.size;refine wpS_bind (wpS_mono (wpS_forRange (I:=fun x c st2=>SameA st' st2∧Kp (arrOf st') (arrOf st2) lo∧∃ neq,c=(none,x,neq)∧Dn lt (arrOf st2) lo x∧neq+1≤x∧∀ u v,x - (neq+1)≤u→u < x→x - (neq+1)≤v→v < x→Le lt (vx (arrOf st2) (lo+u)) (vx (arrOf st2) (lo+v)))
        (Q:=fun c st2=>SameA st' st2∧Kp (arrOf st') (arrOf st2) lo∧∃ m neq,c=(none,m,neq)∧1+1≤m∧m≤nrem∧Dn lt (arrOf st2) lo m∧neq+1≤m∧∀ u v,m - (neq+1)≤u→u < m→m - (neq+1)≤v→v < m→Le lt (vx (arrOf st2) (lo+u)) (vx (arrOf st2) (lo+v))) ?step2 ?fin2 ⟨sA1,kp1,0,rfl,hD1,by lia,fun u v a1 a2 a3 a4=>by
          have : u=v:=by lia
          subst this;exact dh O (kp1.all hP _ (aQ (by lia)))⟩) ?post2)
      case fin2 =>
        rintro c st2 ⟨sA,kp,neq,rfl,hD,a1,a2⟩;rw [show max (1+1) nrem=nrem by lia] at hD a1 a2 ⊢;exact ⟨sA,kp,nrem,neq,rfl,hn3,aab _,hD,a1,a2⟩
      case step2 =>
        rintro x c st2 hax hxn ⟨sA,kp,neq,rfl,hD,a1,a2⟩;dsimp only;have hk2:kindOf st2=κ:=sA.kind.trans hk;have hP2:=kp.all hP;have hz2:=kp.size;refine wpS_bind (bx O hk2 hP2 (by lia) (by lia) ?_);dsimp only;by_cases d:lt (vx (arrOf st2) (lo+x)) (vx (arrOf st2) (lo+x - 1))=true
        · rw [if_pos d];have hD2:=hD.more O hP2 (by lia) (by lia) (O.asym (hP2 _ (aQ (by lia))) (hP2 _ (aQ (by lia))) d);by_cases c:neq > 0
          · rw [if_pos c];refine wpS_bind (bV (wpS_pure ⟨⟨sA.pend,sA.kind,sA.fail⟩,?_,0,rfl,?_,by lia,fun u v b1 b2 b3 b4=>?_⟩))
            · rw [show lo+x - (neq+1)=lo+(x - (neq+1)) by lia];exact kp.trans (Kp.mirror (by lia) (by lia))
            · rw [show lo+x - (neq+1)=lo+(x - (neq+1)) by lia];exact hD2.turn (by lia) (by lia) a2
            · have : u=v:=by lia
              subst this;refine dh O ?_;refine (kp.trans (Kp.mirror (lo:=lo) (i:=lo+x - (neq+1)) (j:=lo+x) (by lia) (by lia))).all hP _ (aQ ?_);rw [mirror_size];lia
          · rw [if_neg c];refine wpS_pure ⟨sA,kp,0,rfl,hD2,by lia,fun u v b1 b2 b3 b4=>?_⟩;have : u=v:=by lia
            subst this;exact dh O (hP2 _ (aQ (by lia)))
        · rw [if_neg d];have d:lt (vx (arrOf st2) (lo+x)) (vx (arrOf st2) (lo+x - 1))=false:=by simpa using d
          refine wpS_bind (bx O hk2 hP2 (by lia) (by lia) ?_);dsimp only;by_cases e:lt (vx (arrOf st2) (lo+x - 1)) (vx (arrOf st2) (lo+x))=true
          · rw [if_pos e];exact wpS_pure ⟨sA,kp,x,neq,rfl,hax,by lia,hD,a1,a2⟩
          · rw [if_neg e];have e:lt (vx (arrOf st2) (lo+x - 1)) (vx (arrOf st2) (lo+x))=false:=by simpa using e
            have pv:∀ k,k≤x→P (vx (arrOf st2) (lo+k)):=fun k hk=>hP2 _ (aQ (by lia));have px1:=pv (x - 1) (by lia);rw [show lo+(x - 1)=lo+x - 1 by lia] at px1;refine wpS_pure ⟨sA,kp,neq+1,rfl,hD.more O hP2 (by lia) (by lia) e,by lia,fun u v b1 b2 b3 b4=>?_⟩;have toL:∀ k,x - (neq+1)≤k→k < x→Le lt (vx (arrOf st2) (lo+k)) (vx (arrOf st2) (lo+x - 1))∧Le lt (vx (arrOf st2) (lo+x - 1)) (vx (arrOf st2) (lo+k)):=fun k c1 c2=>by
              have z1:=a2 k (x - 1) c1 c2 (by lia) (by lia);have z2:=a2 (x - 1) k (by lia) (by lia) c1 c2;rw [show lo+(x - 1)=lo+x - 1 by lia] at z1 z2;exact ⟨z1,z2⟩
            by_cases cu:u=x
            · by_cases cv:v=x
              · subst cu;subst cv;exact dh O (pv _ (aab _))
              · rw [cu];exact O.trans (pv _ (aab _)) px1 (pv v (by lia)) e (toL v (by lia) (by lia)).2
            · by_cases cv:v=x
              · rw [cv];exact O.trans (pv u (by lia)) px1 (pv _ (aab _)) (toL u (by lia) (by lia)).1 d
              · exact a2 u v (by lia) (by lia) (by lia) (by lia)
      case post2 =>
        rintro c st2 ⟨sA2,kp2,m,neq,rfl,m1,m2,hD2,a1,a2⟩;dsimp only;have hz2:=kp2.size;by_cases cn:neq > 0
        · rw [if_pos cn];refine wpS_bind (bV ?_);have kp3:=kp2.trans (Kp.mirror (lo:=lo) (i:=lo+(m - (neq+1))) (j:=lo+m) (by lia) (by lia));have hD3:=hD2.turn (p:=m - (neq+1)) (q:=m) (aab _) (by lia) a2;rw [show lo+m - (neq+1)=lo+(m - (neq+1)) by lia];have hz3:=kp3.size;refine wpS_bind (bV ?_);have hU:=Dn.flip hD3 (by rw [hz3];lia);have kpR:=kp3.trans (Kp.mirror (lo:=lo) (i:=lo) (j:=lo+m) (aab _) (by rw [hz3];lia));refine wpS_bind (wpS_mono (wpS_forRange (I:=fun x c st4=>SameA st' st4∧arrOf st4=mirror (mirror (arrOf st2) (lo+(m - (neq+1))) (lo+m) ((lo+m - (lo+(m - (neq+1)))) / 2)) lo (lo+m) ((lo+m - lo) / 2)∧c=(none,x)∧Up lt (mirror (mirror (arrOf st2) (lo+(m - (neq+1))) (lo+m) ((lo+m - (lo+(m - (neq+1)))) / 2)) lo (lo+m) ((lo+m - lo) / 2)) lo x) (Q:=fun c st4=>SameA st' st4∧arrOf st4=mirror (mirror (arrOf st2) (lo+(m - (neq+1))) (lo+m) ((lo+m - (lo+(m - (neq+1)))) / 2)) lo (lo+m) ((lo+m - lo) / 2)∧∃ n',c=(none,n')∧1≤n'∧n'≤nrem∧Up lt (mirror (mirror (arrOf st2) (lo+(m - (neq+1))) (lo+m) ((lo+m - (lo+(m - (neq+1)))) / 2)) lo (lo+m) ((lo+m - lo) / 2)) lo n') ?step3 ?fin3 ⟨⟨sA2.pend,sA2.kind,sA2.fail⟩,rfl,rfl,hU⟩) ?post3)
          case post3 =>
            rintro c st4 ⟨sA4,e4,n',rfl,n1',n2',hU'⟩;exact wpS_pure (q n' st4 sA4 (by rw [e4];exact kpR) n1' n2' (by rw [e4];exact hU'))
          case fin3 =>
            rintro c st4 ⟨sA4,e4,rfl,hU'⟩;rw [show max m nrem=nrem by lia] at hU' ⊢;exact ⟨sA4,e4,nrem,rfl,h1,aab _,hU'⟩
          case step3 =>
            rintro x c st4 hax hxn ⟨sA4,e4,rfl,hU'⟩;dsimp only;have hk4:kindOf st4=κ:=sA4.kind.trans hk;have hP4:∀ x∈(arrOf st4).toList,P x:=by rw [e4];exact kpR.all hP
            have hz4:(arrOf st4).size=(arrOf st').size:=by rw [e4];exact kpR.size
            refine wpS_bind (bx O hk4 hP4 (by lia) (by lia) ?_);dsimp only;by_cases d:lt (vx (arrOf st4) (lo+x)) (vx (arrOf st4) (lo+x - 1))=true
            · rw [if_pos d];exact wpS_pure ⟨sA4,e4,x,rfl,by lia,by lia,hU'⟩
            · rw [if_neg d];have d:lt (vx (arrOf st4) (lo+x)) (vx (arrOf st4) (lo+x - 1))=false:=by simpa using d
              refine wpS_pure ⟨sA4,e4,rfl,?_⟩;rw [← e4] at hU' ⊢;exact hU'.more O hP4 (by lia) (by lia) d
        · rw [if_neg cn];have hz3:=hz2;refine wpS_bind (bV ?_);have hU:=Dn.flip hD2 (by rw [hz3];lia);have kpR:=kp2.trans (Kp.mirror (lo:=lo) (i:=lo) (j:=lo+m) (aab _) (by rw [hz3];lia));refine wpS_bind (wpS_mono (wpS_forRange (I:=fun x c st4=>SameA st' st4∧arrOf st4=mirror (arrOf st2) lo (lo+m) ((lo+m - lo) / 2)∧c=(none,x)∧Up lt (mirror (arrOf st2) lo (lo+m) ((lo+m - lo) / 2)) lo x) (Q:=fun c st4=>SameA st' st4∧arrOf st4=mirror (arrOf st2) lo (lo+m) ((lo+m - lo) / 2)∧∃ n',c=(none,n')∧1≤n'∧n'≤nrem∧Up lt (mirror (arrOf st2) lo (lo+m) ((lo+m - lo) / 2)) lo n') ?step3 ?fin3 ⟨⟨sA2.pend,sA2.kind,sA2.fail⟩,rfl,rfl,hU⟩) ?post3)
          case post3 =>
            rintro c st4 ⟨sA4,e4,n',rfl,n1',n2',hU'⟩;exact wpS_pure (q n' st4 sA4 (by rw [e4];exact kpR) n1' n2' (by rw [e4];exact hU'))
          case fin3 =>
            rintro c st4 ⟨sA4,e4,rfl,hU'⟩;rw [show max m nrem=nrem by lia] at hU' ⊢;exact ⟨sA4,e4,nrem,rfl,h1,aab _,hU'⟩
          case step3 =>
            rintro x c st4 hax hxn ⟨sA4,e4,rfl,hU'⟩;dsimp only;have hk4:kindOf st4=κ:=sA4.kind.trans hk;have hP4:∀ x∈(arrOf st4).toList,P x:=by rw [e4];exact kpR.all hP
            have hz4:(arrOf st4).size=(arrOf st').size:=by rw [e4];exact kpR.size
            refine wpS_bind (bx O hk4 hP4 (by lia) (by lia) ?_);dsimp only;by_cases d:lt (vx (arrOf st4) (lo+x)) (vx (arrOf st4) (lo+x - 1))=true
            · rw [if_pos d];exact wpS_pure ⟨sA4,e4,x,rfl,by lia,by lia,hU'⟩
            · rw [if_neg d];have d:lt (vx (arrOf st4) (lo+x)) (vx (arrOf st4) (lo+x - 1))=false:=by simpa using d
              refine wpS_pure ⟨sA4,e4,rfl,?_⟩;rw [← e4] at hU' ⊢;exact hU'.more O hP4 (by lia) (by lia) d
end
end Tim
namespace Tim
open PySem PyProof.Rows
section
variable {M:Model} {A:Around} {E:Value→Shared→Prop} {s:Shared} {κ:SortKind} {P:Keyed→Prop} {lt:Keyed→Keyed→Bool}
theorem kS (O:Ord M A E s κ P lt) {st:SortSt} {lo n ok:Nat} {Q:Bool→SortSt→Prop} (hk:kindOf st=κ) (hP:∀ x∈(arrOf st).toList,P x) (hsz:lo+n≤(arrOf st).size) (hok:ok≤n) (hs:Up lt (arrOf st) lo ok)
    (q:∀ st',SameA st st'→Kp (arrOf st) (arrOf st') lo→Up lt (arrOf st') lo n→Q true st'):wpS M A E s (binarySort' lo n ok) Q st:=by
  refine wpS_bind (wpS_mono (wpS_forRange (I:=fun k c st'=>c=(none,())∧SameA st st'∧Kp (arrOf st) (arrOf st') lo∧Up lt (arrOf st') lo (min k n))
    (Q:=fun c st'=>c=(none,())∧SameA st st'∧Kp (arrOf st) (arrOf st') lo∧Up lt (arrOf st') lo n) ?step ?fin ?init) ?post)
  case post =>
    rintro c st' ⟨rfl,sA,kp,hs'⟩;exact wpS_pure (q st' sA kp hs')
  case init =>
    refine ⟨rfl,SameA.refl _,Kp.refl _ _,fun i j hij hj=>?_⟩;exact hs i j hij (by lia)
  case fin =>
    rintro c st' ⟨hc,sA,kp,hs'⟩;refine ⟨hc,sA,kp,?_⟩
    rwa [show min (max (max ok 1) n) n=n by lia] at hs'
  case step =>
    rintro k c st' hak hkn ⟨rfl,sA,kp,hs'⟩;rw [show min k n=k by lia] at hs';have hk':kindOf st'=κ:=sA.kind.trans hk;have hP':=kp.all hP;have hz:=kp.size;have pv:∀ i,i≤k→P (vx (arrOf st') (lo+i)):=fun i hi=>hP' _ (aQ (by lia));refine wpS_bind (wpS_mono (wpS_forRange (I:=fun x c st''=>st''=st'∧∃ l r,c=(none,l,r)∧l≤r∧r≤k∧r - l≤k - x ∧
        (∀ i,i < l→Le lt (vx (arrOf st') (lo+i)) (vx (arrOf st') (lo+k)))∧(∀ i,r≤i→i < k→Le lt (vx (arrOf st') (lo+k)) (vx (arrOf st') (lo+i))))
      (Q:=fun c st''=>st''=st'∧∃ l r,c=(none,l,r)∧l≤k ∧
        (∀ i,i < l→Le lt (vx (arrOf st') (lo+i)) (vx (arrOf st') (lo+k)))∧(∀ i,l≤i→i < k→Le lt (vx (arrOf st') (lo+k)) (vx (arrOf st') (lo+i)))) ?istep ?ifin ?iinit) ?ipost)
    case iinit=>exact ⟨rfl,0,k,rfl,by lia,by lia,by lia,fun i hi=>by lia,fun i h1 h2=>by lia⟩
    case ifin =>
      rintro c st'' ⟨rfl,l,r,rfl,hlr,hrk,hm,hlo,hhi⟩;have : l=r:=by lia
      subst this;exact ⟨rfl,l,l,rfl,hrk,hlo,hhi⟩
    case istep =>
      rintro x c st'' _ hxk ⟨rfl,l,r,rfl,hlr,hrk,hm,hlo,hhi⟩;dsimp only;by_cases hge:l ≥ r
      · rw [if_pos hge];have : l=r:=by lia
        subst this;exact wpS_pure ⟨rfl,l,l,rfl,hrk,hlo,hhi⟩
      · rw [if_neg hge];refine wpS_bind (bx O hk' hP' (by lia) (by lia) ?_);dsimp only;have pm:=pv ((l+r) / 2) (by lia);by_cases d:lt (vx (arrOf st'') (lo+k)) (vx (arrOf st'') (lo+(l+r) / 2))=true
        · rw [if_pos d];have d':=O.asym (pv k (aab _)) pm d;refine wpS_pure ⟨rfl,l,(l+r) / 2,rfl,by lia,by lia,by lia,hlo,fun i h1 h2=>?_⟩;by_cases c:i=(l+r) / 2
          · rw [c];exact d'
          · exact O.trans (pv k (aab _)) pm (pv i (by lia)) d' (hs' _ _ (by lia) h2)
        · rw [if_neg d];have d:lt (vx (arrOf st'') (lo+k)) (vx (arrOf st'') (lo+(l+r) / 2))=false:=by simpa using d
          refine wpS_pure ⟨rfl,(l+r) / 2+1,r,rfl,by lia,by lia,by lia,fun i h1=>?_,hhi⟩;by_cases c:i=(l+r) / 2
          · rw [c];exact d
          · exact O.trans (pv i (by lia)) pm (pv k (aab _)) (hs' _ _ (by lia) (by lia)) d
    case ipost =>
      rintro c st'' ⟨rfl,l,r,rfl,hlk,hlo,hhi⟩;show wpS _ _ _ _ (do moveDown' (lo+k) (lo+l);pure (ForInStep.yield (none,()))) _ _;rw [moveDown'_eq];have hks:lo+k < (arrOf st'').size:=by lia
      refine wpS_bind (wpS_modify (wpS_pure ⟨rfl,⟨sA.pend,sA.kind,sA.fail⟩,kp.trans (Kp.bubble hks (by lia) (by lia)),?_⟩));rw [show min (k+1) n=k+1 by lia];intro i j hij hj;show Le lt (vx (bubble (arrOf st'') (lo+k) (lo+k - (lo+l))) (lo+i)) (vx (bubble (arrOf st'') (lo+k) (lo+k - (lo+l))) (lo+j));rw [gr hks (by lia),gr hks (by lia),show lo+k - (lo+k - (lo+l))=lo+l by lia];by_cases ci:lo+i=lo+l
      · rw [if_pos ci,if_neg (by lia),if_pos (by lia),show lo+j - 1=lo+(j - 1) by lia];exact hhi _ (by lia) (by lia)
      · rw [if_neg ci];by_cases cj:lo+j=lo+l
        · rw [if_pos cj,if_neg (by lia)];exact hlo _ (by lia)
        · rw [if_neg cj];by_cases c1:lo+l < lo+i∧lo+i≤lo+k
          · rw [if_pos c1,if_pos (by lia),show lo+i - 1=lo+(i - 1) by lia,show lo+j - 1=lo+(j - 1) by lia];exact hs' _ _ (by lia) (by lia)
          · rw [if_neg c1];by_cases c2:lo+l < lo+j∧lo+j≤lo+k
            · rw [if_pos c2,show lo+j - 1=lo+(j - 1) by lia];exact hs' _ _ (by lia) (by lia)
            · rw [if_neg c2];exact hs' _ _ hij (by lia)
end
def Runs (lt:Keyed→Keyed→Bool) (a:Array Keyed):List (Nat × Nat × Nat)→Nat→Nat→Prop
  | [],f,t=>f=t
  | (s,n,_) :: r,f,t=>s=f∧1≤n∧Up lt a s n∧Runs lt a r (s+n) t
section
variable {lt:Keyed→Keyed→Bool} {a a':Array Keyed}
theorem Runs.le:∀ {l:List (Nat × Nat × Nat)} {f t:Nat},Runs lt a l f t→f+l.length≤t
  | [],f,t,h=>by have : f=t:=h;simp;lia
  | (s,n,p) :: r,f,t,h=>by
    obtain ⟨rfl,h1,_,h2⟩:=h;have:=Runs.le h2;simp only [abH];lia
theorem Runs.app:∀ {l1 l2:List (Nat × Nat × Nat)} {f t:Nat},Runs lt a (l1++l2) f t↔∃ m,Runs lt a l1 f m∧Runs lt a l2 m t
  | [],l2,f,t=>⟨fun h=>⟨f,rfl,h⟩,fun ⟨m,e,h⟩=>by have e:f=m:=e;subst e;exact h⟩
  | (s,n,p) :: r,l2,f,t=>by
    show (s=f∧1≤n∧Up lt a s n∧Runs lt a (r++l2) (s+n) t)↔_;rw [Runs.app];constructor
    · rintro ⟨e,h1,h2,m,h3,h4⟩;exact ⟨m,⟨e,h1,h2,h3⟩,h4⟩
    · rintro ⟨m,⟨e,h1,h2,h3⟩,h4⟩;exact ⟨e,h1,h2,m,h3,h4⟩
theorem Up.keep {s n:Nat} (h:Up lt a s n) (e:∀ k,s≤k→k < s+n→a'[k]?=a[k]?):Up lt a' s n:=fun i j hij hj=>by
  rw [cc (e (s+i) (by lia) (by lia)),cc (e (s+j) (by lia) (by lia))];exact h i j hij hj
theorem Runs.keep:∀ {l:List (Nat × Nat × Nat)} {f t:Nat},Runs lt a l f t→(∀ k,f≤k→k < t→a'[k]?=a[k]?)→Runs lt a' l f t
  | [],f,t,h,_=>h
  | (s,n,p) :: r,f,t,h,e=>by
    obtain ⟨rfl,h1,h2,h3⟩:=h;have:=h3.le;exact ⟨rfl,h1,h2.keep fun k a b=>e k a (by lia),Runs.keep h3 fun k a b=>e k (by lia) b⟩
theorem Runs.mod {g:Nat × Nat × Nat→Nat × Nat × Nat} (hg:∀ x,(g x).1=x.1∧(g x).2.1=x.2.1):∀ {l:List (Nat × Nat × Nat)} {f t k:Nat},Runs lt a l f t→Runs lt a (l.modify k g) f t
  | [],f,t,k,h=>by simpa using h
  | (s,n,p) :: r,f,t,0,h=>by
    rw [List.modify_zero_cons];obtain ⟨h1,h2⟩:=hg (s,n,p);have e:g (s,n,p)=(s,n,(g (s,n,p)).2.2):=Prod.ext h1 (Prod.ext h2 rfl);rw [e];exact h
  | (s,n,p) :: r,f,t,k+1,h=>by
    rw [List.modify_succ_cons];obtain ⟨e,h1,h2,h3⟩:=h;exact ⟨e,h1,h2,Runs.mod hg h3⟩
theorem gR {s n:Nat} (hn:s+n≤a.size):Up lt a s n↔(seg a.toList s n).Pairwise (Le lt):=by
  have len:(seg a.toList s n).length=n:=dE (by rw [aan];exact hn);have at_:∀ i (hi:i < n),(seg a.toList s n)[i]'(by lia)=vx a (s+i):=fun i hi=>by
    have h1:=eP (L:=a.toList) (s:=s) (n:=n) hi;rw [aj (jO (a:=a) (i:=s+i) (by lia)),aae (by lia)] at h1;exact aaN h1
  rw [List.pairwise_iff_getElem];constructor
  · intro h i j hi hj hij;rw [at_ i (by lia),at_ j (by lia)];exact h i j hij (by lia)
  · intro h i j hij hj;have:=h i j (by lia) (by lia) hij;rw [at_ i (by lia),at_ j hj] at this;exact this
theorem Mrgd.use {L:List Keyed} {s n:Nat} (h:Mrgd lt a.toList a'.toList s n) (hn:s+n≤a.size):a'.Perm a∧Up lt a' s n∧∀ k,(k < s∨s+n≤k)→a'[k]?=a[k]?:=by
  obtain ⟨R,hp,hs,e⟩:=h.ex;have lenA:a.toList.length=a.size:=aan;have lR:R.length=n:=by rw [hp.length_eq,dE (by lia)]
  have lT:(a.toList.take s).length=s:=by rw [aas];lia
  have pm:a'.toList.Perm a.toList:=by
    rw [e];have:=lc a.toList s n
    conv=>rhs;rw [this]
    exact aa9 _ (aaV _ hp)
  have pm':a'.Perm a:=Array.perm_iff_toList_perm.mpr pm;have sz:a'.size=a.size:=pm'.size_eq;refine ⟨pm',?_,fun k hk=>?_⟩
  · rw [gR (by lia)];have : seg a'.toList s n=R:=by
      unfold seg;rw [e,aaj,List.drop_left' lT,List.take_left' lR]
    rw [this];exact hs
  · rw [← aaU,← aaU,e];rcases hk with hk|hk
    · rw [aaj,abF (by lia),abJ hk]
    · rw [abn (by rw [aat];lia),aat,lT,lR,abP];congr 1;lia
end
end Tim
namespace Tim
open PySem PyProof.Rows
structure SI (κ:SortKind) (lt:Keyed→Keyed→Bool) (a₀:Array Keyed) (st:SortSt) (lo:Nat):Prop where
  kind:kindOf st=κ
  fail:failedOf st=none
  perm:(arrOf st).Perm a₀
  runs:Runs lt (arrOf st) (pendingOf st).toList 0 lo
  le:lo≤a₀.size
theorem SI.size {κ:SortKind} {lt:Keyed→Keyed→Bool} {a₀:Array Keyed} {st:SortSt} {lo:Nat} (h:SI κ lt a₀ st lo):(arrOf st).size=a₀.size:=h.perm.size_eq
theorem ko {α:Type} (l1 l2:List α) (p q x:α):((l1++p :: q :: l2).set l1.length x).eraseIdx (l1.length+1)=l1++x :: l2:=by
  rw [List.set_append_right _ _ (aab _),Nat.sub_self,List.set_cons_zero,List.eraseIdx_append_of_length_le (by lia),show l1.length+1 - l1.length=1 by lia];rfl
theorem km {α:Type} {l:List α} {i:Nat} (h:i+1 < l.length):∃ l1 p q l2,l=l1++p :: q :: l2∧l1.length=i:=by
  refine ⟨l.take i,l[i],l[i+1],l.drop (i+2),?_,by rw [aas];lia⟩;have e1:=aaP (l:=l) (i:=i) (by lia);have e2:=aaP (l:=l) (i:=i+1) h;rw [← e2,← e1,aaI]
section
variable {M:Model} {A:Around} {E:Value→Shared→Prop} {s:Shared} {κ:SortKind} {P:Keyed→Prop} {lt:Keyed→Keyed→Bool} {a₀:Array Keyed}
theorem ee {σ α:Type} {c:Prop} [Decidable c] {x y:StateT σ Sem α} {Q:α→σ→Prop} {st:σ} (h1:c→wpS M A E s x Q st) (h2:¬ c→wpS M A E s y Q st):wpS M A E s (if c then x else y) Q st:=by
  by_cases h:c
  · rw [if_pos h];exact h1 h
  · rw [if_neg h];exact h2 h
theorem SI.all {st:SortSt} {lo:Nat} (h:SI κ lt a₀ st lo) (hP:∀ x∈a₀.toList,P x):∀ x∈(arrOf st).toList,P x:=fun x hx=>hP x ((aa7.mp h.perm).mem_iff.mp hx)
theorem cV (O:Ord M A E s κ P lt) (hP:∀ x∈a₀.toList,P x) {st:SortSt} {lo i:Nat} {Q:Bool→SortSt→Prop} (h:SI κ lt a₀ st lo) (hi:i+1 < (pendingOf st).size)
    (q:∀ st',SI κ lt a₀ st' lo→(∀ k,lo≤k→(arrOf st')[k]?=(arrOf st)[k]?)→(pendingOf st').size+1=(pendingOf st).size→Q true st'):wpS M A E s (mergeAt' i) Q st:=by
  obtain ⟨l1,⟨sa,na,pw⟩,⟨sb,nb,pw2⟩,l2,el,hl1⟩:=km (l:=(pendingOf st).toList) (i:=i) (by rw [aan];exact hi);have hr:=h.runs;rw [el] at hr;obtain ⟨m,hr1,⟨rfl,n1,u1,rfl,n2,u2,hr2⟩⟩:=Runs.app.mp hr;have g1:(pendingOf st)[i]?=some (sa,na,pw):=by
    rw [← aaU,el,abn (by lia),hl1,Nat.sub_self];rfl
  have g2:(pendingOf st)[i+1]?=some (sa+na,nb,pw2):=by
    rw [← aaU,el,abn (by lia),hl1,show i+1 - i=1 by lia];rfl
  have t1:=hr1.le;have t2:=hr2.le;have hsz:=h.size;have hle:=h.le;have hall:=h.all hP;refine iD O h.kind h.fail hall g1 g2 rfl n1 n2 (by lia) ((gR (by lia)).mp u1) ((gR (by lia)).mp u2) fun st' k' f' p' mr=>?_;obtain ⟨pm,up,low⟩:=mr.use (L:=[]) (by lia);have ep:(pendingOf st').toList=l1++(sa,na+nb,pw) :: l2:=by
    rw [p',Array.toList_eraseIdxIfInBounds,Array.toList_setIfInBounds,el,← hl1];exact ko _ _ _ _ _
  refine q st' ⟨k',f',pm.trans h.perm,?_,hle⟩ (fun k hk=>low k (.inr (by lia))) ?_
  · rw [ep];refine Runs.app.mpr ⟨sa,hr1.keep fun k _ hk=>low k (.inl hk),rfl,by lia,up,?_⟩;rw [← Nat.add_assoc];exact hr2.keep fun k hk _=>low k (.inr (by lia))
  · rw [← aan,← aan,ep,el];simp
    lia
theorem gi (O:Ord M A E s κ P lt) (hP:∀ x∈a₀.toList,P x) {st:SortSt} {Q:Unit→SortSt→Prop} (hk:kindOf st=κ) (hf:failedOf st=none) (hp:pendingOf st=#[]) (ha:arrOf st=a₀) (h2:2≤a₀.size)
    (q:∀ st',(arrOf st').Perm a₀→failedOf st'=none→(arrOf st').toList.Pairwise (Le lt)→Q () st'):wpS M A E s sortRuns' Q st:=by
  have s0:SI κ lt a₀ st 0:=⟨hk,hf,by rw [ha],by rw [hp];exact rfl,aaB _⟩
  refine wpS_bind (wpS_get ?_);dsimp only;have hsz0:(arrOf st).size=a₀.size:=by rw [ha]
  generalize hN:(arrOf st).size=N at hsz0;refine wpS_bind (wpS_mono (wpS_forRange (I:=fun x c st'=>∃ lo,c=(none,lo)∧SI κ lt a₀ st' lo∧x≤lo) (Q:=fun c st'=>∃ lo,c=(none,lo)∧SI κ lt a₀ st' lo∧N≤lo) ?step ?fin ⟨0,rfl,s0,aab _⟩) ?post)
  case fin =>
    rintro c st' ⟨lo,rfl,S,hx⟩;exact ⟨lo,rfl,S,by lia⟩
  case step =>
    rintro x c st1 _ hxn ⟨lo,rfl,S1,hx⟩;dsimp only;refine ee (fun ge=>wpS_pure ⟨lo,rfl,S1,ge⟩) fun ge=>?_;have hz1:=S1.size;refine wpS_bind (gj O S1.kind (S1.all hP) (by lia) (by lia) fun m st2 sA kp m1 m2 hU0=>?_);dsimp only;have S2:SI κ lt a₀ st2 lo:=⟨sA.kind.trans S1.kind,sA.fail.trans S1.fail,kp.perm.trans S1.perm,by rw [sA.pend];exact S1.runs.keep fun k _ hk=>kp.low k hk,S1.le⟩
    have hz2:=S2.size;refine ee (fun cm=>?_) fun cm=>?_
    · refine wpS_bind (wpS_lift (wpAny_rule ⟨rfl,?_⟩));refine wpS_bind (kS O S2.kind (S2.all hP) (by lia) (by lia) hU0 fun st3 sA3 kp3 hU3=>?_);simp only [ab7,abg,if_false];have S3:SI κ lt a₀ st3 lo:=⟨sA3.kind.trans S2.kind,sA3.fail.trans S2.fail,kp3.perm.trans S2.perm,by rw [sA3.pend];exact S2.runs.keep fun k _ hk=>kp3.low k hk,S2.le⟩
      clear S2 hU0;rename_i hS2;have S2:=S3;generalize hfo:min (N - lo) _=fo at hU3 ⊢;have hn1:1≤fo:=by lia
      have hn2:lo+fo≤N:=by lia
      have hU:=hU3;refine wpS_bind (wpS_get ?_);have push:∀ (st3:SortSt),SI κ lt a₀ st3 lo→Up lt (arrOf st3) lo (fo)→SI κ lt a₀ (SortSt.mk' (kindOf st3) (arrOf st3) ((pendingOf st3).push (lo,fo,0)) (gallopOf st3) (failedOf st3)) (lo+(fo)):=fun st3 h3 u3=>⟨h3.kind,h3.fail,h3.perm,by
        show Runs lt (arrOf st3) ((pendingOf st3).push (lo,fo,0)).toList 0 (lo+(fo));rw [aai];exact Runs.app.mpr ⟨lo,h3.runs,rfl,hn1,u3,rfl⟩,by lia⟩
      cases hb:(pendingOf st3).back? with
      | none =>
        dsimp only;exact wpS_bind (wpS_modify (wpS_pure ⟨_,rfl,push st3 S2 hU,by lia⟩))
      | some pb =>
        obtain ⟨s1,n1,p1⟩:=pb;dsimp only;refine wpS_bind (wpS_mono (wpS_forRange (I:=fun _ c st3=>c=(none,())∧SI κ lt a₀ st3 lo∧Up lt (arrOf st3) lo (fo)) (Q:=fun c st3=>c=(none,())∧SI κ lt a₀ st3 lo∧Up lt (arrOf st3) lo (fo)) ?ms ?mf ⟨rfl,S2,hU⟩) ?mp)
        case mf=>exact fun c st3 h=>h
        case ms =>
          rintro y c st3 _ _ ⟨rfl,S3,u3⟩;refine wpS_bind (wpS_get ?_);by_cases cs:(pendingOf st3).size > 1
          · have hv:(pendingOf st3)[(pendingOf st3).size - 2]?=some ((pendingOf st3)[(pendingOf st3).size - 2]'(by lia)):=getElem?_pos (pendingOf st3) ((pendingOf st3).size - 2) (by lia);rw [if_pos cs,hv];generalize (pendingOf st3)[(pendingOf st3).size - 2]'(by lia)=v;obtain ⟨x1,x2,older⟩:=v;dsimp only;refine ee (fun _=>wpS_pure ⟨rfl,S3,u3⟩) fun _=>wpS_bind (cV O hP S3 (i:=(pendingOf st3).size - 2) (by lia) fun st4 S4 low4 _=>?_);simp only [ab7,abg,if_false];exact wpS_pure ⟨rfl,S4,u3.keep fun k a b=>low4 k a⟩
          · rw [if_neg cs];exact wpS_pure ⟨rfl,S3,u3⟩
        case mp =>
          rintro c st3 ⟨rfl,S3,u3⟩;dsimp only;refine wpS_bind (wpS_modify (wpS_bind (wpS_modify (wpS_pure ⟨_,rfl,push _ ⟨S3.kind,S3.fail,S3.perm,?_,S3.le⟩ u3,by lia⟩))));show Runs lt (arrOf st3) (Array.modify (pendingOf st3) _ _).toList 0 lo;rw [Array.toList_modify];refine Runs.mod ?_ S3.runs;intro x;exact ⟨rfl,rfl⟩
    · have hU:=hU0;have hn1:=m1;have hn2:lo+m≤N:=by lia
      refine wpS_bind (wpS_get ?_);have push:∀ (st3:SortSt),SI κ lt a₀ st3 lo→Up lt (arrOf st3) lo (m)→SI κ lt a₀ (SortSt.mk' (kindOf st3) (arrOf st3) ((pendingOf st3).push (lo,m,0)) (gallopOf st3) (failedOf st3)) (lo+(m)):=fun st3 h3 u3=>⟨h3.kind,h3.fail,h3.perm,by
        show Runs lt (arrOf st3) ((pendingOf st3).push (lo,m,0)).toList 0 (lo+(m));rw [aai];exact Runs.app.mpr ⟨lo,h3.runs,rfl,hn1,u3,rfl⟩,by lia⟩
      cases hb:(pendingOf st2).back? with
      | none =>
        dsimp only;exact wpS_bind (wpS_modify (wpS_pure ⟨_,rfl,push st2 S2 hU,by lia⟩))
      | some pb =>
        obtain ⟨s1,n1,p1⟩:=pb;dsimp only;refine wpS_bind (wpS_mono (wpS_forRange (I:=fun _ c st3=>c=(none,())∧SI κ lt a₀ st3 lo∧Up lt (arrOf st3) lo (m)) (Q:=fun c st3=>c=(none,())∧SI κ lt a₀ st3 lo∧Up lt (arrOf st3) lo (m)) ?ms ?mf ⟨rfl,S2,hU⟩) ?mp)
        case mf=>exact fun c st3 h=>h
        case ms =>
          rintro y c st3 _ _ ⟨rfl,S3,u3⟩;refine wpS_bind (wpS_get ?_);by_cases cs:(pendingOf st3).size > 1
          · have hv:(pendingOf st3)[(pendingOf st3).size - 2]?=some ((pendingOf st3)[(pendingOf st3).size - 2]'(by lia)):=getElem?_pos (pendingOf st3) ((pendingOf st3).size - 2) (by lia);rw [if_pos cs,hv];generalize (pendingOf st3)[(pendingOf st3).size - 2]'(by lia)=v;obtain ⟨x1,x2,older⟩:=v;dsimp only;refine ee (fun _=>wpS_pure ⟨rfl,S3,u3⟩) fun _=>wpS_bind (cV O hP S3 (i:=(pendingOf st3).size - 2) (by lia) fun st4 S4 low4 _=>?_);simp only [ab7,abg,if_false];exact wpS_pure ⟨rfl,S4,u3.keep fun k a b=>low4 k a⟩
          · rw [if_neg cs];exact wpS_pure ⟨rfl,S3,u3⟩
        case mp =>
          rintro c st3 ⟨rfl,S3,u3⟩;dsimp only;refine wpS_bind (wpS_modify (wpS_bind (wpS_modify (wpS_pure ⟨_,rfl,push _ ⟨S3.kind,S3.fail,S3.perm,?_,S3.le⟩ u3,by lia⟩))));show Runs lt (arrOf st3) (Array.modify (pendingOf st3) _ _).toList 0 lo;rw [Array.toList_modify];refine Runs.mod ?_ S3.runs;intro x;exact ⟨rfl,rfl⟩
  case post =>
    rintro c st1 ⟨lo,rfl,S1,hlo⟩;dsimp only;have hle:=S1.le;obtain rfl:lo=N:=by lia
    have hrl:=S1.runs.le;rw [aan] at hrl;refine wpS_bind (wpS_mono (wpS_forRange (I:=fun x c st'=>c=(none,())∧SI κ lt a₀ st' lo∧(pendingOf st').size+x≤lo) (Q:=fun c st'=>c=(none,())∧SI κ lt a₀ st' lo∧(pendingOf st').size≤1) ?fs ?ff ⟨rfl,S1,by lia⟩) ?fp)
    case ff =>
      rintro c st' ⟨rfl,S,hx⟩;exact ⟨rfl,S,by lia⟩
    case fs =>
      rintro x c st' _ hx ⟨rfl,S,hx2⟩;refine wpS_bind (wpS_get ?_);refine ee (fun c=>wpS_pure ⟨rfl,S,c⟩) fun c=>?_;have c:¬ (pendingOf st').size≤1:=c;refine wpS_bind (cV O hP S ?_ fun st4 S4 low4 sz4=>?_)
      · have key:∀ (b:Prop) [Decidable b],(if b then (pendingOf st').size - 2 - 1 else (pendingOf st').size - 2)+1 < (pendingOf st').size:=fun b _=>by split <;> lia
        exact key _
      · simp only [ab7,abg,if_false];exact wpS_pure ⟨rfl,S4,by lia⟩
    case fp =>
      rintro c st' ⟨rfl,S,h1⟩;refine wpS_pure (q st' S.perm S.fail ?_);have hr:=S.runs;have hl:(pendingOf st').toList.length≤1:=by rw [aan];exact h1
      have hz:=S.size
      match hh:(pendingOf st').toList,hl,hr with
      | [],_,hr=>have : 0=lo:=hr;lia
      | [(s',n,p)],_,hr =>
        obtain ⟨rfl,_,hu,e⟩:=hr;have e:0+n=lo:=e;have hu:=(gR (by lia)).mp hu;have : seg (arrOf st').toList 0 n=(arrOf st').toList:=by
          unfold seg;rw [List.drop_zero,aba (by rw [aan];lia)]
        rw [this] at hu;exact hu
end
end Tim
namespace Tim
open PySem PyProof.Rows
section
variable {prog:Program} {w:World} {A:Around} {E:Value→Shared→Prop} {s:Shared}
end
end Tim
namespace L2
open PySem PySem.Spec PyProof.Rows
open PySem PySem.Spec PyProof.Rows
open PySem PySem.Spec PyProof.Rows
section
variable {prog:Program} {w:World} {A:Around} {E:Value→Shared→Prop} {s:Shared}
end
end L2
namespace L2
open PySem
def oI (xs:Array Nat):Prop:=xs.toList.Pairwise (· < ·)
def Okm (m:Nat):Prop:=m=7∨m=15∨m=31∨m=63∨m=127∨m=255∨m=511∨m=1023
def lp (m:Nat):Nat→Nat→Nat→Nat × Nat
  | 0,i,p=>(i,p)
  | L+1,i,p=>lp m L ((i * 5+1+p / 32) % (m+1)) (p / 32)
end L2
namespace L2
open PySem
end L2
namespace L2
open PySem
structure GT (n:Nat) (b:Bool) (t:SetTable):Prop where
  okm:Okm t.mask
  dum:t.dummies=#[]
  pl:t.plain=true
  rise:oI t.place
  size:t.place.size=n
  led:t.led=b
  room:n * 5 < t.mask * 3
structure GT1 (n:Nat) (b:Bool) (t:SetTable):Prop where
  okm:Okm t.mask
  dum:t.dummies=#[]
  pl:t.plain=true
  rise:oI t.place
  size:t.place.size=n
  led:t.led=b
  room:(n - 1) * 5 < t.mask * 3
open PySem PySem.Spec PyProof.Rows
section
variable {prog:Program} {w:World} {A:Around} {E:Value→Shared→Prop} {s:Shared}
end
end L2
set_option maxHeartbeats 3200000
namespace L2
open PySem PySem.Spec PyProof.Rows
section
variable {prog:Program} {w:World} {A:Around} {E:Value→Shared→Prop} {s:Shared}
variable {R:Result→Shared→Prop} {I:Addr} {fp wr:List Addr} {G:Array GenState→Array GenState→Prop} {n:Nat} {P:Nat→Value→Prop} {St:Nat→Shared→Prop}
end
section
variable {prog:Program} {w:World} {A:Around} {E:Value→Shared→Prop} {s:Shared}
end
open PySem PySem.Spec PyProof.Rows
section
variable {prog:Program} {w:World} {A:Around} {E:Value→Shared→Prop} {s:Shared}
end
end L2
namespace PySem.F
end PySem.F
namespace L2
open PySem PySem.Spec PyProof.Rows
section
variable {prog:Program} {w:World} {A:Around} {E:Value→Shared→Prop} {s:Shared}
end
open PySem PySem.Spec PyProof.Rows
section
variable {prog:Program} {w:World} {A:Around} {E:Value→Shared→Prop} {s:Shared}
end
open PySem PySem.Spec PyProof.Rows
end L2
namespace PySem.F
end PySem.F
namespace L2
open PySem PySem.Spec PyProof.Rows
structure SI (prog:Program) (w:World) (h:Heap) (a:Addr) (o:Obj) (es:Array (Int × Value)) (ep:Nat) (t:SetTable):Prop where
  at':h.get? a=some o
  ex:o.ExactSet
  dat:o.data=.set es ep t
  fit:t.fits es.size=true
  els:ElemsOf (intKind prog w) es.toList
  few:es.size < scanBound
section
variable {prog:Program} {w:World} {A:Around} {E:Value→Shared→Prop} {s:Shared}
end
open PySem PySem.Spec PyProof.Rows
section
variable {prog:Program} {w:World} {A:Around} {E:Value→Shared→Prop} {s:Shared}
end
open PySem PySem.Spec PyProof.Rows
section
variable {prog:Program} {w:World} {A:Around} {E:Value→Shared→Prop} {s:Shared}
end
open PySem PySem.Spec PyProof.Rows
section
variable {prog:Program} {w:World} {A:Around} {E:Value→Shared→Prop} {s:Shared}
end
open PySem PySem.Spec PyProof.Rows
section
variable {prog:Program} {w:World} {A:Around} {E:Value→Shared→Prop} {s:Shared}
end
open PySem PySem.Spec PyProof.Rows
section
variable {prog:Program} {w:World} {A:Around} {E:Value→Shared→Prop} {s:Shared}
end
open PySem PySem.Spec PyProof.Rows
open PySem PySem.Spec PyProof.Rows
open PySem PySem.Spec PyProof.Rows
open PySem PySem.Spec PyProof.Rows
open PySem PySem.Spec PyProof.Rows
section
variable {X:Cx}
end
open PySem PySem.Spec PyProof.Rows
open PySem PySem.Spec PyProof.Rows
section
open PySem.SeqAt
open PySem.AutoSeq1 (wpAny_loadPart')
open PySem.MeetsSeq PySem.MeetsSeq2 PySem.MeetsSeq3
theorem fr (l b:Addr) (items items2:Array Value) (n n2:Nat) (dd dd2:Option Addr) (sl sl2:Array (Option Value)) (e lt:Nat→Bool):∀ (k i:Nat),i+k=min items.size items2.size →
    Meets (Builtin.«list.__eq__.loop» ⟨[.ref l,.ref b,rawInt ((i:Nat):Int),rawInt 0],[]⟩)
      (fun A R s=>s.heap.get? l=some { cls:=.type "list",dict:=dd,data:=.seq items n,slots:=sl }∧s.heap.get? b=some { cls:=.type "list",dict:=dd2,data:=.seq items2 n2,slots:=sl2 } ∧
        (∀ j (h1:j < items.size) (h2:j < items2.size),EqAt A.in1 s items[j] items2[j] (e j))∧(∀ j (h1:j < items.size) (h2:j < items2.size),e j=false→LtAt A.in1 s items[j] items2[j] (lt j)) ∧
        R (.ok (.ret (.bool (im e lt items.size items2.size i k)))) s)
  | 0,i,hik=>fun prog w A R s h=>by
    obtain ⟨hl,hb,he,hlt,h⟩:=h;refine wpAny_bind (listItems_at hl rfl (wpAny_bind (listItems_at hb rfl ?_)));have hn:items[i]?=none∨items2[i]?=none:=by
      by_cases c:items.size≤i
      · exact .inl (Array.getElem?_eq_none c)
      · exact .inr (Array.getElem?_eq_none (by omega))
    have e1:(((i:Nat):Int)).toNat=i:=by omega
    simp only [e1];have go:wpAny (model prog w) A.in1 (do
        let x ← Builtin.List.listItems (.ref l)
        let y ← Builtin.List.listItems (.ref b)
        ret (Value.bool (decide (x.size < y.size)))) (fun fin s'=>match fin with
          | Fin.done f=>R (Except.ok f) s'
          | Fin.again c'=>c'.quiet=true∧codeAny (model prog w) A c' R s') (fun e s'=>R (Except.error e) s') s :=
      wpAny_bind (listItems_at hl rfl (wpAny_bind (listItems_at hb rfl (wpAny_pure h))))
    cases hx:items[i]? with
    | none=>exact go
    | some x =>
      cases hy:items2[i]? with
      | none=>exact go
      | some y=>rcases hn with z|z <;> simp_all
  | k+1,i,hik=>fun prog w A R s h=>by
    obtain ⟨hl,hb,he,hlt,h⟩:=h;refine wpAny_bind (listItems_at hl rfl (wpAny_bind (listItems_at hb rfl ?_)));have h1:i < items.size:=by omega
    have h2:i < items2.size:=by omega
    have e1:(((i:Nat):Int)).toNat=i:=by omega
    simp only [e1,abt h1,abt h2];refine wpAny_bind (he i h1 h2 prog w _ _ ?_);have h:R (.ok (.ret (.bool (if e i=true then im e lt items.size items2.size (i+1) k else lt i)))) s:=h;cases hy:e i with
    | true =>
      rw [hy,if_pos rfl] at h;rw [if_pos rfl];have:=fr l b items items2 n n2 dd dd2 sl sl2 e lt k (i+1) (by omega) prog w A R s ⟨hl,hb,he,hlt,h⟩;refine wpAny_pure ⟨plainId_quiet plain_eq_loop _,codeAny_builtin entry_eq_loop ?_⟩;rw [Around.under_plainId plain_eq_loop];have e2:(((i:Nat):Int))+1=((i+1:Nat):Int):=by omega
      rw [e2];exact this
    | false =>
      rw [hy,if_neg (by decide)] at h;rw [if_neg (by decide)];refine wpAny_bind (listItems_at hl rfl (wpAny_bind (listItems_at hb rfl ?_)));simp only [abt h1,abt h2];exact wpAny_bind (hlt i h1 h2 hy prog w _ _ (wpAny_pure h))
theorem gE (l b:Addr) (items items2:Array Value) (n n2:Nat) (dd dd2:Option Addr) (sl sl2:Array (Option Value)) (e lt:Nat→Bool) :
    Meets (Builtin.«list.__lt__» ⟨[.ref l,.ref b],[]⟩)
      (fun A R s=>s.heap.get? l=some { cls:=.type "list",dict:=dd,data:=.seq items n,slots:=sl }∧s.heap.get? b=some { cls:=.type "list",dict:=dd2,data:=.seq items2 n2,slots:=sl2 } ∧
        (∀ j (h1:j < items.size) (h2:j < items2.size),EqAt A.in1 s items[j] items2[j] (e j))∧(∀ j (h1:j < items.size) (h2:j < items2.size),e j=false→LtAt A.in1 s items[j] items2[j] (lt j)) ∧
        R (.ok (.ret (.bool (im e lt items.size items2.size 0 (min items.size items2.size))))) s):=fun prog w A R s h=>by
  obtain ⟨hl,hb,he,hlt,h⟩:=h;have f2:∀ (M:Model) (A:Around) (E:Value→Shared→Prop) (Q:Bool→Shared→Prop),Q true s→wpAny M A (isInstance (.ref b) (.type "list")) Q E s:=fun M A E Q h=>by
    have f3:=AutoSeq1.sub_list_list
    wp_walk using wpAny_loadPart' hb
    exact h
  refine wpAny_bind (wpAny_pure (wpAny_bind (f2 _ _ _ _ ?_)));rw [if_neg (by decide)];have:=fr l b items items2 n n2 dd dd2 sl sl2 e lt _ 0 (aa6 _) prog w A R s ⟨hl,hb,he,hlt,h⟩;refine wpAny_pure ⟨plainId_quiet plain_eq_loop _,codeAny_builtin entry_eq_loop ?_⟩;rw [Around.under_plainId plain_eq_loop];exact this
theorem LtAt.lists {A:Around} {s:Shared} {l b:Addr} {items items2:Array Value} {e lt:Nat→Bool} (hl:s.heap.IsList l items) (hb:s.heap.IsList b items2) (hu:A.units < cLine)
    (he:∀ j (h1:j < items.size) (h2:j < items2.size),EqAt A.in1 s items[j] items2[j] (e j)) (hlt:∀ j (h1:j < items.size) (h2:j < items2.size),e j=false→LtAt A.in1 s items[j] items2[j] (lt j)):LtAt A s (.ref l) (.ref b) (im e lt items.size items2.size 0 (min items.size items2.size)):=fun prog w E Q h=>by
  obtain ⟨⟨cls,dd,data,sl⟩,ho,hc,n,hd⟩:=id hl;obtain ⟨⟨cls2,dd2,data2,sl2⟩,ho2,hc2,n2,hd2⟩:=id hb;simp only at hc hd hc2 hd2;subst hc hd hc2 hd2;exact richCompare_meets_room (op:=.Lt) ⟨_,ho,rfl⟩ ⟨_,ho2,rfl⟩ PySem.F.slot_list_lt PySem.F.entry_list_lt (PySem.F.args_list_lt_2 _ _) (gE l b items items2 n n2 dd dd2 sl sl2 e lt)
    ⟨ho,ho2,he,hlt,show Value.bool _≠Value.notImplemented∧Q (.bool _) s from ⟨(fun x=>nomatch x),h⟩⟩ hu
theorem i3 {prog:Program} {w:World} {A:Around} {E:Value→Shared→Prop} {s:Shared} {l b:Addr} {items items2:Array Value} {e lt:Nat→Bool} {Q:Bool→Shared→Prop} (hl:s.heap.IsList l items) (hb:s.heap.IsList b items2) (hu:A.units < cLine)
    (he:∀ j (h1:j < items.size) (h2:j < items2.size),EqAt A.in1 s items[j] items2[j] (e j)) (hlt:∀ j (h1:j < items.size) (h2:j < items2.size),e j=false→LtAt A.in1 s items[j] items2[j] (lt j))
    (h:Q (im e lt items.size items2.size 0 (min items.size items2.size)) s):wpAny (model prog w) A (oneLt' true (.ref l) (.ref b)) Q E s:=by
  obtain ⟨⟨cls,dd,data,sl⟩,ho,hc,n,hd⟩:=id hl;obtain ⟨⟨cls2,dd2,data2,sl2⟩,ho2,hc2,n2,hd2⟩:=id hb;simp only at hc hd hc2 hd2;subst hc hd hc2 hd2;rw [oneLt'_eq];simp only [];rw [if_pos trivial];refine wpAny_bind (wpAny_cRoomFor hu (wpAny_bind (wpAny_callSpecialIfBound?_slot ⟨_,ho,rfl⟩ PySem.F.slot_list_lt (call_meets PySem.F.slot_list_lt ⟨_,ho,rfl⟩ PySem.F.entry_list_lt (PySem.F.args_list_lt_2 _ _) (gE l b items items2 n n2 dd dd2 sl sl2 e lt) ⟨ho,ho2,he,hlt,?_⟩))));show wpAny _ _ (truthOfDropped (.bool _)) _ _ _;exact wpAny_pure h
end
inductive LtQ (K:aaa) (H:Hp):Nat→V→V→Bool→Prop
  | int {n:Nat} {a b:Int}:LtQ K H n (.int a) (.int b) (decide (a < b))
  | lst {n:Nat} {a b:Addr} {xs ys:List V} {e l:Nat→Bool} (ha:SqL K H a xs) (hb:SqL K H b ys) (h:∀ (j:Nat) x y,xs[j]?=some x→ys[j]?=some y→EqR K H n x y (e j)) (hl:∀ (j:Nat) x y,xs[j]?=some x→ys[j]?=some y→e j=false→LtQ K H n x y (l j)) :
      LtQ K H (n+1) (.ref a) (.ref b) (im e l xs.length ys.length 0 (min xs.length ys.length))
section
variable {X:Cx} {pins:List (Addr × Obj)} {σ:St} {H:Hp} {s:Shared}
theorem LtQ.at (I:Inv X pins σ H s) {n:Nat} {x y:V} {b:Bool} (h:LtQ X.K H n x y b):∀ {A:Around} {u v:Value},RelV x u→RelV y v→A.units+n < cLine→LtAt A s u v b:=by
  induction h with
  | int =>
    intro A u v rx ry hu;obtain ⟨t,rfl⟩:=rx;obtain ⟨t',rfl⟩:=ry;exact fun prog w E Q h=>HT.rcLt_int A s _ _ _ _ prog w E Q h
  | @lst n a b xs ys e l ha hb h hl ih =>
    intro A u v rx ry hu;cases rx;cases ry;obtain ⟨its,r,pl,_⟩:=I.list ha;obtain ⟨its2,r2,pl2,_⟩:=I.list hb;have e1:its.toArray.size=xs.length:=by rw [aac,r.length]
    have e2:its2.toArray.size=ys.length:=by rw [aac,r2.length]
    rw [← e1,← e2];refine .lists pl.isList pl2.isList (by omega) (fun j h1 h2=>?_) (fun j h1 h2 ej=>?_)
    · obtain ⟨x,hx,rx⟩:=aN r h1;obtain ⟨y,hy,ry⟩:=aN r2 h2;exact (h j x y hx hy).at I rx ry (by show A.units+1+n < cLine;omega)
    · obtain ⟨x,hx,rx⟩:=aN r h1;obtain ⟨y,hy,ry⟩:=aN r2 h2;exact ih j x y hx hy ej rx ry (by show A.units+1+n < cLine;omega)
theorem LtQ.one (I:Inv X pins σ H s) {n:Nat} {a b:Addr} {k:Bool} (h:LtQ X.K H n (.ref a) (.ref b) k) {A:Around} {E:Value→Shared→Prop} {Q:Bool→Shared→Prop} (hu:A.units+n < cLine) {prog:Program} {w:World} (q:Q k s):wpAny (model prog w) A (oneLt' true (.ref a) (.ref b)) Q E s:=by
  cases h with
  | @lst n _ _ xs ys e l ha hb h hl =>
    obtain ⟨its,r,pl,_⟩:=I.list ha;obtain ⟨its2,r2,pl2,_⟩:=I.list hb;have e1:its.toArray.size=xs.length:=by rw [aac,r.length]
    have e2:its2.toArray.size=ys.length:=by rw [aac,r2.length]
    rw [← e1,← e2] at q;refine i3 pl.isList pl2.isList (by omega) (fun j h1 h2=>?_) (fun j h1 h2 ej=>?_) q
    · obtain ⟨x,hx,rx⟩:=aN r h1;obtain ⟨y,hy,ry⟩:=aN r2 h2;exact (h j x y hx hy).at I rx ry (by show A.units+1+n < cLine;omega)
    · obtain ⟨x,hx,rx⟩:=aN r h1;obtain ⟨y,hy,ry⟩:=aN r2 h2;exact (hl j x y hx hy ej).at I rx ry (by show A.units+1+n < cLine;omega)
end
end L2
namespace Tim
open PySem PyProof.Rows
section
variable {prog:Program} {w:World} {A:Around} {E:Value→Shared→Prop} {s:Shared}
theorem sort_by {a:Addr} {vs:List Value} {n:Nat} {κ:SortKind} {Pl:Keyed→Prop} {lt:Keyed→Keyed→Bool} {P:PySem.Fin→Shared→Prop} (ho:s.heap.get? a=some (seqObj "list" vs.toArray n)) (h2:2≤vs.length) (hz:vs.length≤sizeLine)
    (hκ:∀ h':Heap,(∀ b o,b≠a→s.heap.get? b=some o→h'.get? b=some o)→∀ Q:SortKind→Shared→Prop,Q κ { s with heap:=h' }→wpAny (model prog w) A (keyKind' vs.toArray) Q E { s with heap:=h' })
    (O:∀ h':Heap,(∀ b o,b≠a→s.heap.get? b=some o→h'.get? b=some o)→Ord (model prog w) A E { s with heap:=h' } κ Pl lt) (pool:∀ x∈(pairsOf vs).toList,Pl x)
    (h:∀ arr:Array Keyed,arr.Perm (pairsOf vs)→arr.toList.Pairwise (Le lt)→P (.done (.ret .none)) { s with heap:=sortedHeap s.heap a vs (arr.map (·.2)) }) :
    wpAny (model prog w) A (Builtin.«list.sort» ⟨[.ref a],[]⟩) P E s:=by
  have la:a < s.heap.objs.size:=aak ho;have sz:vs.toArray.size=vs.length:=by simp
  rw [list_sort_plain];refine wpAny_bind (listItems_at ho rfl (wpAny_bind (listUpdate_at ho rfl ?_ (by rw [sz];exact hz) (by show (#[]:Array Value).size≤_;simp))));obtain ⟨ep,h1⟩:∃ ep,(s.heap.update a (aa1 fun _=>#[])).get? a=some (seqObj "list" #[] ep):=⟨_,get?_update_seq ho fun _=>#[]⟩
  refine wpAny_bind (seqEpoch_at h1 rfl (wpAny_bind (wpAny_newTuple ?_ (by simpa using hz))));refine wpAny_bind (wpAny_newList (wpAny_holding ?_) (aaB _));have h2':(((s.heap.update a (aa1 fun _=>#[])).push (seqObj "tuple" vs.toArray 0)).push (seqObj "list" #[] 0)).get? a=some (seqObj "list" #[] ep):=by
    rw [abc _ _ _ (by rw [size_push',abi];exact aap (abl la)),abc _ _ _ (by rw [abi];exact aap la)];exact h1
  have old:∀ b o,b≠a→s.heap.get? b=some o→(((s.heap.update a (aa1 fun _=>#[])).push (seqObj "tuple" vs.toArray 0)).push (seqObj "list" #[] 0)).get? b=some o:=fun b o hb q=>by
    have lb:b < s.heap.objs.size:=aak q;rw [abc _ _ _ (by rw [size_push',abi];exact aap (abl lb)),abc _ _ _ (by rw [abi];exact aap lb)];rw [Heap.get?_update_ne _ _ _ _ hb];exact q
  have two:¬ vs.toArray.size < 2:=by rw [sz];omega
  rw [if_neg two,if_neg two];refine wpAny_bind (hκ _ old _ ?_);refine wpAny_bind (wpAny_mono (gi (a₀:=pairsOf vs) (O _ old) pool (st:=SortSt.mk' κ (vs.toArray.zip vs.toArray) #[] 7 none) (Q:=fun _ st'=>(arrOf st').Perm (pairsOf vs)∧failedOf st'=none∧(arrOf st').toList.Pairwise (Le lt)) rfl rfl rfl rfl (by rw [pairsOf_size];omega) fun st' b1 b2 b3=>⟨b1,b2,b3⟩) ?_ fun _ _ e=>e);rintro ⟨⟨⟩,st'⟩ s' ⟨rfl,hp,hf,hs⟩;have szp:(arrOf st').size=vs.length:=hp.size_eq.trans (pairsOf_size _);refine wpAny_bind (seqEpoch_at h2' rfl (wpAny_bind (listUpdate_at h2' rfl ?_ (aaB _) (by show (Array.map _ (arrOf st')).size≤_;rw [Array.size_map,szp];omega))));dsimp only;rw [hf];simp only [bne_self_eq_false,abg,if_false];exact wpAny_pure (h _ hp hs)
end
end Tim
namespace L2
open PySem PySem.Spec PyProof.Rows
section
variable {prog:Program} {w:World} {A:Around} {E:Value→Shared→Prop} {s:Shared}
theorem kn {l:Addr} {vs:List Value} {κ:SortKind} {Pl:Keyed→Prop} {lt:Keyed→Keyed→Bool} {Q:Value→Shared→Prop} (hl:s.heap.IsList l vs.toArray) (h2:2≤vs.length) (hz:vs.length≤sizeLine)
    (hκ:∀ h':Heap,(∀ b o,s.heap.get? b=some o→h'.get? b=some o)→∀ Q:SortKind→Shared→Prop,Q κ { s with heap:=h' }→wpAny (model prog w) A.in1.in1 (keyKind' vs.toArray) Q E { s with heap:=h' })
    (O:∀ h':Heap,(∀ b o,s.heap.get? b=some o→h'.get? b=some o)→Tim.Ord (model prog w) A.in1.in1 E { s with heap:=h' } κ Pl lt) (pool:∀ x∈(pairsOf vs).toList,Pl x)
    (h:∀ arr:Array Keyed,arr.Perm (pairsOf vs)→arr.toList.Pairwise (Tim.Le lt)→Q (.ref (s.heap.objs.size+1)) { s with heap:=sortedAll s.heap vs (arr.map (·.2)) }):wpAny (model prog w) A (call (.builtin "sorted") [.ref l]) Q E s:=by
  apply Calls.call_function_entry kind_sorted plain_sorted entry_sorted (args_sorted1 _);unfold Builtin.«sorted»;refine wpAny_bind (m:=checkCount "sorted" 1 1 _) (wpAny_pure (wpAny_bind (collect_list hl (wpAny_bind (wpAny_newList ?_ hz)) hz)));have e0:((s.heap.push (seqObj "list" #[] 0)).update s.heap.objs.size (aa1 (·++vs.toArray))).objs.size=s.heap.objs.size+1:=by rw [abi,size_push']
  have hoL:(((s.heap.push (seqObj "list" #[] 0)).update s.heap.objs.size (aa1 (·++vs.toArray))).push (seqObj "list" vs.toArray 0)).get? (s.heap.objs.size+1)=some (seqObj "list" vs.toArray 0):=by rw [← e0];exact aaA _ rfl
  have old:∀ b o,s.heap.get? b=some o→(((s.heap.push (seqObj "list" #[] 0)).update s.heap.objs.size (aa1 (·++vs.toArray))).push (seqObj "list" vs.toArray 0)).get? b=some o:=fun b o q=>by
    have lb:b < s.heap.objs.size:=aak q;rw [abc _ _ _ (by rw [e0];exact aap (abl lb)),Heap.get?_update_ne _ _ _ _ (aap lb),abc _ _ _ (aap lb)];exact q
  show wpAny _ _ _ _ _ { s with heap:=(((s.heap.push (seqObj "list" #[] 0)).update s.heap.objs.size (aa1 (·++vs.toArray))).push (seqObj "list" vs.toArray 0)) };rw [e0];have nb:∀ b o,s.heap.get? b=some o→b≠s.heap.objs.size+1:=fun b o q=>by
    have lb:b < s.heap.objs.size:=aak q;exact aap (abl lb)
  exact wpAny_bind (wpAny_holding (wpAny_call_entry slot_list_sort ⟨_,hoL,rfl⟩ entry_list_sort (Tim.sort_by hoL h2 hz (fun h' k=>hκ h' fun b o q=>k b o (nb b o q) (old b o q)) (fun h' k=>O h' fun b o q=>k b o (nb b o q) (old b o q)) pool fun arr o1 o2=>⟨_,rfl,wpAny_pure ⟨_,rfl,h arr o1 o2⟩⟩) (args_list_sort _)))
end
def toV:Value→V
  | .ref a=>.ref a
  | _=>.non
theorem gt:∀ {us:List V} {vs:List Value},Vals us vs→(∀ x∈us,∃ a,x=V.ref a)→us=vs.map toV∧∀ v∈vs,∃ a,v=Value.ref a
  | _,_,.nil,_=>⟨rfl,fun _ h=>nomatch h⟩
  | _,_,.cons r t,h=>by
    obtain ⟨a,e⟩:=h _ aaw;subst e;cases r;obtain ⟨h1,h2⟩:=gt t fun x hx=>h x (aay _ hx);refine ⟨by rw [h1];rfl,fun v hv=>?_⟩;rcases aax.mp hv with rfl|hv
    · exact ⟨_,rfl⟩
    · exact h2 v hv
theorem gv:∀ {vs:List Value},(∀ v∈vs,∃ a,v=Value.ref a)→Vals (vs.map toV) vs
  | [],_=>.nil
  | v :: vs,h=>by
    obtain ⟨a,rfl⟩:=h v aaw;exact .cons rfl (gv fun x hx=>h x (aay _ hx))
theorem dG (vs:List Value):(pairsOf vs).toList.map (·.2)=vs∧∀ x∈(pairsOf vs).toList,x.1=x.2∧x.1∈vs:=by
  have e:(pairsOf vs).toList=vs.zip vs:=by unfold pairsOf;simp
  rw [e];refine ⟨by rw [List.map_snd_zip];exact aab _,fun x hx=>?_⟩
  induction vs with
  | nil=>cases hx
  | cons v vs ih =>
    rcases aax.mp hx with rfl|hx
    · exact ⟨rfl,aaw⟩
    · have:=ih (by unfold pairsOf;simp) hx;exact ⟨this.1,aay _ this.2⟩
structure Rnk (K:aaa) (H:Hp) (n:Nat) (us:List V) (kf:V→Int):Prop where
  two:∀ x∈us,∃ t k wv ks,x=.ref t∧H t=some (.tup [.ref k,wv])∧H k=some (.lst ks)
  cmp:∀ t t' k k' wv wv',V.ref t∈us→V.ref t'∈us→H t=some (.tup [.ref k,wv])→H t'=some (.tup [.ref k',wv']) →
    EqR K H n (.ref k) (.ref k') (decide (kf (.ref t)=kf (.ref t')))∧(kf (.ref t)≠kf (.ref t')→LtQ K H n (.ref k) (.ref k') (decide (kf (.ref t) < kf (.ref t'))))∧(kf (.ref t)=kf (.ref t')→EqR K H n wv wv' true)
theorem iu {X:Cx} {K:aaa} (hK:X.K=K) (hu:X.A.units+64 < cLine):di X (.builtin "sorted") (fun xs H Q=>∃ (p:Addr) (us:List V) (kf:V→Int) (n:Nat),xs=[.ref p]∧H p=some (.lst us)∧n≤50∧Rnk K H n us kf ∧
    ∀ (q:Addr) (us':List V),H q=none→us'.Perm us→us'.Pairwise (fun x y=>kf x≤kf y)→Q (.ref q) (upd H q (.lst us'))):=by
  subst hK;intro pins s σ H xs us Q I r h;obtain ⟨p,vs,kf,n,rfl,hH,hn,rk,q⟩:=h;obtain ⟨u,rfl,ru⟩:=eh r;cases ru;obtain ⟨z,its,m,rv,hl,e⟩:=I.lstM hH;obtain ⟨ev,hrf⟩:=gt rv fun x hx=>by
    obtain ⟨t,_,_,_,e,_⟩:=rk.two x hx;exact ⟨t,e⟩
  by_cases h2:its.length < 2
  · refine Srt.sorted_small (vs:=its) ⟨_,e,rfl,_,rfl⟩ h2 ?_;have eo:(pairsOf its).map (·.2)=its.toArray:=by
      match its,h2 with
      | [],_=>simp [pairsOf]
      | [v],_=>simp [pairsOf]
    rw [eo];obtain ⟨c,hc⟩:=sortedAll_at s.heap its its.toArray;have I1:=I.laid (a:=s.heap.objs.size+1) (o:=.lst vs) (t':=s.toks) (fun b o q=>sortedAll_old (vs:=its) (out:=its.toArray) q) (abZ _) ⟨z,its,c,rv,hc⟩;refine ⟨.ref _,_,I1,rfl,q _ vs (I.hok.fresh (abZ _)) (ab2 _) ?_⟩
    match vs,hl with
    | [],_=>exact List.Pairwise.nil
    | [a],_=>exact List.pairwise_singleton _ _
    | a :: b :: r,hl=>simp at hl;omega
  have at_:∀ v∈its,∃ t k wv ks o uk uw c,v=.ref t∧V.ref t∈vs∧H t=some (.tup [.ref k,wv])∧H k=some (.lst ks)∧s.heap.get? t=some o∧o.cls=.type "tuple"∧o.data=.seq #[uk,uw] c∧uk=.ref k∧RelV wv uw:=fun v hv=>by
    obtain ⟨a,rfl⟩:=hrf v hv;have hm:V.ref a∈vs:=by rw [ev];exact List.mem_map.mpr ⟨_,hv,rfl⟩
    obtain ⟨t,k,wv,ks,e1,e2,e3⟩:=rk.two _ hm;cases e1;obtain ⟨_,its',r',o,g1,g2,c,g3⟩:=I.hok a _ e2;obtain ⟨u1,u2,rfl,r1,r2⟩:=kT r';cases r1;exact ⟨a,k,wv,ks,o,_,u2,c,rfl,hm,e2,e3,g1,g2,g3,rfl,r2⟩
  let kv:Value→Int:=fun v=>kf (toV v)
  refine kn (vs:=its) (κ:=tuples' true) (Pl:=fun x=>x.1∈its) (lt:=fun x y=>decide (kv x.1 < kv y.1)) ⟨_,e,rfl,_,rfl⟩ (by omega) (by omega) (fun h' old Q hQ=>?_) (fun h' old=>?_) (fun x hx=>((dG its).2 x hx).2) fun arr o1 o2=>?_
  · have kt:∀ l:List Value,(∀ v∈l,v∈its)→∃ fs,PySem.W.KatTups h' l fs∧fs.length=l.length∧∀ v∈fs,∃ k o,v=Value.ref k∧h'.get? k=some o∧o.cls=.type "list":=fun l=>by
      induction l with
      | nil=>exact fun _=>⟨[],.nil,rfl,fun _ h=>nomatch h⟩
      | cons v l ih =>
        intro hv;obtain ⟨fs,f1,f2,f3⟩:=ih fun x hx=>hv x (aay _ hx);obtain ⟨t,k,wv,ks,o,uk,uw,c,rfl,_,e2,e3,g1,g2,g3,rfl,_⟩:=at_ v (hv v aaw);obtain ⟨_,itk,ck,_,_,ek⟩:=I.lstM e3;refine ⟨.ref k :: fs,.cons (old _ _ g1) g2 g3 rfl f1,congrArg (·+1) f2,fun v hv=>?_⟩;rcases aax.mp hv with rfl|hv
        · exact ⟨k,_,rfl,old _ _ ek,rfl⟩
        · exact f3 v hv
    obtain ⟨fs,f1,f2,f3⟩:=kt its fun _ h=>h;refine PySem.W.kat_kind (s:={ s with heap:=h' }) (T:=.type "list") f1 (by omega) (fun v hv=>?_) (by decide) hQ;obtain ⟨k,o,rfl,g1,g2⟩:=f3 v hv;intro A' Q' E' s' hs' hq;exact wpAny_typeOf_ref (hs' _ _ g1) (by rw [g2];exact hq)
  · have I1:Inv X pins σ H { s with heap:=h' }:=I.kept (t':=s.toks) old;refine ⟨fun {x y st Q'} hx hy hk hq=>?_,fun {x y} _ _ h=>?_,fun {x y z} _ _ _ h1 h2=>?_⟩
    · obtain ⟨x1,x2⟩:=x;obtain ⟨y1,y2⟩:=y;obtain ⟨t,k,wv,ks,o,uk,uw,c,rfl,hm,e2,e3,g1,g2,g3,rfl,rw1⟩:=at_ x1 hx;obtain ⟨t',k',wv',ks',o',uk',uw',c',rfl,hm',e2',e3',g1',g2',g3',rfl,rw2⟩:=at_ y1 hy;obtain ⟨c1,c2,c3⟩:=rk.cmp t t' k k' wv wv' hm hm' e2 e2';rw [lt'_eq];refine wpS_bind (wpS_get ?_);rw [hk];refine wpS_bind (wpS_lift (wpAny_attempt ?_));refine PySem.W.kat_lt (old _ _ g1) g3 (old _ _ g1') g3' ?_;have hu2:X.A.in1.in1.units+n < cLine:=by show X.A.units+1+1+n < cLine;omega
      show PySem.W.KatLex _ _ _ true (decide (2 < 2)) _ [(.ref k,.ref k'),(uw,uw')] 0 _;refine PySem.W.kat_cons (c1.at I1 rfl rfl hu2 _ _ _ _ ?_);have hq:Q' (some (decide (kf (.ref t) < kf (.ref t')))) st:=hq;by_cases c:kf (.ref t)=kf (.ref t')
      · rw [decide_eq_true c];refine PySem.W.kat_yes (PySem.W.kat_cons ((c3 c).at I1 rw1 rw2 hu2 _ _ _ _ (PySem.W.kat_yes (PySem.W.kat_nil ?_))));rw [decide_eq_false (show ¬ kf (.ref t) < kf (.ref t') by omega)] at hq;exact ⟨rfl,wpS_pure hq⟩
      · rw [decide_eq_false c];exact PySem.W.kat_no ((c2 c).one I1 hu2 ⟨rfl,wpS_pure hq⟩)
    · simp only [decide_eq_true_eq,decide_eq_false_iff_not] at h ⊢;omega
    · simp only [decide_eq_false_iff_not] at h1 h2 ⊢;omega
  · have pv:(arr.map (·.2)).toList.Perm its:=by
      rw [Array.toList_map];have:=(aa7.mp o1).map (·.2)
      rwa [(dG its).1] at this
    have so:(arr.map (·.2)).toList.Pairwise fun x y=>kv x≤kv y:=by
      rw [Array.toList_map,abY];refine o2.imp_of_mem fun {x y} hx hy h=>?_;have ex:=((dG its).2 x ((aa7.mp o1).mem_iff.mp hx)).1;have ey:=((dG its).2 y ((aa7.mp o1).mem_iff.mp hy)).1;unfold Tim.Le at h;simp only [decide_eq_false_iff_not] at h;rw [← ex,← ey];omega
    generalize arr.map (·.2)=out at pv so;obtain ⟨c,hc⟩:=sortedAll_at s.heap its out;have len:out.toList.length=its.length:=pv.length_eq;have I1:=I.laid (a:=s.heap.objs.size+1) (o:=.lst (out.toList.map toV)) (t':=s.toks) (fun b o q=>sortedAll_old (vs:=its) (out:=out) q) (abZ _) ⟨by rw [aad,len];omega,out.toList,c,gv fun v hv=>hrf v (pv.mem_iff.mp hv),(by rw [Array.toArray_toList];exact hc)⟩;refine ⟨.ref _,_,I1,rfl,q _ _ (I.hok.fresh (abZ _)) ?_ ?_⟩
    · rw [ev];exact pv.map toV
    · rw [abY];exact so
open PySem PySem.Spec PyProof.Rows
def Itu (lo st:Int) (n:Nat):It:=⟨fun i _=>i < n,fun i H x H'=>H'=H∧x=.int (lo+(i:Int) * st),fun i _=>n≤i⟩
theorem Trn.up {lo st:Int} {n:Nat}:Trn (Itu lo st n) n (fun _=>True) (fun i x H H'=>H'=H∧x=.int (lo+(i:Int) * st)) :=
  ⟨fun i H hi _=>hi,fun H _=>aab _,fun i H x H' hi _ y=>y⟩
theorem mh {P:Program} {w:World} {K:aaa} {tg:Expr} (it:Addr) (lo stp:Int) (n:Nat):Turn P w K tg (Itu lo stp n) [it] it (fun i h=>IsRangeIter h it (lo+(i:Nat) * stp) ((n:Int) - (i:Nat)) stp) where
  mem:=by simp
  obj:=fun i h st b hb=>by
    have e:b=it:=by simpa using hb
    subst e;exact ⟨_,st,fun v z=>by
      have z':Data.fields _=Data.cell v:=z;cases z'⟩
  keep:=fun i h h' st k=>k it (by simp) _ st
  item:=by
    intro X hP hw hK hc i pins s σ H E I hf st hg;subst hP hw hK;obtain ⟨f0,f1,f2,f3,f4,f5⟩:=hf it (by simp);have W:=Walks.range (prog:=X.prog) (w:=X.w) (I.ok.hd hc) it lo stp n;refine W.item i s _ _ hg st fun v h' tk hv st' kk=>?_;obtain ⟨t,rfl⟩:=hv;have I1:Inv X pins σ H { s with heap:=h',toks:=tk }:=I.turned (fun b o hb e=>kk b o (by simpa using hb) e) f0 f1 f3 f4 f5;exact ⟨_,rfl,j7 (s:={ s with heap:=h',toks:=tk }) (n:="range_iterator") st' rfl rfl (by decide) ⟨.int (lo+(i:Int) * stp),H,I1,⟨t,rfl⟩,⟨rfl,rfl⟩,st',fun b hb=>(hf b hb).1⟩⟩
  done:=by
    intro X hP hw hK hc i pins s σ H E I hf st hg;subst hP hw hK;obtain ⟨f0,f1,f2,f3,f4,f5⟩:=hf it (by simp);exact wpAny_pyNext_range_end (I.ok.hd hc) st (by have : n≤i:=hg;omega) fun h' eb=>⟨rfl,I.turned (t':=s.toks) (fun b o hb e=>eb b o hb e) f0 f1 f3 f4 f5⟩
  self:=fun _ _ _ _ _ st h=>wpAny_pyIter_rangeiter st h
theorem c_ {a b c:Int} (hc:0 < c):aaH a b c=if a < b then (b - a - 1) / c+1 else 0:=by
  unfold aaH;rw [if_pos hc]
theorem jX {a b c:Int} (hc:0 < c) (h:a < b):0≤(b - a - 1) / c∧(b - a - 1) / c≤b - a - 1:=by
  have h0:0≤(b - a - 1) / c:=Int.ediv_nonneg (by omega) (by omega);refine ⟨h0,?_⟩;have:=Int.ediv_mul_le (b - a - 1) (b:=c) (by omega);have h1:(b - a - 1) / c * 1≤(b - a - 1) / c * c:=Int.mul_le_mul_of_nonneg_left (by omega) h0;omega
theorem iU {a b c:Int} (hc:0 < c) {i:Nat} (h:i < (aaH a b c).toNat):a+(i:Int) * c < b:=by
  rw [c_ hc] at h;split at h
  · rename_i hab;have h1:(i:Int)≤(b - a - 1) / c:=by omega
    have:=Int.ediv_mul_le (b - a - 1) (b:=c) (by omega);have h2:(i:Int) * c≤(b - a - 1) / c * c:=aaD h1 (by omega);omega
  · simp at h
section
variable {X:Cx} {tg:Expr}
def ow (ta:TA):TI:=fun σ H R=>ta σ H fun vs H1=>∃ i j k:Int,vs=[.int i,.int j,.int k]∧(-1000000≤i∧i≤1000000∧-1000000≤j∧j≤1000000∧0 < k∧k≤1000000)∧R (Itu i k (aaH i j k).toNat) H1
theorem kC {a b c:Expr} {ta:TA} {p pos:Pos} (hg:Gl X "range") (hm:X.mg "range" = none) (ha:PA X [a,b,c] ta) (hs:starEach [a,b,c] X.env=[(false,eval a X.env),(false,eval b X.env),(false,eval c X.env)]:=by rfl) (hs2:starEach [b,c] X.env=[(false,eval b X.env),(false,eval c X.env)]:=by rfl) :
    PI X tg (.Call (.Name "range" p) [a,b,c] [] pos) (ow ta):=by
  intro pins s σ H R I h;refine Call_ (ec I hg hm boot_range (aa3 (thn (ha pos pins s σ H _ I h) fun us s1 ⟨vs,H1,I1,r1,q1⟩=>?_) (by rw [hs,hs2]) (by rw [hs2];rfl)));obtain ⟨i,j,k,e,⟨q1,q2,q3,q4,q5,q6⟩,q⟩:=q1;subst e;cases r1 with
  | cons r rr =>
    cases rr with
    | cons r' rr =>
      cases rr with
      | cons r'' rr =>
        cases rr;obtain ⟨t,rfl⟩:=r;obtain ⟨t',rfl⟩:=r';obtain ⟨t'',rfl⟩:=r'';have hsm:Builtin.Range.small i j k=true:=by
          unfold Builtin.Range.small Builtin.Range.rangeFitsLong;rw [c_ q5];have b1:(if i < j then (j - i - 1) / k+1 else 0)≤4000000∧0≤(if i < j then (j - i - 1) / k+1 else 0):=by
            split
            · rename_i hij;have:=jX q5 hij;omega
            · omega
          simp only [abo,decide_eq_true_eq,Bool.or_eq_true,beq_iff_eq];refine ⟨⟨⟨⟨?_,?_⟩,?_⟩,?_⟩,?_⟩
          · omega
          · omega
          · omega
          · omega
          · right;rw [if_pos q5];simp only [abo,decide_eq_true_eq];omega
        refine call_range_3 (by omega) ?_ (Or.inl (PyProof.noPylong_small (by omega)));refine wpAny_pyIter_range (s:={ s1 with heap:=s1.heap.push { cls:=.type "range",data:=.fields #[.int i t,.int j t',.int k t''] } }) (IsRange.new ..) hsm ?_;have I2:Inv X pins σ H1 { s1 with heap:=s1.heap.push { cls:=.type "range",data:=.fields #[.int i t,.int j t',.int k t''] } }:=I1.kept (t':=s1.toks) fun b o e=>aal _ e;refine ⟨(s1.heap.push { cls:=.type "range",data:=.fields #[.int i t,.int j t',.int k t''] }).objs.size,[(s1.heap.push { cls:=.type "range",data:=.fields #[.int i t,.int j t',.int k t''] }).objs.size],_,_,H1,rfl,
          I2.kept (t':=s1.toks) fun b o e=>aal _ e,mh _ i k (aaH i j k).toNat,?_,fun b hb=>?_,q⟩
        · have e1:i+((0:Nat):Int) * k=i:=by simp
          have e2:(((aaH i j k).toNat:Nat):Int) - ((0:Nat):Int)=aaH i j k:=by
            have : 0≤aaH i j k:=by
              rw [c_ q5];split
              · rename_i hij;have:=jX q5 hij;omega
              · omega
            omega
          show IsRangeIter _ _ (i+((0:Nat):Int) * k) ((((aaH i j k).toNat:Nat):Int) - ((0:Nat):Int)) k;rw [e1,e2];exact aaA _ rfl
        · have e:b=(s1.heap.push { cls:=.type "range",data:=.fields #[.int i t,.int j t',.int k t''] }).objs.size:=by simpa using hb
          subst e;exact I2.fpOk (aab _) (I2.hok.fresh (aab _))
end
section
variable {X:Cx}
theorem nu {K:aaa} (hK:X.K=K) (hu:X.A.units+64 < cLine):OpR X (compareOp .Lt) (fun x y H Q=>∃ n a b k,n≤60∧x=.ref a∧y=.ref b∧LtQ K H n x y k∧Q (.bl k) H):=by
  subst hK;intro pins s σ H x y v u Q I rx ry h;obtain ⟨n,a,b,k,hn,e1,e2,h,q⟩:=h;exact (h.at I rx ry (A:=X.A) (by omega)) _ _ _ _ ⟨.bl k,H,I,rfl,q⟩
end
open PySem PySem.Spec PyProof.Rows
theorem mC {X:Cx} {a:Expr} {ta:TE} {pos:Pos} (ha:PE X a ta):PE X (.UnaryOp .Not a pos) (fun σ H Q=>ta σ H fun x H'=>∃ k,nQ X.K x H' k∧Q (.bl (!k)) H'):=by
  intro pins s σ H Q I h;refine UnaryOp_ (thn (ha pins s σ H _ I h) fun v s1 ⟨x,H1,I1,r1,k,tr,q1⟩=>?_);exact not_of (thn (kX pins s1 σ H1 x v _ I1 r1 ⟨k,tr,q1⟩) fun b s2 ⟨H2,I2,q2⟩=>⟨.bl (!b),H2,I2,rfl,q2⟩)
theorem Same.upd {H H1:Hp} {p:Addr} {o:HO} (a:Same H H1) (h:H p=none):Same H (L2.upd H1 p o):=fun b u q=>by
  rw [aD (aK q h)];exact a b u q
end L2
namespace Put
open PySem L2
def top (i:Nat):Stmt:=PySem.Challenge.pw_putsigns_k06_ways_in_order.main.body.getD i (.Pass ⟨0,0,0,0⟩)
inductive Sg where
  | plus|minus|times
  deriving DecidableEq
def Sg.str:Sg→Str
  | .plus=>"+"
  | .minus=>"-"
  | .times=>"*"
inductive Wy where
  | num (i:Int)
  | node (g:Sg) (l r:Wy)
  deriving DecidableEq
def Wy.size:Wy→Nat
  | .num _=>1
  | .node _ l r=>l.size+r.size
def Wy.knots:Wy→Nat
  | .num _=>1
  | .node _ l r=>l.knots+r.knots+1
theorem Wy.size_pos:∀ w:Wy,1≤w.size
  | .num _=>aab _
  | .node _ l r=>by have:=l.size_pos;show 1≤l.size+r.size;omega
def WyIn (H:Hp):Wy→V→Prop
  | .num i,v=>v=.int i
  | .node g l r,v=>∃ a vl vr,v=.ref a∧H a=some (.tup [.str g.str,vl,vr])∧WyIn H l vl∧WyIn H r vr
def Tups (H H':Hp):Prop:=∀ b xs,H b=some (.tup xs)→H' b=some (.tup xs)
theorem Tups.of {H H':Hp} (a:Same H H'):Tups H H':=fun b xs h=>a b _ h
theorem Tups.but {H H':Hp} {w:Addr} {xs:List V} (a:But w H H') (h:H w=some (.lst xs)):Tups H H':=fun b ys q=>a b _ (fun e=>by rw [e,h] at q;cases q) q
theorem Tups.trans {H H1 H2:Hp} (a:Tups H H1) (b:Tups H1 H2):Tups H H2:=fun c xs h=>b c xs (a c xs h)
theorem WyIn.mono {H H':Hp} (t:Tups H H'):∀ {w:Wy} {v:V},WyIn H w v→WyIn H' w v
  | .num _,_,h=>h
  | .node g l r,v,h=>by
    obtain ⟨a,vl,vr,e,h1,h2,h3⟩:=h;exact ⟨a,vl,vr,e,t _ _ h1,WyIn.mono t h2,WyIn.mono t h3⟩
def WyAll (H:Hp) (ws:List Wy) (vs:List V):Prop:=Paired (fun w v=>WyIn H w v) ws vs
theorem WyAll.mono {H H':Hp} (t:Tups H H'):∀ {ws:List Wy} {vs:List V},WyAll H ws vs→WyAll H' ws vs
  | _,_,.nil=>.nil
  | _,_,.cons a b=>.cons (a.mono t) (WyAll.mono t b)
theorem WyAll.snoc {H:Hp} {w:Wy} {v:V} (h:WyIn H w v):∀ {ws:List Wy} {vs:List V},WyAll H ws vs→WyAll H (ws++[w]) (vs++[v])
  | _,_,.nil=>.cons h .nil
  | _,_,.cons a b=>.cons a (WyAll.snoc h b)
theorem WyAll.length {H:Hp}:∀ {ws:List Wy} {vs:List V},WyAll H ws vs→ws.length=vs.length
  | _,_,.nil=>rfl
  | _,_,.cons _ b=>congrArg (·+1) (WyAll.length b)
def eu (ws:List Wy):Nat:=(ws.map Wy.size).sum
def db (ws:List Wy):Nat:=(ws.map Wy.knots).sum
theorem dP (ws:List Wy) (w:Wy):eu (ws++[w])=eu ws+w.size:=by simp [eu]
theorem dz (ws:List Wy) (w:Wy):db (ws++[w])=db ws+w.knots:=by simp [db]
theorem bU:∀ ws:List Wy,ws.length≤eu ws
  | []=>aab _
  | w :: r=>by
    have a:=bU r;have b:=w.size_pos;show r.length+1≤(w.size :: r.map Wy.size).sum;rw [List.sum_cons];have : eu r=(r.map Wy.size).sum:=rfl;omega
theorem WyAll.last {H:Hp} {ws:List Wy} {vs:List V} (h:WyAll H ws vs) (ne:vs≠[]):∃ ws' w vs' v,ws=ws'++[w]∧vs=vs'++[v]∧WyAll H ws' vs'∧WyIn H w v:=by
  induction h with
  | nil=>exact absurd rfl ne
  | @cons w v ws vs a b ih =>
    cases b with
    | nil=>exact ⟨[],w,[],v,rfl,rfl,.nil,a⟩
    | cons a' b' =>
      obtain ⟨ws',w',vs',v',e1,e2,h1,h2⟩:=ih (by simp);exact ⟨w :: ws',w',v :: vs',v',by rw [e1];rfl,by rw [e2];rfl,.cons a h1,h2⟩
structure Bu (K:aaa) (mg:Str→Option Value):Prop where
  ilen:mg "len" = none
  iisinstance : mg "isinstance" = none
  iint:mg "int" = none
  ibool:mg "bool" = none
  istr:mg "str" = none
  ituple:mg "tuple" = none
  ilist:mg "list" = none
  isorted:mg "sorted" = none
  irange:mg "range" = none
  irepr:mg "repr" = none
  ienumerate:mg "enumerate" = none
  isum:mg "sum" = none
  iall:mg "all" = none
  imin:mg "min" = none
  imax:mg "max" = none
  iabs:mg "abs" = none
  idivmod:mg "divmod" = none
  idict:mg "dict" = none
  iset:mg "set" = none
  ireversed:mg "reversed" = none
  iany:mg "any" = none
  izip:mg "zip" = none
structure Co (K:aaa) (mg:Str→Option Value) (tk:Tok) (aS:Addr):Prop where
  gMOST_NUMBERS:mg "MOST_NUMBERS" = some (.int 9 tk)
  gSIGNS:mg "SIGNS" = some (.ref aS)
  sSIGNS:∀ H,SqT K H aS [.str "+",.str "-",.str "*"]
section
variable {P:Program} {w:World} {K:aaa} {mg:Str→Option Value} {base:Heap} {f:Addr} {fd:FuncData}
def bW (K:aaa):Sp:=fun vs H Q _=>∃ x n,vs=[x]∧TyOf K H x (.type n)∧Q (.bl (decide (n = "int"))) H
abbrev dX:Stmt:=top 11
theorem iP:FnScope ["thing"] ["thing"] (ap dX):=⟨rfl,rfl,rfl,by decide +kernel,rfl,by decide +kernel,by decide +kernel⟩
theorem i_ (F:Fun K "is_whole" "is_whole" dX f fd) (B:Bu K mg):FnOk P w K mg base CX0 1 f fd ["thing"] (bW K):=by
  refine F.ok iP (fun vs H Q E h=>?_) (fun cdv A outer s H vs Q E hr h=>?_)
  · obtain ⟨x,n,rfl,_⟩:=h;rfl
  obtain ⟨x,n,rfl,ty,q⟩:=h;refine ⟨_,(@ah _ _ _ (@ar _ _ _ _ (@fQ _ _ _ _ _ _ _ (@ao _ _ _ _ _ _ _ _ _ (@aV _ ("int")) rfl B.iisinstance aaz (@aa _ _ _ _ _ (@pv _ 0 _ _ (by rfl) (by first|exact .inl rfl|exact .inr (.inl rfl)|exact .inr (.inr rfl)) (by decide) (by decide)) (@aa _ _ _ _ _ (@b8 _ _ (.ty "int") _ _ rfl B.iint PyProof.Rows.boot_int rfl (by decide) (by decide)) ad (by rfl)) (by rfl)) (by decide) (by decide) (by rfl) (by rfl)) (@fP _ _ _ _ _ (@nk _ _ _ _ (@ao _ _ _ _ _ _ _ _ _ (@aV _ ("bool")) rfl B.iisinstance aaz (@aa _ _ _ _ _ (@pv _ 0 _ _ (by rfl) (by first|exact .inl rfl|exact .inr (.inl rfl)|exact .inr (.inr rfl)) (by decide) (by decide)) (@aa _ _ _ _ _ (@b8 _ _ (.ty "bool") _ _ rfl B.ibool PyProof.Rows.boot_bool rfl (by decide) (by decide)) ad (by rfl)) (by rfl)) (by decide) (by decide) (by rfl) (by rfl))))))),?_⟩;cases ty with
  | non=>exact ⟨_,rfl,_,_,false,rfl,.non,rfl,false,rfl,a_ q⟩
  | bl y=>exact ⟨_,rfl,_,_,true,rfl,.bl y,rfl,true,rfl,cD ⟨_,rfl,_,_,true,rfl,.bl y,rfl,true,rfl,q⟩⟩
  | int i=>exact ⟨_,rfl,_,_,true,rfl,.int i,rfl,true,rfl,cD ⟨_,rfl,_,_,false,rfl,.int i,rfl,false,rfl,q⟩⟩
  | str y=>exact ⟨_,rfl,_,_,false,rfl,.str y,rfl,false,rfl,a_ q⟩
  | flt y=>exact ⟨_,rfl,_,_,false,rfl,.flt y,rfl,false,rfl,a_ q⟩
  | lst e=>exact ⟨_,rfl,_,_,false,rfl,.lst e,rfl,false,rfl,a_ q⟩
  | frz e=>exact ⟨_,rfl,_,_,false,rfl,.frz e,rfl,false,rfl,a_ q⟩
  | tup e=>exact ⟨_,rfl,_,_,false,rfl,.tup e,rfl,false,rfl,a_ q⟩
  | dK e=>exact ⟨_,rfl,_,_,false,rfl,.dK e,rfl,false,rfl,a_ q⟩
  | dT e=>exact ⟨_,rfl,_,_,false,rfl,.dT e,rfl,false,rfl,a_ q⟩
def ou (z:Str):Bool:=inV (.str z) [.str "+",.str "-",.str "*"]
theorem lH (g:Sg):ou g.str=true:=by cases g <;> decide +kernel
def jt:Sp:=fun vs H Q _=>∃ z,vs=[.str z]∧Q (.bl (ou z)) H
abbrev eT:Stmt:=top 15
theorem jx:FnScope ["thing"] ["thing"] (ap eT):=⟨rfl,rfl,rfl,by decide +kernel,rfl,by decide +kernel,by decide +kernel⟩
theorem jF {tk:Tok} {aS:Addr} (F:Fun K "is_sign" "is_sign" eT f fd) (B:Bu K mg) (B':Co K mg tk aS):FnOk P w K mg base CX0 1 f fd ["thing"] jt:=by
  refine F.ok jx (fun vs H Q E h=>?_) (fun cdv A outer s H vs Q E hr h=>?_)
  · obtain ⟨x,rfl,_⟩:=h;rfl
  obtain ⟨z,rfl,q⟩:=h;refine ⟨_,(ah (ar (fQ (ao (aV (n:="str")) rfl B.iisinstance aaz (aa (pv 0) (aa (b8 (v:=.ty "str") rfl B.istr PyProof.Rows.boot_str rfl) ad))) (fP (bZ gD (pv 0) (eF (v:=.ref aS) rfl B'.gSIGNS rfl) (by with_unfolding_all rfl)))))),?_⟩;exact ⟨_,rfl,_,_,true,rfl,.str z,rfl,true,rfl,cD ⟨_,rfl,aS,_,rfl,.inr (B'.sSIGNS H),rfl,rfl,q⟩⟩
open PySem L2
theorem mK {α:Type} (xs:List α) (x:α):(xs++[x])[(xs++[x]).length - 1]?=some x:=by simp
theorem nY (xs:List V) (x:V):(xs++[x]).dropLast=xs:=by simp
theorem b9 {n:Nat} (h:n≤1000):n≤sizeLine:=ab6 (aJ h)
def gZ:Sp:=fun vs H Q _=>∃ w v,vs=[v]∧WyIn H w v∧w.size≤9∧∀ H',Same H H'→Q (.bl true) H'
abbrev fM:Stmt:=top 16
theorem cQ:FnScope ["thing","waiting","numbers","part"] ["thing"] (ap fM):=⟨rfl,rfl,rfl,by decide +kernel,rfl,by decide +kernel,by decide +kernel⟩
theorem kH {tk:Tok} {aS:Addr} (F:Fun K "is_way" "is_way" fM f fd) (B:Bu K mg) (B':Co K mg tk aS) (C_is_whole:Cal P w K mg base "is_whole" 1 ["thing"] (bW K)) (C_is_sign:Cal P w K mg base "is_sign" 1 ["thing"] jt) :
    FnOk P w K mg base CX0 2 f fd ["thing"] gZ:=by
  refine F.ok cQ (fun vs H Q E h=>?_) (fun cdv A outer s H vs Q E hr h=>?_)
  · obtain ⟨x,v,rfl,_⟩:=h;rfl
  obtain ⟨wy,v,rfl,hw,h9,q⟩:=h;refine ⟨_,(@af _ _ _ _ _ (@aB _ _ (1) _ _ _ _ (cQ).nd rfl (Or.inl rfl) (@aW _ _ _ _ (@aa _ _ _ _ _ (@pv _ 0 _ _ (by rfl) (by first|exact .inl rfl|exact .inr (.inl rfl)|exact .inr (.inr rfl)) (by decide) (by decide)) ad (by rfl))) (by rfl) (by first|exact .inl rfl|exact .inr rfl|assumption)) (@af _ _ _ _ _ (@aB _ _ (2) _ _ _ _ (cQ).nd rfl (Or.inl rfl) ae (by rfl) (by first|exact .inl rfl|exact .inr rfl|assumption)) (@af _ _ _ _ _ (@iX _ _ _ _ _ _ aaO (@PW.pt _ _ _ (@h7 _ _ _ _ _ _ _ (@lg _ _ _ (@pv _ 1 _ _ (by rfl) (by first|exact .inl rfl|exact .inr (.inl rfl)|exact .inr (.inr rfl)) (by decide) (by decide)) (fun _=>rfl)) (@hZ _ _ _ _ (@aM _ _ _ _ _ _ _ _ gC (@av _ _ _ _ _ _ _ _ bw (@pv _ 2 _ _ (by rfl) (by first|exact .inl rfl|exact .inr (.inl rfl)|exact .inr (.inr rfl)) (by decide) (by decide)) (@ao _ _ _ _ _ _ _ _ _ aq rfl B.ilen aau (@aa _ _ _ _ _ (@pv _ 1 _ _ (by rfl) (by first|exact .inl rfl|exact .inr (.inl rfl)|exact .inr (.inr rfl)) (by decide) (by decide)) ad (by rfl)) (by decide) (by decide) (by rfl) (by rfl))) (@eF _ _ (.int 9) _ _ rfl B'.gMOST_NUMBERS ⟨_,rfl⟩ (by decide)) (aL _))))) (@af _ _ _ _ _ (@aB _ _ (3) _ _ _ _ (cQ).nd rfl (Or.inl rfl) (@nn _ _ _ _ _ _ _ _ _ abk PySem.F.slot_list_pop PySem.F.type_list_pop nC (@pv _ 1 _ _ (by rfl) (by first|exact .inl rfl|exact .inr (.inl rfl)|exact .inr (.inr rfl)) (by decide) (by decide)) (by rfl) (by rfl)) (by rfl) (by first|exact .inl rfl|exact .inr rfl|assumption)) (@ah _ _ _ (@a8 _ _ _ _ _ _ _ _ (@bf _ _ _ (@ai _ _ _ _ _ _ _ _ _ _ _ C_is_whole hr (by omega) rfl (@aa _ _ _ _ _ (@pv _ 3 _ _ (by rfl) (by first|exact .inl rfl|exact .inr (.inl rfl)|exact .inr (.inr rfl)) (by decide) (by decide)) ad (by rfl)) (by decide) (by rfl) (by rfl)) (by intro _;rfl)) (@ah _ _ _ (@jz _ _ (2) _ _ _ _ _ _ (cQ).nd rfl (Or.inl rfl) ae lI (by first|exact .inl rfl|exact .inr rfl|assumption))) (@ah _ _ _ (@a8 _ _ _ _ _ _ _ _ (@PW.pt _ _ _ (@h7 _ _ _ _ _ _ _ (@bf _ _ _ (@ao _ _ _ _ _ _ _ _ _ (@aV _ ("tuple")) rfl B.iisinstance aaz (@aa _ _ _ _ _ (@pv _ 3 _ _ (by rfl) (by first|exact .inl rfl|exact .inr (.inl rfl)|exact .inr (.inr rfl)) (by decide) (by decide)) (@aa _ _ _ _ _ (@b8 _ _ (.ty "tuple") _ _ rfl B.ituple abT rfl (by decide) (by decide)) ad (by rfl)) (by rfl)) (by decide) (by decide) (by rfl) (by rfl)) (by intro _;rfl)) (@h7 _ _ _ _ _ _ _ (@aM _ _ _ _ _ _ _ _ eG (@ao _ _ _ _ _ _ _ _ _ aq rfl B.ilen aau (@aa _ _ _ _ _ (@pv _ 3 _ _ (by rfl) (by first|exact .inl rfl|exact .inr (.inl rfl)|exact .inr (.inr rfl)) (by decide) (by decide)) ad (by rfl)) (by decide) (by decide) (by rfl) (by rfl)) ae (aL _)) (@hZ _ _ _ _ (@bf _ _ _ (@ai _ _ _ _ _ _ _ _ _ _ _ C_is_sign hr (by omega) rfl (@aa _ _ _ _ _ (@aI _ _ _ _ _ _ _ dc (@pv _ 3 _ _ (by rfl) (by first|exact .inl rfl|exact .inr (.inl rfl)|exact .inr (.inr rfl)) (by decide) (by decide)) ae (fun _ _=>rfl)) ad (by rfl)) (by decide) (by rfl) (by rfl)) (by intro _;rfl)))))) (@af _ _ _ _ _ (@bK _ _ _ _ (@gA _ _ _ _ _ _ _ _ _ _ _ _ abk abM abN fe (@pv _ 1 _ _ (by rfl) (by first|exact .inl rfl|exact .inr (.inl rfl)|exact .inr (.inr rfl)) (by decide) (by decide)) (@aa _ _ _ _ _ (@aI _ _ _ _ _ _ _ dc (@pv _ 3 _ _ (by rfl) (by first|exact .inl rfl|exact .inr (.inl rfl)|exact .inr (.inr rfl)) (by decide) (by decide)) ae (fun _ _=>rfl)) ad (by rfl)) (by rfl) (by rfl) (by rfl) (by rfl) (by rfl)) (by rfl)) (@ah _ _ _ (@bK _ _ _ _ (@gA _ _ _ _ _ _ _ _ _ _ _ _ abk abM abN fe (@pv _ 1 _ _ (by rfl) (by first|exact .inl rfl|exact .inr (.inl rfl)|exact .inr (.inr rfl)) (by decide) (by decide)) (@aa _ _ _ _ _ (@aI _ _ _ _ _ _ _ dc (@pv _ 3 _ _ (by rfl) (by first|exact .inl rfl|exact .inr (.inl rfl)|exact .inr (.inr rfl)) (by decide) (by decide)) ae (fun _ _=>rfl)) ad (by rfl)) (by rfl) (by rfl) (by rfl) (by rfl) (by rfl)) (by rfl)))) (@ah _ _ _ (@ar _ _ _ _ dJ)))))))) (@ah _ _ _ (@ar _ _ _ _ (mC (pv 1))))))),?_⟩;refine ⟨_,rfl,(by show 1≤sizeLine;decide),fun p hp=>?_⟩;refine ⟨fun m σ H'=>∃ (n:Nat) (ws:List Wy) (vs:List V) (part:Option V),σ=[some v,some (.ref p),some (.int n),part]∧H' p=some (.lst vs)∧WyAll H' ws vs∧Same H H'∧n+eu ws≤9∧m=db ws,?_,?_⟩
  · exact ⟨_,0,[wy],[v],_,rfl,ag,.cons (hw.mono (Tups.of (Same.new hp _))) .nil,Same.new hp _,by simpa [eu] using h9,rfl⟩
  rintro m σ H' ⟨n,ws,vs,part,rfl,hH,hall,hS,hn,rfl⟩;by_cases ne:vs=[]
  · subst ne;refine ⟨_,rfl,false,.inl ⟨[],SqL.of hH,rfl⟩,a_ (a_ ?_)⟩;exact ⟨_,rfl,false,.inl ⟨[],SqL.of hH,rfl⟩,q H' hS⟩
  obtain ⟨ws',w',vs',v',rfl,rfl,hall',hw'⟩:=hall.last ne;have hl:=hall.length;have hle:=bU (ws'++[w']);rw [dP] at hn hle;have hlen:((n:Int)+((vs'++[v']).length:Nat)≤9):=by omega
  refine ⟨_,rfl,true,.inl ⟨_,SqL.of hH,by simp⟩,cD ⟨_,rfl,_,rfl,p,_,rfl,.inl (SqL.of hH),_,_,rfl,rfl,_,_,rfl,rfl,true,congrArg V.bl (decide_eq_true hlen),cD ⟨fun σ' H'=>∃ m',m' < db (ws'++[w'])∧_,fun _ _ h=>h,?_⟩⟩⟩;refine ⟨_,rfl,.inl ⟨rfl,_,SqL.of hH⟩,p,_,v',rfl,rfl,hH,mK _ _,?_⟩;rw [nY];have hT:Tups H' (upd H' p (.lst vs')):=fun b xs z=>by rw [aD (fun e=>by rw [e,hH] at z;cases z)];exact z
  have hp0:H p=none:=hp;have hS2:Same H (upd H' p (.lst vs')):=hS.upd hp0;rw [dz];cases w' with
  | num i =>
    cases hw';refine ⟨_,rfl,_,"int",rfl,.int i,true,rfl,cD ⟨_,rfl,_,_,rfl,rfl,?_⟩⟩;refine ⟨db ws',Nat.lt_succ_self _,n+1,ws',vs',_,rfl,ag,hall'.mono hT,hS2,?_,rfl⟩;have : n+(eu ws'+1)≤9:=hn;omega
  | node g l r =>
    obtain ⟨a,vl,vr,rfl,ha,hl',hr'⟩:=hw';have ha2:upd H' p (.lst vs') a=some (.tup [.str g.str,vl,vr]):=hT _ _ ha;refine ⟨_,rfl,_,"tuple",rfl,.tup ha2,false,rfl,a_ ?_⟩;refine ⟨_,rfl,_,_,true,rfl,.tup ha2,rfl,true,rfl,cD ⟨_,rfl,a,_,rfl,.inr (SqT.of ha2),rfl,_,rfl,cD ?_⟩⟩;refine ⟨_,rfl,a,_,_,_,rfl,rfl,SqT.of ha2,rfl,_,rfl,true,congrArg V.bl (lH g),cD ?_⟩;have hsz:vs'.length≤9:=by
      have:=hall'.length;have z:=bU ws';omega
    refine ⟨_,rfl,.inl ⟨rfl,_,SqL.of ag⟩,_,rfl,a,_,_,_,rfl,rfl,SqT.of ha2,rfl,p,_,_,rfl,rfl,ag,(aJ (by omega)),?_⟩;have hT2:Tups (upd H' p (.lst vs')) (upd (upd H' p (.lst vs')) p (.lst (vs'++[vl]))):=fun b xs z=>by rw [aD (fun e=>by rw [e,ag] at z;cases z)];exact z
    refine ⟨_,rfl,.inl ⟨rfl,_,SqL.of ag⟩,_,rfl,a,_,_,_,rfl,rfl,SqT.of (hT2 _ _ ha2),rfl,p,_,_,rfl,rfl,ag,(aJ (by rw [aat,abq];omega)),?_⟩;have hT3:Tups (upd (upd H' p (.lst vs')) p (.lst (vs'++[vl]))) (upd (upd (upd H' p (.lst vs')) p (.lst (vs'++[vl]))) p (.lst (vs'++[vl]++[vr]))):=fun b xs z=>by rw [aD (fun e=>by rw [e,ag] at z;cases z)];exact z
    have hTT:=(hT.trans hT2).trans hT3;refine ⟨db (ws'++[l]++[r]),?_,n,ws'++[l]++[r],vs'++[vl]++[vr],_,rfl,ag,((hall'.mono hTT).snoc (hl'.mono hTT)).snoc (hr'.mono hTT),(hS2.upd hp0).upd hp0,?_,rfl⟩
    · rw [dz,dz];show db ws'+l.knots+r.knots < db ws'+(l.knots+r.knots+1);omega
    · rw [dP,dP];have : n+(eu ws'+(l.size+r.size))≤9:=hn;omega
def eK:Sp:=fun vs H Q _=>∃ w v,vs=[v]∧WyIn H w v∧w.size≤9∧∀ H',Same H H'→Q .non H'
abbrev dS:Stmt:=top 19
theorem iN:FnScope ["thing"] ["thing"] (ap dS):=⟨rfl,rfl,rfl,by decide +kernel,rfl,by decide +kernel,by decide +kernel⟩
theorem i6 (F:Fun K "need_way" "need_way" dS f fd) (C_is_way:Cal P w K mg base "is_way" 2 ["thing"] gZ):FnOk P w K mg base CX0 3 f fd ["thing"] eK:=by
  refine F.ok iN (fun vs H Q E h=>?_) (fun cdv A outer s H vs Q E hr h=>?_)
  · obtain ⟨x,v,rfl,_⟩:=h;rfl
  obtain ⟨wy,v,rfl,hw,h9,q⟩:=h;refine ⟨_,(@ah _ _ _ (@a8 _ _ _ _ _ _ _ _ (@bD _ _ _ _ (@bf _ _ _ (@ai _ _ _ _ _ _ _ _ _ _ _ C_is_way hr (by omega) rfl (@aa _ _ _ _ _ (@pv _ 0 _ _ (by rfl) (by first|exact .inl rfl|exact .inr (.inl rfl)|exact .inr (.inr rfl)) (by decide) (by decide)) ad (by rfl)) (by decide) (by rfl) (by rfl)) (by intro _;rfl))) (@ah _ _ _ cR) aE)),?_⟩;exact ⟨_,rfl,wy,v,rfl,hw,h9,fun H' hS=>⟨true,rfl,a_ (q H' hS)⟩⟩
def Wy.nums:Wy→List Int
  | .num i=>[i]
  | .node _ l r=>l.nums++r.nums
theorem Wy.nums_len:∀ w:Wy,w.nums.length=w.size
  | .num _=>rfl
  | .node _ l r=>by show (l.nums++r.nums).length=l.size+r.size;rw [aat,l.nums_len,r.nums_len]
def Wy.deep:Wy→Nat
  | .num _=>1
  | .node _ l r=>max l.deep r.deep+1
theorem Wy.deep_le:∀ w:Wy,w.deep≤w.size
  | .num _=>aab _
  | .node _ l r=>by have a:=l.deep_le;have b:=r.deep_le;have c:=l.size_pos;have d:=r.size_pos;show max l.deep r.deep+1≤l.size+r.size;omega
def fE (n:Nat):Sp:=fun vs H Q _=>∃ w v,vs=[v]∧WyIn H w v∧w.size≤20∧w.deep≤n∧∀ p H',Same H H'→H p=none→H' p=some (.lst (w.nums.map V.int))→Q (.ref p) H'
abbrev cw:Stmt:=top 21
theorem bq:FnScope ["way","sign","left","right"] ["way"] (ap cw):=⟨rfl,rfl,rfl,by decide +kernel,rfl,by decide +kernel,by decide +kernel⟩
theorem fu (F:Fun K "list_numbers" "list_numbers" cw f fd) (bF:Binds K fd ["way"] []) (mF:mg "list_numbers" = some (.ref f)) (C_is_whole:Cal P w K mg base "is_whole" 1 ["thing"] (bW K)) :
    ∀ n,FnOk P w K mg base CX0 (n+1) f fd ["way"] (fE n):=by
  intro n
  induction n with
  | zero =>
    refine ⟨fun vs H Q E h=>?_,fun A outer s H args us vs Q E _ _ _ _ h=>?_⟩
    · obtain ⟨x,v,rfl,_⟩:=h;rfl
    · obtain ⟨wy,v,_,_,_,hd,_⟩:=h;cases wy <;> exact absurd hd (by simp [Wy.deep])
  | succ n ih =>
    have C_list_numbers:Cal P w K mg base "list_numbers" (n+1) ["way"] (fE n):=⟨f,fd,ih,bF,F.kp,mF⟩
    refine F.ok bq (fun vs H Q E h=>?_) (fun cdv A outer s H vs Q E hr h=>?_)
    · obtain ⟨x,v,rfl,_⟩:=h;rfl
    obtain ⟨wy,v,rfl,hw,h20,hd,q⟩:=h;refine ⟨_,(@af _ _ _ _ _ (@a8 _ _ _ _ _ _ _ _ (@bf _ _ _ (@ai _ _ _ _ _ _ _ _ _ _ _ C_is_whole hr (by omega) rfl (@aa _ _ _ _ _ (@pv _ 0 _ _ (by rfl) (by first|exact .inl rfl|exact .inr (.inl rfl)|exact .inr (.inr rfl)) (by decide) (by decide)) ad (by rfl)) (by decide) (by rfl) (by rfl)) (by intro _;rfl)) (@ah _ _ _ (@ar _ _ _ _ (@aW _ _ _ _ (@aa _ _ _ _ _ (@pv _ 0 _ _ (by rfl) (by first|exact .inl rfl|exact .inr (.inl rfl)|exact .inr (.inr rfl)) (by decide) (by decide)) ad (by rfl))))) aE) (@af _ _ _ _ _ (@d7 _ _ _ _ _ _ (@pv _ 0 _ _ (by rfl) (by first|exact .inl rfl|exact .inr (.inl rfl)|exact .inr (.inr rfl)) (by decide) (by decide)) (@dw _ _ _ _ _ _ rfl (@aH _ _ _ _ _ (@au _ _ (1) _ (bq).nd rfl (Or.inl rfl) (.inl rfl)) (@aH _ _ _ _ _ (@au _ _ (2) _ (bq).nd rfl (Or.inl rfl) (.inl rfl)) (@aH _ _ _ _ _ (@au _ _ (3) _ (bq).nd rfl (Or.inl rfl) (.inl rfl)) cI (by rfl)) (by rfl)) (by rfl)) (by rfl) (by rfl)) (by rfl) (by rfl) (by rfl)) (@ah _ _ _ (@ar _ _ _ _ (@av _ _ _ _ _ _ _ _ h_ (@ai _ _ _ _ _ _ _ _ _ _ _ C_list_numbers hr (by omega) rfl (@aa _ _ _ _ _ (@pv _ 2 _ _ (by rfl) (by first|exact .inl rfl|exact .inr (.inl rfl)|exact .inr (.inr rfl)) (by decide) (by decide)) ad (by rfl)) (by decide) (by rfl) (by rfl)) (@ai _ _ _ _ _ _ _ _ _ _ _ C_list_numbers hr (by omega) rfl (@aa _ _ _ _ _ (@pv _ 3 _ _ (by rfl) (by first|exact .inl rfl|exact .inr (.inl rfl)|exact .inr (.inr rfl)) (by decide) (by decide)) ad (by rfl)) (by decide) (by rfl) (by rfl))))))),?_⟩;cases wy with
    | num i =>
      cases hw;refine ⟨_,rfl,_,"int",rfl,.int i,true,rfl,cD ⟨_,rfl,(by show 1≤sizeLine;decide),fun p hp=>?_⟩⟩;exact q p _ (Same.new hp _) hp ag
    | node g l r =>
      obtain ⟨a,vl,vr,rfl,ha,hl,hr'⟩:=hw;refine ⟨_,rfl,_,"tuple",rfl,.tup ha,false,rfl,a_ ?_⟩;have d:max l.deep r.deep+1≤n+1:=hd;have z:l.size+r.size≤20:=h20;have zl:=l.size_pos;have zr:=r.size_pos;refine ⟨_,rfl,a,_,rfl,SqT.of ha,rfl,_,_,rfl,_,_,rfl,_,_,rfl,rfl,?_⟩;refine ⟨_,rfl,l,vl,rfl,hl,by omega,by omega,fun p H1 g1 n1 e1=>?_⟩;refine ⟨_,rfl,r,vr,rfl,hr'.mono (Tups.of g1),by omega,by omega,fun p2 H2 g2 n2 e2=>?_⟩;refine ⟨p,p2,_,_,rfl,rfl,g2 _ _ e1,e2,b9 (by rw [aad,aad,l.nums_len,r.nums_len];omega),fun p3 n3=>?_⟩;refine q p3 _ ((g1.trans g2).trans (Same.new n3 _)) ((g1.trans g2).free n3) ?_;rw [ag];show some (HO.lst (l.nums.map V.int++r.nums.map V.int))=some (HO.lst ((l.nums++r.nums).map V.int));rw [aaL]
def Wy.sgs:Wy→List Sg
  | .num _=>[]
  | .node g l r=>l.sgs++g :: r.sgs
def ak:List Sg→Str
  | []=>""
  | g :: r=>g.str++ak r
theorem iE (x:Str):("":Str)++x=x:=by
  cases x with|mk c=>show Str.mk (#[]++c)=_;simp
theorem gw (x y z:Str):x++y++z=x++(y++z):=by
  obtain ⟨a⟩:=x;obtain ⟨b⟩:=y;obtain ⟨c⟩:=z;show Str.mk ((a++b)++c)=Str.mk (a++(b++c));rw [Array.append_assoc]
theorem fI:∀ xs ys:List Sg,ak (xs++ys)=ak xs++ak ys
  | [],ys=>(iE _).symm
  | g :: r,ys=>by show g.str++ak (r++ys)=g.str++ak r++ak ys;rw [fI r ys,gw]
theorem jw (g:Sg):g.str.length=1:=by cases g <;> rfl
theorem jQ (x y:Str):(x++y).length=x.length+y.length:=by
  cases x;cases y;show (_++_:Array Nat).size=_;rw [Array.size_append];rfl
theorem cf:∀ xs:List Sg,(ak xs).length=xs.length
  | []=>rfl
  | g :: r=>by show (g.str++ak r).length=r.length+1;rw [jQ,jw,cf r];omega
theorem Wy.sgs_len:∀ w:Wy,w.sgs.length+1=w.size
  | .num _=>rfl
  | .node g l r=>by have a:=l.sgs_len;have b:=r.sgs_len;show (l.sgs++g :: r.sgs).length+1=l.size+r.size;rw [aat,abH];omega
def jS (n:Nat):Sp:=fun vs H Q _=>∃ w v,vs=[v]∧WyIn H w v∧w.size≤20∧w.deep≤n∧∀ H',Same H H'→Q (.str (ak w.sgs)) H'
abbrev cY:Stmt:=top 22
theorem bJ:FnScope ["way","sign","left","right"] ["way"] (ap cY):=⟨rfl,rfl,rfl,by decide +kernel,rfl,by decide +kernel,by decide +kernel⟩
theorem gq (F:Fun K "join_signs" "join_signs" cY f fd) (bF:Binds K fd ["way"] []) (mF:mg "join_signs" = some (.ref f)) (C_is_whole:Cal P w K mg base "is_whole" 1 ["thing"] (bW K)) :
    ∀ n,FnOk P w K mg base CX0 (n+1) f fd ["way"] (jS n):=by
  intro n
  induction n with
  | zero =>
    refine ⟨fun vs H Q E h=>?_,fun A outer s H args us vs Q E _ _ _ _ h=>?_⟩
    · obtain ⟨x,v,rfl,_⟩:=h;rfl
    · obtain ⟨wy,v,_,_,_,hd,_⟩:=h;cases wy <;> exact absurd hd (by simp [Wy.deep])
  | succ n ih =>
    have C_join_signs:Cal P w K mg base "join_signs" (n+1) ["way"] (jS n):=⟨f,fd,ih,bF,F.kp,mF⟩
    refine F.ok bJ (fun vs H Q E h=>?_) (fun cdv A outer s H vs Q E hr h=>?_)
    · obtain ⟨x,v,rfl,_⟩:=h;rfl
    obtain ⟨wy,v,rfl,hw,h20,hd,q⟩:=h;refine ⟨_,(@af _ _ _ _ _ (@a8 _ _ _ _ _ _ _ _ (@bf _ _ _ (@ai _ _ _ _ _ _ _ _ _ _ _ C_is_whole hr (by omega) rfl (@aa _ _ _ _ _ (@pv _ 0 _ _ (by rfl) (by first|exact .inl rfl|exact .inr (.inl rfl)|exact .inr (.inr rfl)) (by decide) (by decide)) ad (by rfl)) (by decide) (by rfl) (by rfl)) (by intro _;rfl)) (@ah _ _ _ (@ar _ _ _ _ a9)) aE) (@af _ _ _ _ _ (@d7 _ _ _ _ _ _ (@pv _ 0 _ _ (by rfl) (by first|exact .inl rfl|exact .inr (.inl rfl)|exact .inr (.inr rfl)) (by decide) (by decide)) (@dw _ _ _ _ _ _ rfl (@aH _ _ _ _ _ (@au _ _ (1) _ (bJ).nd rfl (Or.inl rfl) (.inl rfl)) (@aH _ _ _ _ _ (@au _ _ (2) _ (bJ).nd rfl (Or.inl rfl) (.inl rfl)) (@aH _ _ _ _ _ (@au _ _ (3) _ (bJ).nd rfl (Or.inl rfl) (.inl rfl)) cI (by rfl)) (by rfl)) (by rfl)) (by rfl) (by rfl)) (by rfl) (by rfl) (by rfl)) (@ah _ _ _ (@ar _ _ _ _ (@av _ _ _ _ _ _ _ _ fS (@av _ _ _ _ _ _ _ _ fS (@ai _ _ _ _ _ _ _ _ _ _ _ C_join_signs hr (by omega) rfl (@aa _ _ _ _ _ (@pv _ 2 _ _ (by rfl) (by first|exact .inl rfl|exact .inr (.inl rfl)|exact .inr (.inr rfl)) (by decide) (by decide)) ad (by rfl)) (by decide) (by rfl) (by rfl)) (@pv _ 1 _ _ (by rfl) (by first|exact .inl rfl|exact .inr (.inl rfl)|exact .inr (.inr rfl)) (by decide) (by decide))) (@ai _ _ _ _ _ _ _ _ _ _ _ C_join_signs hr (by omega) rfl (@aa _ _ _ _ _ (@pv _ 3 _ _ (by rfl) (by first|exact .inl rfl|exact .inr (.inl rfl)|exact .inr (.inr rfl)) (by decide) (by decide)) ad (by rfl)) (by decide) (by rfl) (by rfl))))))),?_⟩;cases wy with
    | num i =>
      cases hw;exact ⟨_,rfl,_,"int",rfl,.int i,true,rfl,cD (q H (Same.refl H))⟩
    | node g l r =>
      obtain ⟨a,vl,vr,rfl,ha,hl,hr'⟩:=hw;refine ⟨_,rfl,_,"tuple",rfl,.tup ha,false,rfl,a_ ?_⟩;have d:max l.deep r.deep+1≤n+1:=hd;have z:l.size+r.size≤20:=h20;have zl:=l.size_pos;have zr:=r.size_pos;have sl:=l.sgs_len;have sr:=r.sgs_len;refine ⟨_,rfl,a,_,rfl,SqT.of ha,rfl,_,_,rfl,_,_,rfl,_,_,rfl,rfl,?_⟩;refine ⟨_,rfl,l,vl,rfl,hl,by omega,by omega,fun H1 g1=>?_⟩;refine ⟨_,rfl,_,_,rfl,rfl,b9 (by rw [cf,jw];omega),?_⟩;refine ⟨_,rfl,r,vr,rfl,hr'.mono (Tups.of g1),by omega,by omega,fun H2 g2=>?_⟩;refine ⟨_,_,rfl,rfl,b9 (by rw [jQ,cf,jw,cf];omega),?_⟩;have e:ak (l.sgs++g :: r.sgs)=ak l.sgs++g.str++ak r.sgs:=by rw [fI,gw];rfl
      have q':=q H2 (g1.trans g2);show Q (.str (ak l.sgs++g.str++ak r.sgs)) H2;rw [← e];exact q'
end
open PySem L2
def Wel (H:Hp) (w:Addr) (M:Int):Prop:=∃ a b c,H w=some (.lst [.int a,.int b,.int c])∧0≤c∧c≤M
theorem Wel.keep {H H':Hp} {w:Addr} {M M':Int} (h:Wel H w M) (s:Same H H') (m:M≤M'):Wel H' w M':=by
  obtain ⟨a,b,c,e,h0,h1⟩:=h;exact ⟨a,b,c,s _ _ e,h0,by omega⟩
theorem Wel.more {H:Hp} {w:Addr} {M M':Int} (h:Wel H w M) (m:M≤M'):Wel H w M':=h.keep (Same.refl H) m
theorem But.free {w p:Addr} {H H':Hp} {M:Int} (b:But w H H') (h:Wel H' w M) (n:H' p=none):H p=none:=by
  cases q:H p with
  | none=>rfl
  | some o =>
    by_cases e:p=w
    · subst e;obtain ⟨_,_,_,z,_⟩:=h;rw [z] at n;cases n
    · rw [b p o e q] at n;cases n
theorem Wel.ne {w p:Addr} {H:Hp} {M:Int} (h:Wel H w M) (n:H p=none):p≠w:=fun e=>by
  subst e;obtain ⟨_,_,_,z,_⟩:=h;rw [z] at n;cases n
theorem Wel.tups {w:Addr} {H H':Hp} {M:Int} (h:Wel H w M) (b:But w H H'):Tups H H':=by
  obtain ⟨_,_,_,z,_⟩:=h;exact Tups.but b z
section
variable {P:Program} {w:World} {K:aaa} {mg:Str→Option Value} {base:Heap} {f:Addr} {fd:FuncData}
theorem jd (x m:Int) (h:0 < m):0≤x % m∧x % m < m:=⟨Int.emod_nonneg x (by omega),Int.emod_lt_of_pos x h⟩
def gX:Sp:=fun vs H Q _=>∃ cell k,vs=[.int cell,.int k]∧0≤k∧k≤1000000000∧∀ r,0≤r→Q (.int r) H
abbrev c6:Stmt:=top 33
theorem cL:FnScope ["cell","k","number"] ["cell","k"] (ap c6):=⟨rfl,rfl,rfl,by decide +kernel,rfl,by decide +kernel,by decide +kernel⟩
theorem lq (F:Fun K "_law_mixed" "_law_mixed" c6 f fd):FnOk P w K mg base CX0 1 f fd ["cell","k"] gX:=by
  refine F.ok cL (fun vs H Q E h=>?_) (fun cdv A outer s H vs Q E hr h=>?_)
  · obtain ⟨x,v,rfl,_⟩:=h;rfl
  obtain ⟨cell,k,rfl,h0,h1,q⟩:=h;refine ⟨_,(@af _ _ _ _ _ (@aB _ _ (2) _ _ _ _ (cL).nd rfl (Or.inl rfl) (@av _ _ _ _ _ _ _ _ eZ (@av _ _ _ _ _ _ _ _ bw (@av _ _ _ _ _ _ _ _ bw (@av _ _ _ _ _ _ _ _ eZ (@pv _ 0 _ _ (by rfl) (by first|exact .inl rfl|exact .inr (.inl rfl)|exact .inr (.inr rfl)) (by decide) (by decide)) ae) (@av _ _ _ _ _ _ _ _ bT (@av _ _ _ _ _ _ _ _ bT ae (@pv _ 1 _ _ (by rfl) (by first|exact .inl rfl|exact .inr (.inl rfl)|exact .inr (.inr rfl)) (by decide) (by decide))) (@pv _ 1 _ _ (by rfl) (by first|exact .inl rfl|exact .inr (.inl rfl)|exact .inr (.inr rfl)) (by decide) (by decide)))) (@av _ _ _ _ _ _ _ _ bT ae (@pv _ 1 _ _ (by rfl) (by first|exact .inl rfl|exact .inr (.inl rfl)|exact .inr (.inr rfl)) (by decide) (by decide)))) ae) (by rfl) (by first|exact .inl rfl|exact .inr rfl|assumption)) (@af _ _ _ _ _ (@aB _ _ (2) _ _ _ _ (cL).nd rfl (Or.inl rfl) (@av _ _ _ _ _ _ _ _ eZ (@av _ _ _ _ _ _ _ _ bT (@pv _ 2 _ _ (by rfl) (by first|exact .inl rfl|exact .inr (.inl rfl)|exact .inr (.inr rfl)) (by decide) (by decide)) (@pv _ 2 _ _ (by rfl) (by first|exact .inl rfl|exact .inr (.inl rfl)|exact .inr (.inr rfl)) (by decide) (by decide))) ae) (by rfl) (by first|exact .inl rfl|exact .inr rfl|assumption)) (@ah _ _ _ (@ar _ _ _ _ (@av _ _ _ _ _ _ _ _ cB (@av _ _ _ _ _ _ _ _ eZ (@av _ _ _ _ _ _ _ _ bT (@pv _ 2 _ _ (by rfl) (by first|exact .inl rfl|exact .inr (.inl rfl)|exact .inr (.inr rfl)) (by decide) (by decide)) (@av _ _ _ _ _ _ _ _ bw (@pv _ 2 _ _ (by rfl) (by first|exact .inl rfl|exact .inr (.inl rfl)|exact .inr (.inr rfl)) (by decide) (by decide)) ae)) ae) ae))))),?_⟩;refine ⟨_,rfl,_,_,rfl,rfl,(show (0:Int) < 2147483629 by decide),_,rfl,_,_,rfl,rfl,.inl ⟨by decide,by decide⟩,_,rfl,_,_,rfl,rfl,.inr ⟨by omega,by omega⟩,_,_,rfl,rfl,_,rfl,_,_,rfl,rfl,.inl ⟨by decide,by decide⟩,
    _,_,rfl,rfl,_,_,rfl,rfl,(show (0:Int) < 2147483629 by decide),?_⟩
  have hb:=jd (cell % 2147483629+1000003 * k * k+7919 * k) 2147483629 (by decide);revert hb;generalize (cell % 2147483629+1000003 * k * k+7919 * k) % 2147483629=n1;intro hb;refine ⟨_,rfl,_,rfl,_,_,rfl,rfl,.inl ⟨by omega,by omega⟩,_,_,rfl,rfl,(show (0:Int) < 2147483587 by decide),?_⟩;have hc:=jd (n1 * n1) 2147483587 (by decide);revert hc;generalize n1 * n1 % 2147483587=n2;intro hc;refine ⟨_,rfl,_,rfl,_,_,rfl,rfl,_,_,rfl,rfl,.inl ⟨by omega,by omega⟩,_,_,rfl,rfl,(show (0:Int) < 2147483563 by decide),_,_,rfl,rfl,⟨by decide,by decide⟩,?_⟩;have hd:=jd (n2 * (n2+40961)) 2147483563 (by decide);exact q _ (by omega)
def js:Sp:=fun vs H Q _=>∃ cell,vs=[.int cell]∧∀ p a b H',Same H H'→H p=none→H' p=some (.lst [.int a,.int b,.int 0])→Q (.ref p) H'
abbrev dt:Stmt:=top 34
theorem hV:FnScope ["cell"] ["cell"] (ap dt):=⟨rfl,rfl,rfl,by decide +kernel,rfl,by decide +kernel,by decide +kernel⟩
theorem mG (F:Fun K "_law_well" "_law_well" dt f fd) (B:Bu K mg):FnOk P w K mg base CX0 1 f fd ["cell"] js:=by
  refine F.ok hV (fun vs H Q E h=>?_) (fun cdv A outer s H vs Q E hr h=>?_)
  · obtain ⟨x,rfl,_⟩:=h;rfl
  obtain ⟨cell,rfl,q⟩:=h;refine ⟨_,(@ah _ _ _ (@ar _ _ _ _ (@aW _ _ _ _ (@aa _ _ _ _ _ (@av _ _ _ _ _ _ _ _ bT (@pv _ 0 _ _ (by rfl) (by first|exact .inl rfl|exact .inr (.inl rfl)|exact .inr (.inr rfl)) (by decide) (by decide)) (@kD _ _ _ _ _ _ _ _ _ kR rfl B.iint PyProof.Rows.boot_int (@aa _ _ _ _ _ (@bZ _ _ _ _ _ _ _ _ mX (@pv _ 0 _ _ (by rfl) (by first|exact .inl rfl|exact .inr (.inl rfl)|exact .inr (.inr rfl)) (by decide) (by decide)) (@av _ _ _ _ _ _ _ _ jA ae ae) (aL _)) ad (by rfl)) (by decide) (by decide) (by rfl) (by rfl))) (@aa _ _ _ _ _ (@pv _ 0 _ _ (by rfl) (by first|exact .inl rfl|exact .inr (.inl rfl)|exact .inr (.inr rfl)) (by decide) (by decide)) (@aa _ _ _ _ _ ae ad (by rfl)) (by rfl)) (by rfl))))),?_⟩;refine ⟨_,rfl,_,rfl,_,_,rfl,rfl,⟨by decide,by decide,by decide⟩,_,_,rfl,rfl,.inr ⟨_,rfl,_,_,rfl,rfl,.inr ?_,_,rfl,(by show 3≤sizeLine;decide),fun p hp=>q p _ _ _ (Same.new hp _) hp ag⟩⟩;constructor <;> split <;> decide
def cW:Sp:=fun vs H Q _=>∃ w m M,vs=[.ref w,.int m]∧0 < m∧m < 2 ^ 63∧Wel H w M∧M < 1000000000∧∀ r H',0≤r→r < m→But w H H'→Wel H' w (M+1)→Q (.int r) H'
abbrev dv:Stmt:=top 35
theorem ez:FnScope ["well","many","got"] ["well","many"] (ap dv):=⟨rfl,rfl,rfl,by decide +kernel,rfl,by decide +kernel,by decide +kernel⟩
theorem mH (F:Fun K "_law_draw" "_law_draw" dv f fd) (C__law_mixed:Cal P w K mg base "_law_mixed" 1 ["cell","k"] gX):FnOk P w K mg base CX0 2 f fd ["well","many"] cW:=by
  refine F.ok ez (fun vs H Q E h=>?_) (fun cdv A outer s H vs Q E hr h=>?_)
  · obtain ⟨x,m,M,rfl,_⟩:=h;rfl
  obtain ⟨wl,m,M,rfl,h0,h1,⟨a,b,c,e,c0,c1⟩,hM,q⟩:=h;refine ⟨_,(@af _ _ _ _ _ (@a8 _ _ _ _ _ _ _ _ (@aM _ _ _ _ _ _ _ _ on (@aI _ _ _ _ _ _ _ aC (@pv _ 0 _ _ (by rfl) (by first|exact .inl rfl|exact .inr (.inl rfl)|exact .inr (.inr rfl)) (by decide) (by decide)) ae (fun _ _=>rfl)) ae (aL _)) (@af _ _ _ _ _ (@aB _ _ (2) _ _ _ _ (ez).nd rfl (Or.inl rfl) (@av _ _ _ _ _ _ _ _ eZ (@aI _ _ _ _ _ _ _ aC (@pv _ 0 _ _ (by rfl) (by first|exact .inl rfl|exact .inr (.inl rfl)|exact .inr (.inr rfl)) (by decide) (by decide)) ae (fun _ _=>rfl)) (@pv _ 1 _ _ (by rfl) (by first|exact .inl rfl|exact .inr (.inl rfl)|exact .inr (.inr rfl)) (by decide) (by decide))) (by rfl) (by first|exact .inl rfl|exact .inr rfl|assumption)) (@af _ _ _ _ _ (@d7 _ _ _ _ _ _ (@av _ _ _ _ _ _ _ _ cB (@aI _ _ _ _ _ _ _ aC (@pv _ 0 _ _ (by rfl) (by first|exact .inl rfl|exact .inr (.inl rfl)|exact .inr (.inr rfl)) (by decide) (by decide)) ae (fun _ _=>rfl)) (@pv _ 1 _ _ (by rfl) (by first|exact .inl rfl|exact .inr (.inl rfl)|exact .inr (.inr rfl)) (by decide) (by decide))) (@lj _ _ _ _ _ _ _ (@pv _ 0 _ _ (by rfl) (by first|exact .inl rfl|exact .inr (.inl rfl)|exact .inr (.inr rfl)) (by decide) (by decide)) ae iM (by intro _;rfl)) (by rfl) (by rfl) (by rfl)) (@ah _ _ _ (@ar _ _ _ _ (@pv _ 2 _ _ (by rfl) (by first|exact .inl rfl|exact .inr (.inl rfl)|exact .inr (.inr rfl)) (by decide) (by decide)))))) aE) (@af _ _ _ _ _ (@d7 _ _ _ _ _ _ (@av _ _ _ _ _ _ _ _ bw (@aI _ _ _ _ _ _ _ aC (@pv _ 0 _ _ (by rfl) (by first|exact .inl rfl|exact .inr (.inl rfl)|exact .inr (.inr rfl)) (by decide) (by decide)) ae (fun _ _=>rfl)) ae) (@lj _ _ _ _ _ _ _ (@pv _ 0 _ _ (by rfl) (by first|exact .inl rfl|exact .inr (.inl rfl)|exact .inr (.inr rfl)) (by decide) (by decide)) ae iM (by intro _;rfl)) (by rfl) (by rfl) (by rfl)) (@ah _ _ _ (@ar _ _ _ _ (@av _ _ _ _ _ _ _ _ eZ (@ai _ _ _ _ _ _ _ _ _ _ _ C__law_mixed hr (by omega) rfl (@aa _ _ _ _ _ (@aI _ _ _ _ _ _ _ aC (@pv _ 0 _ _ (by rfl) (by first|exact .inl rfl|exact .inr (.inl rfl)|exact .inr (.inr rfl)) (by decide) (by decide)) ae (fun _ _=>rfl)) (@aa _ _ _ _ _ (@aI _ _ _ _ _ _ _ aC (@pv _ 0 _ _ (by rfl) (by first|exact .inl rfl|exact .inr (.inl rfl)|exact .inr (.inr rfl)) (by decide) (by decide)) ae (fun _ _=>rfl)) ad (by rfl)) (by rfl)) (by decide) (by rfl) (by rfl)) (@pv _ 1 _ _ (by rfl) (by first|exact .inl rfl|exact .inr (.inl rfl)|exact .inr (.inr rfl)) (by decide) (by decide))))))),?_⟩;refine ⟨_,rfl,wl,_,_,_,rfl,rfl,SqL.of e,rfl,_,_,rfl,rfl,_,rfl,lG (fun _=>?_) (fun _=>?_)⟩
  · refine ⟨_,rfl,wl,_,_,_,rfl,rfl,SqL.of e,rfl,_,rfl,_,_,rfl,rfl,h0,?_⟩;refine ⟨_,rfl,wl,_,_,_,rfl,rfl,SqL.of e,rfl,_,rfl,_,_,rfl,rfl,⟨h0,by omega⟩,_,rfl,wl,_,_,0,rfl,rfl,e,rfl,?_⟩;refine ⟨_,rfl,?_⟩;have z:=jd a m h0;exact q _ _ z.1 z.2 But.put ⟨_,_,_,ag,c0,by omega⟩
  · refine ⟨_,rfl,wl,_,_,_,rfl,rfl,SqL.of e,rfl,_,_,rfl,rfl,_,rfl,wl,_,_,2,rfl,rfl,e,rfl,?_⟩;refine ⟨_,rfl,wl,_,_,_,rfl,rfl,SqL.of ag,rfl,_,rfl,wl,_,_,_,rfl,rfl,SqL.of ag,rfl,_,_,rfl,by omega,by omega,fun r hr0=>?_⟩;refine ⟨_,rfl,_,_,rfl,rfl,h0,?_⟩;have z:=jd r m h0;exact q _ _ z.1 z.2 But.put ⟨_,_,_,ag,by omega,by omega⟩
def fF:Sp:=fun vs H Q _=>∃ w M,vs=[.ref w]∧Wel H w M∧M < 999999000∧∀ i H',-1000000000000 < i→i < 1000000000000→But w H H'→Wel H' w (M+7)→Q (.int i) H'
theorem at6 {a b c d e f':Int} {k:Int} (h0:0≤k) (h1:k < 6) (P:Int→Prop) (pa:P a) (pb:P b) (pc:P c) (pd:P d) (pe:P e) (pf:P f'):∃ z,atI [V.int a,.int b,.int c,.int d,.int e,.int f'] k=some (.int z)∧P z:=by
  have : k=0∨k=1∨k=2∨k=3∨k=4∨k=5:=by omega
  rcases this with rfl|rfl|rfl|rfl|rfl|rfl
  · exact ⟨a,rfl,pa⟩
  · exact ⟨b,rfl,pb⟩
  · exact ⟨c,rfl,pc⟩
  · exact ⟨d,rfl,pd⟩
  · exact ⟨e,rfl,pe⟩
  · exact ⟨f',rfl,pf⟩
theorem ph {k:Int} (h0:0≤k) (h1:k < 10):∃ z:Int,atI [V.int 0,.int 0,.int 0,.int 1,.int 1,.int 2,.int 2,.int 3,.int 4,.int 5] k=some (.int z)∧0≤z∧z < 6:=by
  have : k=0∨k=1∨k=2∨k=3∨k=4∨k=5∨k=6∨k=7∨k=8∨k=9:=by omega
  rcases this with rfl|rfl|rfl|rfl|rfl|rfl|rfl|rfl|rfl|rfl <;> exact ⟨_,rfl,by decide,by decide⟩
abbrev cN:Stmt:=top 36
theorem cq:FnScope ["well","some"] ["well"] (ap cN):=⟨rfl,rfl,rfl,by decide +kernel,rfl,by decide +kernel,by decide +kernel⟩
theorem kG (F:Fun K "_law_number" "_law_number" cN f fd) (C__law_draw:Cal P w K mg base "_law_draw" 2 ["well","many"] cW):FnOk P w K mg base CX0 3 f fd ["well"] fF:=by
  refine F.ok cq (fun vs H Q E h=>?_) (fun cdv A outer s H vs Q E hr h=>?_)
  · obtain ⟨x,M,rfl,_⟩:=h;rfl
  obtain ⟨wl,M,rfl,hw,hM,q⟩:=h;refine ⟨_,(@af _ _ _ _ _ (@aB _ _ (1) _ _ _ _ (cq).nd rfl (Or.inl rfl) (@aW _ _ _ _ (@aa _ _ _ _ _ (@ai _ _ _ _ _ _ _ _ _ _ _ C__law_draw hr (by omega) rfl (@aa _ _ _ _ _ (@pv _ 0 _ _ (by rfl) (by first|exact .inl rfl|exact .inr (.inl rfl)|exact .inr (.inr rfl)) (by decide) (by decide)) (@aa _ _ _ _ _ ae ad (by rfl)) (by rfl)) (by decide) (by rfl) (by rfl)) (@aa _ _ _ _ _ (@ai _ _ _ _ _ _ _ _ _ _ _ C__law_draw hr (by omega) rfl (@aa _ _ _ _ _ (@pv _ 0 _ _ (by rfl) (by first|exact .inl rfl|exact .inr (.inl rfl)|exact .inr (.inr rfl)) (by decide) (by decide)) (@aa _ _ _ _ _ ae ad (by rfl)) (by rfl)) (by decide) (by rfl) (by rfl)) (@aa _ _ _ _ _ (@av _ _ _ _ _ _ _ _ bG ae (@ai _ _ _ _ _ _ _ _ _ _ _ C__law_draw hr (by omega) rfl (@aa _ _ _ _ _ (@pv _ 0 _ _ (by rfl) (by first|exact .inl rfl|exact .inr (.inl rfl)|exact .inr (.inr rfl)) (by decide) (by decide)) (@aa _ _ _ _ _ ae ad (by rfl)) (by rfl)) (by decide) (by rfl) (by rfl))) (@aa _ _ _ _ _ (@ai _ _ _ _ _ _ _ _ _ _ _ C__law_draw hr (by omega) rfl (@aa _ _ _ _ _ (@pv _ 0 _ _ (by rfl) (by first|exact .inl rfl|exact .inr (.inl rfl)|exact .inr (.inr rfl)) (by decide) (by decide)) (@aa _ _ _ _ _ (@av _ _ _ _ _ _ _ _ jA ae ae) ad (by rfl)) (by rfl)) (by decide) (by rfl) (by rfl)) ad (by rfl)) (by rfl)) (by rfl)) (by rfl))) (by rfl) (by first|exact .inl rfl|exact .inr rfl|assumption)) (@af _ _ _ _ _ (@aB _ _ (1) _ _ _ _ (cq).nd rfl (Or.inl rfl) (@av _ _ _ _ _ _ _ _ h_ (@pv _ 1 _ _ (by rfl) (by first|exact .inl rfl|exact .inr (.inl rfl)|exact .inr (.inr rfl)) (by decide) (by decide)) (@aW _ _ _ _ (@aa _ _ _ _ _ (@av _ _ _ _ _ _ _ _ bG ae (@ai _ _ _ _ _ _ _ _ _ _ _ C__law_draw hr (by omega) rfl (@aa _ _ _ _ _ (@pv _ 0 _ _ (by rfl) (by first|exact .inl rfl|exact .inr (.inl rfl)|exact .inr (.inr rfl)) (by decide) (by decide)) (@aa _ _ _ _ _ (@av _ _ _ _ _ _ _ _ jA ae ae) ad (by rfl)) (by rfl)) (by decide) (by rfl) (by rfl))) (@aa _ _ _ _ _ (@ai _ _ _ _ _ _ _ _ _ _ _ C__law_draw hr (by omega) rfl (@aa _ _ _ _ _ (@pv _ 0 _ _ (by rfl) (by first|exact .inl rfl|exact .inr (.inl rfl)|exact .inr (.inr rfl)) (by decide) (by decide)) (@aa _ _ _ _ _ ae ad (by rfl)) (by rfl)) (by decide) (by rfl) (by rfl)) ad (by rfl)) (by rfl)))) (by rfl) (by first|exact .inl rfl|exact .inr rfl|assumption)) (@ah _ _ _ (@ar _ _ _ _ (@aI _ _ _ _ _ _ _ aC (@pv _ 1 _ _ (by rfl) (by first|exact .inl rfl|exact .inr (.inl rfl)|exact .inr (.inr rfl)) (by decide) (by decide)) (@aI _ _ _ _ _ _ _ aC (@aW _ _ _ _ (@aa _ _ _ _ _ ae (@aa _ _ _ _ _ ae (@aa _ _ _ _ _ ae (@aa _ _ _ _ _ ae (@aa _ _ _ _ _ ae (@aa _ _ _ _ _ ae (@aa _ _ _ _ _ ae (@aa _ _ _ _ _ ae (@aa _ _ _ _ _ ae (@aa _ _ _ _ _ ae ad (by rfl)) (by rfl)) (by rfl)) (by rfl)) (by rfl)) (by rfl)) (by rfl)) (by rfl)) (by rfl)) (by rfl))) (@ai _ _ _ _ _ _ _ _ _ _ _ C__law_draw hr (by omega) rfl (@aa _ _ _ _ _ (@pv _ 0 _ _ (by rfl) (by first|exact .inl rfl|exact .inr (.inl rfl)|exact .inr (.inr rfl)) (by decide) (by decide)) (@aa _ _ _ _ _ ae ad (by rfl)) (by rfl)) (by decide) (by rfl) (by rfl)) (fun _ _=>rfl)) (fun _ _=>rfl)))))),?_⟩;refine ⟨_,rfl,wl,10,M,rfl,by decide,by decide,hw,by omega,fun r1 H1 a1 b1 g1 w1=>?_⟩;refine ⟨_,rfl,wl,4,_,rfl,by decide,by decide,w1,by omega,fun r2 H2 a2 b2 g2 w2=>?_⟩;refine ⟨_,rfl,wl,10,_,rfl,by decide,by decide,w2,by omega,fun r3 H3 a3 b3 g3 w3=>⟨_,_,rfl,rfl,?_⟩⟩;refine ⟨_,rfl,_,_,rfl,rfl,⟨by decide,by decide,by decide⟩,wl,1000000000000,_,rfl,by decide,by decide,w3,by omega,fun r4 H4 a4 b4 g4 w4=>?_⟩;refine ⟨(by show 4≤sizeLine;decide),fun p1 n1=>?_⟩;have w4':Wel (upd H4 p1 (.lst [.int r1,.int r2,.int (0 - r3),.int r4])) wl _:=w4.keep (Same.new n1 _) (aaJ _);refine ⟨_,rfl,_,rfl,_,_,rfl,rfl,⟨by decide,by decide,by decide⟩,wl,1000000000000,_,rfl,by decide,by decide,w4',by omega,fun r5 H5 a5 b5 g5 w5=>⟨_,_,rfl,rfl,?_⟩⟩;refine ⟨_,rfl,wl,100,_,rfl,by decide,by decide,w5,by omega,fun r6 H6 a6 b6 g6 w6=>?_⟩;refine ⟨(by show 2≤sizeLine;decide),fun p2 n2=>?_⟩;have ne1:p1≠wl:=w4.ne n1;have e1:H6 p1=some (.lst [.int r1,.int r2,.int (0 - r3),.int r4]):=g6 _ _ ne1 (g5 _ _ ne1 ag);have w6':Wel (upd H6 p2 (.lst [.int (0 - r5),.int r6])) wl _:=w6.keep (Same.new n2 _) (aaJ _);refine ⟨p1,p2,_,_,rfl,rfl,Same.new n2 _ _ _ e1,ag,(by show 6≤sizeLine;decide),fun p3 n3=>?_⟩;have w7:=w6'.keep (Same.new n3 (.lst ([.int r1,.int r2,.int (0 - r3),.int r4]++[.int (0 - r5),.int r6]))) (aaJ _);refine ⟨_,rfl,(by show 10≤sizeLine;decide),fun p4 n4=>?_⟩;have w8:=w7.keep (Same.new n4 (.lst [.int 0,.int 0,.int 0,.int 1,.int 1,.int 2,.int 2,.int 3,.int 4,.int 5])) (aaJ _);refine ⟨_,rfl,wl,10,_,rfl,by decide,by decide,w8,by omega,fun r7 H7 a7 b7 g7 w9=>?_⟩;have ne3:p3≠wl:=w6'.ne n3;have ne4:p4≠wl:=w7.ne n4;obtain ⟨z,hz,z0,z1⟩:=ph a7 b7;refine ⟨p4,_,_,_,rfl,rfl,SqL.of (g7 _ _ ne4 ag),hz,?_⟩;obtain ⟨y,hy,y0,y1⟩:=at6 (a:=r1) (b:=r2) (c:=0 - r3) (d:=r4) (e:=0 - r5) (f':=r6) z0 z1 (fun i=>-1000000000000 < i∧i < 1000000000000) (by omega) (by omega) (by omega) (by omega) (by omega) (by omega);refine ⟨p3,_,_,_,rfl,rfl,SqL.of (g7 _ _ ne3 (Same.new n4 _ _ _ ag)),hy,?_⟩;refine q y H7 y0 y1 ?_ (w9.more (by omega));exact ((((((((((g1.trans g2).trans g3).trans g4).trans (But.new n1 _)).trans g5).trans g6).trans (But.new n2 _)).trans (But.new n3 _)).trans (But.new n4 _)).trans g7)
open PySem L2
def kg (ns:List Int):Prop:=∀ i∈ns,-1000000000000 < i∧i < 1000000000000
def jT:Sp:=fun vs H Q _=>∃ w n M,vs=[.ref w,.int n]∧0≤n∧n≤20∧Wel H w M∧M < 999990000 ∧
  ∀ p ns H',But w H H'→Wel H' w (M+200)→H p=none→H' p=some (.lst (ns.map V.int))→(ns.length:Int)=n→kg ns→Q (.ref p) H'
abbrev d4:Stmt:=top 37
theorem iS:FnScope ["well","many"] ["well","many"] (ap d4):=⟨rfl,rfl,rfl,by decide +kernel,rfl,by decide +kernel,by decide +kernel⟩
theorem mo (i:Int) (k:Nat):(aaG k [V.int i]).flatten=(aaG k i).map V.int:=by
  induction k with
  | zero=>rfl
  | succ k ih=>rw [abm,abD,ih];rfl
theorem nA (F:Fun K "_law_row" "_law_row" d4 f fd) (B:Bu K mg) (C__law_draw:Cal P w K mg base "_law_draw" 2 ["well","many"] cW) (C__law_number:Cal P w K mg base "_law_number" 3 ["well"] fF) :
    FnOk P w K mg base CX0 4 f fd ["well","many"] jT:=by
  refine F.ok iS (fun vs H Q E h=>?_) (fun cdv A outer s H vs Q E hr h=>?_)
  · obtain ⟨x,m,M,rfl,_⟩:=h;rfl
  obtain ⟨wl,n,M,rfl,h0,h1,hw,hM,q⟩:=h;refine ⟨_,(@af _ _ _ _ _ (@a8 _ _ _ _ _ _ _ _ (@aM _ _ _ _ _ _ _ _ eG (@ai _ _ _ _ _ _ _ _ _ _ _ C__law_draw hr (by omega) rfl (@aa _ _ _ _ _ (@pv _ 0 _ _ (by rfl) (by first|exact .inl rfl|exact .inr (.inl rfl)|exact .inr (.inr rfl)) (by decide) (by decide)) (@aa _ _ _ _ _ ae ad (by rfl)) (by rfl)) (by decide) (by rfl) (by rfl)) ae (aL _)) (@ah _ _ _ (@ar _ _ _ _ (@av _ _ _ _ _ _ _ _ nt (@aW _ _ _ _ (@aa _ _ _ _ _ (@ai _ _ _ _ _ _ _ _ _ _ _ C__law_number hr (by omega) rfl (@aa _ _ _ _ _ (@pv _ 0 _ _ (by rfl) (by first|exact .inl rfl|exact .inr (.inl rfl)|exact .inr (.inr rfl)) (by decide) (by decide)) ad (by rfl)) (by decide) (by rfl) (by rfl)) ad (by rfl))) (@pv _ 1 _ _ (by rfl) (by first|exact .inl rfl|exact .inr (.inl rfl)|exact .inr (.inr rfl)) (by decide) (by decide))))) aE) (@ah _ _ _ (@ar _ _ _ _ (@eE _ _ _ _ _ _ _ _ (["k","well"]) ([none,some 0]) _ _ _ _ rfl (@gy _ _ _ _ _ _ rfl B.irange (@aa _ _ _ _ _ (@pv _ 1 _ _ (by rfl) (by first|exact .inl rfl|exact .inr (.inl rfl)|exact .inr (.inr rfl)) (by decide) (by decide)) ad (by rfl)) (by rfl)) rfl ⟨rfl,trivial⟩ ⟨⟨rfl,Or.inl rfl,Or.inl rfl⟩,trivial⟩ (fun _ _ _ _=>⟨(@au _ _ (0) _ (show abp (["k","well"]:List Str) by decide +kernel) rfl (Or.inl rfl) (.inr rfl)),bo,(@ai _ _ _ _ _ _ _ _ _ _ _ C__law_number hr (by omega) rfl (@aa _ _ _ _ _ (@pv _ 1 _ _ (by rfl) (by first|exact .inl rfl|exact .inr (.inl rfl)|exact .inr (.inr rfl)) (by decide) (by decide)) ad (by rfl)) (by decide) (by rfl) (by rfl))⟩) (by rfl) (by rfl) (by rfl) (by rfl) (by intro _;rfl))))),?_⟩;refine ⟨_,rfl,wl,8,M,rfl,by decide,by decide,hw,by omega,fun r1 H1 a1 b1 g1 w1=>⟨rfl,_,rfl,lG (fun _=>?_) (fun _=>?_)⟩⟩
  · refine ⟨_,rfl,wl,_,rfl,w1,by omega,fun i H2 i0 i1 g2 w2=>⟨(by show 1≤sizeLine;decide),fun p1 n1=>?_⟩⟩;refine ⟨_,rfl,p1,n,_,rfl,rfl,ag,by omega,by omega,b9 (by show 1 * n.toNat≤1000;omega),fun p2 n2=>?_⟩;have w3:=w2.keep (Same.new n1 (.lst [.int i])) (aaJ _);have w4:=w3.keep (Same.new n2 (.lst (aaG n.toNat [V.int i]).flatten)) (aaJ _);refine q p2 (aaG n.toNat i) _ (((g1.trans g2).trans (But.new n1 _)).trans (But.new n2 _)) (w4.more (by omega)) (But.free ((g1.trans g2).trans (But.new n1 (.lst [.int i]))) w3 n2) ?_ (by rw [List.length_replicate];omega) ?_
    · rw [ag,mo]
    · intro z hz;rw [List.eq_of_mem_replicate hz];exact ⟨i0,i1⟩
  · refine ⟨_,rfl,n,rfl,by omega,by omega,?_⟩;refine ⟨fun i m ys H'=>i≤n.toNat∧m=n.toNat - i∧∃ ns:List Int,ys=ns.map V.int∧ns.length=i∧kg ns∧But wl H H'∧Wel H' wl (M+1+7 * i),⟨_,aaB _,rfl,[],rfl,rfl,(fun _ z=>nomatch z),g1,w1.more (by omega)⟩,?_⟩;rintro i m ys H' ⟨hi,rfl,ns,rfl,hl,hs,hb,hw'⟩;by_cases hlt:i < n.toNat
    · refine .inr ⟨hlt,aJ (by rw [aad];omega),fun x H2 y=>?_⟩;obtain ⟨rfl,rfl⟩:=y;refine ⟨_,rfl,wl,_,rfl,hw',by omega,fun z H3 z0 z1 g3 w3=>?_⟩;refine ⟨n.toNat - (i+1),by omega,hlt,rfl,ns++[z],by rw [aaL];rfl,by rw [aat,abq,hl],?_,hb.trans g3,w3.more (by omega)⟩;intro u hu;rcases aaE.mp hu with hu|hu
      · exact hs u hu
      · rw [abh.mp hu];exact ⟨z0,z1⟩
    · refine .inl ⟨Nat.not_lt.mp hlt,fun p hp=>?_⟩;refine q p ns _ (hb.trans (But.new hp _)) ((hw'.keep (Same.new hp _) (aaJ _)).more (by omega)) (But.free hb hw' hp) ag (by omega) hs
def g9:List V:=[.str "+",.str "-",.str "*",.str "+-",.str "+*",.str "-*",.str "+-*"]
def bb (gs:List Sg):Prop:=inV (.str (ak gs)) g9=true
def dO:Sp:=fun vs H Q _=>∃ w M,vs=[.ref w]∧Wel H w M∧M < 999990000∧∀ gs H',1≤gs.length→gs.length≤3→bb gs→But w H H'→Wel H' w (M+1)→Q (.str (ak gs)) H'
theorem at9 {k:Int} (h0:0≤k) (h1:k < 9):∃ gs:List Sg,atI [V.str "+-*",.str "+-*",.str "+-*",.str "+",.str "-",.str "*",.str "+-",.str "+*",.str "-*"] k=some (.str (ak gs))∧1≤gs.length∧gs.length≤3∧bb gs:=by
  have : k=0∨k=1∨k=2∨k=3∨k=4∨k=5∨k=6∨k=7∨k=8:=by omega
  rcases this with rfl|rfl|rfl|rfl|rfl|rfl|rfl|rfl|rfl
  · exact ⟨[.plus,.minus,.times],by rfl,by decide,by decide,by unfold bb;decide +kernel⟩
  · exact ⟨[.plus,.minus,.times],by rfl,by decide,by decide,by unfold bb;decide +kernel⟩
  · exact ⟨[.plus,.minus,.times],by rfl,by decide,by decide,by unfold bb;decide +kernel⟩
  · exact ⟨[.plus],by rfl,by decide,by decide,by unfold bb;decide +kernel⟩
  · exact ⟨[.minus],by rfl,by decide,by decide,by unfold bb;decide +kernel⟩
  · exact ⟨[.times],by rfl,by decide,by decide,by unfold bb;decide +kernel⟩
  · exact ⟨[.plus,.minus],by rfl,by decide,by decide,by unfold bb;decide +kernel⟩
  · exact ⟨[.plus,.times],by rfl,by decide,by decide,by unfold bb;decide +kernel⟩
  · exact ⟨[.minus,.times],by rfl,by decide,by decide,by unfold bb;decide +kernel⟩
abbrev cZ:Stmt:=top 38
theorem gn:FnScope ["well"] ["well"] (ap cZ):=⟨rfl,rfl,rfl,by decide +kernel,rfl,by decide +kernel,by decide +kernel⟩
theorem ii (F:Fun K "_law_signs" "_law_signs" cZ f fd) (C__law_draw:Cal P w K mg base "_law_draw" 2 ["well","many"] cW):FnOk P w K mg base CX0 3 f fd ["well"] dO:=by
  refine F.ok gn (fun vs H Q E h=>?_) (fun cdv A outer s H vs Q E hr h=>?_)
  · obtain ⟨x,M,rfl,_⟩:=h;rfl
  obtain ⟨wl,M,rfl,hw,hM,q⟩:=h;refine ⟨_,(@ah _ _ _ (@ar _ _ _ _ (@aI _ _ _ _ _ _ _ aC (@aW _ _ _ _ (@aa _ _ _ _ _ a9 (@aa _ _ _ _ _ a9 (@aa _ _ _ _ _ a9 (@aa _ _ _ _ _ a9 (@aa _ _ _ _ _ a9 (@aa _ _ _ _ _ a9 (@aa _ _ _ _ _ a9 (@aa _ _ _ _ _ a9 (@aa _ _ _ _ _ a9 ad (by rfl)) (by rfl)) (by rfl)) (by rfl)) (by rfl)) (by rfl)) (by rfl)) (by rfl)) (by rfl))) (@ai _ _ _ _ _ _ _ _ _ _ _ C__law_draw hr (by omega) rfl (@aa _ _ _ _ _ (@pv _ 0 _ _ (by rfl) (by first|exact .inl rfl|exact .inr (.inl rfl)|exact .inr (.inr rfl)) (by decide) (by decide)) (@aa _ _ _ _ _ ae ad (by rfl)) (by rfl)) (by decide) (by rfl) (by rfl)) (fun _ _=>rfl)))),?_⟩;refine ⟨(by show 9≤sizeLine;decide),fun p1 n1=>?_⟩;have w1:=hw.keep (Same.new n1 (.lst [.str "+-*",.str "+-*",.str "+-*",.str "+",.str "-",.str "*",.str "+-",.str "+*",.str "-*"])) (aaJ _);refine ⟨_,rfl,wl,9,_,rfl,by decide,by decide,w1,by omega,fun r1 H1 a1 b1 g1 w2=>?_⟩;obtain ⟨gs,hg,l1,l2,l3⟩:=at9 a1 b1;exact ⟨p1,_,_,_,rfl,rfl,SqL.of (g1 _ _ (hw.ne n1) ag),hg,q gs H1 l1 l2 l3 ((But.new n1 _).trans g1) w2⟩
theorem jr (x y:Str):(x++y).cps.toList=x.cps.toList++y.cps.toList:=by
  obtain ⟨a⟩:=x;obtain ⟨b⟩:=y;show (a++b).toList=_;rw [aao]
def Sg.code:Sg→Nat
  | .plus=>43
  | .minus=>45
  | .times=>42
theorem bO (g:Sg):g.str=⟨#[g.code]⟩:=by cases g <;> rfl
theorem bn:∀ gs:List Sg,(ak gs).cps.toList=gs.map Sg.code
  | []=>rfl
  | g :: r=>by
    show (g.str++ak r).cps.toList=g.code :: r.map Sg.code;rw [jr,bn r,bO];rfl
theorem oH {gs:List Sg} {k:Int} (h0:0≤k) (h1:k < (gs.length:Nat)):∃ g:Sg,atI (ak gs).cps.toList k=some g.code∧g∈gs:=by
  obtain ⟨j,rfl⟩:=abO h0;have hj:j < gs.length:=by omega
  refine ⟨gs[j],df ?_,abG hj⟩;rw [bn,aaF,aae hj];rfl
def Wy.within (gs:List Sg):Wy→Prop
  | .num _=>True
  | .node g l r=>g∈gs∧l.within gs∧r.within gs
def jR (n:Nat):Sp:=fun vs H Q _=>∃ w r gs ns M,vs=[.ref w,.ref r,.str (ak gs)]∧H r=some (.lst (ns.map V.int))∧r≠w∧1≤ns.length∧ns.length≤n∧n≤20∧1≤gs.length∧gs.length≤3∧Wel H w M∧M+4 * ns.length - 4 < 999999000 ∧
  ∀ v wy H',WyIn H' wy v→wy.nums=ns→wy.within gs→But w H H'→Wel H' w (M+4 * ns.length - 4)→Q v H'
theorem at3 {a b c:Int} {k:Int} (h0:0≤k) (h1:k < 3) (P:Int→Prop) (pa:P a) (pb:P b) (pc:P c):∃ z,atI [V.int a,.int b,.int c] k=some (.int z)∧P z:=by
  have : k=0∨k=1∨k=2:=by omega
  rcases this with rfl|rfl|rfl
  · exact ⟨a,rfl,pa⟩
  · exact ⟨b,rfl,pb⟩
  · exact ⟨c,rfl,pc⟩
theorem lV (ns:List Int) (c:Nat) (h:c≤ns.length):ed (ns.map V.int) none (some (c:Int))=(ns.take c).map V.int:=by
  have hl:(ns.map V.int).length=ns.length:=aad _;have e0:HT.sIx ns.length 0 none=0:=by simp [HT.sIx]
  have e1:HT.sIx ns.length ns.length (some (c:Int))=c:=by
    simp only [HT.sIx];split <;> omega
  unfold ed;rw [hl,e0,e1,List.drop_zero,List.map_take];rfl
theorem lY (ns:List Int) (c:Nat) (h:c≤ns.length):ed (ns.map V.int) (some (c:Int)) none=(ns.drop c).map V.int:=by
  have hl:(ns.map V.int).length=ns.length:=aad _;have e0:HT.sIx ns.length ns.length none=ns.length:=by simp [HT.sIx]
  have e1:HT.sIx ns.length 0 (some (c:Int))=c:=by
    simp only [HT.sIx];split <;> omega
  unfold ed;rw [hl,e0,e1,abR,aba (by rw [aaC,hl];exact aab _)]
abbrev dZ:Stmt:=top 39
theorem dm:FnScope ["well","row","signs","cut","sign"] ["well","row","signs"] (ap dZ):=⟨rfl,rfl,rfl,by decide +kernel,rfl,by decide +kernel,by decide +kernel⟩
theorem nz (F:Fun K "_law_way" "_law_way" dZ f fd) (bF:Binds K fd ["well","row","signs"] []) (mF:mg "_law_way" = some (.ref f)) (B:Bu K mg) (C__law_draw:Cal P w K mg base "_law_draw" 2 ["well","many"] cW) :
    ∀ n,FnOk P w K mg base CX0 (n+2) f fd ["well","row","signs"] (jR n):=by
  intro n
  induction n with
  | zero =>
    refine ⟨fun vs H Q E h=>?_,fun A outer s H args us vs Q E _ _ _ _ h=>?_⟩
    · obtain ⟨x,r,gs,ns,M,rfl,_⟩:=h;rfl
    · obtain ⟨x,r,gs,ns,M,_,_,_,h1,h2,_⟩:=h;omega
  | succ n ih =>
    have C__law_way:Cal P w K mg base "_law_way" (n+2) ["well","row","signs"] (jR n):=⟨f,fd,ih,bF,F.kp,mF⟩
    refine F.ok dm (fun vs H Q E h=>?_) (fun cdv A outer s H vs Q E hr h=>?_)
    · obtain ⟨x,r,gs,ns,M,rfl,_⟩:=h;rfl
    obtain ⟨wl,r,gs,ns,M,rfl,er,nr,h1,h2,h20,g1,g3,hw,hM,q⟩:=h;refine ⟨_,(@af _ _ _ _ _ (@a8 _ _ _ _ _ _ _ _ (@aM _ _ _ _ _ _ _ _ eG (@ao _ _ _ _ _ _ _ _ _ aq rfl B.ilen aau (@aa _ _ _ _ _ (@pv _ 1 _ _ (by rfl) (by first|exact .inl rfl|exact .inr (.inl rfl)|exact .inr (.inr rfl)) (by decide) (by decide)) ad (by rfl)) (by decide) (by decide) (by rfl) (by rfl)) ae (aL _)) (@ah _ _ _ (@ar _ _ _ _ (@aI _ _ _ _ _ _ _ aC (@pv _ 1 _ _ (by rfl) (by first|exact .inl rfl|exact .inr (.inl rfl)|exact .inr (.inr rfl)) (by decide) (by decide)) ae (fun _ _=>rfl)))) aE) (@af _ _ _ _ _ (@aB _ _ (3) _ _ _ _ (dm).nd rfl (Or.inl rfl) (@aI _ _ _ _ _ _ _ aC (@aW _ _ _ _ (@aa _ _ _ _ _ (@av _ _ _ _ _ _ _ _ bw ae (@ai _ _ _ _ _ _ _ _ _ _ _ C__law_draw hr (by omega) rfl (@aa _ _ _ _ _ (@pv _ 0 _ _ (by rfl) (by first|exact .inl rfl|exact .inr (.inl rfl)|exact .inr (.inr rfl)) (by decide) (by decide)) (@aa _ _ _ _ _ (@av _ _ _ _ _ _ _ _ bG (@ao _ _ _ _ _ _ _ _ _ aq rfl B.ilen aau (@aa _ _ _ _ _ (@pv _ 1 _ _ (by rfl) (by first|exact .inl rfl|exact .inr (.inl rfl)|exact .inr (.inr rfl)) (by decide) (by decide)) ad (by rfl)) (by decide) (by decide) (by rfl) (by rfl)) ae) ad (by rfl)) (by rfl)) (by decide) (by rfl) (by rfl))) (@aa _ _ _ _ _ ae (@aa _ _ _ _ _ (@av _ _ _ _ _ _ _ _ bG (@ao _ _ _ _ _ _ _ _ _ aq rfl B.ilen aau (@aa _ _ _ _ _ (@pv _ 1 _ _ (by rfl) (by first|exact .inl rfl|exact .inr (.inl rfl)|exact .inr (.inr rfl)) (by decide) (by decide)) ad (by rfl)) (by decide) (by decide) (by rfl) (by rfl)) ae) ad (by rfl)) (by rfl)) (by rfl))) (@av _ _ _ _ _ _ _ _ cB (@ai _ _ _ _ _ _ _ _ _ _ _ C__law_draw hr (by omega) rfl (@aa _ _ _ _ _ (@pv _ 0 _ _ (by rfl) (by first|exact .inl rfl|exact .inr (.inl rfl)|exact .inr (.inr rfl)) (by decide) (by decide)) (@aa _ _ _ _ _ ae ad (by rfl)) (by rfl)) (by decide) (by rfl) (by rfl)) ae) (fun _ _=>rfl)) (by rfl) (by first|exact .inl rfl|exact .inr rfl|assumption)) (@af _ _ _ _ _ (@aB _ _ (4) _ _ _ _ (dm).nd rfl (Or.inl rfl) (@aI _ _ _ _ _ _ _ lF (@pv _ 2 _ _ (by rfl) (by first|exact .inl rfl|exact .inr (.inl rfl)|exact .inr (.inr rfl)) (by decide) (by decide)) (@ai _ _ _ _ _ _ _ _ _ _ _ C__law_draw hr (by omega) rfl (@aa _ _ _ _ _ (@pv _ 0 _ _ (by rfl) (by first|exact .inl rfl|exact .inr (.inl rfl)|exact .inr (.inr rfl)) (by decide) (by decide)) (@aa _ _ _ _ _ (@ao _ _ _ _ _ _ _ _ _ de rfl B.ilen aau (@aa _ _ _ _ _ (@pv _ 2 _ _ (by rfl) (by first|exact .inl rfl|exact .inr (.inl rfl)|exact .inr (.inr rfl)) (by decide) (by decide)) ad (by rfl)) (by decide) (by decide) (by rfl) (by rfl)) ad (by rfl)) (by rfl)) (by decide) (by rfl) (by rfl)) (fun _ _=>rfl)) (by rfl) (by first|exact .inl rfl|exact .inr rfl|assumption)) (@ah _ _ _ (@ar _ _ _ _ (@dy _ _ _ _ _ (@aa _ _ _ _ _ (@pv _ 4 _ _ (by rfl) (by first|exact .inl rfl|exact .inr (.inl rfl)|exact .inr (.inr rfl)) (by decide) (by decide)) (@aa _ _ _ _ _ (@ai _ _ _ _ _ _ _ _ _ _ _ C__law_way hr (by omega) rfl (@aa _ _ _ _ _ (@pv _ 0 _ _ (by rfl) (by first|exact .inl rfl|exact .inr (.inl rfl)|exact .inr (.inr rfl)) (by decide) (by decide)) (@aa _ _ _ _ _ (@bQ _ _ _ _ _ _ _ _ _ _ cF (@pv _ 1 _ _ (by rfl) (by first|exact .inl rfl|exact .inr (.inl rfl)|exact .inr (.inr rfl)) (by decide) (by decide)) cH (@cG _ _ _ (@pv _ 3 _ _ (by rfl) (by first|exact .inl rfl|exact .inr (.inl rfl)|exact .inr (.inr rfl)) (by decide) (by decide)))) (@aa _ _ _ _ _ (@pv _ 2 _ _ (by rfl) (by first|exact .inl rfl|exact .inr (.inl rfl)|exact .inr (.inr rfl)) (by decide) (by decide)) ad (by rfl)) (by rfl)) (by rfl)) (by decide) (by rfl) (by rfl)) (@aa _ _ _ _ _ (@ai _ _ _ _ _ _ _ _ _ _ _ C__law_way hr (by omega) rfl (@aa _ _ _ _ _ (@pv _ 0 _ _ (by rfl) (by first|exact .inl rfl|exact .inr (.inl rfl)|exact .inr (.inr rfl)) (by decide) (by decide)) (@aa _ _ _ _ _ (@bQ _ _ _ _ _ _ _ _ _ _ cF (@pv _ 1 _ _ (by rfl) (by first|exact .inl rfl|exact .inr (.inl rfl)|exact .inr (.inr rfl)) (by decide) (by decide)) (@cG _ _ _ (@pv _ 3 _ _ (by rfl) (by first|exact .inl rfl|exact .inr (.inl rfl)|exact .inr (.inr rfl)) (by decide) (by decide))) cH) (@aa _ _ _ _ _ (@pv _ 2 _ _ (by rfl) (by first|exact .inl rfl|exact .inr (.inl rfl)|exact .inr (.inr rfl)) (by decide) (by decide)) ad (by rfl)) (by rfl)) (by rfl)) (by decide) (by rfl) (by rfl)) ad (by rfl)) (by rfl)) (by rfl)))))))),?_⟩;have hl:(ns.map V.int).length=ns.length:=aad _;refine ⟨_,rfl,r,_,rfl,.inl (SqL.of er),rfl,_,rfl,lG (fun c=>?_) (fun c=>?_)⟩
    · have c':V.int (((ns.map V.int).length:Nat):Int)=V.int 1:=of_decide_eq_true c;have c2:(((ns.map V.int).length:Nat):Int)=1:=by injection c'
      rw [hl] at c2
      match ns,c2,er,q with
      | [i],_,er,q =>
        exact ⟨_,rfl,r,_,_,_,rfl,rfl,SqL.of er,rfl,q _ (.num i) H rfl rfl trivial But.refl (hw.more (by show M≤M+4 * ((1:Nat):Int) - 4;omega))⟩
    have c2:ns.length≠1:=fun e=>c (by rw [hl,e];rfl);refine ⟨_,rfl,_,rfl,r,_,rfl,.inl (SqL.of er),_,_,rfl,rfl,wl,((ns.map V.int).length:Int) - 1,M,rfl,by rw [hl];omega,by rw [hl];omega,hw,by omega,fun r1 H1 a1 b1 k1 w1=>?_⟩;rw [hl] at b1;have er1:=k1 _ _ nr er;refine ⟨_,_,rfl,rfl,_,rfl,r,_,rfl,.inl (SqL.of er1),_,_,rfl,rfl,(by show 3≤sizeLine;decide),fun p1 n1=>?_⟩;have w1':=w1.keep (Same.new n1 (.lst [.int (1+r1),.int 1,.int (((ns.map V.int).length:Int) - 1)])) (aaJ _);refine ⟨_,rfl,wl,5,_,rfl,by decide,by decide,w1',by omega,fun r2 H2 a2 b2 k2 w2=>?_⟩;have z2:0≤r2 / 2∧r2 / 2 < 3:=by omega
    obtain ⟨cut,hc,c0,c1⟩:=at3 (a:=1+r1) (b:=1) (c:=((ns.map V.int).length:Int) - 1) z2.1 z2.2 (fun i=>1≤i∧i < (ns.length:Int)) (by omega) (by omega) (by rw [hl];omega);have ne1:p1≠wl:=w1.ne n1;refine ⟨_,_,rfl,rfl,⟨by decide,by decide⟩,p1,_,_,_,rfl,rfl,SqL.of (k2 _ _ ne1 ag),hc,?_⟩;have hgl:=cf gs;refine ⟨_,rfl,_,rfl,_,rfl,_,rfl,b9 (by omega),wl,((ak gs).length:Int),_,rfl,by omega,by omega,w2,by omega,fun r3 H3 a3 b3 k3 w3=>?_⟩;obtain ⟨g,hg,gm⟩:=oH (gs:=gs) a3 (by omega);refine ⟨_,_,_,rfl,rfl,b9 (by omega),hg,?_⟩;obtain ⟨cn,rfl⟩:=abO (show 0≤cut by omega);have hcl:cn≤ns.length:=by omega
    have kk:But wl H H3:=((k1.trans (But.new n1 _)).trans k2).trans k3;have er3:=kk _ _ nr er;refine ⟨_,rfl,_,rfl,_,rfl,_,rfl,cn,rfl,r,_,rfl,SqL.of er3,fun p2 n2=>?_⟩;rw [lV ns cn hcl];have lt:(ns.take cn).length=cn:=by rw [aas];omega
    have ld:(ns.drop cn).length=ns.length - cn:=by rw [aaC]
    have w4:=w3.keep (Same.new n2 (.lst ((ns.take cn).map V.int))) (aaJ _);refine ⟨_,rfl,wl,p2,gs,ns.take cn,_,rfl,ag,w3.ne n2,by omega,by omega,by omega,g1,g3,w4,by omega,fun vl wyl H4 i4 e4 t4 k4 w5=>?_⟩;have kk4:But wl H H4:=(kk.trans (But.new n2 _)).trans k4;have er4:=kk4 _ _ nr er;refine ⟨_,rfl,_,rfl,_,rfl,cn,rfl,r,_,rfl,SqL.of er4,fun p3 n3=>?_⟩;rw [lY ns cn hcl];have w6:=w5.keep (Same.new n3 (.lst ((ns.drop cn).map V.int))) (aaJ _);refine ⟨_,rfl,wl,p3,gs,ns.drop cn,_,rfl,ag,w5.ne n3,by omega,by omega,by omega,g1,g3,w6,by omega,fun vr wyr H5 i5 e5 t5 k5 w7=>?_⟩;refine ⟨(by show 3≤sizeLine;decide),fun p4 n4=>?_⟩;have T45:Tups H4 H5:=(Tups.of (Same.new n3 _)).trans (w6.tups k5);have T5:Tups H5 (upd H5 p4 (.tup [.str ⟨#[g.code]⟩,vl,vr])):=Tups.of (Same.new n4 _);refine q _ (.node g wyl wyr) _ ⟨p4,vl,vr,rfl,?_,i4.mono (T45.trans T5),i5.mono T5⟩ ?_ ⟨gm,t4,t5⟩ (((kk4.trans (But.new n3 _)).trans k5).trans (But.new n4 _)) ?_
    · rw [ag,bO]
    · show wyl.nums++wyr.nums=ns;rw [e4,e5,aaI]
    · refine (w7.keep (Same.new n4 _) (aaJ _)).more ?_;omega
end
open PySem L2
structure Cp (K:aaa) (mg:Str→Option Value) (tk:Tok) (aP:Addr):Prop where
  gMOST_NUMBERS:mg "MOST_NUMBERS" = some (.int 9 tk)
  gSIGNS_TO_PUT:mg "SIGNS_TO_PUT" = some (.ref aP)
  sSIGNS_TO_PUT:∀ H,SqT K H aP g9
section
variable {P:Program} {w:World} {K:aaa} {mg:Str→Option Value} {base:Heap} {f:Addr} {fd:FuncData}
def g0:Sp:=fun vs H Q _=>∃ (a:Addr) (ns:List Int),vs=[.ref a]∧H a=some (.lst (ns.map V.int))∧1≤ns.length∧ns.length≤9∧∀ H',Same H H'→Q (.bl true) H'
abbrev fN:Stmt:=top 12
theorem ku:FnScope ["thing"] ["thing"] (ap fN):=⟨rfl,rfl,rfl,by decide +kernel,rfl,by decide +kernel,by decide +kernel⟩
theorem kI {tk:Tok} {aP:Addr} (F:Fun K "is_row" "is_row" fN f fd) (B:Bu K mg) (B3:Cp K mg tk aP) (C_is_whole:Cal P w K mg base "is_whole" 1 ["thing"] (bW K)):FnOk P w K mg base CX0 2 f fd ["thing"] g0:=by
  refine F.ok ku (fun vs H Q E h=>?_) (fun cdv A outer s H vs Q E hr h=>?_)
  · obtain ⟨x,v,rfl,_⟩:=h;rfl
  obtain ⟨a,ns,rfl,ea,h1,h2,q⟩:=h;refine ⟨_,(@af _ _ _ _ _ (@a8 _ _ _ _ _ _ _ _ (@PW.pt _ _ _ (@gx _ _ _ _ _ _ _ (@bD _ _ _ _ (@bf _ _ _ (@ao _ _ _ _ _ _ _ _ _ (@aV _ ("list")) rfl B.iisinstance aaz (@aa _ _ _ _ _ (@pv _ 0 _ _ (by rfl) (by first|exact .inl rfl|exact .inr (.inl rfl)|exact .inr (.inr rfl)) (by decide) (by decide)) (@aa _ _ _ _ _ (@b8 _ _ (.ty "list") _ _ rfl B.ilist PyProof.Rows.boot_list rfl (by decide) (by decide)) ad (by rfl)) (by rfl)) (by decide) (by decide) (by rfl) (by rfl)) (by intro _;rfl))) (@eW _ _ _ _ (@bD _ _ _ _ (@iW _ _ _ _ _ _ _ _ _ _ _ _ gC gC ae (@ao _ _ _ _ _ _ _ _ _ aq rfl B.ilen aau (@aa _ _ _ _ _ (@pv _ 0 _ _ (by rfl) (by first|exact .inl rfl|exact .inr (.inl rfl)|exact .inr (.inr rfl)) (by decide) (by decide)) ad (by rfl)) (by decide) (by decide) (by rfl) (by rfl)) (@eF _ _ (.int 9) _ _ rfl B3.gMOST_NUMBERS ⟨_,rfl⟩ (by decide)) (by with_unfolding_all rfl)))))) (@ah _ _ _ (@ar _ _ _ _ dJ)) aE) (@ah _ _ _ (@ar _ _ _ _ (@ao _ _ _ _ _ _ _ _ _ (@jk _ rfl) rfl B.iall PyProof.Rows.boot_all (@aa _ _ _ _ _ (@eE _ _ _ _ _ _ _ _ (["number"]) ([none]) _ _ _ _ rfl (@bX _ _ _ _ (@pv _ 0 _ _ (by rfl) (by first|exact .inl rfl|exact .inr (.inl rfl)|exact .inr (.inr rfl)) (by decide) (by decide))) rfl trivial trivial (fun _ _ _ _=>⟨(@au _ _ (0) _ (show abp (["number"]:List Str) by decide +kernel) rfl (Or.inl rfl) (.inr rfl)),bo,(@ai _ _ _ _ _ _ _ _ _ _ _ C_is_whole hr (by omega) rfl (@aa _ _ _ _ _ (@pv _ 0 _ _ (by rfl) (by first|exact .inl rfl|exact .inr (.inl rfl)|exact .inr (.inr rfl)) (by decide) (by decide)) ad (by rfl)) (by decide) (by rfl) (by rfl))⟩) (by rfl) (by rfl) (by rfl) (by rfl) (by intro _;rfl)) ad (by rfl)) (by decide) (by decide) (by rfl) (by rfl))))),?_⟩;have hl:(ns.map V.int).length=ns.length:=aad _;refine ⟨_,rfl,_,_,true,rfl,.lst ea,rfl,true,rfl,a_ ?_⟩;refine ⟨_,rfl,a,_,rfl,.inl (SqL.of ea),_,_,rfl,rfl,true,congrArg V.bl (decide_eq_true (by omega)),cD ?_⟩;refine ⟨_,_,rfl,rfl,true,congrArg V.bl (decide_eq_true (by omega)),a_ ?_⟩;refine ⟨_,rfl,a,rfl,⟨_,SqL.of ea⟩,?_⟩;refine gF (Trn.list (xs:=ns.map V.int)) (fun i ys H'=>H'=H∧ys=(aaG i true).map V.bl) ⟨rfl,rfl⟩ (fun i ys H' hi p=>by rw [p.1,p.2];exact ⟨SqL.of ea,aJ (by simp;omega)⟩) (fun i x ys H1 H' hi hx p Nx nx=>?_) (fun ys H' p p5 n5=>?_)
  · obtain ⟨rfl,rfl⟩:=p;obtain ⟨rfl,hx⟩:=hx;rw [aaF] at hx;obtain ⟨c,_,rfl⟩:=aaT.mp hx;refine ⟨_,rfl,_,_,rfl,.int c,nx _ _ ⟨rfl,?_⟩⟩;rw [List.replicate_succ',aaL];rfl
  obtain ⟨rfl,rfl⟩:=p;refine ⟨p5,_,rfl,SqL.of ag,?_⟩;have e:((aaG (ns.map V.int).length true).all id)=true:=by simp
  rw [e];exact q _ (Same.new n5 _)
def eM:Sp:=fun vs H Q _=>∃ (a:Addr) (ns:List Int),vs=[.ref a]∧H a=some (.lst (ns.map V.int))∧1≤ns.length∧ns.length≤9∧∀ H',Same H H'→Q .non H'
abbrev dU:Stmt:=top 17
theorem iO:FnScope ["thing"] ["thing"] (ap dU):=⟨rfl,rfl,rfl,by decide +kernel,rfl,by decide +kernel,by decide +kernel⟩
theorem i7 (F:Fun K "need_row" "need_row" dU f fd) (C_is_row:Cal P w K mg base "is_row" 2 ["thing"] g0):FnOk P w K mg base CX0 3 f fd ["thing"] eM:=by
  refine F.ok iO (fun vs H Q E h=>?_) (fun cdv A outer s H vs Q E hr h=>?_)
  · obtain ⟨x,v,rfl,_⟩:=h;rfl
  obtain ⟨a,ns,rfl,ea,h1,h2,q⟩:=h;refine ⟨_,(@ah _ _ _ (@a8 _ _ _ _ _ _ _ _ (@bD _ _ _ _ (@bf _ _ _ (@ai _ _ _ _ _ _ _ _ _ _ _ C_is_row hr (by omega) rfl (@aa _ _ _ _ _ (@pv _ 0 _ _ (by rfl) (by first|exact .inl rfl|exact .inr (.inl rfl)|exact .inr (.inr rfl)) (by decide) (by decide)) ad (by rfl)) (by decide) (by rfl) (by rfl)) (by intro _;rfl))) (@ah _ _ _ cR) aE)),?_⟩;exact ⟨_,rfl,a,ns,rfl,ea,h1,h2,fun H' hS=>⟨true,rfl,a_ (q H' hS)⟩⟩
def fG:Sp:=fun vs H Q _=>∃ n:Int,vs=[.int n]∧1≤n∧n≤9∧Q (.bl true) H
abbrev eV:Stmt:=top 14
theorem jy:FnScope ["thing"] ["thing"] (ap eV):=⟨rfl,rfl,rfl,by decide +kernel,rfl,by decide +kernel,by decide +kernel⟩
theorem jG {tk:Tok} {aP:Addr} (F:Fun K "is_many" "is_many" eV f fd) (B:Bu K mg) (B3:Cp K mg tk aP) (C_is_whole:Cal P w K mg base "is_whole" 1 ["thing"] (bW K)):FnOk P w K mg base CX0 2 f fd ["thing"] fG:=by
  refine F.ok jy (fun vs H Q E h=>?_) (fun cdv A outer s H vs Q E hr h=>?_)
  · obtain ⟨n,rfl,_⟩:=h;rfl
  obtain ⟨n,rfl,h1,h2,q⟩:=h;refine ⟨_,(@ah _ _ _ (@ar _ _ _ _ (@fQ _ _ _ _ _ _ _ (@ai _ _ _ _ _ _ _ _ _ _ _ C_is_whole hr (by omega) rfl (@aa _ _ _ _ _ (@pv _ 0 _ _ (by rfl) (by first|exact .inl rfl|exact .inr (.inl rfl)|exact .inr (.inr rfl)) (by decide) (by decide)) ad (by rfl)) (by decide) (by rfl) (by rfl)) (@fP _ _ _ _ _ (@lm _ _ _ _ _ _ _ _ _ _ _ _ gC gC ae (@pv _ 0 _ _ (by rfl) (by first|exact .inl rfl|exact .inr (.inl rfl)|exact .inr (.inr rfl)) (by decide) (by decide)) (@eF _ _ (.int 9) _ _ rfl B3.gMOST_NUMBERS ⟨_,rfl⟩ (by decide)) (by with_unfolding_all rfl)))))),?_⟩;refine ⟨_,rfl,_,_,rfl,.int n,true,rfl,cD ⟨_,rfl,_,_,rfl,rfl,true,congrArg V.bl (decide_eq_true (by omega)),cD ⟨_,_,rfl,rfl,?_⟩⟩⟩;show Q (.bl (decide (n≤9))) H;rw [decide_eq_true (by omega)];exact q
def eO:Sp:=fun vs H Q _=>∃ gs,vs=[.str (ak gs)]∧bb gs∧Q (.bl true) H
abbrev dY:Stmt:=top 13
theorem iQ:FnScope ["thing"] ["thing"] (ap dY):=⟨rfl,rfl,rfl,by decide +kernel,rfl,by decide +kernel,by decide +kernel⟩
theorem ja {tk:Tok} {aP:Addr} (F:Fun K "is_signs" "is_signs" dY f fd) (B:Bu K mg) (B3:Cp K mg tk aP):FnOk P w K mg base CX0 1 f fd ["thing"] eO:=by
  refine F.ok iQ (fun vs H Q E h=>?_) (fun cdv A outer s H vs Q E hr h=>?_)
  · obtain ⟨x,rfl,_⟩:=h;rfl
  obtain ⟨gs,rfl,hs,q⟩:=h;refine ⟨_,(@ah _ _ _ (@ar _ _ _ _ (@fQ _ _ _ _ _ _ _ (@ao _ _ _ _ _ _ _ _ _ (@aV _ ("str")) rfl B.iisinstance aaz (@aa _ _ _ _ _ (@pv _ 0 _ _ (by rfl) (by first|exact .inl rfl|exact .inr (.inl rfl)|exact .inr (.inr rfl)) (by decide) (by decide)) (@aa _ _ _ _ _ (@b8 _ _ (.ty "str") _ _ rfl B.istr PyProof.Rows.boot_str rfl (by decide) (by decide)) ad (by rfl)) (by rfl)) (by decide) (by decide) (by rfl) (by rfl)) (@fP _ _ _ _ _ (@bZ _ _ _ _ _ _ _ _ gD (@pv _ 0 _ _ (by rfl) (by first|exact .inl rfl|exact .inr (.inl rfl)|exact .inr (.inr rfl)) (by decide) (by decide)) (@eF _ _ (.ref aP) _ _ rfl B3.gSIGNS_TO_PUT rfl (by decide)) (by with_unfolding_all rfl)))))),?_⟩;refine ⟨_,rfl,_,_,true,rfl,.str _,rfl,true,rfl,cD ⟨_,rfl,aP,_,rfl,.inr (B3.sSIGNS_TO_PUT H),rfl,rfl,?_⟩⟩;show Q (.bl (inV (.str (ak gs)) g9)) H;rw [show inV (.str (ak gs)) g9=true from hs];exact q
def bN:Sp:=fun vs H Q _=>∃ gs,vs=[.str (ak gs)]∧bb gs∧Q .non H
abbrev cX:Stmt:=top 18
theorem gl:FnScope ["thing"] ["thing"] (ap cX):=⟨rfl,rfl,rfl,by decide +kernel,rfl,by decide +kernel,by decide +kernel⟩
theorem gp (F:Fun K "need_signs" "need_signs" cX f fd) (C_is_signs:Cal P w K mg base "is_signs" 1 ["thing"] eO):FnOk P w K mg base CX0 2 f fd ["thing"] bN:=by
  refine F.ok gl (fun vs H Q E h=>?_) (fun cdv A outer s H vs Q E hr h=>?_)
  · obtain ⟨x,rfl,_⟩:=h;rfl
  obtain ⟨gs,rfl,hs,q⟩:=h;refine ⟨_,(@ah _ _ _ (@a8 _ _ _ _ _ _ _ _ (@bD _ _ _ _ (@bf _ _ _ (@ai _ _ _ _ _ _ _ _ _ _ _ C_is_signs hr (by omega) rfl (@aa _ _ _ _ _ (@pv _ 0 _ _ (by rfl) (by first|exact .inl rfl|exact .inr (.inl rfl)|exact .inr (.inr rfl)) (by decide) (by decide)) ad (by rfl)) (by decide) (by rfl) (by rfl)) (by intro _;rfl))) (@ah _ _ _ cR) aE)),?_⟩;exact ⟨_,rfl,gs,rfl,hs,true,rfl,a_ q⟩
def dN:Sp:=fun vs H Q _=>∃ n:Int,vs=[.int n]∧1≤n∧n≤9∧Q .non H
abbrev dq:Stmt:=top 20
theorem hG:FnScope ["thing"] ["thing"] (ap dq):=⟨rfl,rfl,rfl,by decide +kernel,rfl,by decide +kernel,by decide +kernel⟩
theorem ie (F:Fun K "need_many" "need_many" dq f fd) (C_is_many:Cal P w K mg base "is_many" 2 ["thing"] fG):FnOk P w K mg base CX0 3 f fd ["thing"] dN:=by
  refine F.ok hG (fun vs H Q E h=>?_) (fun cdv A outer s H vs Q E hr h=>?_)
  · obtain ⟨n,rfl,_⟩:=h;rfl
  obtain ⟨n,rfl,h1,h2,q⟩:=h;refine ⟨_,(@ah _ _ _ (@a8 _ _ _ _ _ _ _ _ (@bD _ _ _ _ (@bf _ _ _ (@ai _ _ _ _ _ _ _ _ _ _ _ C_is_many hr (by omega) rfl (@aa _ _ _ _ _ (@pv _ 0 _ _ (by rfl) (by first|exact .inl rfl|exact .inr (.inl rfl)|exact .inr (.inr rfl)) (by decide) (by decide)) ad (by rfl)) (by decide) (by rfl) (by rfl)) (by intro _;rfl))) (@ah _ _ _ cR) aE)),?_⟩;exact ⟨_,rfl,n,rfl,h1,h2,true,rfl,a_ q⟩
end
open PySem L2
def wl (s:Nat) (L:List Int) (n l:Nat):Int:=(s:Int) * L.getD l 0 * L.getD (n - l) 0
def cl (s:Nat):Nat→List Int
  | 0=>[0,1]
  | k+1=>cl s k++[((aaR (k+1)).map fun j=>wl s (cl s k) (k+2) (1+j)).sum]
theorem ir (s:Nat):∀ k,(cl s k).length=k+2
  | 0=>rfl
  | k+1=>by
    show (cl s k++[_]).length=_;rw [aat,ir s k];rfl
def cn (s n:Nat):Int:=(cl s 8).getD n 0
theorem l0 (s:Nat):∀ (k d n:Nat),n < k+2→(cl s (k+d)).getD n 0=(cl s k).getD n 0
  | k,0,n,h=>rfl
  | k,d+1,n,h=>by
    show (cl s (k+d)++[_]).getD n 0=_;rw [← l0 s k d n h];have hl:=ir s (k+d);simp only [aa8];rw [abF (by omega)]
theorem l5 {s k n:Nat} (hk:k≤8) (h:n < k+2):(cl s k).getD n 0=cn s n:=by
  have:=l0 s k (8 - k) n h;unfold cn;rw [show 8=k+(8 - k) by omega];exact this.symm
theorem gK:∀ s≤3,∀ n≤9,0≤cn s n∧cn s n < 1000000000:=by decide +kernel
theorem dL {s k n:Nat} (hk:k≤8) (h:n < k+2):atI ((cl s k).map V.int) (n:Int)=some (.int (cn s n)):=by
  have hl:=ir s k;have e:(cl s k)[n]?=some (cn s n):=by
    have:=l5 (s:=s) hk h;rw [aa8] at this;cases z:(cl s k)[n]? with
    | none=>rw [List.getElem?_eq_none_iff] at z;omega
    | some x=>rw [z] at this;exact congrArg some this
  refine df ?_;rw [aaF,e];rfl
section
variable {P:Program} {w:World} {K:aaa} {mg:Str→Option Value} {base:Heap} {f:Addr} {fd:FuncData}
def iF:Sp:=fun vs H Q _=>∃ (z:Str) (pc:Addr) (xs:List V) (l r a b:Int),vs=[.str z,.ref pc,.int l,.int r]∧z.length≤3∧H pc=some (.lst xs)∧atI xs l=some (.int a)∧atI xs r=some (.int b)∧0≤b∧b < 1000000000∧Q (.int ((z.length:Int) * a * b)) H
abbrev cM:Stmt:=top 29
theorem fJ:FnScope ["signs","counts","left","right"] ["signs","counts","left","right"] (ap cM):=⟨rfl,rfl,rfl,by decide +kernel,rfl,by decide +kernel,by decide +kernel⟩
theorem fT (F:Fun K "ways_by_cut" "ways_by_cut" cM f fd) (B:Bu K mg):FnOk P w K mg base CX0 1 f fd ["signs","counts","left","right"] iF:=by
  refine F.ok fJ (fun vs H Q E h=>?_) (fun cdv A outer s H vs Q E hr h=>?_)
  · obtain ⟨z,pc,xs,l,r,a,b,rfl,_⟩:=h;rfl
  obtain ⟨z,pc,xs,l,r,a,b,rfl,hz,hc,ha,hb,b0,b1,q⟩:=h;refine ⟨_,(@ah _ _ _ (@ar _ _ _ _ (@av _ _ _ _ _ _ _ _ bT (@av _ _ _ _ _ _ _ _ bT (@ao _ _ _ _ _ _ _ _ _ de rfl B.ilen aau (@aa _ _ _ _ _ (@pv _ 0 _ _ (by rfl) (by first|exact .inl rfl|exact .inr (.inl rfl)|exact .inr (.inr rfl)) (by decide) (by decide)) ad (by rfl)) (by decide) (by decide) (by rfl) (by rfl)) (@aI _ _ _ _ _ _ _ aC (@pv _ 1 _ _ (by rfl) (by first|exact .inl rfl|exact .inr (.inl rfl)|exact .inr (.inr rfl)) (by decide) (by decide)) (@pv _ 2 _ _ (by rfl) (by first|exact .inl rfl|exact .inr (.inl rfl)|exact .inr (.inr rfl)) (by decide) (by decide)) (fun _ _=>rfl))) (@aI _ _ _ _ _ _ _ aC (@pv _ 1 _ _ (by rfl) (by first|exact .inl rfl|exact .inr (.inl rfl)|exact .inr (.inr rfl)) (by decide) (by decide)) (@pv _ 3 _ _ (by rfl) (by first|exact .inl rfl|exact .inr (.inl rfl)|exact .inr (.inr rfl)) (by decide) (by decide)) (fun _ _=>rfl))))),?_⟩;exact ⟨_,rfl,z,rfl,b9 (by omega),_,rfl,_,rfl,pc,_,_,_,rfl,rfl,SqL.of hc,ha,_,_,rfl,rfl,.inl ⟨by omega,by omega⟩,_,rfl,_,rfl,pc,_,_,_,rfl,rfl,SqL.of hc,hb,_,_,rfl,rfl,.inr ⟨by omega,by omega⟩,q⟩
def iK:Sp:=fun vs H Q _=>∃ (z:Str) (m:Int),vs=[.str z,.int m]∧z.length≤3∧1≤m∧m≤9∧∀ p H',Same H H'→H p=none→H' p=some (.lst ((cl z.length (m - 1).toNat).map V.int))→Q (.ref p) H'
abbrev cx:Stmt:=top 28
theorem bt:FnScope ["signs","many","counts","length","by_left"] ["signs","many"] (ap cx):=⟨rfl,rfl,rfl,by decide +kernel,rfl,by decide +kernel,by decide +kernel⟩
theorem fv (F:Fun K "counts_up_to" "counts_up_to" cx f fd) (B:Bu K mg) (C_ways_by_cut:Cal P w K mg base "ways_by_cut" 1 ["signs","counts","left","right"] iF):FnOk P w K mg base CX0 2 f fd ["signs","many"] iK:=by
  refine F.ok bt (fun vs H Q E h=>?_) (fun cdv A outer s H vs Q E hr h=>?_)
  · obtain ⟨z,m,rfl,_⟩:=h;rfl
  obtain ⟨z,m,rfl,hz,h1,h9,q⟩:=h;refine ⟨_,(@af _ _ _ _ _ (@aB _ _ (2) _ _ _ _ (bt).nd rfl (Or.inr rfl) (@aW _ _ _ _ (@aa _ _ _ _ _ ae (@aa _ _ _ _ _ ae ad (by rfl)) (by rfl))) (by rfl) (by first|exact .inl rfl|exact .inr rfl|assumption)) (@af _ _ _ _ _ (@cz _ _ _ _ _ _ _ _ aaO rfl (@bE _ _ _ _ _ _ _ rfl B.irange (@aa _ _ _ _ _ ae (@aa _ _ _ _ _ (@av _ _ _ _ _ _ _ _ bw (@pv _ 1 _ _ (by rfl) (by first|exact .inl rfl|exact .inr (.inl rfl)|exact .inr (.inr rfl)) (by decide) (by decide)) ae) ad (by rfl)) (by rfl)) (by rfl) (by rfl)) (@au _ _ (3) _ (bt).nd rfl (Or.inr rfl) (.inl rfl)) (@af _ _ _ _ _ (@h8 _ (4) _ _ _ _ _ _ _ _ _ _ (["left","signs","counts","length"]) ([none,some 0,some 2,some 3]) _ _ _ _ (bt).nd rfl (Or.inl rfl) rfl (@bE _ _ _ _ _ _ _ rfl B.irange (@aa _ _ _ _ _ ae (@aa _ _ _ _ _ (@pv _ 3 _ _ (by rfl) (by first|exact .inl rfl|exact .inr (.inl rfl)|exact .inr (.inr rfl)) (by decide) (by decide)) ad (by rfl)) (by rfl)) (by rfl) (by rfl)) rfl ⟨rfl,⟨rfl,⟨rfl,trivial⟩⟩⟩ ⟨⟨rfl,Or.inl rfl,Or.inl rfl⟩,⟨⟨rfl,Or.inl rfl,Or.inl rfl⟩,⟨⟨rfl,Or.inl rfl,Or.inl rfl⟩,trivial⟩⟩⟩ (fun _ _ _ _=>⟨(@au _ _ (0) _ (show abp (["left","signs","counts","length"]:List Str) by decide +kernel) rfl (Or.inl rfl) (.inr rfl)),bo,(@ai _ _ _ _ _ _ _ _ _ _ _ C_ways_by_cut hr (by omega) rfl (@aa _ _ _ _ _ (@pv _ 1 _ _ (by rfl) (by first|exact .inl rfl|exact .inr (.inl rfl)|exact .inr (.inr rfl)) (by decide) (by decide)) (@aa _ _ _ _ _ (@pv _ 2 _ _ (by rfl) (by first|exact .inl rfl|exact .inr (.inl rfl)|exact .inr (.inr rfl)) (by decide) (by decide)) (@aa _ _ _ _ _ (@pv _ 0 _ _ (by rfl) (by first|exact .inl rfl|exact .inr (.inl rfl)|exact .inr (.inr rfl)) (by decide) (by decide)) (@aa _ _ _ _ _ (@av _ _ _ _ _ _ _ _ bG (@pv _ 3 _ _ (by rfl) (by first|exact .inl rfl|exact .inr (.inl rfl)|exact .inr (.inr rfl)) (by decide) (by decide)) (@pv _ 0 _ _ (by rfl) (by first|exact .inl rfl|exact .inr (.inl rfl)|exact .inr (.inr rfl)) (by decide) (by decide))) ad (by rfl)) (by rfl)) (by rfl)) (by rfl)) (by decide) (by rfl) (by rfl))⟩) (by rfl) (by rfl) (by rfl) (by rfl) (by intro _;rfl) (by rfl) (by first|exact .inl rfl|exact .inr rfl|assumption)) (@ah _ _ _ (@bK _ _ _ _ (@gA _ _ _ _ _ _ _ _ _ _ _ _ abk abM abN fe (@pv _ 2 _ _ (by rfl) (by first|exact .inl rfl|exact .inr (.inl rfl)|exact .inr (.inr rfl)) (by decide) (by decide)) (@aa _ _ _ _ _ (@ao _ _ _ _ _ _ _ _ _ (@jj _ rfl) rfl B.isum PyProof.Rows.boot_sum (@aa _ _ _ _ _ (@pv _ 4 _ _ (by rfl) (by first|exact .inl rfl|exact .inr (.inl rfl)|exact .inr (.inr rfl)) (by decide) (by decide)) ad (by rfl)) (by decide) (by decide) (by rfl) (by rfl)) ad (by rfl)) (by rfl) (by rfl) (by rfl) (by rfl) (by rfl)) (by rfl)))) (by intro _;rfl)) (@ah _ _ _ (@ar _ _ _ _ (@pv _ 2 _ _ (by rfl) (by first|exact .inl rfl|exact .inr (.inl rfl)|exact .inr (.inr rfl)) (by decide) (by decide)))))),?_⟩;refine ⟨(by show 2≤sizeLine;decide),fun p np=>?_⟩;refine ⟨_,rfl,_,_,rfl,rfl,2,m+1,rfl,⟨by decide,by decide,by omega,by omega⟩,cT (n:=(m+1 - 2).toNat) (fun i σ H'=>∃ len by',σ=[some (.str z),some (.int m),some (.ref p),len,by']∧H' p=some (.lst ((cl z.length i).map V.int))∧Same H H') ⟨_,_,rfl,ag,Same.new np _⟩ ?_ ?_⟩
  · rintro i σ H1 hi ⟨len,by',rfl,e1,S1⟩;have i8:i≤7:=by omega
    have hl:=ir z.length i;refine ⟨_,rfl,1,_,rfl,⟨by decide,by decide,by omega,by omega⟩,fX (n:=(2+(i:Int) - 1).toNat) (fun j ys H'=>ys=((aaR j).map fun j=>wl z.length (cl z.length i) (i+2) (1+j)).map V.int∧H'=H1) ⟨rfl,rfl⟩ ?_ ?_ ?_⟩
    · rintro j ys H' hj ⟨rfl,rfl⟩;rw [aad,aad,List.length_range];exact aJ (by omega)
    · rintro j ys H' hj ⟨rfl,rfl⟩ nx;have bd:=gK z.length hz;have e2:2+(i:Int) - (1+(j:Int))=((i+2 - (1+j):Nat):Int):=by omega
      have e3:(1+(j:Int))=((1+j:Nat):Int):=by omega
      refine ⟨_,rfl,_,rfl,_,rfl,_,rfl,_,rfl,_,_,rfl,rfl,z,p,_,_,_,cn z.length (1+j),cn z.length (i+2 - (1+j)),rfl,hz,e1,?_,?_,(bd _ (by omega)).1,(bd _ (by omega)).2,nx ⟨?_,rfl⟩⟩
      · rw [e3];exact dL (by omega) (by omega)
      · rw [e2];exact dL (by omega) (by omega)
      · rw [List.range_succ,aaL,aaL];show _=_++[V.int (wl z.length (cl z.length i) (i+2) (1+j))];unfold wl;rw [l5 (by omega) (by omega),l5 (by omega) (by omega)]
    · rintro ys H' ⟨rfl,rfl⟩ p2 n2;have g2:=Same.new n2 (.lst (((aaR (2+(i:Int) - 1).toNat).map fun j=>wl z.length (cl z.length i) (i+2) (1+j)).map V.int));refine ⟨_,rfl,.inl ⟨rfl,_,SqL.of (g2 _ _ e1)⟩,_,rfl,p2,_,rfl,SqL.of ag,p,_,_,rfl,rfl,g2 _ _ e1,aJ (by rw [aad];omega),_,_,rfl,?_,?_⟩
      · rw [ag,← List.map_singleton,← aaL];have e4:(2+(i:Int) - 1).toNat=i+1:=by omega
        rw [e4];rfl
      · exact (S1.trans g2).upd np
  · rintro σ H1 ⟨len,by',rfl,e1,S1⟩;have e4:(m+1 - 2).toNat=(m - 1).toNat:=by omega
    rw [e4] at e1;exact ⟨_,rfl,q p H1 S1 np e1⟩
end
open PySem L2
theorem Paired.at {α β:Type} {F:α→β→Prop}:∀ {as:List α} {us:List β},Paired F as us→∀ {j:Nat} {x:β},us[j]?=some x→∃ a,as[j]?=some a∧F a x
  | _,_,.nil,j,x,h=>by simp at h
  | _,_,.cons a _,0,x,h=>by simp at h;subst h;exact ⟨_,rfl,a⟩
  | _,_,.cons _ b,j+1,x,h=>by
    obtain ⟨p,h1,h2⟩:=Paired.at b (j:=j) (x:=x) (by simpa using h);exact ⟨p,by simpa using h1,h2⟩
theorem gI (xs:List V) (c:Nat) (h:c≤xs.length):ed xs none (some (c:Int))=xs.take c:=by
  have e0:HT.sIx xs.length 0 none=0:=by simp [HT.sIx]
  have e1:HT.sIx xs.length xs.length (some (c:Int))=c:=by
    simp only [HT.sIx];split <;> omega
  unfold ed;rw [e0,e1,List.drop_zero];rfl
theorem fj (xs:List V) (c:Nat) (h:c≤xs.length):ed xs (some (c:Int)) none=xs.drop c:=by
  have e0:HT.sIx xs.length xs.length none=xs.length:=by simp [HT.sIx]
  have e1:HT.sIx xs.length 0 (some (c:Int))=c:=by
    simp only [HT.sIx];split <;> omega
  unfold ed;rw [e0,e1,aba (by rw [aaC];exact aab _)]
theorem fH (gs:List Sg):(ak gs).cps.all (· < 128)=true:=by
  rw [← Array.all_toList,bn,aaW];intro c hc;obtain ⟨g,_,rfl⟩:=abB.mp hc;cases g <;> decide
theorem mV {gs:List Sg} {i c:Nat} (h:(ak gs).cps[i]?=some c):∃ g,gs[i]?=some g∧c=g.code:=by
  have h2:(ak gs).cps.toList[i]?=some c:=by simpa using h
  rw [bn,aaF] at h2;obtain ⟨g,hg,e⟩:=aaT.mp h2;exact ⟨g,hg,e.symm⟩
theorem bI (gs:List Sg):(ak gs).cps.size=gs.length:=by
  have:=congrArg List.length (bn gs);simpa using this
def awC (a:List Int→List Wy) (gs:List Sg) (ns:List Int) (c:Nat):List Wy:=gs.flatMap fun g=>(a (ns.take c)).flatMap fun l=>(a (ns.drop c)).map fun r=>Wy.node g l r
def aw:Nat→List Sg→List Int→List Wy
  | 0,_,_=>[]
  | n+1,gs,ns=>if ns.length=1 then ns.map Wy.num else (aaR (ns.length - 1)).flatMap fun k=>awC (aw n gs) gs ns (k+1)
def lw:Nat→Nat→Nat→Nat
  | 0,_,_=>0
  | n+1,s,m=>if m=1 then 1 else ((aaR (m - 1)).map fun k=>s * (lw n s (k+1) * lw n s (m - (k+1)))).sum
theorem gc {α β:Type} (l:List α) (f:α→List β) (c:Nat) (h:∀ x∈l,(f x).length=c):(l.flatMap f).length=l.length * c:=by
  induction l with
  | nil=>simp
  | cons a r ih =>
    rw [aaQ,aat,h a aaw,ih fun x hx=>h x (aay _ hx),abH,Nat.succ_mul];omega
theorem mP (a:List Int→List Wy) (gs:List Sg) (ns:List Int) (c:Nat):(awC a gs ns c).length=gs.length * ((a (ns.take c)).length * (a (ns.drop c)).length):=by
  unfold awC;exact gc _ _ _ fun g _=>gc _ _ _ fun l _=>by rw [aad]
theorem gh:∀ (n:Nat) (gs:List Sg) (ns:List Int),(aw n gs ns).length=lw n gs.length ns.length
  | 0,_,_=>rfl
  | n+1,gs,ns=>by
    unfold aw lw;by_cases c:ns.length=1
    · rw [if_pos c,if_pos c,aad,c]
    · rw [if_neg c,if_neg c,List.length_flatMap];congr 1;refine List.map_congr_left fun k hk=>?_;have hk:=abu.mp hk;rw [mP,gh n gs,gh n gs,aas,aaC,Nat.min_eq_left (by omega)]
theorem mY:∀ n,n≤5→∀ s,s≤3→∀ m,m≤5→lw n s m≤1134:=by decide +kernel
theorem fg (gs:List Sg) (w:Wy):∀ (n:Nat) (ns:List Int),1≤ns.length→ns.length≤n→(w∈aw n gs ns↔w.nums=ns∧w.within gs):=by
  intro n
  induction n generalizing w with
  | zero=>intro ns h1 h2;omega
  | succ n ih =>
    intro ns h1 h2;unfold aw;by_cases c:ns.length=1
    · rw [if_pos c];obtain ⟨i,rfl⟩:∃ i,ns=[i]:=abV.mp c;constructor
      · intro h;simp at h;subst h;exact ⟨rfl,trivial⟩
      · rintro ⟨h,_⟩;cases w with
        | num j=>simp [Wy.nums] at h;subst h;simp
        | node g l r =>
          have:=congrArg List.length h;have a:=l.size_pos;have b:=r.size_pos;rw [Wy.nums_len] at this;have : l.size+r.size=1:=this;omega
    · rw [if_neg c,List.mem_flatMap];constructor
      · rintro ⟨k,hk,hw⟩;have hk:=abu.mp hk;unfold awC at hw;obtain ⟨g,hg,hw⟩:=aby.mp hw;obtain ⟨l,hl,hw⟩:=aby.mp hw;obtain ⟨r,hr,rfl⟩:=abB.mp hw;obtain ⟨e1,w1⟩:=(ih l (ns.take (k+1)) (by rw [aas];omega) (by rw [aas];omega)).mp hl;obtain ⟨e2,w2⟩:=(ih r (ns.drop (k+1)) (by rw [aaC];omega) (by rw [aaC];omega)).mp hr;exact ⟨by show l.nums++r.nums=ns;rw [e1,e2,aaI],hg,w1,w2⟩
      · rintro ⟨h,hw⟩;cases w with
        | num j=>have:=congrArg List.length h;simp [Wy.nums] at this;omega
        | node g l r =>
          have h:l.nums++r.nums=ns:=h;have a:=l.size_pos;have b:=r.size_pos;have ll:=l.nums_len;have lr:=r.nums_len;have hlen:l.size+r.size=ns.length:=by rw [← h,aat,ll,lr]
          have e1:ns.take (l.size - 1+1)=l.nums:=by rw [← h,show l.size - 1+1=l.nums.length by omega,List.take_left]
          have e2:ns.drop (l.size - 1+1)=r.nums:=by rw [← h,show l.size - 1+1=l.nums.length by omega,List.drop_left]
          refine ⟨l.size - 1,List.mem_range.mpr (by omega),?_⟩;unfold awC;refine List.mem_flatMap.mpr ⟨g,hw.1,List.mem_flatMap.mpr ⟨l,?_,List.mem_map.mpr ⟨r,?_,rfl⟩⟩⟩
          · rw [e1];exact (ih l l.nums (by omega) (by omega)).mpr ⟨rfl,hw.2.1⟩
          · rw [e2];exact (ih r r.nums (by omega) (by omega)).mpr ⟨rfl,hw.2.2⟩
theorem fO {α β:Type} {l:List α} {f:α→List β} {i:Nat} {x:α} {q:List β} (h:l[i]?=some x) (hq:q <+: f x):(l.take i).flatMap f++q <+: l.flatMap f:=by
  obtain ⟨hi,e⟩:=aag.mp h;obtain ⟨t,ht⟩:=hq;refine ⟨t++(l.drop (i+1)).flatMap f,?_⟩;have el:l=l.take i++x :: l.drop (i+1):=by
    rw [← e]
    conv=>lhs;rw [← aaI i l,aaP hi]
  conv=>rhs;rw [el,List.flatMap_append,aaQ,← ht]
  simp
theorem fh {α β:Type} {l:List α} {f:α→List β} {i:Nat} {x:α} (h:l[i]?=some x):(l.take (i+1)).flatMap f=(l.take i).flatMap f++f x:=by
  rw [aaK,h,List.flatMap_append];simp
theorem WyAll.app {H:Hp} {ws ws':List Wy} {us us':List V} (a:WyAll H ws us) (b:WyAll H ws' us'):WyAll H (ws++ws') (us++us'):=Paired.app a b
theorem fk {H:Hp} {ws:List Wy} {us:List V} (h:WyAll H ws us) {j:Nat} {x:V} (e:us[j]?=some x):∃ w,ws[j]?=some w∧WyIn H w x:=Paired.at h e
def prs (s n:Nat):Nat→Int
  | 0=>0
  | j+1=>prs s n j+(s:Int) * cn s (1+j) * cn s (n - (1+j))
theorem mz:∀ s≤3,∀ n≤9,2≤n→prs s n (n - 1)=cn s n:=by decide +kernel
theorem nM:∀ s≤3,cn s 1=1:=by decide +kernel
theorem lh {s n:Nat} (hs:s≤3) (hn:n≤9) {j:Nat} (hj:j+1≤n - 1):prs s n j≤prs s n (j+1):=by
  show _≤prs s n j+(s:Int) * cn s (1+j) * cn s (n - (1+j));have a:=(gK s hs (1+j) (by omega)).1;have b:=(gK s hs (n - (1+j)) (by omega)).1;have c:=ab1 (ab1 (Int.natCast_nonneg s) a) b;omega
theorem cA {s n:Nat} (hs:s≤3) (hn:n≤9) {i:Nat}:∀ {j:Nat},i≤j→j≤n - 1→prs s n i≤prs s n j
  | 0,h,_=>by rw [show i=0 by omega];exact aaJ _
  | j+1,h,hj=>by
    by_cases e:i=j+1
    · rw [e];exact aaJ _
    · exact Int.le_trans (cA hs hn (j:=j) (by omega) (by omega)) (lh hs hn hj)
def Wy.nr (gs:List Sg):Wy→Int
  | .num _=>0
  | .node g l r=>prs gs.length (l.size+r.size) (l.size - 1)+((((gs.idxOf g:Nat):Int) * cn gs.length l.size+l.nr gs) * cn gs.length r.size+r.nr gs)
theorem fV {i s A C a c:Int} (i0:0≤i) (i1:i+1≤s) (a0:0≤a) (a1:a < A) (c0:0≤c) (c1:c < C) :
    0≤(i * A+a) * C+c∧(i * A+a) * C+c < s * A * C∧((i * A+a) * C+c) / C=i * A+a∧((i * A+a) * C+c) % C=c∧(i * A+a) / A=i∧(i * A+a) % A=a:=by
  have A0:0 < A:=by omega
  have C0:0 < C:=by omega
  have m0:0≤i * A+a:=Int.add_nonneg (ab1 i0 (ab4 A0)) a0;have m1:i * A+a+1≤s * A:=by
    have:=aaD i1 (ab4 A0);rw [abW,abX] at this;omega
  have m2:=aaD m1 (ab4 C0);rw [abW,abX] at m2;have u1:=(Int.ediv_emod_unique C0 (a:=(i * A+a) * C+c) (q:=i * A+a) (r:=c)).mpr ⟨by rw [Int.mul_comm C,Int.add_comm],c0,c1⟩;have u2:=(Int.ediv_emod_unique A0 (a:=i * A+a) (q:=i) (r:=a)).mpr ⟨by rw [Int.mul_comm A,Int.add_comm],a0,a1⟩;exact ⟨Int.add_nonneg (ab1 m0 (ab4 C0)) c0,by omega,u1.1,u1.2,u2.1,u2.2⟩
theorem f_ {gs:List Sg} {g:Sg} (h:g∈gs):gs.idxOf g < gs.length∧gs[gs.idxOf g]?=some g:=by
  have h1:=List.idxOf_lt_length_of_mem h;exact ⟨h1,by rw [aae h1,List.getElem_idxOf h1]⟩
theorem Wy.nr_bd {gs:List Sg} (hs:gs.length≤3):∀ w:Wy,w.within gs→w.size≤9→0≤w.nr gs∧w.nr gs < cn gs.length w.size
  | .num i,_,_=>by
    show (0:Int)≤0∧(0:Int) < cn gs.length 1;rw [nM _ hs];decide
  | .node g l r,h,h9=>by
    have h9:l.size+r.size≤9:=h9;have l1:=l.size_pos;have r1:=r.size_pos;obtain ⟨a0,a1⟩:=Wy.nr_bd hs l h.2.1 (by omega);obtain ⟨c0,c1⟩:=Wy.nr_bd hs r h.2.2 (by omega);obtain ⟨i1,_⟩:=f_ h.1;obtain ⟨e0,e1,_⟩:=fV (i:=((gs.idxOf g:Nat):Int)) (s:=gs.length) (by omega) (by omega) a0 a1 c0 c1;have p0:=cA hs h9 (i:=0) (j:=l.size - 1) (aaB _) (by omega);have p0:0≤prs gs.length (l.size+r.size) (l.size - 1):=p0;have p1:=cA hs h9 (i:=l.size - 1+1) (j:=l.size+r.size - 1) (by omega) (by omega);rw [mz _ hs _ h9 (by omega)] at p1;have p1:prs gs.length (l.size+r.size) (l.size - 1)+(gs.length:Int) * cn gs.length (1+(l.size - 1)) * cn gs.length (l.size+r.size - (1+(l.size - 1)))≤cn gs.length (l.size+r.size):=p1;rw [show 1+(l.size - 1)=l.size by omega,show l.size+r.size - l.size=r.size by omega] at p1;show 0≤prs _ _ _+_∧prs _ _ _+_ < cn gs.length (l.size+r.size);omega
theorem lJ {gs:List Sg} (nd:gs.Nodup):gs.Pairwise fun a b=>gs.idxOf a < gs.idxOf b:=by
  rw [List.pairwise_iff_getElem];intro i j hi hj hij;rw [List.Nodup.idxOf_getElem nd i hi,List.Nodup.idxOf_getElem nd j hj];exact hij
theorem da {gs:List Sg} {g:Sg} {l r:Wy} {n k:Nat} (hl:l.size=k+1) (hr:l.size+r.size=n):(Wy.node g l r).nr gs=prs gs.length n k+((((gs.idxOf g:Nat):Int) * cn gs.length (k+1)+l.nr gs) * cn gs.length (n - (k+1))+r.nr gs):=by
  show prs gs.length (l.size+r.size) (l.size - 1)+_=_;rw [hr,hl,show r.size=n - (k+1) by omega];rfl
theorem fB {gs:List Sg} (hs:gs.length≤3) (nd:gs.Nodup):∀ (n:Nat) (ns:List Int),1≤ns.length→ns.length≤n→n≤9→(aw n gs ns).Pairwise fun v w=>v.nr gs < w.nr gs
  | 0,ns,h1,h2,_=>by omega
  | n+1,ns,h1,h2,h9=>by
    unfold aw;by_cases c:ns.length=1
    · rw [if_pos c];obtain ⟨a,rfl⟩:=abV.mp c;simp
    rw [if_neg c];have mem1:∀ k,k < ns.length - 1→∀ l∈aw n gs (ns.take (k+1)),l.size=k+1∧l.within gs:=fun k hk l hl=>by
      obtain ⟨e,w⟩:=(fg gs l n (ns.take (k+1)) (by rw [aas];omega) (by rw [aas];omega)).mp hl;refine ⟨?_,w⟩;rw [← l.nums_len,e,aas];omega
    have mem2:∀ k,k < ns.length - 1→∀ r∈aw n gs (ns.drop (k+1)),r.size=ns.length - (k+1)∧r.within gs:=fun k hk r hr=>by
      obtain ⟨e,w⟩:=(fg gs r n (ns.drop (k+1)) (by rw [aaC];omega) (by rw [aaC];omega)).mp hr;refine ⟨?_,w⟩;rw [← r.nums_len,e,aaC]
    have inN:∀ k,k < ns.length - 1→∀ w∈awC (aw n gs) gs ns (k+1),prs gs.length ns.length k≤w.nr gs∧w.nr gs < prs gs.length ns.length (k+1):=fun k hk w hw=>by
      unfold awC at hw;obtain ⟨g,hg,hw⟩:=aby.mp hw;obtain ⟨l,hl,hw⟩:=aby.mp hw;obtain ⟨r,hr,rfl⟩:=abB.mp hw;obtain ⟨l1,l2⟩:=mem1 k hk l hl;obtain ⟨r1,r2⟩:=mem2 k hk r hr;have bl:=l.nr_bd hs l2 (by omega);have br:=r.nr_bd hs r2 (by omega);rw [l1] at bl;rw [r1] at br;obtain ⟨i1,_⟩:=f_ hg;obtain ⟨e0,e1,_⟩:=fV (i:=((gs.idxOf g:Nat):Int)) (s:=gs.length) (by omega) (by omega) bl.1 bl.2 br.1 br.2;rw [da (n:=ns.length) l1 (by omega)];show _∧_ < prs gs.length ns.length k+(gs.length:Int) * cn gs.length (1+k) * cn gs.length (ns.length - (1+k));rw [Nat.add_comm 1 k];omega
    rw [ab5];refine ⟨fun k hk=>?_,?_⟩
    · have hk:=abu.mp hk;unfold awC;rw [ab5];refine ⟨fun g hg=>?_,(lJ nd).imp ?_⟩
      · rw [ab5];refine ⟨fun l hl=>?_,?_⟩
        · rw [abY];obtain ⟨l1,l2⟩:=mem1 k hk l hl;have ih:=fB hs nd n (ns.drop (k+1)) (by rw [aaC];omega) (by rw [aaC];omega) (by omega);refine ih.imp_of_mem fun {r r'} hr hr' h=>?_;rw [da (n:=ns.length) l1 (by have:=(mem2 k hk r hr).1;omega),da (n:=ns.length) l1 (by have:=(mem2 k hk r' hr').1;omega)];omega
        · have ih:=fB hs nd n (ns.take (k+1)) (by rw [aas];omega) (by rw [aas];omega) (by omega);refine ih.imp_of_mem fun {l l'} hl hl' h x hx y hy=>?_;obtain ⟨r,hr,rfl⟩:=abB.mp hx;obtain ⟨r',hr',rfl⟩:=abB.mp hy;obtain ⟨l1,l2⟩:=mem1 k hk l hl;obtain ⟨l1',l2'⟩:=mem1 k hk l' hl';obtain ⟨r1,r2⟩:=mem2 k hk r hr;obtain ⟨r1',r2'⟩:=mem2 k hk r' hr';have br:=r.nr_bd hs r2 (by omega);have br':=r'.nr_bd hs r2' (by omega);rw [r1] at br;rw [da (n:=ns.length) l1 (by omega),da (n:=ns.length) l1' (by omega)];have:=aaD (show ((gs.idxOf g:Nat):Int) * cn gs.length (k+1)+l.nr gs+1≤((gs.idxOf g:Nat):Int) * cn gs.length (k+1)+l'.nr gs by omega) (show 0≤cn gs.length (ns.length - (k+1)) by omega);rw [abW _ 1,abX] at this;omega
      · intro g g' hgg x hx y hy;obtain ⟨l,hl,hx⟩:=aby.mp hx;obtain ⟨r,hr,rfl⟩:=abB.mp hx;obtain ⟨l',hl',hy⟩:=aby.mp hy;obtain ⟨r',hr',rfl⟩:=abB.mp hy;obtain ⟨l1,l2⟩:=mem1 k hk l hl;obtain ⟨l1',l2'⟩:=mem1 k hk l' hl';obtain ⟨r1,r2⟩:=mem2 k hk r hr;obtain ⟨r1',r2'⟩:=mem2 k hk r' hr';have br:=r.nr_bd hs r2 (by omega);have br':=r'.nr_bd hs r2' (by omega);have bl:=l.nr_bd hs l2 (by omega);have bl':=l'.nr_bd hs l2' (by omega);rw [r1] at br;rw [l1] at bl;rw [da (n:=ns.length) l1 (by omega),da (n:=ns.length) l1' (by omega)];have m1:=aaD (show ((gs.idxOf g:Nat):Int)+1≤((gs.idxOf g':Nat):Int) by omega) (show 0≤cn gs.length (k+1) by omega);rw [abW,abX] at m1;have:=aaD (show ((gs.idxOf g:Nat):Int) * cn gs.length (k+1)+l.nr gs+1≤((gs.idxOf g':Nat):Int) * cn gs.length (k+1)+l'.nr gs by omega) (show 0≤cn gs.length (ns.length - (k+1)) by omega);rw [abW _ 1,abX] at this;omega
    · refine (List.pairwise_lt_range (n:=ns.length - 1)).imp_of_mem fun {k k'} hk hk' h x hx y hy=>?_;have hk:=abu.mp hk;have hk':=abu.mp hk';have a:=inN k hk x hx;have b:=inN k' hk' y hy;have:=cA hs (n:=ns.length) (by omega) (i:=k+1) (j:=k') (by omega) (by omega);omega
section
variable {P:Program} {w:World} {K:aaa} {mg:Str→Option Value} {base:Heap} {f:Addr} {fd:FuncData}
def gU (n:Nat):Sp:=fun vs H Q _=>∃ (gs:List Sg) (pr pc:Addr) (wy:Wy) (k:Nat),vs=[.ref pr,.str (ak gs),.ref pc,.int (wy.nr gs)]∧gs.length≤3∧H pr=some (.lst (wy.nums.map V.int))∧H pc=some (.lst ((cl gs.length k).map V.int))∧k≤8∧wy.size≤k+1∧wy.size≤n∧wy.within gs∧∀ v H',Same H H'→WyIn H' wy v→Q v H'
abbrev fL:Stmt:=top 30
theorem aZ:FnScope ["row","signs","counts","number","many","left","both","right_number","place","left_number","left_way","right_way"] ["row","signs","counts","number"] (ap fL):=⟨rfl,rfl,rfl,by decide +kernel,rfl,by decide +kernel,by decide +kernel⟩
theorem kF (F:Fun K "way_at" "way_at" fL f fd) (bF:Binds K fd ["row","signs","counts","number"] []) (mF:mg "way_at" = some (.ref f)) (B:Bu K mg) (C_ways_by_cut:Cal P w K mg base "ways_by_cut" 1 ["signs","counts","left","right"] iF):∀ n,FnOk P w K mg base CX0 (n+2) f fd ["row","signs","counts","number"] (gU n):=by
  intro n
  induction n with
  | zero =>
    refine ⟨fun vs H Q E h=>?_,fun A outer s H args us vs Q E _ _ _ _ h=>?_⟩
    · obtain ⟨gs,pr,pc,wy,k,rfl,_⟩:=h;rfl
    · obtain ⟨gs,pr,pc,wy,k,_,_,_,_,_,_,h2,_⟩:=h;have:=wy.size_pos;omega
  | succ n ih =>
    have C_way_at:Cal P w K mg base "way_at" (n+2) ["row","signs","counts","number"] (gU n):=⟨f,fd,ih,bF,F.kp,mF⟩
    refine F.ok aZ (fun vs H Q E h=>?_) (fun cdv A outer s H vs Q E hr h=>?_)
    · obtain ⟨gs,pr,pc,wy,k,rfl,_⟩:=h;rfl
    obtain ⟨gs,pr,pc,wy,k,rfl,hz,hr',hc,hk,hnk,hn,hwi,q⟩:=h;refine ⟨_,(@af _ _ _ _ _ (@aB _ _ (4) _ _ _ _ (aZ).nd rfl (Or.inl rfl) (@ao _ _ _ _ _ _ _ _ _ aq rfl B.ilen aau (@aa _ _ _ _ _ (@pv _ 0 _ _ (by rfl) (by first|exact .inl rfl|exact .inr (.inl rfl)|exact .inr (.inr rfl)) (by decide) (by decide)) ad (by rfl)) (by decide) (by decide) (by rfl) (by rfl)) (by rfl) (by first|exact .inl rfl|exact .inr rfl|assumption)) (@af _ _ _ _ _ (@a8 _ _ _ _ _ _ _ _ (@aM _ _ _ _ _ _ _ _ eG (@pv _ 4 _ _ (by rfl) (by first|exact .inl rfl|exact .inr (.inl rfl)|exact .inr (.inr rfl)) (by decide) (by decide)) ae (aL _)) (@ah _ _ _ (@ar _ _ _ _ (@aI _ _ _ _ _ _ _ aC (@pv _ 0 _ _ (by rfl) (by first|exact .inl rfl|exact .inr (.inl rfl)|exact .inr (.inr rfl)) (by decide) (by decide)) ae (fun _ _=>rfl)))) aE) (@af _ _ _ _ _ (@aB _ _ (5) _ _ _ _ (aZ).nd rfl (Or.inl rfl) ae (by rfl) (by first|exact .inl rfl|exact .inr rfl|assumption)) (@af _ _ _ _ _ (@iX _ _ _ _ _ _ aaO (@aM _ _ _ _ _ _ _ _ mX (@pv _ 3 _ _ (by rfl) (by first|exact .inl rfl|exact .inr (.inl rfl)|exact .inr (.inr rfl)) (by decide) (by decide)) (@ai _ _ _ _ _ _ _ _ _ _ _ C_ways_by_cut hr (by omega) rfl (@aa _ _ _ _ _ (@pv _ 1 _ _ (by rfl) (by first|exact .inl rfl|exact .inr (.inl rfl)|exact .inr (.inr rfl)) (by decide) (by decide)) (@aa _ _ _ _ _ (@pv _ 2 _ _ (by rfl) (by first|exact .inl rfl|exact .inr (.inl rfl)|exact .inr (.inr rfl)) (by decide) (by decide)) (@aa _ _ _ _ _ (@pv _ 5 _ _ (by rfl) (by first|exact .inl rfl|exact .inr (.inl rfl)|exact .inr (.inr rfl)) (by decide) (by decide)) (@aa _ _ _ _ _ (@av _ _ _ _ _ _ _ _ bG (@pv _ 4 _ _ (by rfl) (by first|exact .inl rfl|exact .inr (.inl rfl)|exact .inr (.inr rfl)) (by decide) (by decide)) (@pv _ 5 _ _ (by rfl) (by first|exact .inl rfl|exact .inr (.inl rfl)|exact .inr (.inr rfl)) (by decide) (by decide))) ad (by rfl)) (by rfl)) (by rfl)) (by rfl)) (by decide) (by rfl) (by rfl)) (aL _)) (@af _ _ _ _ _ (@jz _ _ (3) _ _ _ _ _ _ (aZ).nd rfl (Or.inl rfl) (@ai _ _ _ _ _ _ _ _ _ _ _ C_ways_by_cut hr (by omega) rfl (@aa _ _ _ _ _ (@pv _ 1 _ _ (by rfl) (by first|exact .inl rfl|exact .inr (.inl rfl)|exact .inr (.inr rfl)) (by decide) (by decide)) (@aa _ _ _ _ _ (@pv _ 2 _ _ (by rfl) (by first|exact .inl rfl|exact .inr (.inl rfl)|exact .inr (.inr rfl)) (by decide) (by decide)) (@aa _ _ _ _ _ (@pv _ 5 _ _ (by rfl) (by first|exact .inl rfl|exact .inr (.inl rfl)|exact .inr (.inr rfl)) (by decide) (by decide)) (@aa _ _ _ _ _ (@av _ _ _ _ _ _ _ _ bG (@pv _ 4 _ _ (by rfl) (by first|exact .inl rfl|exact .inr (.inl rfl)|exact .inr (.inr rfl)) (by decide) (by decide)) (@pv _ 5 _ _ (by rfl) (by first|exact .inl rfl|exact .inr (.inl rfl)|exact .inr (.inr rfl)) (by decide) (by decide))) ad (by rfl)) (by rfl)) (by rfl)) (by rfl)) (by decide) (by rfl) (by rfl)) nJ (by first|exact .inl rfl|exact .inr rfl|assumption)) (@ah _ _ _ (@jz _ _ (5) _ _ _ _ _ _ (aZ).nd rfl (Or.inl rfl) ae lI (by first|exact .inl rfl|exact .inr rfl|assumption))))) (@af _ _ _ _ _ (@d7 _ _ _ _ _ _ (@ao _ _ _ _ _ _ _ _ _ ft rfl B.idivmod PyProof.Rows.boot_divmod (@aa _ _ _ _ _ (@pv _ 3 _ _ (by rfl) (by first|exact .inl rfl|exact .inr (.inl rfl)|exact .inr (.inr rfl)) (by decide) (by decide)) (@aa _ _ _ _ _ (@aI _ _ _ _ _ _ _ aC (@pv _ 2 _ _ (by rfl) (by first|exact .inl rfl|exact .inr (.inl rfl)|exact .inr (.inr rfl)) (by decide) (by decide)) (@av _ _ _ _ _ _ _ _ bG (@pv _ 4 _ _ (by rfl) (by first|exact .inl rfl|exact .inr (.inl rfl)|exact .inr (.inr rfl)) (by decide) (by decide)) (@pv _ 5 _ _ (by rfl) (by first|exact .inl rfl|exact .inr (.inl rfl)|exact .inr (.inr rfl)) (by decide) (by decide))) (fun _ _=>rfl)) ad (by rfl)) (by rfl)) (by decide) (by decide) (by rfl) (by rfl)) (@dw _ _ _ _ _ _ rfl (@aH _ _ _ _ _ (@au _ _ (6) _ (aZ).nd rfl (Or.inl rfl) (.inl rfl)) (@aH _ _ _ _ _ (@au _ _ (7) _ (aZ).nd rfl (Or.inl rfl) (.inl rfl)) cI (by rfl)) (by rfl)) (by rfl) (by rfl)) (by rfl) (by rfl) (by rfl)) (@af _ _ _ _ _ (@d7 _ _ _ _ _ _ (@ao _ _ _ _ _ _ _ _ _ ft rfl B.idivmod PyProof.Rows.boot_divmod (@aa _ _ _ _ _ (@pv _ 6 _ _ (by rfl) (by first|exact .inl rfl|exact .inr (.inl rfl)|exact .inr (.inr rfl)) (by decide) (by decide)) (@aa _ _ _ _ _ (@aI _ _ _ _ _ _ _ aC (@pv _ 2 _ _ (by rfl) (by first|exact .inl rfl|exact .inr (.inl rfl)|exact .inr (.inr rfl)) (by decide) (by decide)) (@pv _ 5 _ _ (by rfl) (by first|exact .inl rfl|exact .inr (.inl rfl)|exact .inr (.inr rfl)) (by decide) (by decide)) (fun _ _=>rfl)) ad (by rfl)) (by rfl)) (by decide) (by decide) (by rfl) (by rfl)) (@dw _ _ _ _ _ _ rfl (@aH _ _ _ _ _ (@au _ _ (8) _ (aZ).nd rfl (Or.inl rfl) (.inl rfl)) (@aH _ _ _ _ _ (@au _ _ (9) _ (aZ).nd rfl (Or.inl rfl) (.inl rfl)) cI (by rfl)) (by rfl)) (by rfl) (by rfl)) (by rfl) (by rfl) (by rfl)) (@af _ _ _ _ _ (@aB _ _ (10) _ _ _ _ (aZ).nd rfl (Or.inl rfl) (@ai _ _ _ _ _ _ _ _ _ _ _ C_way_at hr (by omega) rfl (@aa _ _ _ _ _ (@bQ _ _ _ _ _ _ _ _ _ _ cF (@pv _ 0 _ _ (by rfl) (by first|exact .inl rfl|exact .inr (.inl rfl)|exact .inr (.inr rfl)) (by decide) (by decide)) cH (@cG _ _ _ (@pv _ 5 _ _ (by rfl) (by first|exact .inl rfl|exact .inr (.inl rfl)|exact .inr (.inr rfl)) (by decide) (by decide)))) (@aa _ _ _ _ _ (@pv _ 1 _ _ (by rfl) (by first|exact .inl rfl|exact .inr (.inl rfl)|exact .inr (.inr rfl)) (by decide) (by decide)) (@aa _ _ _ _ _ (@pv _ 2 _ _ (by rfl) (by first|exact .inl rfl|exact .inr (.inl rfl)|exact .inr (.inr rfl)) (by decide) (by decide)) (@aa _ _ _ _ _ (@pv _ 9 _ _ (by rfl) (by first|exact .inl rfl|exact .inr (.inl rfl)|exact .inr (.inr rfl)) (by decide) (by decide)) ad (by rfl)) (by rfl)) (by rfl)) (by rfl)) (by decide) (by rfl) (by rfl)) (by rfl) (by first|exact .inl rfl|exact .inr rfl|assumption)) (@af _ _ _ _ _ (@aB _ _ (11) _ _ _ _ (aZ).nd rfl (Or.inl rfl) (@ai _ _ _ _ _ _ _ _ _ _ _ C_way_at hr (by omega) rfl (@aa _ _ _ _ _ (@bQ _ _ _ _ _ _ _ _ _ _ cF (@pv _ 0 _ _ (by rfl) (by first|exact .inl rfl|exact .inr (.inl rfl)|exact .inr (.inr rfl)) (by decide) (by decide)) (@cG _ _ _ (@pv _ 5 _ _ (by rfl) (by first|exact .inl rfl|exact .inr (.inl rfl)|exact .inr (.inr rfl)) (by decide) (by decide))) cH) (@aa _ _ _ _ _ (@pv _ 1 _ _ (by rfl) (by first|exact .inl rfl|exact .inr (.inl rfl)|exact .inr (.inr rfl)) (by decide) (by decide)) (@aa _ _ _ _ _ (@pv _ 2 _ _ (by rfl) (by first|exact .inl rfl|exact .inr (.inl rfl)|exact .inr (.inr rfl)) (by decide) (by decide)) (@aa _ _ _ _ _ (@pv _ 7 _ _ (by rfl) (by first|exact .inl rfl|exact .inr (.inl rfl)|exact .inr (.inr rfl)) (by decide) (by decide)) ad (by rfl)) (by rfl)) (by rfl)) (by rfl)) (by decide) (by rfl) (by rfl)) (by rfl) (by first|exact .inl rfl|exact .inr rfl|assumption)) (@ah _ _ _ (@ar _ _ _ _ (@dy _ _ _ _ _ (@aa _ _ _ _ _ (@aI _ _ _ _ _ _ _ lF (@pv _ 1 _ _ (by rfl) (by first|exact .inl rfl|exact .inr (.inl rfl)|exact .inr (.inr rfl)) (by decide) (by decide)) (@pv _ 8 _ _ (by rfl) (by first|exact .inl rfl|exact .inr (.inl rfl)|exact .inr (.inr rfl)) (by decide) (by decide)) (fun _ _=>rfl)) (@aa _ _ _ _ _ (@pv _ 10 _ _ (by rfl) (by first|exact .inl rfl|exact .inr (.inl rfl)|exact .inr (.inr rfl)) (by decide) (by decide)) (@aa _ _ _ _ _ (@pv _ 11 _ _ (by rfl) (by first|exact .inl rfl|exact .inr (.inl rfl)|exact .inr (.inr rfl)) (by decide) (by decide)) ad (by rfl)) (by rfl)) (by rfl))))))))))))),?_⟩;have zl:(ak gs).length=gs.length:=bI gs;refine ⟨_,rfl,pr,_,rfl,.inl (SqL.of hr'),?_⟩;rw [aad,wy.nums_len];cases wy with
    | num a =>
      refine ⟨_,rfl,rfl,true,congrArg V.bl (decide_eq_true rfl),cD ?_⟩;exact ⟨_,rfl,pr,_,_,_,rfl,rfl,SqL.of hr',rfl,q _ _ (Same.refl _) rfl⟩
    | node g l r =>
    have l1:=l.size_pos;have r1:=r.size_pos;have hnk:l.size+r.size≤k+1:=hnk;have hn:l.size+r.size≤n+1:=hn;have h9:l.size+r.size≤9:=by omega
    obtain ⟨N,hN⟩:∃ N,N=l.size+r.size:=⟨_,rfl⟩
    show _;have eN:(Wy.node g l r).size=N:=by rw [hN];rfl
    rw [eN];refine ⟨_,rfl,rfl,false,congrArg V.bl (decide_eq_false (fun e=>by injection e with e;omega)),a_ ?_⟩;have bd:=gK gs.length hz;obtain ⟨a0,a1⟩:=Wy.nr_bd hz l hwi.2.1 (by omega);obtain ⟨c0,c1⟩:=Wy.nr_bd hz r hwi.2.2 (by omega);obtain ⟨i1,ig⟩:=f_ hwi.1;obtain ⟨x0,hx0⟩:∃ x0,x0=(((gs.idxOf g:Nat):Int) * cn gs.length l.size+l.nr gs) * cn gs.length r.size+r.nr gs:=⟨_,rfl⟩
    obtain ⟨e0,e1,e2,e3,e4,e5⟩:=fV (i:=((gs.idxOf g:Nat):Int)) (s:=gs.length) (by omega) (by omega) a0 a1 c0 c1;rw [← hx0] at e0 e1 e2 e3;have enr:(Wy.node g l r).nr gs=prs gs.length N (l.size - 1)+x0:=by rw [hN,hx0];rfl
    rw [enr];obtain ⟨p0,hp0⟩:∃ p0,p0=prs gs.length N (l.size - 1):=⟨_,rfl⟩
    rw [← hp0];refine ⟨fun mm σ H'=>∃ (j:Nat) (x:Int),σ=[some (.ref pr),some (.str (ak gs)),some (.ref pc),some (.int x),some (.int (N:Nat)),some (.int (1+(j:Int))),none,none,none,none,none,none]∧H=H'∧x=p0+x0 - prs gs.length N j∧j≤l.size - 1∧mm=l.size - j,?_,?_⟩
    · exact ⟨_,0,p0+x0,rfl,rfl,by show _=p0+x0 - 0;omega,aaB _,rfl⟩
    rintro mm σ H' ⟨j,x,rfl,rfl,hx,jm,rfl⟩;have e3':(1+(j:Int))=((1+j:Nat):Int):=by omega
    have e2':((N:Nat):Int) - (1+(j:Int))=((N - (1+j):Nat):Int):=by omega
    have at1:atI ((cl gs.length k).map V.int) (1+(j:Int))=some (.int (cn gs.length (1+j))):=by rw [e3'];exact dL hk (by omega)
    have at2:atI ((cl gs.length k).map V.int) (((N:Nat):Int) - (1+(j:Int)))=some (.int (cn gs.length (N - (1+j)))):=by rw [e2'];exact dL hk (by omega)
    have b1:=bd (1+j) (by omega);have b2:=bd (N - (1+j)) (by omega);refine ⟨_,rfl,_,rfl,_,rfl,_,rfl,_,rfl,_,rfl,_,_,rfl,rfl,ak gs,pc,_,_,_,_,_,rfl,by omega,hc,at1,at2,b2.1,b2.2,_,_,rfl,rfl,?_⟩;rw [zl];have hst:prs gs.length N (j+1)=prs gs.length N j+(gs.length:Int) * cn gs.length (1+j) * cn gs.length (N - (1+j)):=rfl;by_cases c:j < l.size - 1
    · have hm:=cA hz (n:=N) (by omega) (i:=j+1) (j:=l.size - 1) (by omega) (by omega);rw [← hp0,hst] at hm;have cge:x ≥ (gs.length:Int) * cn gs.length (1+j) * cn gs.length (N - (1+j)):=by omega
      refine ⟨true,congrArg V.bl (decide_eq_true cge),cD ⟨fun σ' H'=>∃ m',m' < l.size - j∧∃ (j:Nat) (x:Int),σ'=[some (.ref pr),some (.str (ak gs)),some (.ref pc),some (.int x),some (.int (N:Nat)),some (.int (1+(j:Int))),none,none,none,none,none,none]∧H=H'∧x=p0+x0 - prs gs.length N j∧j≤l.size - 1∧m'=l.size - j,fun _ _ h=>h,?_⟩⟩;refine ⟨_,rfl,_,rfl,_,rfl,_,rfl,_,rfl,_,rfl,_,_,rfl,rfl,ak gs,pc,_,_,_,_,_,rfl,by omega,hc,at1,at2,b2.1,b2.2,_,_,rfl,rfl,?_⟩;rw [zl];refine ⟨_,rfl,_,_,rfl,rfl,l.size - (j+1),by omega,j+1,x - (gs.length:Int) * cn gs.length (1+j) * cn gs.length (N - (1+j)),?_,rfl,by rw [hst];omega,by omega,rfl⟩;have e5:(1+(j:Int))+1=1+((j+1:Nat):Int):=by omega
      show [_,_,_,_,_,some (V.int ((1+(j:Int))+1)),_,_,_,_,_,_]=_;rw [e5]
    have ej:j=l.size - 1:=by omega
    have ex:x=x0:=by rw [hx,ej,← hp0];omega
    have eA:1+j=l.size:=by omega
    have eC:N - (1+j)=r.size:=by omega
    rw [eC] at at2 b2 ⊢;rw [eA] at at1 b1 ⊢;have cl':¬ (x ≥ (gs.length:Int) * cn gs.length l.size * cn gs.length r.size):=by rw [ex];omega
    refine ⟨false,congrArg V.bl (decide_eq_false cl'),a_ ?_⟩;clear cl' hx;subst ex;have A0:0 < cn gs.length l.size:=by omega
    have C0:0 < cn gs.length r.size:=by omega
    have eL:l.nums=(l.nums++r.nums).take l.size:=by rw [← l.nums_len,List.take_left]
    have eR:r.nums=(l.nums++r.nums).drop l.size:=by rw [← l.nums_len,List.drop_left]
    refine ⟨_,rfl,_,rfl,_,rfl,_,rfl,_,_,rfl,rfl,pc,_,_,_,rfl,rfl,SqL.of hc,at2,x,cn gs.length r.size,rfl,⟨C0,by omega⟩,fun t1 n1=>?_⟩;rw [e2,e3];have g1:=Same.new n1 (.tup [.int (((gs.idxOf g:Nat):Int) * cn gs.length l.size+l.nr gs),.int (r.nr gs)]);refine ⟨t1,_,rfl,SqT.of ag,rfl,_,_,rfl,_,_,rfl,rfl,?_⟩;refine ⟨_,rfl,_,rfl,_,rfl,pc,_,_,_,rfl,rfl,SqL.of (g1 _ _ hc),at1,((gs.idxOf g:Nat):Int) * cn gs.length l.size+l.nr gs,cn gs.length l.size,rfl,⟨A0,by omega⟩,fun t2 n2=>?_⟩;rw [e4,e5];have g2:=g1.trans (Same.new n2 (.tup [.int ((gs.idxOf g:Nat):Int),.int (l.nr gs)]));refine ⟨t2,_,rfl,SqT.of ag,rfl,_,_,rfl,_,_,rfl,rfl,?_⟩;have ln:(l.nums++r.nums).length=l.size+r.size:=by rw [aat,l.nums_len,r.nums_len]
    have hr2:H pr=some (.lst ((l.nums++r.nums).map V.int)):=hr';refine ⟨_,rfl,_,rfl,_,rfl,pr,_,rfl,SqL.of (g2 _ _ hr2),fun s1 m1=>?_⟩;rw [e3',eA,gI _ l.size (by rw [aad];omega),← List.map_take,← eL];have g3:=g2.trans (Same.new m1 (.lst (l.nums.map V.int)));refine ⟨_,rfl,_,rfl,_,rfl,gs,s1,pc,l,k,rfl,hz,ag,g3 _ _ hc,hk,by omega,by omega,hwi.2.1,fun lv H4 g4 hlv=>?_⟩;have G4:=g3.trans g4;refine ⟨_,rfl,_,rfl,_,rfl,pr,_,rfl,SqL.of (G4 _ _ hr2),fun s2 m2=>?_⟩;rw [fj _ l.size (by rw [aad];omega),← abR,← eR];have s5:=Same.new m2 (.lst (r.nums.map V.int));have g5:=G4.trans s5;refine ⟨_,rfl,_,rfl,_,rfl,gs,s2,pc,r,k,rfl,hz,ag,g5 _ _ hc,hk,by omega,by omega,hwi.2.2,fun rv H6 g6 hrv=>?_⟩;have G6:=g5.trans g6;have hat:atI (ak gs).cps.toList ((gs.idxOf g:Nat):Int)=some g.code:=df (by rw [bn,aaF,ig];rfl);refine ⟨_,rfl,_,rfl,ak gs,_,g.code,rfl,rfl,b9 (by omega),hat,_,rfl,_,rfl,(by show 3≤sizeLine;decide),fun t7 n7=>?_⟩;have s7:=Same.new n7 (.tup [.str ⟨#[g.code]⟩,lv,rv]);refine q _ _ (G6.trans s7) ⟨t7,lv,rv,rfl,?_,hlv.mono (Tups.of ((s5.trans g6).trans s7)),hrv.mono (Tups.of s7)⟩;rw [ag,bO]
end
open PySem L2
def lL (z:Str) (y:Str):Bool:=!(aa2 z y 0 z.length 1).isEmpty
theorem jP (s n:Nat):∀ j:Nat,((aaR j).map fun (i:Nat)=>(s:Int) * cn s (1+i) * cn s (n - (1+i))).sum=prs s n j
  | 0=>rfl
  | j+1=>by rw [List.range_succ,aaL,List.sum_append,jP s n j];simp [prs]
theorem ls:∀ gs:List Sg,gs.length≤3→bb gs→∀ g∈gs,(aa2 (ak gs) g.str 0 (ak gs).length 1).head?=some (gs.idxOf g)∧lL (ak gs) g.str=true
  | [],_,_=>fun g h=>nomatch h
  | [a],_,_=>by
    cases a <;> (intro g;cases g <;> intro h <;> first|exact ⟨by decide +kernel,by decide +kernel⟩|exact absurd h (by decide))
  | [a,b],_,h=>by
    cases a <;> cases b <;> first
      | exact absurd h (by unfold bb;decide +kernel)
      | (intro g;cases g <;> intro h <;> first|exact ⟨by decide +kernel,by decide +kernel⟩|exact absurd h (by decide))
  | [a,b,c],_,h=>by
    cases a <;> cases b <;> cases c <;> first
      | exact absurd h (by unfold bb;decide +kernel)
      | (intro g;cases g <;> intro h <;> first|exact ⟨by decide +kernel,by decide +kernel⟩|exact absurd h (by decide))
  | _ :: _ :: _ :: _ :: _,h,_=>by simp at h
theorem ik (gs:List Sg) (h3:gs.length≤3) (sp:bb gs) (g:Sg) (hg:g∈gs):(∃ ba,aa2 (ak gs) g.str 0 (ak gs).length 1=gs.idxOf g :: ba)∧lL (ak gs) g.str=true:=by
  obtain ⟨h1,h2⟩:=ls gs h3 sp g hg;refine ⟨?_,h2⟩;cases e:aa2 (ak gs) g.str 0 (ak gs).length 1 with
  | nil=>rw [e] at h1;cases h1
  | cons x y =>
    rw [e] at h1;have : x=gs.idxOf g:=by simpa using h1
    exact ⟨y,by rw [this]⟩
theorem dQ {gs:List Sg}:∀ {w:Wy},w.within gs→∀ g∈w.sgs,g∈gs
  | .num _,_,g,h=>by simp [Wy.sgs] at h
  | .node s l r,hw,g,h=>by
    have h:g∈l.sgs++s :: r.sgs:=h;rcases aaE.mp h with h|h
    · exact dQ hw.2.1 g h
    · rcases aax.mp h with rfl|h
      · exact hw.1
      · exact dQ hw.2.2 g h
section
variable {P:Program} {w:World} {K:aaa} {mg:Str→Option Value} {base:Heap} {f:Addr} {fd:FuncData}
def lf:Sp:=fun vs H Q _=>∃ (wy:Wy) (v:V) (z:Str),vs=[v,.str z]∧WyIn H wy v∧wy.size≤20∧∀ H',Same H H'→Q (.bl (wy.sgs.all fun g=>lL z g.str)) H'
abbrev bz:Stmt:=top 27
theorem dR:FnScope ["way","signs"] ["way","signs"] (ap bz):=⟨rfl,rfl,rfl,by decide +kernel,rfl,by decide +kernel,by decide +kernel⟩
theorem ij (F:Fun K "has_signs_among" "has_signs_among" bz f fd) (B:Bu K mg) (C_join_signs:Cal P w K mg base "join_signs" 21 ["way"] (jS 20)):FnOk P w K mg base CX0 22 f fd ["way","signs"] lf:=by
  refine F.ok dR (fun vs H Q E h=>?_) (fun cdv A outer s H vs Q E hr h=>?_)
  · obtain ⟨wy,v,z,rfl,_⟩:=h;rfl
  obtain ⟨wy,v,z,rfl,hw,h20,q⟩:=h;refine ⟨_,(@ah _ _ _ (@ar _ _ _ _ (@ao _ _ _ _ _ _ _ _ _ (@jk _ rfl) rfl B.iall PyProof.Rows.boot_all (@aa _ _ _ _ _ (@eE _ _ _ _ _ _ _ _ (["sign","signs"]) ([none,some 1]) _ _ _ _ rfl (@li _ _ _ _ (@ai _ _ _ _ _ _ _ _ _ _ _ C_join_signs hr (by omega) rfl (@aa _ _ _ _ _ (@pv _ 0 _ _ (by rfl) (by first|exact .inl rfl|exact .inr (.inl rfl)|exact .inr (.inr rfl)) (by decide) (by decide)) ad (by rfl)) (by decide) (by rfl) (by rfl))) rfl ⟨rfl,trivial⟩ ⟨⟨rfl,Or.inl rfl,Or.inl rfl⟩,trivial⟩ (fun _ _ _ _=>⟨(@au _ _ (0) _ (show abp (["sign","signs"]:List Str) by decide +kernel) rfl (Or.inl rfl) (.inr rfl)),bo,(@bZ _ _ _ _ _ _ _ _ kE (@pv _ 0 _ _ (by rfl) (by first|exact .inl rfl|exact .inr (.inl rfl)|exact .inr (.inr rfl)) (by decide) (by decide)) (@pv _ 1 _ _ (by rfl) (by first|exact .inl rfl|exact .inr (.inl rfl)|exact .inr (.inr rfl)) (by decide) (by decide)) (by with_unfolding_all rfl))⟩) (by rfl) (by rfl) (by rfl) (by rfl) (by intro _;rfl)) ad (by rfl)) (by decide) (by decide) (by rfl) (by rfl)))),?_⟩;have dl:=wy.deep_le;have sl:=wy.sgs_len;refine ⟨_,rfl,wy,v,rfl,hw,h20,by omega,fun H1 g1=>⟨_,rfl,fH _,?_⟩⟩;refine lz (fun i ys H'=>H'=H1∧ys=((wy.sgs.take i).map fun g=>lL z g.str).map V.bl) ⟨rfl,rfl⟩ ?_ ?_ ?_
  · rintro i ys H' hi ⟨rfl,rfl⟩;rw [aad,aad,aas];exact aJ (by omega)
  · rintro i c ys H' hc ⟨rfl,rfl⟩ nx;obtain ⟨g,hg,rfl⟩:=mV hc;refine ⟨_,rfl,_,rfl,_,_,rfl,rfl,nx ⟨rfl,?_⟩⟩;rw [aaK,hg,aaL,aaL,← bO];rfl
  · rintro ys H' ⟨rfl,rfl⟩ p np;rw [bI,aa4];refine ⟨p,_,rfl,SqL.of ag,?_⟩;rw [List.all_map];exact q _ (g1.trans (Same.new np _))
def jU (n:Nat):Sp:=fun vs H Q _=>∃ (wy:Wy) (v:V) (gs:List Sg) (pc:Addr) (k:Nat),vs=[v,.str (ak gs),.ref pc]∧WyIn H wy v∧gs.length≤3∧bb gs∧H pc=some (.lst ((cl gs.length k).map V.int))∧k≤8∧wy.size≤k+1∧wy.deep≤n∧wy.within gs∧∀ H',Same H H'→Q (.int (wy.nr gs)) H'
abbrev dn:Stmt:=top 31
theorem aU:FnScope ["way","signs","counts","sign","left_way","right_way","left","right","ahead","both"] ["way","signs","counts"] (ap dn):=⟨rfl,rfl,rfl,by decide +kernel,rfl,by decide +kernel,by decide +kernel⟩
theorem ic (F:Fun K "number_at" "number_at" dn f fd) (bF:Binds K fd ["way","signs","counts"] []) (mF:mg "number_at" = some (.ref f)) (B:Bu K mg) (C_is_whole:Cal P w K mg base "is_whole" 1 ["thing"] (bW K)) (C_list_numbers:Cal P w K mg base "list_numbers" 21 ["way"] (fE 20)) (C_ways_by_cut:Cal P w K mg base "ways_by_cut" 1 ["signs","counts","left","right"] iF):∀ n,FnOk P w K mg base CX0 (n+22) f fd ["way","signs","counts"] (jU n):=by
  intro n
  induction n with
  | zero =>
    refine ⟨fun vs H Q E h=>?_,fun A outer s H args us vs Q E _ _ _ _ h=>?_⟩
    · obtain ⟨wy,v,gs,pc,k,rfl,_⟩:=h;rfl
    · obtain ⟨wy,v,gs,pc,k,_,_,_,_,_,_,_,hd,_⟩:=h;cases wy <;> exact absurd hd (by simp [Wy.deep])
  | succ n ih =>
    have C_number_at:Cal P w K mg base "number_at" (n+22) ["way","signs","counts"] (jU n):=⟨f,fd,ih,bF,F.kp,mF⟩
    refine F.ok aU (fun vs H Q E h=>?_) (fun cdv A outer s H vs Q E hr h=>?_)
    · obtain ⟨wy,v,gs,pc,k,rfl,_⟩:=h;rfl
    obtain ⟨wy,v,gs,pc,k,rfl,hw,hz,sp,hc,hk,hsz,hdp,hwi,q⟩:=h;refine ⟨_,(@af _ _ _ _ _ (@a8 _ _ _ _ _ _ _ _ (@bf _ _ _ (@ai _ _ _ _ _ _ _ _ _ _ _ C_is_whole hr (by omega) rfl (@aa _ _ _ _ _ (@pv _ 0 _ _ (by rfl) (by first|exact .inl rfl|exact .inr (.inl rfl)|exact .inr (.inr rfl)) (by decide) (by decide)) ad (by rfl)) (by decide) (by rfl) (by rfl)) (by intro _;rfl)) (@ah _ _ _ (@ar _ _ _ _ ae)) aE) (@af _ _ _ _ _ (@d7 _ _ _ _ _ _ (@pv _ 0 _ _ (by rfl) (by first|exact .inl rfl|exact .inr (.inl rfl)|exact .inr (.inr rfl)) (by decide) (by decide)) (@dw _ _ _ _ _ _ rfl (@aH _ _ _ _ _ (@au _ _ (3) _ (aU).nd rfl (Or.inl rfl) (.inl rfl)) (@aH _ _ _ _ _ (@au _ _ (4) _ (aU).nd rfl (Or.inl rfl) (.inl rfl)) (@aH _ _ _ _ _ (@au _ _ (5) _ (aU).nd rfl (Or.inl rfl) (.inl rfl)) cI (by rfl)) (by rfl)) (by rfl)) (by rfl) (by rfl)) (by rfl) (by rfl) (by rfl)) (@af _ _ _ _ _ (@aB _ _ (6) _ _ _ _ (aU).nd rfl (Or.inr rfl) (@ao _ _ _ _ _ _ _ _ _ aq rfl B.ilen aau (@aa _ _ _ _ _ (@ai _ _ _ _ _ _ _ _ _ _ _ C_list_numbers hr (by omega) rfl (@aa _ _ _ _ _ (@pv _ 4 _ _ (by rfl) (by first|exact .inl rfl|exact .inr (.inl rfl)|exact .inr (.inr rfl)) (by decide) (by decide)) ad (by rfl)) (by decide) (by rfl) (by rfl)) ad (by rfl)) (by decide) (by decide) (by rfl) (by rfl)) (by rfl) (by first|exact .inl rfl|exact .inr rfl|assumption)) (@af _ _ _ _ _ (@aB _ _ (7) _ _ _ _ (aU).nd rfl (Or.inr rfl) (@ao _ _ _ _ _ _ _ _ _ aq rfl B.ilen aau (@aa _ _ _ _ _ (@ai _ _ _ _ _ _ _ _ _ _ _ C_list_numbers hr (by omega) rfl (@aa _ _ _ _ _ (@pv _ 5 _ _ (by rfl) (by first|exact .inl rfl|exact .inr (.inl rfl)|exact .inr (.inr rfl)) (by decide) (by decide)) ad (by rfl)) (by decide) (by rfl) (by rfl)) ad (by rfl)) (by decide) (by decide) (by rfl) (by rfl)) (by rfl) (by first|exact .inl rfl|exact .inr rfl|assumption)) (@af _ _ _ _ _ (@aB _ _ (8) _ _ _ _ (aU).nd rfl (Or.inl rfl) (@ao _ _ _ _ _ _ _ _ _ (@jj _ rfl) rfl B.isum PyProof.Rows.boot_sum (@aa _ _ _ _ _ (@eE _ _ _ _ _ _ _ _ (["fewer","signs","counts","left","right"]) ([none,some 1,some 2,some 6,some 7]) _ _ _ _ rfl (@bE _ _ _ _ _ _ _ rfl B.irange (@aa _ _ _ _ _ ae (@aa _ _ _ _ _ (@pv _ 6 _ _ (by rfl) (by first|exact .inl rfl|exact .inr (.inl rfl)|exact .inr (.inr rfl)) (by decide) (by decide)) ad (by rfl)) (by rfl)) (by rfl) (by rfl)) rfl ⟨rfl,⟨rfl,⟨rfl,⟨rfl,trivial⟩⟩⟩⟩ ⟨⟨rfl,Or.inl rfl,Or.inl rfl⟩,⟨⟨rfl,Or.inl rfl,Or.inl rfl⟩,⟨⟨rfl,Or.inl rfl,Or.inl rfl⟩,⟨⟨rfl,Or.inl rfl,Or.inl rfl⟩,trivial⟩⟩⟩⟩ (fun _ _ _ _=>⟨(@au _ _ (0) _ (show abp (["fewer","signs","counts","left","right"]:List Str) by decide +kernel) rfl (Or.inl rfl) (.inr rfl)),bo,(@ai _ _ _ _ _ _ _ _ _ _ _ C_ways_by_cut hr (by omega) rfl (@aa _ _ _ _ _ (@pv _ 1 _ _ (by rfl) (by first|exact .inl rfl|exact .inr (.inl rfl)|exact .inr (.inr rfl)) (by decide) (by decide)) (@aa _ _ _ _ _ (@pv _ 2 _ _ (by rfl) (by first|exact .inl rfl|exact .inr (.inl rfl)|exact .inr (.inr rfl)) (by decide) (by decide)) (@aa _ _ _ _ _ (@pv _ 0 _ _ (by rfl) (by first|exact .inl rfl|exact .inr (.inl rfl)|exact .inr (.inr rfl)) (by decide) (by decide)) (@aa _ _ _ _ _ (@av _ _ _ _ _ _ _ _ bG (@av _ _ _ _ _ _ _ _ bw (@pv _ 3 _ _ (by rfl) (by first|exact .inl rfl|exact .inr (.inl rfl)|exact .inr (.inr rfl)) (by decide) (by decide)) (@pv _ 4 _ _ (by rfl) (by first|exact .inl rfl|exact .inr (.inl rfl)|exact .inr (.inr rfl)) (by decide) (by decide))) (@pv _ 0 _ _ (by rfl) (by first|exact .inl rfl|exact .inr (.inl rfl)|exact .inr (.inr rfl)) (by decide) (by decide))) ad (by rfl)) (by rfl)) (by rfl)) (by rfl)) (by decide) (by rfl) (by rfl))⟩) (by rfl) (by rfl) (by rfl) (by rfl) (by intro _;rfl)) ad (by rfl)) (by decide) (by decide) (by rfl) (by rfl)) (by rfl) (by first|exact .inl rfl|exact .inr rfl|assumption)) (@af _ _ _ _ _ (@aB _ _ (9) _ _ _ _ (aU).nd rfl (Or.inl rfl) (@av _ _ _ _ _ _ _ _ bw (@av _ _ _ _ _ _ _ _ bT (@gA _ _ _ _ _ _ _ _ _ _ _ _ PySem.F.plainAttrs_str PySem.F.slot_str_index PySem.F.type_str_index eJ (@pv _ 1 _ _ (by rfl) (by first|exact .inl rfl|exact .inr (.inl rfl)|exact .inr (.inr rfl)) (by decide) (by decide)) (@aa _ _ _ _ _ (@pv _ 3 _ _ (by rfl) (by first|exact .inl rfl|exact .inr (.inl rfl)|exact .inr (.inr rfl)) (by decide) (by decide)) ad (by rfl)) (by rfl) (by rfl) (by rfl) (by rfl) (by rfl)) (@aI _ _ _ _ _ _ _ aC (@pv _ 2 _ _ (by rfl) (by first|exact .inl rfl|exact .inr (.inl rfl)|exact .inr (.inr rfl)) (by decide) (by decide)) (@pv _ 6 _ _ (by rfl) (by first|exact .inl rfl|exact .inr (.inl rfl)|exact .inr (.inr rfl)) (by decide) (by decide)) (fun _ _=>rfl))) (@ai _ _ _ _ _ _ _ _ _ _ _ C_number_at hr (by omega) rfl (@aa _ _ _ _ _ (@pv _ 4 _ _ (by rfl) (by first|exact .inl rfl|exact .inr (.inl rfl)|exact .inr (.inr rfl)) (by decide) (by decide)) (@aa _ _ _ _ _ (@pv _ 1 _ _ (by rfl) (by first|exact .inl rfl|exact .inr (.inl rfl)|exact .inr (.inr rfl)) (by decide) (by decide)) (@aa _ _ _ _ _ (@pv _ 2 _ _ (by rfl) (by first|exact .inl rfl|exact .inr (.inl rfl)|exact .inr (.inr rfl)) (by decide) (by decide)) ad (by rfl)) (by rfl)) (by rfl)) (by decide) (by rfl) (by rfl))) (by rfl) (by first|exact .inl rfl|exact .inr rfl|assumption)) (@ah _ _ _ (@ar _ _ _ _ (@av _ _ _ _ _ _ _ _ bw (@av _ _ _ _ _ _ _ _ bw (@pv _ 8 _ _ (by rfl) (by first|exact .inl rfl|exact .inr (.inl rfl)|exact .inr (.inr rfl)) (by decide) (by decide)) (@av _ _ _ _ _ _ _ _ bT (@pv _ 9 _ _ (by rfl) (by first|exact .inl rfl|exact .inr (.inl rfl)|exact .inr (.inr rfl)) (by decide) (by decide)) (@aI _ _ _ _ _ _ _ aC (@pv _ 2 _ _ (by rfl) (by first|exact .inl rfl|exact .inr (.inl rfl)|exact .inr (.inr rfl)) (by decide) (by decide)) (@pv _ 7 _ _ (by rfl) (by first|exact .inl rfl|exact .inr (.inl rfl)|exact .inr (.inr rfl)) (by decide) (by decide)) (fun _ _=>rfl)))) (@ai _ _ _ _ _ _ _ _ _ _ _ C_number_at hr (by omega) rfl (@aa _ _ _ _ _ (@pv _ 5 _ _ (by rfl) (by first|exact .inl rfl|exact .inr (.inl rfl)|exact .inr (.inr rfl)) (by decide) (by decide)) (@aa _ _ _ _ _ (@pv _ 1 _ _ (by rfl) (by first|exact .inl rfl|exact .inr (.inl rfl)|exact .inr (.inr rfl)) (by decide) (by decide)) (@aa _ _ _ _ _ (@pv _ 2 _ _ (by rfl) (by first|exact .inl rfl|exact .inr (.inl rfl)|exact .inr (.inr rfl)) (by decide) (by decide)) ad (by rfl)) (by rfl)) (by rfl)) (by decide) (by rfl) (by rfl))))))))))),?_⟩;have zl:(ak gs).length=gs.length:=bI gs;cases wy with
    | num i =>
      cases hw;exact ⟨_,rfl,_,"int",rfl,.int i,true,rfl,cD (q H (Same.refl _))⟩
    | node g l r =>
      obtain ⟨a,vl,vr,rfl,ha,hl,hr'⟩:=hw;have dd:max l.deep r.deep+1≤n+1:=hdp;have ss:l.size+r.size≤k+1:=hsz;have zl1:=l.size_pos;have zr1:=r.size_pos;have dl:=l.deep_le;have dr:=r.deep_le;have bd:=gK gs.length hz;refine ⟨_,rfl,_,"tuple",rfl,.tup ha,false,rfl,a_ ?_⟩;refine ⟨_,rfl,a,_,rfl,SqT.of ha,rfl,_,_,rfl,_,_,rfl,_,_,rfl,rfl,?_⟩;refine ⟨_,rfl,l,vl,rfl,hl,by omega,by omega,fun p1 H1 g1 n1 e1=>⟨p1,_,rfl,.inl (SqL.of e1),?_⟩⟩;rw [aad,l.nums_len];refine ⟨_,rfl,r,vr,rfl,hr'.mono (Tups.of g1),by omega,by omega,fun p2 H2 g2 n2 e2=>⟨p2,_,rfl,.inl (SqL.of e2),?_⟩⟩;rw [aad,r.nums_len];have G2:=g1.trans g2;have hc2:=G2 _ _ hc;refine ⟨_,rfl,1,_,rfl,⟨by decide,by decide,by omega,by omega⟩,fX (n:=((l.size:Int) - 1).toNat) (fun j ys H'=>ys=((aaR j).map fun (i:Nat)=>(gs.length:Int) * cn gs.length (1+i) * cn gs.length (l.size+r.size - (1+i))).map V.int∧H'=H2) ⟨rfl,rfl⟩ ?_ ?_ ?_⟩
      · rintro j ys H' hj ⟨rfl,rfl⟩;rw [aad,aad,List.length_range];exact aJ (by omega)
      · rintro j ys H' hj ⟨rfl,rfl⟩ nx;have e3:(1+(j:Int))=((1+j:Nat):Int):=by omega
        have e2:((l.size:Nat):Int)+((r.size:Nat):Int) - (1+(j:Int))=((l.size+r.size - (1+j):Nat):Int):=by omega
        refine ⟨_,rfl,_,rfl,_,rfl,_,rfl,_,rfl,_,_,rfl,rfl,_,rfl,_,_,rfl,rfl,ak gs,pc,_,_,_,cn gs.length (1+j),cn gs.length (l.size+r.size - (1+j)),rfl,by omega,hc2,?_,?_,(bd _ (by omega)).1,(bd _ (by omega)).2,nx ⟨?_,rfl⟩⟩
        · rw [e3];exact dL hk (by omega)
        · rw [e2];exact dL hk (by omega)
        · rw [List.range_succ,aaL,aaL,zl];rfl
      rintro ys H' ⟨rfl,rfl⟩ p3 n3;rw [show ((l.size:Int) - 1).toNat=l.size - 1 by omega];have G3:=G2.trans (Same.new n3 (.lst (((aaR (l.size - 1)).map fun (i:Nat)=>(gs.length:Int) * cn gs.length (1+i) * cn gs.length (l.size+r.size - (1+i))).map V.int)));refine ⟨p3,_,rfl,SqL.of ag,?_⟩;rw [jP];obtain ⟨⟨ba,ho⟩,_⟩:=ik gs hz sp g hwi.1;have hc3:=G3 _ _ hc;refine ⟨_,rfl,rfl,_,rfl,ak gs,g.str,gs.idxOf g,ba,rfl,rfl,ho,_,rfl,_,rfl,pc,_,_,_,rfl,rfl,SqL.of hc3,dL hk (by omega),_,_,rfl,rfl,.inr ⟨by have:=bd l.size (by omega);omega,by have:=bd l.size (by omega);omega⟩,?_⟩;refine ⟨_,rfl,_,rfl,_,rfl,l,vl,gs,pc,k,rfl,hl.mono (Tups.of G3),hz,sp,hc3,hk,by omega,by omega,hwi.2.1,fun H4 g4=>⟨_,_,rfl,rfl,?_⟩⟩;have G4:=G3.trans g4;refine ⟨_,rfl,_,rfl,_,rfl,_,rfl,pc,_,_,_,rfl,rfl,SqL.of (G4 _ _ hc),dL hk (by omega),_,_,rfl,rfl,.inr ⟨by have:=bd r.size (by omega);omega,by have:=bd r.size (by omega);omega⟩,_,_,rfl,rfl,?_⟩;refine ⟨_,rfl,_,rfl,_,rfl,r,vr,gs,pc,k,rfl,hr'.mono (Tups.of G4),hz,sp,G4 _ _ hc,hk,by omega,by omega,hwi.2.2,fun H5 g5=>⟨_,_,rfl,rfl,?_⟩⟩;have:=q _ (G4.trans g5);have en:(Wy.node g l r).nr gs=prs gs.length (l.size+r.size) (l.size - 1)+((((gs.idxOf g:Nat):Int) * cn gs.length l.size+l.nr gs) * cn gs.length r.size+r.nr gs):=rfl;rw [en,← Int.add_assoc] at this;exact this
def iH:Sp:=fun vs H Q _=>∃ (wy:Wy) (v:V) (gs:List Sg),vs=[v,.str (ak gs)]∧WyIn H wy v∧wy.size≤9∧gs.length≤3∧bb gs∧wy.within gs∧∀ H',Same H H'→Q (.int (wy.nr gs)) H'
abbrev bR:Stmt:=top 26
theorem cO:FnScope ["way","signs","counts"] ["way","signs"] (ap bR):=⟨rfl,rfl,rfl,by decide +kernel,rfl,by decide +kernel,by decide +kernel⟩
theorem e9 (F:Fun K "number_of_way" "number_of_way" bR f fd) (B:Bu K mg) (C_need_way:Cal P w K mg base "need_way" 3 ["thing"] eK) (C_need_signs:Cal P w K mg base "need_signs" 2 ["thing"] bN) (C_has_signs_among:Cal P w K mg base "has_signs_among" 22 ["way","signs"] lf) (C_list_numbers:Cal P w K mg base "list_numbers" 21 ["way"] (fE 20)) (C_counts_up_to:Cal P w K mg base "counts_up_to" 2 ["signs","many"] iK) (C_number_at:Cal P w K mg base "number_at" 31 ["way","signs","counts"] (jU 9)):FnOk P w K mg base CX0 32 f fd ["way","signs"] iH:=by
  refine F.ok cO (fun vs H Q E h=>?_) (fun cdv A outer s H vs Q E hr h=>?_)
  · obtain ⟨wy,v,gs,rfl,_⟩:=h;rfl
  obtain ⟨wy,v,gs,rfl,hw,h9,hz,sp,hwi,q⟩:=h;refine ⟨_,(@af _ _ _ _ _ (@bK _ _ _ _ (@ai _ _ _ _ _ _ _ _ _ _ _ C_need_way hr (by omega) rfl (@aa _ _ _ _ _ (@pv _ 0 _ _ (by rfl) (by first|exact .inl rfl|exact .inr (.inl rfl)|exact .inr (.inr rfl)) (by decide) (by decide)) ad (by rfl)) (by decide) (by rfl) (by rfl)) (by rfl)) (@af _ _ _ _ _ (@bK _ _ _ _ (@ai _ _ _ _ _ _ _ _ _ _ _ C_need_signs hr (by omega) rfl (@aa _ _ _ _ _ (@pv _ 1 _ _ (by rfl) (by first|exact .inl rfl|exact .inr (.inl rfl)|exact .inr (.inr rfl)) (by decide) (by decide)) ad (by rfl)) (by decide) (by rfl) (by rfl)) (by rfl)) (@af _ _ _ _ _ (@a8 _ _ _ _ _ _ _ _ (@bD _ _ _ _ (@bf _ _ _ (@ai _ _ _ _ _ _ _ _ _ _ _ C_has_signs_among hr (by omega) rfl (@aa _ _ _ _ _ (@pv _ 0 _ _ (by rfl) (by first|exact .inl rfl|exact .inr (.inl rfl)|exact .inr (.inr rfl)) (by decide) (by decide)) (@aa _ _ _ _ _ (@pv _ 1 _ _ (by rfl) (by first|exact .inl rfl|exact .inr (.inl rfl)|exact .inr (.inr rfl)) (by decide) (by decide)) ad (by rfl)) (by rfl)) (by decide) (by rfl) (by rfl)) (by intro _;rfl))) (@ah _ _ _ cR) aE) (@af _ _ _ _ _ (@aB _ _ (2) _ _ _ _ (cO).nd rfl (Or.inl rfl) (@ai _ _ _ _ _ _ _ _ _ _ _ C_counts_up_to hr (by omega) rfl (@aa _ _ _ _ _ (@pv _ 1 _ _ (by rfl) (by first|exact .inl rfl|exact .inr (.inl rfl)|exact .inr (.inr rfl)) (by decide) (by decide)) (@aa _ _ _ _ _ (@ao _ _ _ _ _ _ _ _ _ aq rfl B.ilen aau (@aa _ _ _ _ _ (@ai _ _ _ _ _ _ _ _ _ _ _ C_list_numbers hr (by omega) rfl (@aa _ _ _ _ _ (@pv _ 0 _ _ (by rfl) (by first|exact .inl rfl|exact .inr (.inl rfl)|exact .inr (.inr rfl)) (by decide) (by decide)) ad (by rfl)) (by decide) (by rfl) (by rfl)) ad (by rfl)) (by decide) (by decide) (by rfl) (by rfl)) ad (by rfl)) (by rfl)) (by decide) (by rfl) (by rfl)) (by rfl) (by first|exact .inl rfl|exact .inr rfl|assumption)) (@ah _ _ _ (@ar _ _ _ _ (@ai _ _ _ _ _ _ _ _ _ _ _ C_number_at hr (by omega) rfl (@aa _ _ _ _ _ (@pv _ 0 _ _ (by rfl) (by first|exact .inl rfl|exact .inr (.inl rfl)|exact .inr (.inr rfl)) (by decide) (by decide)) (@aa _ _ _ _ _ (@pv _ 1 _ _ (by rfl) (by first|exact .inl rfl|exact .inr (.inl rfl)|exact .inr (.inr rfl)) (by decide) (by decide)) (@aa _ _ _ _ _ (@pv _ 2 _ _ (by rfl) (by first|exact .inl rfl|exact .inr (.inl rfl)|exact .inr (.inr rfl)) (by decide) (by decide)) ad (by rfl)) (by rfl)) (by rfl)) (by decide) (by rfl) (by rfl)))))))),?_⟩;have zl:(ak gs).length=gs.length:=bI gs;have z1:=wy.size_pos;have dl:=wy.deep_le;refine ⟨_,rfl,wy,v,rfl,hw,h9,fun H1 g1=>?_⟩;refine ⟨_,rfl,gs,rfl,sp,?_⟩;refine ⟨_,rfl,_,rfl,wy,v,ak gs,rfl,hw.mono (Tups.of g1),by omega,fun H2 g2=>?_⟩;have ea:(wy.sgs.all fun g=>lL (ak gs) g.str)=true:=List.all_eq_true.mpr fun g hg=>(ik gs hz sp g (dQ hwi g hg)).2;rw [ea];refine ⟨true,rfl,a_ ?_⟩;have G2:=g1.trans g2;refine ⟨_,rfl,_,rfl,wy,v,rfl,hw.mono (Tups.of G2),by omega,by omega,fun p3 H3 g3 n3 e3=>⟨p3,_,rfl,.inl (SqL.of e3),?_⟩⟩;rw [aad,wy.nums_len];refine ⟨ak gs,(wy.size:Nat),rfl,by omega,by omega,by omega,fun p4 H4 g4 n4 e4=>?_⟩;rw [zl] at e4;have G4:=G2.trans (g3.trans g4);exact ⟨_,rfl,_,rfl,_,rfl,wy,v,gs,p4,_,rfl,hw.mono (Tups.of G4),hz,sp,e4,by omega,by omega,by omega,hwi,fun H5 g5=>q H5 (G4.trans g5)⟩
def iG:Sp:=fun vs H Q _=>∃ (r:Addr) (wy:Wy) (gs:List Sg),vs=[.ref r,.str (ak gs),.int (wy.nr gs)]∧H r=some (.lst (wy.nums.map V.int))∧wy.size≤9∧gs.length≤3∧bb gs∧wy.within gs∧∀ v H',Same H H'→WyIn H' wy v→Q v H'
abbrev eS:Stmt:=top 25
theorem fK:FnScope ["row","signs","number","counts"] ["row","signs","number"] (ap eS):=⟨rfl,rfl,rfl,by decide +kernel,rfl,by decide +kernel,by decide +kernel⟩
theorem jC (F:Fun K "nth_way" "nth_way" eS f fd) (B:Bu K mg) (C_need_row:Cal P w K mg base "need_row" 3 ["thing"] eM) (C_need_signs:Cal P w K mg base "need_signs" 2 ["thing"] bN) (C_counts_up_to:Cal P w K mg base "counts_up_to" 2 ["signs","many"] iK) (C_is_whole:Cal P w K mg base "is_whole" 1 ["thing"] (bW K)) (C_way_at:Cal P w K mg base "way_at" 11 ["row","signs","counts","number"] (gU 9)):FnOk P w K mg base CX0 12 f fd ["row","signs","number"] iG:=by
  refine F.ok fK (fun vs H Q E h=>?_) (fun cdv A outer s H vs Q E hr h=>?_)
  · obtain ⟨r,wy,gs,rfl,_⟩:=h;rfl
  obtain ⟨r,wy,gs,rfl,hr',h9,hz,sp,hwi,q⟩:=h;refine ⟨_,(@af _ _ _ _ _ (@bK _ _ _ _ (@ai _ _ _ _ _ _ _ _ _ _ _ C_need_row hr (by omega) rfl (@aa _ _ _ _ _ (@pv _ 0 _ _ (by rfl) (by first|exact .inl rfl|exact .inr (.inl rfl)|exact .inr (.inr rfl)) (by decide) (by decide)) ad (by rfl)) (by decide) (by rfl) (by rfl)) (by rfl)) (@af _ _ _ _ _ (@bK _ _ _ _ (@ai _ _ _ _ _ _ _ _ _ _ _ C_need_signs hr (by omega) rfl (@aa _ _ _ _ _ (@pv _ 1 _ _ (by rfl) (by first|exact .inl rfl|exact .inr (.inl rfl)|exact .inr (.inr rfl)) (by decide) (by decide)) ad (by rfl)) (by decide) (by rfl) (by rfl)) (by rfl)) (@af _ _ _ _ _ (@aB _ _ (3) _ _ _ _ (fK).nd rfl (Or.inl rfl) (@ai _ _ _ _ _ _ _ _ _ _ _ C_counts_up_to hr (by omega) rfl (@aa _ _ _ _ _ (@pv _ 1 _ _ (by rfl) (by first|exact .inl rfl|exact .inr (.inl rfl)|exact .inr (.inr rfl)) (by decide) (by decide)) (@aa _ _ _ _ _ (@ao _ _ _ _ _ _ _ _ _ aq rfl B.ilen aau (@aa _ _ _ _ _ (@pv _ 0 _ _ (by rfl) (by first|exact .inl rfl|exact .inr (.inl rfl)|exact .inr (.inr rfl)) (by decide) (by decide)) ad (by rfl)) (by decide) (by decide) (by rfl) (by rfl)) ad (by rfl)) (by rfl)) (by decide) (by rfl) (by rfl)) (by rfl) (by first|exact .inl rfl|exact .inr rfl|assumption)) (@af _ _ _ _ _ (@a8 _ _ _ _ _ _ _ _ (@PW.pt _ _ _ (@gx _ _ _ _ _ _ _ (@bD _ _ _ _ (@bf _ _ _ (@ai _ _ _ _ _ _ _ _ _ _ _ C_is_whole hr (by omega) rfl (@aa _ _ _ _ _ (@pv _ 2 _ _ (by rfl) (by first|exact .inl rfl|exact .inr (.inl rfl)|exact .inr (.inr rfl)) (by decide) (by decide)) ad (by rfl)) (by decide) (by rfl) (by rfl)) (by intro _;rfl))) (@eW _ _ _ _ (@bD _ _ _ _ (@iW _ _ _ _ _ _ _ _ _ _ _ _ gC mW ae (@pv _ 2 _ _ (by rfl) (by first|exact .inl rfl|exact .inr (.inl rfl)|exact .inr (.inr rfl)) (by decide) (by decide)) (@aI _ _ _ _ _ _ _ aC (@pv _ 3 _ _ (by rfl) (by first|exact .inl rfl|exact .inr (.inl rfl)|exact .inr (.inr rfl)) (by decide) (by decide)) (@ao _ _ _ _ _ _ _ _ _ aq rfl B.ilen aau (@aa _ _ _ _ _ (@pv _ 0 _ _ (by rfl) (by first|exact .inl rfl|exact .inr (.inl rfl)|exact .inr (.inr rfl)) (by decide) (by decide)) ad (by rfl)) (by decide) (by decide) (by rfl) (by rfl)) (fun _ _=>rfl)) (by with_unfolding_all rfl)))))) (@ah _ _ _ cR) aE) (@ah _ _ _ (@ar _ _ _ _ (@ai _ _ _ _ _ _ _ _ _ _ _ C_way_at hr (by omega) rfl (@aa _ _ _ _ _ (@pv _ 0 _ _ (by rfl) (by first|exact .inl rfl|exact .inr (.inl rfl)|exact .inr (.inr rfl)) (by decide) (by decide)) (@aa _ _ _ _ _ (@pv _ 1 _ _ (by rfl) (by first|exact .inl rfl|exact .inr (.inl rfl)|exact .inr (.inr rfl)) (by decide) (by decide)) (@aa _ _ _ _ _ (@pv _ 3 _ _ (by rfl) (by first|exact .inl rfl|exact .inr (.inl rfl)|exact .inr (.inr rfl)) (by decide) (by decide)) (@aa _ _ _ _ _ (@pv _ 2 _ _ (by rfl) (by first|exact .inl rfl|exact .inr (.inl rfl)|exact .inr (.inr rfl)) (by decide) (by decide)) ad (by rfl)) (by rfl)) (by rfl)) (by rfl)) (by decide) (by rfl) (by rfl)))))))),?_⟩;have zl:(ak gs).length=gs.length:=bI gs;have z1:=wy.size_pos;have nl:=wy.nums_len;obtain ⟨b0,b1⟩:=Wy.nr_bd hz wy hwi h9;refine ⟨_,rfl,r,wy.nums,rfl,hr',by omega,by omega,fun H1 g1=>?_⟩;refine ⟨_,rfl,gs,rfl,sp,?_⟩;have hr1:=g1 _ _ hr';refine ⟨_,rfl,_,rfl,r,_,rfl,.inl (SqL.of hr1),?_⟩;rw [aad,nl];refine ⟨ak gs,(wy.size:Nat),rfl,by omega,by omega,by omega,fun p2 H2 g2 n2 e2=>?_⟩;rw [zl,show ((wy.size:Int) - 1).toNat=wy.size - 1 by omega] at e2;have G2:=g1.trans g2;have hr2:=g2 _ _ hr1;refine ⟨_,rfl,_,_,rfl,.int _,true,rfl,a_ ?_⟩;refine ⟨_,rfl,_,_,rfl,rfl,true,congrArg V.bl (decide_eq_true b0),cD ⟨_,rfl,_,rfl,r,_,rfl,.inl (SqL.of hr2),?_⟩⟩;rw [aad,nl];refine ⟨p2,_,_,_,rfl,rfl,SqL.of e2,dL (by omega) (by omega),?_⟩;refine ⟨_,_,rfl,rfl,true,congrArg V.bl (decide_eq_true b1),a_ ?_⟩;exact ⟨_,rfl,_,rfl,_,rfl,_,rfl,gs,r,p2,wy,wy.size - 1,rfl,hz,hr2,e2,by omega,by omega,h9,hwi,fun v H3 g3 hv=>q v H3 (G2.trans g3) hv⟩
def iJ:Sp:=fun vs H Q _=>∃ (gs:List Sg) (n:Nat),vs=[.str (ak gs),.int n]∧gs.length≤3∧bb gs∧1≤n∧n≤9∧∀ H',Same H H'→Q (.int (cn gs.length n)) H'
abbrev bS:Stmt:=top 24
theorem eQ:FnScope ["signs","many"] ["signs","many"] (ap bS):=⟨rfl,rfl,rfl,by decide +kernel,rfl,by decide +kernel,by decide +kernel⟩
theorem e_ (F:Fun K "how_many_ways" "how_many_ways" bS f fd) (C_need_signs:Cal P w K mg base "need_signs" 2 ["thing"] bN) (C_need_many:Cal P w K mg base "need_many" 3 ["thing"] dN) (C_counts_up_to:Cal P w K mg base "counts_up_to" 2 ["signs","many"] iK):FnOk P w K mg base CX0 4 f fd ["signs","many"] iJ:=by
  refine F.ok eQ (fun vs H Q E h=>?_) (fun cdv A outer s H vs Q E hr h=>?_)
  · obtain ⟨gs,n,rfl,_⟩:=h;rfl
  obtain ⟨gs,n,rfl,hz,sp,h1,h9,q⟩:=h;refine ⟨_,(@af _ _ _ _ _ (@bK _ _ _ _ (@ai _ _ _ _ _ _ _ _ _ _ _ C_need_signs hr (by omega) rfl (@aa _ _ _ _ _ (@pv _ 0 _ _ (by rfl) (by first|exact .inl rfl|exact .inr (.inl rfl)|exact .inr (.inr rfl)) (by decide) (by decide)) ad (by rfl)) (by decide) (by rfl) (by rfl)) (by rfl)) (@af _ _ _ _ _ (@bK _ _ _ _ (@ai _ _ _ _ _ _ _ _ _ _ _ C_need_many hr (by omega) rfl (@aa _ _ _ _ _ (@pv _ 1 _ _ (by rfl) (by first|exact .inl rfl|exact .inr (.inl rfl)|exact .inr (.inr rfl)) (by decide) (by decide)) ad (by rfl)) (by decide) (by rfl) (by rfl)) (by rfl)) (@ah _ _ _ (@ar _ _ _ _ (@aI _ _ _ _ _ _ _ aC (@ai _ _ _ _ _ _ _ _ _ _ _ C_counts_up_to hr (by omega) rfl (@aa _ _ _ _ _ (@pv _ 0 _ _ (by rfl) (by first|exact .inl rfl|exact .inr (.inl rfl)|exact .inr (.inr rfl)) (by decide) (by decide)) (@aa _ _ _ _ _ (@pv _ 1 _ _ (by rfl) (by first|exact .inl rfl|exact .inr (.inl rfl)|exact .inr (.inr rfl)) (by decide) (by decide)) ad (by rfl)) (by rfl)) (by decide) (by rfl) (by rfl)) (@pv _ 1 _ _ (by rfl) (by first|exact .inl rfl|exact .inr (.inl rfl)|exact .inr (.inr rfl)) (by decide) (by decide)) (fun _ _=>rfl)))))),?_⟩;have zl:(ak gs).length=gs.length:=bI gs;refine ⟨_,rfl,gs,rfl,sp,?_⟩;refine ⟨_,rfl,(n:Int),rfl,by omega,by omega,?_⟩;refine ⟨_,rfl,_,rfl,ak gs,(n:Int),rfl,by omega,by omega,by omega,fun p2 H2 g2 n2 e2=>?_⟩;rw [zl,show ((n:Int) - 1).toNat=n - 1 by omega] at e2;exact ⟨_,rfl,p2,_,_,_,rfl,rfl,SqL.of e2,dL (by omega) (by omega),q _ g2⟩
end
open PySem L2
def Sg.ix:Sg→Int
  | .plus=>0
  | .minus=>1
  | .times=>2
def keq:Wy→Wy→Bool
  | .num _,.num _=>true
  | .node g l r,.node g' l' r'=>decide (l.size=l'.size) && (decide (g.ix=g'.ix) && (keq l l' && keq r r'))
  | _,_=>false
def klt:Wy→Wy→Bool
  | .num _,.node _ _ _=>true
  | .node g l r,.node g' l' r'=>if l.size=l'.size then (if g.ix=g'.ix then (if keq l l'=true then (if keq r r'=true then false else klt r r') else klt l l') else decide (g.ix < g'.ix)) else decide (l.size < l'.size)
  | _,_=>false
theorem ng:∀ gs:List Sg,gs.length≤3→bb gs→∀ g∈gs,∀ g'∈gs,(gs.idxOf g < gs.idxOf g'↔g.ix < g'.ix)∧(gs.idxOf g=gs.idxOf g'↔g.ix=g'.ix)
  | [],_,_=>fun g h=>nomatch h
  | [a],_,_=>by
    cases a <;> (intro g hg g' hg';rw [List.mem_singleton] at hg hg';subst hg hg';decide)
  | [a,b],_,h=>by
    cases a <;> cases b <;> first
      | exact absurd h (by unfold bb;decide +kernel)
      | decide
  | [a,b,c],_,h=>by
    cases a <;> cases b <;> cases c <;> first
      | exact absurd h (by unfold bb;decide +kernel)
      | decide
  | _ :: _ :: _ :: _ :: _,h,_=>by simp at h
theorem ly {u u' c c' C:Int} (h0:0≤c) (h1:c < C) (h0':0≤c') (h1':c' < C):(u * C+c < u' * C+c'↔u < u'∨(u=u'∧c < c'))∧(u * C+c=u' * C+c'↔u=u'∧c=c'):=by
  have C0:0 < C:=by omega
  rcases Int.lt_trichotomy u u' with h|h|h
  · have:=aaD (show u+1≤u' by omega) (ab4 C0);rw [abW,abX] at this;omega
  · subst h;omega
  · have:=aaD (show u'+1≤u by omega) (ab4 C0);rw [abW,abX] at this;omega
theorem il {gs:List Sg} (hs:gs.length≤3) (sp:bb gs):∀ w w':Wy,w.size=w'.size→w.size≤9→w.within gs→w'.within gs→(keq w w'=decide (w.nr gs=w'.nr gs))∧klt w w'=decide (w.nr gs < w'.nr gs)
  | .num _,.num _,_,_,_,_=>⟨rfl,rfl⟩
  | .num _,.node g l r,h,_,_,_=>by
    have h:1=l.size+r.size:=h;have:=l.size_pos;have:=r.size_pos;omega
  | .node g l r,.num _,h,_,_,_=>by
    have h:l.size+r.size=1:=h;have:=l.size_pos;have:=r.size_pos;omega
  | .node g l r,.node g' l' r',h,h9,hw,hw'=>by
    have h:l.size+r.size=l'.size+r'.size:=h;have h9:l.size+r.size≤9:=h9;have l1:=l.size_pos;have r1:=r.size_pos;have l1':=l'.size_pos;have r1':=r'.size_pos;have bl:=Wy.nr_bd hs l hw.2.1 (by omega);have br:=Wy.nr_bd hs r hw.2.2 (by omega);have bl':=Wy.nr_bd hs l' hw'.2.1 (by omega);have br':=Wy.nr_bd hs r' hw'.2.2 (by omega);obtain ⟨i1,_⟩:=f_ hw.1;obtain ⟨i1',_⟩:=f_ hw'.1;obtain ⟨e0,e1,_⟩:=fV (i:=((gs.idxOf g:Nat):Int)) (s:=gs.length) (by omega) (by omega) bl.1 bl.2 br.1 br.2;obtain ⟨e0',e1',_⟩:=fV (i:=((gs.idxOf g':Nat):Int)) (s:=gs.length) (by omega) (by omega) bl'.1 bl'.2 br'.1 br'.2;have en:(Wy.node g l r).nr gs=prs gs.length (l.size+r.size) (l.size - 1)+((((gs.idxOf g:Nat):Int) * cn gs.length l.size+l.nr gs) * cn gs.length r.size+r.nr gs):=rfl;have en':(Wy.node g' l' r').nr gs=prs gs.length (l.size+r.size) (l'.size - 1)+((((gs.idxOf g':Nat):Int) * cn gs.length l'.size+l'.nr gs) * cn gs.length r'.size+r'.nr gs):=by rw [h];rfl
    have ek:keq (.node g l r) (.node g' l' r')=(decide (l.size=l'.size) && (decide (g.ix=g'.ix) && (keq l l' && keq r r'))):=rfl;have el:klt (.node g l r) (.node g' l' r')=if l.size=l'.size then (if g.ix=g'.ix then (if keq l l'=true then (if keq r r'=true then false else klt r r') else klt l l') else decide (g.ix < g'.ix)) else decide (l.size < l'.size):=rfl
    rw [en,en',ek,el];rcases Nat.lt_trichotomy l.size l'.size with c|c|c
    · have p:=cA hs h9 (i:=l.size - 1+1) (j:=l'.size - 1) (by omega) (by omega);have p:prs gs.length (l.size+r.size) (l.size - 1)+(gs.length:Int) * cn gs.length (1+(l.size - 1)) * cn gs.length (l.size+r.size - (1+(l.size - 1)))≤_:=p;rw [show 1+(l.size - 1)=l.size by omega,show l.size+r.size - l.size=r.size by omega] at p;rw [decide_eq_false (show ¬ l.size=l'.size by omega),if_neg (show ¬ l.size=l'.size by omega),decide_eq_true c,Bool.false_and];constructor
      · rw [eq_comm,decide_eq_false_iff_not];omega
      · rw [eq_comm,decide_eq_true_eq];omega
    · have cr:r.size=r'.size:=by omega
      have ihl:=il hs sp l l' c (by omega) hw.2.1 hw'.2.1;have ihr:=il hs sp r r' cr (by omega) hw.2.2 hw'.2.2;obtain ⟨o1,o2⟩:=ng gs hs sp g hw.1 g' hw'.1;rw [← c] at bl' ⊢;rw [← cr] at br' ⊢;rw [decide_eq_true rfl,if_pos rfl,Bool.true_and,ihl.1,ihl.2,ihr.1,ihr.2];have L1:=ly (u:=((gs.idxOf g:Nat):Int) * cn gs.length l.size+l.nr gs) (u':=((gs.idxOf g':Nat):Int) * cn gs.length l.size+l'.nr gs) br.1 br.2 br'.1 br'.2;have L2:=ly (u:=((gs.idxOf g:Nat):Int)) (u':=((gs.idxOf g':Nat):Int)) bl.1 bl.2 bl'.1 bl'.2;generalize ((gs.idxOf g:Nat):Int) * cn gs.length l.size+l.nr gs=U at L1 L2 ⊢;generalize ((gs.idxOf g':Nat):Int) * cn gs.length l.size+l'.nr gs=U' at L1 L2 ⊢;generalize U * cn gs.length r.size+r.nr gs=W at L1 ⊢;generalize U' * cn gs.length r.size+r'.nr gs=W' at L1 ⊢;generalize prs gs.length (l.size+r.size) (l.size - 1)=p;clear ek el en en' e0 e1 e0' e1' ihl ihr bl br bl' br';generalize l.nr gs=a at *;generalize l'.nr gs=a' at *;generalize r.nr gs=b at *;generalize r'.nr gs=b' at *;generalize gs.idxOf g=i at *;generalize gs.idxOf g'=i' at *;constructor
      · rw [aaX];simp only [abo,decide_eq_true_eq];omega
      · rw [aaX];simp only [decide_eq_true_eq];by_cases c1:g.ix=g'.ix
        · rw [if_pos c1];by_cases c2:a=a'
          · rw [if_pos c2];by_cases c3:b=b'
            · rw [if_pos c3];constructor
              · exact fun z=>absurd z (by decide)
              · omega
            · rw [if_neg c3,decide_eq_true_eq];omega
          · rw [if_neg c2,decide_eq_true_eq];omega
        · rw [if_neg c1,decide_eq_true_eq];omega
    · have p:=cA hs h9 (i:=l'.size - 1+1) (j:=l.size - 1) (by omega) (by omega);have p:prs gs.length (l.size+r.size) (l'.size - 1)+(gs.length:Int) * cn gs.length (1+(l'.size - 1)) * cn gs.length (l.size+r.size - (1+(l'.size - 1)))≤_:=p;rw [show 1+(l'.size - 1)=l'.size by omega,show l.size+r.size - l'.size=r'.size by omega] at p;rw [decide_eq_false (show ¬ l.size=l'.size by omega),if_neg (show ¬ l.size=l'.size by omega),decide_eq_false (show ¬ l.size < l'.size by omega),Bool.false_and];constructor
      · rw [eq_comm,decide_eq_false_iff_not];omega
      · rw [eq_comm,decide_eq_false_iff_not];omega
def KyIn (H:Hp):Wy→V→Prop
  | .num _,v=>∃ a,v=.ref a∧H a=some (.lst [])
  | .node g l r,v=>∃ a x y,v=.ref a∧H a=some (.lst [.int (l.size:Nat),.int g.ix,x,y])∧KyIn H l x∧KyIn H r y
theorem KyIn.mono {H H':Hp} (s:Same H H'):∀ {w:Wy} {v:V},KyIn H w v→KyIn H' w v
  | .num _,_,⟨a,e,h⟩=>⟨a,e,s _ _ h⟩
  | .node _ _ _,_,⟨a,x,y,e,h,hl,hr⟩=>⟨a,x,y,e,s _ _ h,hl.mono s,hr.mono s⟩
theorem KyIn.ref {H:Hp}:∀ {w:Wy} {v:V},KyIn H w v→∃ a ks,v=.ref a∧H a=some (.lst ks)
  | .num _,_,⟨a,e,h⟩=>⟨a,_,e,h⟩
  | .node _ _ _,_,⟨a,x,y,e,h,_⟩=>⟨a,_,e,h⟩
theorem at4 {x0 x1 x2 x3 x:V} {j:Nat} (h:[x0,x1,x2,x3][j]?=some x):(j=0∧x=x0)∨(j=1∧x=x1)∨(j=2∧x=x2)∨(j=3∧x=x3):=by
  match j,h with
  | 0,h=>exact .inl ⟨rfl,by simpa using h.symm⟩
  | 1,h=>exact .inr (.inl ⟨rfl,by simpa using h.symm⟩)
  | 2,h=>exact .inr (.inr (.inl ⟨rfl,by simpa using h.symm⟩))
  | 3,h=>exact .inr (.inr (.inr ⟨rfl,by simpa using h.symm⟩))
  | j+4,h=>simp at h
theorem fY (K:aaa) (H:Hp):∀ (n:Nat) (w w':Wy) (x y:V),w.size≤n→KyIn H w x→KyIn H w' y→EqR K H n x y (keq w w')
  | 0,w,_,_,_,h,_,_=>by have:=w.size_pos;omega
  | n+1,.num _,.num _,_,_,_,⟨a,rfl,ha⟩,⟨b,rfl,hb⟩=>by
    have:=EqR.lst (K:=K) (H:=H) (n:=n) (e:=fun _=>true) (SqL.of ha) (SqL.of hb) rfl (fun j x y h=>by simp at h);exact this
  | n+1,.num _,.node _ _ _,_,_,_,⟨a,rfl,ha⟩,⟨b,_,_,rfl,hb,_⟩=>.lens (SqL.of ha) (SqL.of hb) (by simp)
  | n+1,.node _ _ _,.num _,_,_,_,⟨a,_,_,rfl,ha,_⟩,⟨b,rfl,hb⟩=>.lens (SqL.of ha) (SqL.of hb) (by simp)
  | n+1,.node g l r,.node g' l' r',_,_,h,⟨a,xl,xr,rfl,ha,hl,hr⟩,⟨b,yl,yr,rfl,hb,hl',hr'⟩=>by
    have h:l.size+r.size≤n+1:=h;have:=l.size_pos;have:=r.size_pos;have i1:=fY K H n l l' xl yl (by omega) hl hl';have i2:=fY K H n r r' xr yr (by omega) hr hr';have:=EqR.lst (K:=K) (H:=H) (n:=n) (e:=fun j=>match j with|0=>decide (l.size=l'.size)|1=>decide (g.ix=g'.ix)|2=>keq l l'|_=>keq r r') (SqL.of ha) (SqL.of hb) rfl (fun j x y h1 h2=>by
      rcases at4 h1 with ⟨rfl,rfl⟩|⟨rfl,rfl⟩|⟨rfl,rfl⟩|⟨rfl,rfl⟩
      · have : y=.int (l'.size:Nat):=by simpa using h2.symm
        subst this;have e:=EqR.flat (K:=K) (H:=H) (n:=n) (x:=.int (l.size:Nat)) (y:=.int (l'.size:Nat)) rfl rfl;rw [show eqV (.int (l.size:Nat)) (.int (l'.size:Nat))=decide (l.size=l'.size) by
          rw [aaX,decide_eq_true_eq];simp [eqV];omega] at e
        exact e
      · have : y=.int g'.ix:=by simpa using h2.symm
        subst this;have e:=EqR.flat (K:=K) (H:=H) (n:=n) (x:=.int g.ix) (y:=.int g'.ix) rfl rfl;rw [show eqV (.int g.ix) (.int g'.ix)=decide (g.ix=g'.ix) by
          rw [aaX,decide_eq_true_eq];simp [eqV]] at e
        exact e
      · have : y=yl:=by simpa using h2.symm
        subst this;exact i1
      · have : y=yr:=by simpa using h2.symm
        subst this;exact i2)
    have e:keq (.node g l r) (.node g' l' r')=((aaR 4).all fun j=>match j with|0=>decide (l.size=l'.size)|1=>decide (g.ix=g'.ix)|2=>keq l l'|_=>keq r r'):=by
      show _=(decide (l.size=l'.size) && (decide (g.ix=g'.ix) && (keq l l' && (keq r r' && true))))
      rw [Bool.and_true];rfl
    rw [e];exact this
theorem io (K:aaa) (H:Hp):∀ (n:Nat) (w w':Wy) (x y:V),w.size≤n→KyIn H w x→KyIn H w' y→LtQ K H n x y (klt w w')
  | 0,w,_,_,_,h,_,_=>by have:=w.size_pos;omega
  | n+1,.num _,.num _,_,_,_,⟨a,rfl,ha⟩,⟨b,rfl,hb⟩ =>
    LtQ.lst (K:=K) (H:=H) (n:=n) (e:=fun _=>true) (l:=fun _=>true) (SqL.of ha) (SqL.of hb) (fun j x y h=>by simp at h) (fun j x y h=>by simp at h)
  | n+1,.num _,.node _ _ _,_,_,_,⟨a,rfl,ha⟩,⟨b,_,_,rfl,hb,_⟩ =>
    LtQ.lst (K:=K) (H:=H) (n:=n) (e:=fun _=>true) (l:=fun _=>true) (SqL.of ha) (SqL.of hb) (fun j x y h=>by simp at h) (fun j x y h=>by simp at h)
  | n+1,.node _ _ _,.num _,_,_,_,⟨a,_,_,rfl,ha,_⟩,⟨b,rfl,hb⟩ =>
    LtQ.lst (K:=K) (H:=H) (n:=n) (e:=fun _=>true) (l:=fun _=>true) (SqL.of ha) (SqL.of hb) (fun j x y _ h=>by simp at h) (fun j x y _ h=>by simp at h)
  | n+1,.node g l r,.node g' l' r',_,_,h,⟨a,xl,xr,rfl,ha,hl,hr⟩,⟨b,yl,yr,rfl,hb,hl',hr'⟩=>by
    have h:l.size+r.size≤n+1:=h;have:=l.size_pos;have:=r.size_pos;have i1:=fY K H n l l' xl yl (by omega) hl hl';have i2:=fY K H n r r' xr yr (by omega) hr hr';have j1:=io K H n l l' xl yl (by omega) hl hl';have j2:=io K H n r r' xr yr (by omega) hr hr';have:=LtQ.lst (K:=K) (H:=H) (n:=n) (e:=fun j=>match j with|0=>decide (l.size=l'.size)|1=>decide (g.ix=g'.ix)|2=>keq l l'|_=>keq r r') (l:=fun j=>match j with|0=>decide (l.size < l'.size)|1=>decide (g.ix < g'.ix)|2=>klt l l'|_=>klt r r') (SqL.of ha) (SqL.of hb) (fun j x y h1 h2=>by
      rcases at4 h1 with ⟨rfl,rfl⟩|⟨rfl,rfl⟩|⟨rfl,rfl⟩|⟨rfl,rfl⟩
      · have : y=.int (l'.size:Nat):=by simpa using h2.symm
        subst this;have e:=EqR.flat (K:=K) (H:=H) (n:=n) (x:=.int (l.size:Nat)) (y:=.int (l'.size:Nat)) rfl rfl;rw [show eqV (.int (l.size:Nat)) (.int (l'.size:Nat))=decide (l.size=l'.size) by
          rw [aaX,decide_eq_true_eq];simp [eqV];omega] at e
        exact e
      · have : y=.int g'.ix:=by simpa using h2.symm
        subst this;have e:=EqR.flat (K:=K) (H:=H) (n:=n) (x:=.int g.ix) (y:=.int g'.ix) rfl rfl;rw [show eqV (.int g.ix) (.int g'.ix)=decide (g.ix=g'.ix) by
          rw [aaX,decide_eq_true_eq];simp [eqV]] at e
        exact e
      · have : y=yl:=by simpa using h2.symm
        subst this;exact i1
      · have : y=yr:=by simpa using h2.symm
        subst this;exact i2) (fun j x y h1 h2 _=>by
      rcases at4 h1 with ⟨rfl,rfl⟩|⟨rfl,rfl⟩|⟨rfl,rfl⟩|⟨rfl,rfl⟩
      · have : y=.int (l'.size:Nat):=by simpa using h2.symm
        subst this;have e:=LtQ.int (K:=K) (H:=H) (n:=n) (a:=(l.size:Nat)) (b:=(l'.size:Nat));rw [show decide (((l.size:Nat):Int) < ((l'.size:Nat):Int))=decide (l.size < l'.size) by
          rw [aaX,decide_eq_true_eq,decide_eq_true_eq];omega] at e
        exact e
      · have : y=.int g'.ix:=by simpa using h2.symm
        subst this;exact .int
      · have : y=yl:=by simpa using h2.symm
        subst this;exact j1
      · have : y=yr:=by simpa using h2.symm
        subst this;exact j2)
    have e:klt (.node g l r) (.node g' l' r')=im (fun j=>match j with|0=>decide (l.size=l'.size)|1=>decide (g.ix=g'.ix)|2=>keq l l'|_=>keq r r') (fun j=>match j with|0=>decide (l.size < l'.size)|1=>decide (g.ix < g'.ix)|2=>klt l l'|_=>klt r r') 4 4 0 4:=by
      show _=if decide (l.size=l'.size)=true then (if decide (g.ix=g'.ix)=true then (if keq l l'=true then (if keq r r'=true then decide (4 < 4) else klt r r') else klt l l') else decide (g.ix < g'.ix)) else decide (l.size < l'.size)
      simp only [decide_eq_true_eq];rfl
    rw [e];exact this
section
variable {P:Program} {w:World} {K:aaa} {mg:Str→Option Value} {base:Heap} {f:Addr} {fd:FuncData}
def gY (n:Nat):Sp:=fun vs H Q _=>∃ (w:Wy) (v:V),vs=[v]∧WyIn H w v∧w.size≤n∧Q (.int (w.size:Nat)) H
abbrev du:Stmt:=top 40
theorem hW:FnScope ["way"] ["way"] (ap du):=⟨rfl,rfl,rfl,by decide +kernel,rfl,by decide +kernel,by decide +kernel⟩
theorem i9 (F:Fun K "_law_many" "_law_many" du f fd) (bF:Binds K fd ["way"] []) (mF:mg "_law_many" = some (.ref f)) (B:Bu K mg):∀ n,FnOk P w K mg base CX0 (n+1) f fd ["way"] (gY n):=by
  intro n
  induction n with
  | zero =>
    refine ⟨fun vs H Q E h=>?_,fun A outer s H args us vs Q E _ _ _ _ h=>?_⟩
    · obtain ⟨w,v,rfl,_⟩:=h;rfl
    · obtain ⟨w,v,_,_,h2,_⟩:=h;have:=w.size_pos;omega
  | succ n ih =>
    have C__law_many:Cal P w K mg base "_law_many" (n+1) ["way"] (gY n):=⟨f,fd,ih,bF,F.kp,mF⟩
    refine F.ok hW (fun vs H Q E h=>?_) (fun cdv A outer s H vs Q E hr h=>?_)
    · obtain ⟨w,v,rfl,_⟩:=h;rfl
    obtain ⟨w,v,rfl,hw,hn,q⟩:=h;refine ⟨_,(@af _ _ _ _ _ (@a8 _ _ _ _ _ _ _ _ (@bD _ _ _ _ (@bf _ _ _ (@ao _ _ _ _ _ _ _ _ _ (@aV _ ("tuple")) rfl B.iisinstance aaz (@aa _ _ _ _ _ (@pv _ 0 _ _ (by rfl) (by first|exact .inl rfl|exact .inr (.inl rfl)|exact .inr (.inr rfl)) (by decide) (by decide)) (@aa _ _ _ _ _ (@b8 _ _ (.ty "tuple") _ _ rfl B.ituple abT rfl (by decide) (by decide)) ad (by rfl)) (by rfl)) (by decide) (by decide) (by rfl) (by rfl)) (by intro _;rfl))) (@ah _ _ _ (@ar _ _ _ _ ae)) aE) (@ah _ _ _ (@ar _ _ _ _ (@av _ _ _ _ _ _ _ _ bw (@ai _ _ _ _ _ _ _ _ _ _ _ C__law_many hr (by omega) rfl (@aa _ _ _ _ _ (@aI _ _ _ _ _ _ _ dc (@pv _ 0 _ _ (by rfl) (by first|exact .inl rfl|exact .inr (.inl rfl)|exact .inr (.inr rfl)) (by decide) (by decide)) ae (fun _ _=>rfl)) ad (by rfl)) (by decide) (by rfl) (by rfl)) (@ai _ _ _ _ _ _ _ _ _ _ _ C__law_many hr (by omega) rfl (@aa _ _ _ _ _ (@aI _ _ _ _ _ _ _ dc (@pv _ 0 _ _ (by rfl) (by first|exact .inl rfl|exact .inr (.inl rfl)|exact .inr (.inr rfl)) (by decide) (by decide)) ae (fun _ _=>rfl)) ad (by rfl)) (by decide) (by rfl) (by rfl)))))),?_⟩;cases w with
    | num i =>
      cases (show v=.int i from hw);exact ⟨_,rfl,_,_,false,rfl,.int i,rfl,false,rfl,cD q⟩
    | node g l r =>
      obtain ⟨a,x,y,rfl,ha,hl,hr'⟩:=hw;have hn:l.size+r.size≤n+1:=hn;have:=l.size_pos;have:=r.size_pos;refine ⟨_,rfl,_,_,true,rfl,.tup ha,rfl,true,rfl,a_ ?_⟩;refine ⟨_,rfl,a,_,_,_,rfl,rfl,SqT.of ha,rfl,l,x,rfl,hl,by omega,?_⟩;refine ⟨_,rfl,a,_,_,_,rfl,rfl,SqT.of ha,rfl,r,y,rfl,hr',by omega,_,_,rfl,rfl,?_⟩;exact q
def iI (n:Nat):Sp:=fun vs H Q _=>∃ (w:Wy) (v:V),vs=[v]∧WyIn H w v∧w.size≤n∧n≤9∧∀ x H',Same H H'→KyIn H' w x→Q x H'
abbrev d5:Stmt:=top 41
theorem iT:FnScope ["way"] ["way"] (ap d5):=⟨rfl,rfl,rfl,by decide +kernel,rfl,by decide +kernel,by decide +kernel⟩
theorem jD (F:Fun K "_law_key" "_law_key" d5 f fd) (bF:Binds K fd ["way"] []) (mF:mg "_law_key" = some (.ref f)) (B:Bu K mg) (C__law_many:Cal P w K mg base "_law_many" 10 ["way"] (gY 9)):∀ n,FnOk P w K mg base CX0 (n+11) f fd ["way"] (iI n):=by
  intro n
  induction n with
  | zero =>
    refine ⟨fun vs H Q E h=>?_,fun A outer s H args us vs Q E _ _ _ _ h=>?_⟩
    · obtain ⟨w,v,rfl,_⟩:=h;rfl
    · obtain ⟨w,v,_,_,h2,_⟩:=h;have:=w.size_pos;omega
  | succ n ih =>
    have C__law_key:Cal P w K mg base "_law_key" (n+11) ["way"] (iI n):=⟨f,fd,ih,bF,F.kp,mF⟩
    refine F.ok iT (fun vs H Q E h=>?_) (fun cdv A outer s H vs Q E hr h=>?_)
    · obtain ⟨w,v,rfl,_⟩:=h;rfl
    obtain ⟨w,v,rfl,hw,hn,h9,q⟩:=h;refine ⟨_,(@af _ _ _ _ _ (@a8 _ _ _ _ _ _ _ _ (@bD _ _ _ _ (@bf _ _ _ (@ao _ _ _ _ _ _ _ _ _ (@aV _ ("tuple")) rfl B.iisinstance aaz (@aa _ _ _ _ _ (@pv _ 0 _ _ (by rfl) (by first|exact .inl rfl|exact .inr (.inl rfl)|exact .inr (.inr rfl)) (by decide) (by decide)) (@aa _ _ _ _ _ (@b8 _ _ (.ty "tuple") _ _ rfl B.ituple abT rfl (by decide) (by decide)) ad (by rfl)) (by rfl)) (by decide) (by decide) (by rfl) (by rfl)) (by intro _;rfl))) (@ah _ _ _ (@ar _ _ _ _ (@aW _ _ _ _ ad))) aE) (@ah _ _ _ (@ar _ _ _ _ (@aW _ _ _ _ (@aa _ _ _ _ _ (@ai _ _ _ _ _ _ _ _ _ _ _ C__law_many hr (by omega) rfl (@aa _ _ _ _ _ (@aI _ _ _ _ _ _ _ dc (@pv _ 0 _ _ (by rfl) (by first|exact .inl rfl|exact .inr (.inl rfl)|exact .inr (.inr rfl)) (by decide) (by decide)) ae (fun _ _=>rfl)) ad (by rfl)) (by decide) (by rfl) (by rfl)) (@aa _ _ _ _ _ (@gA _ _ _ _ _ _ _ _ _ _ _ _ PySem.F.plainAttrs_str PySem.F.slot_str_index PySem.F.type_str_index eJ a9 (@aa _ _ _ _ _ (@aI _ _ _ _ _ _ _ dc (@pv _ 0 _ _ (by rfl) (by first|exact .inl rfl|exact .inr (.inl rfl)|exact .inr (.inr rfl)) (by decide) (by decide)) ae (fun _ _=>rfl)) ad (by rfl)) (by rfl) (by rfl) (by rfl) (by rfl) (by rfl)) (@aa _ _ _ _ _ (@ai _ _ _ _ _ _ _ _ _ _ _ C__law_key hr (by omega) rfl (@aa _ _ _ _ _ (@aI _ _ _ _ _ _ _ dc (@pv _ 0 _ _ (by rfl) (by first|exact .inl rfl|exact .inr (.inl rfl)|exact .inr (.inr rfl)) (by decide) (by decide)) ae (fun _ _=>rfl)) ad (by rfl)) (by decide) (by rfl) (by rfl)) (@aa _ _ _ _ _ (@ai _ _ _ _ _ _ _ _ _ _ _ C__law_key hr (by omega) rfl (@aa _ _ _ _ _ (@aI _ _ _ _ _ _ _ dc (@pv _ 0 _ _ (by rfl) (by first|exact .inl rfl|exact .inr (.inl rfl)|exact .inr (.inr rfl)) (by decide) (by decide)) ae (fun _ _=>rfl)) ad (by rfl)) (by decide) (by rfl) (by rfl)) ad (by rfl)) (by rfl)) (by rfl)) (by rfl)))))),?_⟩;cases w with
    | num i =>
      cases (show v=.int i from hw);exact ⟨_,rfl,_,_,false,rfl,.int i,rfl,false,rfl,cD ⟨aaB _,fun p np=>q _ _ (Same.new np _) ⟨p,rfl,ag⟩⟩⟩
    | node g l r =>
      obtain ⟨a,x,y,rfl,ha,hl,hr'⟩:=hw;have hn:l.size+r.size≤n+1:=hn;have:=l.size_pos;have:=r.size_pos;refine ⟨_,rfl,_,_,true,rfl,.tup ha,rfl,true,rfl,a_ ?_⟩;refine ⟨_,rfl,a,_,_,_,rfl,rfl,SqT.of ha,rfl,l,x,rfl,hl,by omega,?_⟩;obtain ⟨⟨ba,ho⟩,_⟩:=ik [.plus,.minus,.times] (by decide) (by unfold bb;decide +kernel) g (by cases g <;> decide);have eix:(([Sg.plus,.minus,.times].idxOf g:Nat):Int)=g.ix:=by cases g <;> rfl
      refine ⟨rfl,_,rfl,a,_,_,_,rfl,rfl,SqT.of ha,rfl,"+-*",g.str,[Sg.plus,.minus,.times].idxOf g,ba,rfl,rfl,ho,?_⟩;rw [eix];refine ⟨_,rfl,a,_,_,_,rfl,rfl,SqT.of ha,rfl,l,x,rfl,hl,by omega,by omega,fun kl H1 g1 k1=>?_⟩;refine ⟨_,rfl,a,_,_,_,rfl,rfl,SqT.of (g1 _ _ ha),rfl,r,y,rfl,hr'.mono (Tups.of g1),by omega,by omega,fun kr H2 g2 k2=>?_⟩;refine ⟨(by show 4≤sizeLine;decide),fun p np=>q _ _ ((g1.trans g2).trans (Same.new np _)) ?_⟩;have sn:=Same.new np (.lst [.int (l.size:Nat),.int g.ix,kl,kr]);exact ⟨p,kl,kr,rfl,ag,(k1.mono g2).mono sn,k2.mono sn⟩
end
open PySem L2
def alC (a:List Int→List Wy) (gs:List Sg) (ns:List Int) (c:Nat):List Wy:=(a (ns.take c)).flatMap fun l=>(a (ns.drop c)).flatMap fun r=>gs.map fun g=>Wy.node g l r
def al:Nat→List Sg→List Int→List Wy
  | 0,_,_=>[]
  | n+1,gs,ns=>if ns.length=1 then ns.map Wy.num else (aaR (ns.length - 1)).flatMap fun k=>alC (al n gs) gs ns (k+1)
theorem jf {α β:Type} (g h:α→List β):∀ m:List α,(m.flatMap g++m.flatMap h).Perm (m.flatMap fun b=>g b++h b)
  | []=>.nil
  | b :: m=>by
    rw [aaQ,aaQ,aaQ,aaj,aaj];refine aaV _ ?_;refine List.Perm.trans ?_ (aaV _ (jf g h m));rw [← aaj,← aaj];exact aa9 _ aaM
theorem fi {α β γ:Type} (m:List β) (f:α→β→List γ):∀ l:List α,(l.flatMap fun a=>m.flatMap fun b=>f a b).Perm (m.flatMap fun b=>l.flatMap fun a=>f a b)
  | []=>by
    have : (m.flatMap fun b=>([]:List α).flatMap fun a=>f a b)=[]:=by simp
    rw [this];exact .nil
  | a :: l=>by
    rw [aaQ];refine List.Perm.trans (aaV _ (fi m f l)) ?_;exact jf (f a) (fun b=>l.flatMap fun a=>f a b) m
theorem dH {α β:Type} {f g:α→List β}:∀ l:List α,(∀ x∈l,(f x).Perm (g x))→(l.flatMap f).Perm (l.flatMap g)
  | [],_=>.nil
  | x :: l,h=>by
    rw [aaQ,aaQ];exact List.Perm.append (h x aaw) (dH l fun y hy=>h y (aay _ hy))
theorem jL {α β:Type} (f:α→List β) {l l':List α} (h:l.Perm l'):(l.flatMap f).Perm (l'.flatMap f):=by
  induction h with
  | nil=>exact .nil
  | cons x _ ih=>rw [aaQ,aaQ];exact aaV _ ih
  | swap x y l =>
    simp only [aaQ];rw [← aaj,← aaj];exact aa9 _ aaM
  | trans _ _ ih1 ih2=>exact ih1.trans ih2
theorem dg (gs:List Sg):∀ (n:Nat) (ns:List Int),(al n gs ns).Perm (aw n gs ns)
  | 0,_=>.nil
  | n+1,ns=>by
    unfold al aw;by_cases c:ns.length=1
    · rw [if_pos c,if_pos c]
    rw [if_neg c,if_neg c];refine dH _ fun k _=>?_;unfold alC awC;have iL:=dg gs n (ns.take (k+1));have iR:=dg gs n (ns.drop (k+1));have s1:∀ l,((al n gs (ns.drop (k+1))).flatMap fun r=>gs.map fun g=>Wy.node g l r).Perm (gs.flatMap fun g=>(aw n gs (ns.drop (k+1))).map fun r=>Wy.node g l r):=fun l=>by
      have:=fi gs (fun r g=>[Wy.node g l r]) (al n gs (ns.drop (k+1)));have e1:(fun (r:Wy)=>gs.flatMap fun g=>[Wy.node g l r])=fun r=>gs.map fun g=>Wy.node g l r:=by funext r;rw [List.map_eq_flatMap]
      rw [e1] at this;refine this.trans (dH _ fun g _=>?_);have e2:((al n gs (ns.drop (k+1))).flatMap fun r=>[Wy.node g l r])=(al n gs (ns.drop (k+1))).map fun r=>Wy.node g l r:=by rw [List.map_eq_flatMap]
      rw [e2];exact iR.map _
    refine (dH _ fun l _=>s1 l).trans ?_;refine (jL _ iL).trans ?_;exact fi gs (fun l g=>(aw n gs (ns.drop (k+1))).map fun r=>Wy.node g l r) _
section
variable {P:Program} {w:World} {K:aaa} {mg:Str→Option Value} {base:Heap} {f:Addr} {fd:FuncData}
def jW (n:Nat):Sp:=fun vs H Q _=>∃ (r:Addr) (ns:List Int) (gs:List Sg),vs=[.ref r,.str (ak gs)]∧H r=some (.lst (ns.map V.int))∧1≤ns.length∧ns.length≤n∧n≤5∧1≤gs.length∧gs.length≤3 ∧
  ∀ p us H',Same H H'→H p=none→H' p=some (.lst us)→WyAll H' (al n gs ns) us→Q (.ref p) H'
abbrev d6:Stmt:=top 42
theorem bP:FnScope ["row","signs","found","cut","left","right"] ["row","signs"] (ap d6):=⟨rfl,rfl,rfl,by decide +kernel,rfl,by decide +kernel,by decide +kernel⟩
theorem jE (F:Fun K "_law_all" "_law_all" d6 f fd) (bF:Binds K fd ["row","signs"] []) (mF:mg "_law_all" = some (.ref f)) (B:Bu K mg):∀ n,FnOk P w K mg base CX0 (n+1) f fd ["row","signs"] (jW n):=by
  intro n
  induction n with
  | zero =>
    refine ⟨fun vs H Q E h=>?_,fun A outer s H args us vs Q E _ _ _ _ h=>?_⟩
    · obtain ⟨r,ns,gs,rfl,_⟩:=h;rfl
    · obtain ⟨r,ns,gs,_,_,h1,h2,_⟩:=h;omega
  | succ n ih =>
    have C__law_all:Cal P w K mg base "_law_all" (n+1) ["row","signs"] (jW n):=⟨f,fd,ih,bF,F.kp,mF⟩
    refine F.ok bP (fun vs H Q E h=>?_) (fun cdv A outer s H vs Q E hr h=>?_)
    · obtain ⟨r,ns,gs,rfl,_⟩:=h;rfl
    obtain ⟨r,ns,gs,rfl,er,h1,h2,h5,g1,g3,q⟩:=h;refine ⟨_,(@af _ _ _ _ _ (@a8 _ _ _ _ _ _ _ _ (@aM _ _ _ _ _ _ _ _ eG (@ao _ _ _ _ _ _ _ _ _ aq rfl B.ilen aau (@aa _ _ _ _ _ (@pv _ 0 _ _ (by rfl) (by first|exact .inl rfl|exact .inr (.inl rfl)|exact .inr (.inr rfl)) (by decide) (by decide)) ad (by rfl)) (by decide) (by decide) (by rfl) (by rfl)) ae (aL _)) (@ah _ _ _ (@ar _ _ _ _ (@aW _ _ _ _ (@aa _ _ _ _ _ (@aI _ _ _ _ _ _ _ aC (@pv _ 0 _ _ (by rfl) (by first|exact .inl rfl|exact .inr (.inl rfl)|exact .inr (.inr rfl)) (by decide) (by decide)) ae (fun _ _=>rfl)) ad (by rfl))))) aE) (@af _ _ _ _ _ (@aB _ _ (2) _ _ _ _ (bP).nd rfl (Or.inl rfl) (@aW _ _ _ _ ad) (by rfl) (by first|exact .inl rfl|exact .inr rfl|assumption)) (@af _ _ _ _ _ (@cz _ _ _ _ _ _ _ _ aaO rfl (@bE _ _ _ _ _ _ _ rfl B.irange (@aa _ _ _ _ _ ae (@aa _ _ _ _ _ (@ao _ _ _ _ _ _ _ _ _ aq rfl B.ilen aau (@aa _ _ _ _ _ (@pv _ 0 _ _ (by rfl) (by first|exact .inl rfl|exact .inr (.inl rfl)|exact .inr (.inr rfl)) (by decide) (by decide)) ad (by rfl)) (by decide) (by decide) (by rfl) (by rfl)) ad (by rfl)) (by rfl)) (by rfl) (by rfl)) (@au _ _ (3) _ (bP).nd rfl (Or.inl rfl) (.inl rfl)) (@ah _ _ _ (@cz _ _ _ _ _ _ _ _ aaO rfl (@bX _ _ _ _ (@ai _ _ _ _ _ _ _ _ _ _ _ C__law_all hr (by omega) rfl (@aa _ _ _ _ _ (@bQ _ _ _ _ _ _ _ _ _ _ cF (@pv _ 0 _ _ (by rfl) (by first|exact .inl rfl|exact .inr (.inl rfl)|exact .inr (.inr rfl)) (by decide) (by decide)) cH (@cG _ _ _ (@pv _ 3 _ _ (by rfl) (by first|exact .inl rfl|exact .inr (.inl rfl)|exact .inr (.inr rfl)) (by decide) (by decide)))) (@aa _ _ _ _ _ (@pv _ 1 _ _ (by rfl) (by first|exact .inl rfl|exact .inr (.inl rfl)|exact .inr (.inr rfl)) (by decide) (by decide)) ad (by rfl)) (by rfl)) (by decide) (by rfl) (by rfl))) (@au _ _ (4) _ (bP).nd rfl (Or.inr rfl) (.inl rfl)) (@ah _ _ _ (@cz _ _ _ _ _ _ _ _ aaO rfl (@bX _ _ _ _ (@ai _ _ _ _ _ _ _ _ _ _ _ C__law_all hr (by omega) rfl (@aa _ _ _ _ _ (@bQ _ _ _ _ _ _ _ _ _ _ cF (@pv _ 0 _ _ (by rfl) (by first|exact .inl rfl|exact .inr (.inl rfl)|exact .inr (.inr rfl)) (by decide) (by decide)) (@cG _ _ _ (@pv _ 3 _ _ (by rfl) (by first|exact .inl rfl|exact .inr (.inl rfl)|exact .inr (.inr rfl)) (by decide) (by decide))) cH) (@aa _ _ _ _ _ (@pv _ 1 _ _ (by rfl) (by first|exact .inl rfl|exact .inr (.inl rfl)|exact .inr (.inr rfl)) (by decide) (by decide)) ad (by rfl)) (by rfl)) (by decide) (by rfl) (by rfl))) (@au _ _ (5) _ (bP).nd rfl (Or.inr rfl) (.inl rfl)) (@ah _ _ _ (@bK _ _ _ _ (@gA _ _ _ _ _ _ _ _ _ _ _ _ abk PySem.F.slot_list_extend PySem.F.type_list_extend kJ (@pv _ 2 _ _ (by rfl) (by first|exact .inl rfl|exact .inr (.inl rfl)|exact .inr (.inr rfl)) (by decide) (by decide)) (@aa _ _ _ _ _ (@eE _ _ _ _ _ _ _ _ (["sign","left","right"]) ([none,some 4,some 5]) _ _ _ _ rfl (@li _ _ _ _ (@pv _ 1 _ _ (by rfl) (by first|exact .inl rfl|exact .inr (.inl rfl)|exact .inr (.inr rfl)) (by decide) (by decide))) rfl ⟨rfl,⟨rfl,trivial⟩⟩ ⟨⟨rfl,Or.inl rfl,Or.inl rfl⟩,⟨⟨rfl,Or.inl rfl,Or.inl rfl⟩,trivial⟩⟩ (fun _ _ _ _=>⟨(@au _ _ (0) _ (show abp (["sign","left","right"]:List Str) by decide +kernel) rfl (Or.inl rfl) (.inr rfl)),bo,(@dy _ _ _ _ _ (@aa _ _ _ _ _ (@pv _ 0 _ _ (by rfl) (by first|exact .inl rfl|exact .inr (.inl rfl)|exact .inr (.inr rfl)) (by decide) (by decide)) (@aa _ _ _ _ _ (@pv _ 1 _ _ (by rfl) (by first|exact .inl rfl|exact .inr (.inl rfl)|exact .inr (.inr rfl)) (by decide) (by decide)) (@aa _ _ _ _ _ (@pv _ 2 _ _ (by rfl) (by first|exact .inl rfl|exact .inr (.inl rfl)|exact .inr (.inr rfl)) (by decide) (by decide)) ad (by rfl)) (by rfl)) (by rfl)))⟩) (by rfl) (by rfl) (by rfl) (by rfl) (by intro _;rfl)) ad (by rfl)) (by rfl) (by rfl) (by rfl) (by rfl) (by rfl)) (by rfl))) (by intro _;rfl))) (by intro _;rfl))) (by intro _;rfl)) (@ah _ _ _ (@ar _ _ _ _ (@pv _ 2 _ _ (by rfl) (by first|exact .inl rfl|exact .inr (.inl rfl)|exact .inr (.inr rfl)) (by decide) (by decide))))))),?_⟩;have hl:(ns.map V.int).length=ns.length:=aad _;have hB:=mY (n+1) h5 gs.length g3 ns.length (by omega);rw [← gh,← (dg gs (n+1) ns).length_eq] at hB;refine ⟨_,rfl,r,_,rfl,.inl (SqL.of er),?_⟩;rw [hl];by_cases c1:ns.length=1
    · refine ⟨rfl,true,congrArg V.bl (decide_eq_true (by rw [c1];rfl)),cD ?_⟩;obtain ⟨i,rfl⟩:∃ i,ns=[i]:=abV.mp c1;refine ⟨_,rfl,r,_,_,_,rfl,rfl,SqL.of er,rfl,(by show 1≤sizeLine;decide),fun p np=>q p _ _ (Same.new np _) np ag ?_⟩;exact .cons rfl .nil
    refine ⟨rfl,false,congrArg V.bl (decide_eq_false (fun e=>by injection e with e;omega)),a_ ⟨aaB _,fun pf nf=>?_⟩⟩;have sf:=Same.new nf (.lst []);have ef:upd H pf (.lst []) pf=some (.lst []):=ag;generalize upd H pf (.lst [])=H0 at sf ef ⊢;have er0:=sf _ _ er;have eal:al (n+1) gs ns=(aaR (ns.length - 1)).flatMap fun k=>alC (al n gs) gs ns (k+1):=by conv=>lhs;unfold al;rw [if_neg c1]
    refine ⟨_,rfl,r,_,rfl,.inl (SqL.of er0),1,((ns.map V.int).length:Nat),rfl,⟨by decide,by decide,by omega,by omega⟩,?_⟩;rw [hl];have e1:(((ns.length:Nat):Int) - 1).toNat=ns.length - 1:=by omega
    refine cT (n:=(((ns.length:Nat):Int) - 1).toNat) (fun j σ H'=>∃ (us:List V) (c3 c4 c5:Option V),σ=[some (.ref r),some (.str (ak gs)),some (.ref pf),c3,c4,c5]∧H' pf=some (.lst us)∧WyAll H' (((aaR (ns.length - 1)).take j).flatMap fun k=>alC (al n gs) gs ns (k+1)) us∧Same H H') ⟨[],_,_,_,rfl,ef,.nil,sf⟩ ?_ ?_
    · rintro j σ H1 hj ⟨us,c3,c4,c5,rfl,ef1,hw1,S1⟩;have hj':j < ns.length - 1:=by omega
      have hjr:(aaR (ns.length - 1))[j]?=some j:=List.getElem?_range hj';have ej:(1:Int)+(j:Int)=((j+1:Nat):Int):=by omega
      rw [ej];have lt:(ns.take (j+1)).length=j+1:=by rw [aas];omega
      have ld:(ns.drop (j+1)).length=ns.length - (j+1):=by rw [aaC]
      refine ⟨_,rfl,_,rfl,((j+1:Nat):Int),rfl,r,_,rfl,SqL.of (S1 _ _ er),fun p2 n2=>?_⟩;rw [gI _ _ (by omega),← List.map_take];have s2:=Same.new n2 (.lst ((ns.take (j+1)).map V.int));refine ⟨_,rfl,p2,ns.take (j+1),gs,rfl,ag,by omega,by omega,by omega,g1,g3,fun pl ul H3 s3 npl epl hwl=>?_⟩;have S3:=s2.trans s3;have ef3:=S3 _ _ ef1;have nlf:pl≠pf:=fun e=>by rw [e] at npl;rw [s2 _ _ ef1] at npl;cases npl
      have hw3:=hw1.mono (Tups.of S3);have S13:=S1.trans S3;generalize hA:((aaR (ns.length - 1)).take j).flatMap (fun k=>alC (al n gs) gs ns (k+1))=A at hw3;have preA:∀ q,q <+: alC (al n gs) gs ns (j+1)→(A++q).length≤1134:=fun q hq=>by
        have:=(fO (f:=fun k=>alC (al n gs) gs ns (k+1)) hjr hq).length_le;rw [hA,← eal] at this;omega
      refine ⟨pl,rfl,⟨_,SqL.of epl⟩,gb (xs:=ul) (fun b σ H'=>∃ (us:List V) (c4 c5:Option V),σ=[some (.ref r),some (.str (ak gs)),some (.ref pf),some (.int ((j+1:Nat):Int)),c4,c5]∧H' pf=some (.lst us)∧H' pl=some (.lst ul)∧WyAll H' (al n gs (ns.take (j+1))) ul∧WyAll H' (A++(((al n gs (ns.take (j+1))).take b).flatMap fun l=>(al n gs (ns.drop (j+1))).flatMap fun r=>gs.map fun g=>Wy.node g l r)) us∧Same H H') ⟨us,_,_,rfl,ef3,epl,hwl,by simpa using hw3,S13⟩ ?_ ?_ ?_⟩
      · rintro b σ H7 _ ⟨_,_,_,rfl,_,e,_⟩;exact SqL.of e
      · rintro b x σ H4 hx ⟨us4,c4,c5,rfl,ef4,epl4,hwl4,hw4,S4⟩;obtain ⟨lw0,hlw,hlx⟩:=fk hwl4 hx;refine ⟨_,rfl,_,rfl,((j+1:Nat):Int),rfl,r,_,rfl,SqL.of (S4 _ _ er),fun p5 n5=>?_⟩;rw [fj _ _ (by omega),← abR];have s5:=Same.new n5 (.lst ((ns.drop (j+1)).map V.int));refine ⟨_,rfl,p5,ns.drop (j+1),gs,rfl,ag,by omega,by omega,by omega,g1,g3,fun pr ur H6 s6 npr epr hwr=>?_⟩;have S46:=s5.trans s6;have ef6:=S46 _ _ ef4;have epl6:=S46 _ _ epl4;have hwl6:=hwl4.mono (Tups.of S46);have hw6:=hw4.mono (Tups.of S46);have hlx6:=hlx.mono (Tups.of S46);have nrf:pr≠pf:=fun e=>by rw [e] at npr;rw [s5 _ _ ef4] at npr;cases npr
        have SS6:=S4.trans S46;generalize hB2:((al n gs (ns.take (j+1))).take b).flatMap (fun l=>(al n gs (ns.drop (j+1))).flatMap fun r=>gs.map fun g=>Wy.node g l r)=BB at hw6;refine ⟨pr,rfl,⟨_,SqL.of epr⟩,gb (xs:=ur) (fun d σ H'=>∃ (us:List V) (c5:Option V),σ=[some (.ref r),some (.str (ak gs)),some (.ref pf),some (.int ((j+1:Nat):Int)),some x,c5]∧H' pf=some (.lst us)∧H' pl=some (.lst ul)∧H' pr=some (.lst ur)∧WyAll H' (al n gs (ns.take (j+1))) ul∧WyAll H' (al n gs (ns.drop (j+1))) ur∧WyIn H' lw0 x∧WyAll H' (A++(BB++(((al n gs (ns.drop (j+1))).take d).flatMap fun r=>gs.map fun g=>Wy.node g lw0 r))) us∧Same H H') ⟨us4,_,rfl,ef6,epl6,epr,hwl6,hwr,hlx6,by simpa using hw6,SS6⟩ ?_ ?_ ?_⟩
        · rintro b σ H7 _ ⟨_,_,rfl,_,_,e,_⟩;exact SqL.of e
        · rintro d y σ H7 hy ⟨us7,c5,rfl,ef7,epl7,epr7,hwl7,hwr7,hlx7,hw7,S7⟩;obtain ⟨rw0,hrw,hry⟩:=fk hwr7 hy;refine ⟨_,rfl,.inl ⟨rfl,_,SqL.of ef7⟩,?_⟩;refine ⟨_,rfl,_,rfl,fH gs,?_⟩;refine lz (fun i ys H'=>Same H7 H'∧WyAll H' ((gs.take i).map fun g=>Wy.node g lw0 rw0) ys) ⟨Same.refl _,.nil⟩ (fun i ys H' hi z=>?_) (fun i c ys H' hc z nx=>?_) (fun ys H' z p9 n9=>?_)
          · have:=z.2.length;rw [aad,aas] at this;exact aJ (by omega)
          · obtain ⟨g,hg,rfl⟩:=mV hc;obtain ⟨S8,hys⟩:=z;refine ⟨_,rfl,_,rfl,_,rfl,(by show 3≤sizeLine;decide),fun t ht=>nx ?_⟩;have st:=Same.new ht (.tup [.str ⟨#[g.code]⟩,x,y]);refine ⟨S8.trans st,?_⟩;rw [aaK,hg,aaL];refine WyAll.app (hys.mono (Tups.of st)) (.cons ⟨t,x,y,rfl,?_,(hlx7.mono (Tups.of (S8.trans st))),hry.mono (Tups.of (S8.trans st))⟩ .nil);rw [ag,bO]
          obtain ⟨S8,hys⟩:=z;rw [bI,aa4] at hys;have s9:=Same.new n9 (.lst ys);have S9:=S8.trans s9;have ef9:=S9 _ _ ef7;have hys9:=hys.mono (Tups.of s9);have hpre:(A++(BB++(((al n gs (ns.drop (j+1))).take d).flatMap (fun r=>gs.map fun g=>Wy.node g lw0 r)++gs.map fun g=>Wy.node g lw0 rw0))).length≤1134:=by
            refine preA _ ?_;unfold alC;rw [← hB2];exact fO (f:=fun l=>(al n gs (ns.drop (j+1))).flatMap fun r=>gs.map fun g=>Wy.node g l r) hlw (fO (f:=fun r=>gs.map fun g=>Wy.node g lw0 r) hrw (List.prefix_refl _))
          have l7:=hw7.length;have l9:=hys.length;simp only [aat] at hpre l7;refine ⟨pf,p9,_,_,rfl,rfl,ef9,ag,?_,?_⟩
          · exact ab6 (gg (by omega))
          have T9:Tups (upd H' p9 (.lst ys)) (upd (upd H' p9 (.lst ys)) pf (.lst (us7++ys))):=fun c xs hc=>by rw [aD (fun e=>by rw [e,ef9] at hc;cases hc)];exact hc
          have T79:=(Tups.of S9).trans T9;refine ⟨us7++ys,_,rfl,?_,?_,?_,hwl7.mono T79,hwr7.mono T79,hlx7.mono T79,?_,(S7.trans S9).upd nf⟩
          · rw [ag]
          · rw [aD nlf];exact S9 _ _ epl7
          · rw [aD nrf];exact S9 _ _ epr7
          · rw [fh (f:=fun r=>gs.map fun g=>Wy.node g lw0 r) hrw];have:=WyAll.app (hw7.mono T79) (hys9.mono T9);simpa [aaj] using this
        · rintro σ H7 ⟨us7,c5,rfl,ef7,epl7,epr7,hwl7,hwr7,hlx7,hw7,S7⟩;refine ⟨us7,_,_,rfl,ef7,epl7,hwl7,?_,S7⟩;rw [← hwr7.length,aa4] at hw7;rw [fh (f:=fun l=>(al n gs (ns.drop (j+1))).flatMap fun r=>gs.map fun g=>Wy.node g l r) hlw,hB2];exact hw7
      · rintro σ H6 ⟨us6,c4,c5,rfl,ef6,epl6,hwl6,hw6,S6⟩;refine ⟨us6,_,_,_,rfl,ef6,?_,S6⟩;rw [← hwl6.length,aa4] at hw6;rw [fh (f:=fun k=>alC (al n gs) gs ns (k+1)) hjr,hA];exact hw6
    · rintro σ H1 ⟨us,c3,c4,c5,rfl,ef1,hw1,S1⟩;rw [e1,aba (by simp),← eal] at hw1;exact ⟨_,rfl,q pf _ _ S1 nf ef1 hw1⟩
end
open PySem L2
theorem dM:∀ gs:List Sg,gs.length≤3→bb gs→gs.Nodup
  | [],_,_=>List.nodup_nil
  | [a],_,_=>by simp
  | [a,b],_,h=>by
    cases a <;> cases b <;> first|decide|exact absurd h (by unfold bb;decide +kernel)
  | [a,b,c],_,h=>by
    cases a <;> cases b <;> cases c <;> first|decide|exact absurd h (by unfold bb;decide +kernel)
  | _ :: _ :: _ :: _ :: _,h,_=>by simp at h
def Wy.Bd (w:Wy):Prop:=∀ i∈w.nums,i.natAbs < 2 ^ 131
theorem Wy.Bd.l {g:Sg} {l r:Wy} (h:(Wy.node g l r).Bd):l.Bd:=fun i hi=>h i (abw _ hi)
theorem Wy.Bd.r {g:Sg} {l r:Wy} (h:(Wy.node g l r).Bd):r.Bd:=fun i hi=>h i (aaf _ hi)
def aT:Wy→PyData
  | .num i=>.int i
  | .node g l r=>.tuple [.str g.str,aT l,aT r]
theorem WyIn.dat {H:Hp}:∀ {w:Wy} {v:V},WyIn H w v→Dat H (aT w) v
  | .num i,v,h=>by
    simp only [aT,Dat];exact h
  | .node g l r,v,h=>by
    obtain ⟨a,vl,vr,rfl,ha,hl,hr⟩:=h;simp only [aT,Dat,DatAll];exact ⟨a,_,rfl,ha,_,_,rfl,rfl,_,_,rfl,WyIn.dat hl,_,_,rfl,WyIn.dat hr,rfl⟩
theorem j4 {i:Int} {k:Nat} (h:i.natAbs < 2 ^ k) (hk:0 < k):i.natAbs.log2 < k:=by
  by_cases c:i.natAbs=0
  · rw [c];exact hk
  · exact (Nat.log2_lt c).mpr h
theorem cE : ∀ w:Wy,w.Bd→(aT w).showable=true
  | .num i,h=>by
    have:=j4 (h i aaw) (by decide);simp only [aT,PyData.showable];exact decide_eq_true (by omega)
  | .node g l r,h=>by
    simp only [aT,PyData.showable,PyData.showableAll,cE l h.l,cE r h.r,Bool.and_self]
theorem dj:∀ w:Wy,(aT w).depth≤w.deep
  | .num i=>by simp [aT,PyData.depth]
  | .node g l r=>by
    have a:=dj l;have b:=dj r;simp only [aT,PyData.depth,PyData.depthAll];show max 0 (max (aT l).depth (max (aT r).depth 0))+1≤max l.deep r.deep+1;omega
theorem ml (g:Sg):(reprText g.str).length=3:=by cases g <;> decide +kernel
theorem jn:∀ w:Wy,w.Bd→(aT w).shown.length+12≤150 * w.size
  | .num i,h=>by
    have e:=int_text_length_le (a:=i) (k:=132) (by decide) (by have:=j4 (h i aaw) (by decide);omega);show (Str.ofString (toString i)).length+12≤150 * 1;rw [ofString_length];omega
  | .node g l r,h=>by
    have a:=jn l h.l;have b:=jn r h.r;have e:=tupleText_len_le [reprText g.str,(aT l).shown,(aT r).shown];have e2:(aT (.node g l r)).shown=tupleText [reprText g.str,(aT l).shown,(aT r).shown]:=by simp only [aT,PyData.shown,PyData.shownAll]
    rw [e2];simp only [abQ,List.map_nil,List.sum_cons,List.sum_nil,abH,List.length_nil,ml] at e;show _≤150 * (l.size+r.size);omega
theorem dB {w:Wy} (h:w.Bd) (hs:w.size≤20):(aT w).shown.length≤sizeLine:=by
  have:=jn w h;exact aa5 (show _≤3000 by omega) (by rw [sizeLine_eq];decide)
theorem Wy.Bd.of {w:Wy} (h:kg w.nums):w.Bd:=fun i hi=>by
  have:=h i hi;have e:(2:Nat) ^ 131=2722258935367507707706996859454145691648:=by decide
  rw [e];omega
theorem gz {α:Type} {key:α→Int}:∀ {l l':List α},l.Perm l'→l.Pairwise (fun x y=>key x≤key y)→l'.Pairwise (fun x y=>key x < key y)→l=l'
  | l,[],h,_,_=>List.Perm.eq_nil h
  | [],b :: m,h,_,_=>by have:=h.length_eq;simp at this
  | a :: l,b :: m,h,h1,h2=>by
    have hab:a=b:=by
      rcases aax.mp (h.mem_iff.mp aaw) with e|e
      · exact e
      rcases aax.mp (h.mem_iff.mpr (aaw (a:=b) (l:=m))) with e'|e'
      · exact e'.symm
      have:=(abA.mp h1).1 b e';have:=(abA.mp h2).1 a e;omega
    subst hab;rw [gz (List.Perm.cons_inv h) (abA.mp h1).2 (abA.mp h2).2]
theorem jZ {l:List Int} (h:l.Pairwise (· < ·)) (h0:∀ x∈l,0≤x):∀ (i:Nat) (hi:i < l.length),(i:Int)≤l[i]
  | 0,hi=>h0 _ (abG hi)
  | i+1,hi=>by
    have a:=jZ h h0 i (by omega);have b:=aaY.mp h i (i+1) (by omega) hi (by omega);omega
theorem jY {l:List Int} (h:l.Pairwise (· < ·)) (h1:∀ x∈l,x < l.length):∀ (d i:Nat) (hi:i < l.length),i+d+1=l.length→l[i]≤(i:Int)
  | 0,i,hi,e=>by
    have:=h1 _ (abG hi);omega
  | d+1,i,hi,e=>by
    have a:=jY h h1 d (i+1) (by omega) (by omega);have b:=aaY.mp h i (i+1) hi (by omega) (by omega);omega
theorem mn {l:List Int} (h:l.Pairwise (· < ·)) (hb:∀ x∈l,0≤x∧x < l.length) (i:Nat) (hi:i < l.length):l[i]=(i:Int):=by
  have a:=jZ h (fun x hx=>(hb x hx).1) i hi;have b:=jY h (fun x hx=>(hb x hx).2) (l.length - (i+1)) i hi (by omega);omega
theorem oq:∀ s,s≤3→∀ m,m≤9→1≤m→((lw 9 s m:Nat):Int)=cn s m:=by decide +kernel
theorem nD:∀ s,s≤3→∀ m,m≤5→1≤m→((lw 5 s m:Nat):Int)=cn s m:=by decide +kernel
theorem m6 {gs:List Sg} (hs:gs.length≤3) (nd:gs.Nodup) {n:Nat} {ns:List Int} (h1:1≤ns.length) (hn:ns.length≤n) (h9:n≤9) (hl:((aw n gs ns).length:Int)=cn gs.length ns.length) {i:Nat} {w:Wy} (h:(aw n gs ns)[i]?=some w):w.nr gs=(i:Int)∧w.nums=ns∧w.within gs:=by
  obtain ⟨hi,e⟩:=aag.mp h;have hm:=(fg gs w n ns h1 hn).mp (by rw [← e];exact abG hi);refine ⟨?_,hm⟩;have r:=fB hs nd n ns h1 hn h9;have:=mn (l:=(aw n gs ns).map (Wy.nr gs)) (by rw [abY];exact r) (fun x hx=>by
    obtain ⟨v,hv,rfl⟩:=abB.mp hx;obtain ⟨v1,v2⟩:=(fg gs v n ns h1 hn).mp hv;have b:=Wy.nr_bd hs v v2 (by rw [← v.nums_len,v1];omega);rw [← v.nums_len,v1,← hl] at b;rw [aad];exact b) i (by rw [aad];exact hi)
  rw [List.getElem_map,e] at this;exact this
theorem fz {gs:List Sg} (hs:gs.length≤3) (nd:gs.Nodup) {ns:List Int} (h1:1≤ns.length) (h9:ns.length≤9) {k:Int} (h0:0≤k) (hk:k < cn gs.length ns.length):∃ w:Wy,w.nr gs=k∧w.nums=ns∧w.within gs:=by
  have hl:((aw 9 gs ns).length:Int)=cn gs.length ns.length:=by rw [gh];exact oq _ hs _ h9 h1
  have hi:k.toNat < (aw 9 gs ns).length:=by omega
  obtain ⟨a,b⟩:=m6 hs nd h1 h9 (aab _) hl (aae hi);exact ⟨_,by rw [a];omega,b⟩
theorem jJ:∀ w w':Wy,keq w w'=true→w.nums=w'.nums→w=w'
  | .num i,.num j,_,h=>by
    have : i=j:=by simpa [Wy.nums] using h
    rw [this]
  | .num _,.node _ _ _,h,_=>absurd (show false=true from h) (by decide)
  | .node _ _ _,.num _,h,_=>absurd (show false=true from h) (by decide)
  | .node g l r,.node g' l' r',h,hn=>by
    have h:(decide (l.size=l'.size) && (decide (g.ix=g'.ix) && (keq l l' && keq r r')))=true:=h;simp only [abo,decide_eq_true_eq] at h;obtain ⟨h1,h2,h3,h4⟩:=h;have hn:l.nums++r.nums=l'.nums++r'.nums:=hn;obtain ⟨n1,n2⟩:=List.append_inj hn (by rw [l.nums_len,l'.nums_len];exact h1);have eg:g=g':=by cases g <;> cases g' <;> first|rfl|exact absurd h2 (by decide)
    rw [eg,jJ l l' h3 n1,jJ r r' h4 n2]
theorem nh {g g':Sg} (h:g.str=g'.str):g=g':=by
  cases g <;> cases g' <;> first|rfl|exact absurd h (by decide +kernel)
theorem WyIn.inj {H:Hp}:∀ {w w':Wy} {v:V},WyIn H w v→WyIn H w' v→w=w'
  | .num i,.num j,v,h,h'=>by
    have h:v=.int i:=h;have h':v=.int j:=h';rw [h] at h';injection h' with e;rw [e]
  | .num i,.node _ _ _,v,h,h'=>by
    have h:v=.int i:=h;obtain ⟨a,_,_,e,_⟩:=h';rw [h] at e;cases e
  | .node _ _ _,.num i,v,h',h=>by
    have h:v=.int i:=h;obtain ⟨a,_,_,e,_⟩:=h';rw [h] at e;cases e
  | .node g l r,.node g' l' r',v,h,h'=>by
    obtain ⟨a,x,y,e,ha,hl,hr⟩:=h;obtain ⟨a',x',y',e',ha',hl',hr'⟩:=h';rw [e] at e';cases e';rw [ha] at ha';injection ha' with z
    injection z with z
    injection z with z1 z
    injection z with z2 z
    injection z with z3 _
    injection z1 with z1
    rw [nh z1];subst z2 z3;rw [hl.inj hl',hr.inj hr']
theorem jo (K:aaa) (H:Hp):∀ (n:Nat) (w:Wy) (x y:V),w.size≤n→WyIn H w x→WyIn H w y→EqR K H n x y true
  | 0,w,_,_,h,_,_=>by have:=w.size_pos;omega
  | n+1,.num i,x,y,_,h,h'=>by
    have h:x=.int i:=h;have h':y=.int i:=h';subst h h';have e:=EqR.flat (K:=K) (H:=H) (n:=n+1) (x:=.int i) (y:=.int i) rfl rfl;rw [show eqV (.int i) (.int i)=true by simp [eqV]] at e;exact e
  | n+1,.node g l r,_,_,h,⟨a,xl,xr,e,ha,hl,hr⟩,⟨b,yl,yr,e',hb,hl',hr'⟩=>by
    subst e e';have h:l.size+r.size≤n+1:=h;have:=l.size_pos;have:=r.size_pos;have i1:=jo K H n l xl yl (by omega) hl hl';have i2:=jo K H n r xr yr (by omega) hr hr';exact EqR.tup (K:=K) (H:=H) (n:=n) (e:=fun _=>true) (SqT.of ha) (SqT.of hb) fun j x y h1 h2=>by
      match j,h1,h2 with
      | 0,h1,h2 =>
        have e1:x=.str g.str:=by simpa using h1.symm
        have e2:y=.str g.str:=by simpa using h2.symm
        subst e1 e2;have e:=EqR.flat (K:=K) (H:=H) (n:=n) (x:=.str g.str) (y:=.str g.str) rfl rfl;rw [show eqV (.str g.str) (.str g.str)=true by simp [eqV]] at e;exact e
      | 1,h1,h2 =>
        have e1:x=xl:=by simpa using h1.symm
        have e2:y=yl:=by simpa using h2.symm
        subst e1 e2;exact i1
      | 2,h1,h2 =>
        have e1:x=xr:=by simpa using h1.symm
        have e2:y=yr:=by simpa using h2.symm
        subst e1 e2;exact i2
      | j+3,h1,h2=>simp at h1
def KWn (H:Hp) (w:Wy) (x:V):Prop:=∃ t kx v,x=.ref t∧H t=some (.tup [kx,v])∧KyIn H w kx∧WyIn H w v
theorem KWn.mono {H H':Hp} (s:Same H H') {w:Wy} {x:V} (h:KWn H w x):KWn H' w x:=by
  obtain ⟨t,kx,v,e,ht,hk,hv⟩:=h;exact ⟨t,kx,v,e,s _ _ ht,hk.mono s,hv.mono (Tups.of s)⟩
theorem KWn.inj {H:Hp} {w w':Wy} {x:V} (h:KWn H w x) (h':KWn H w' x):w=w':=by
  obtain ⟨t,kx,v,e,ht,hk,hv⟩:=h;obtain ⟨t',kx',v',e',ht',hk',hv'⟩:=h';rw [e] at e';cases e';rw [ht] at ht';injection ht' with z
  injection z with z
  injection z with z1 z
  injection z with z2 _
  subst z1 z2;exact hv.inj hv'
open Classical in
noncomputable def kfn (H:Hp) (gs:List Sg) (x:V):Int:=if h:∃ w,KWn H w x then (choose h).nr gs else 0
theorem ip {H:Hp} {gs:List Sg} {w:Wy} {x:V} (h:KWn H w x):kfn H gs x=w.nr gs:=by
  unfold kfn;have hx:∃ w,KWn H w x:=⟨w,h⟩
  rw [dif_pos hx,KWn.inj (Classical.choose_spec hx) h]
theorem iZ {α β:Type} {F:α→β→Prop} {us us':List β} (h:us.Perm us'):∀ {ws:List α},Paired F ws us→∃ ws',ws.Perm ws'∧Paired F ws' us':=by
  induction h with
  | nil=>intro ws p;exact ⟨ws,ab2 _,p⟩
  | cons x _ ih =>
    intro ws p;cases p with
    | cons a b =>
      obtain ⟨ws',h1,h2⟩:=ih b;exact ⟨_,h1.cons _,.cons a h2⟩
  | swap x y l =>
    intro ws p;cases p with
    | cons a b =>
      cases b with
      | cons c d=>exact ⟨_,List.Perm.swap _ _ _,.cons c (.cons a d)⟩
  | trans _ _ ih1 ih2 =>
    intro ws p;obtain ⟨w1,a1,b1⟩:=ih1 p;obtain ⟨w2,a2,b2⟩:=ih2 b1;exact ⟨w2,a1.trans a2,b2⟩
theorem d8 {α β:Type} {F:α→β→Prop}:∀ {as:List α} {us:List β},Paired F as us→∀ x∈us,∃ a∈as,F a x
  | _,_,.nil,x,h=>nomatch h
  | _,_,.cons a b,x,h=>by
    rcases aax.mp h with rfl|h
    · exact ⟨_,aaw,a⟩
    · obtain ⟨c,h1,h2⟩:=d8 b x h;exact ⟨c,aay _ h1,h2⟩
theorem fq {α β:Type} {F:α→β→Prop}:∀ {as:List α} {us:List β},Paired F as us→∀ c∈as,∃ y∈us,F c y
  | _,_,.nil,x,h=>nomatch h
  | _,_,.cons a b,x,h=>by
    rcases aax.mp h with rfl|h
    · exact ⟨_,aaw,a⟩
    · obtain ⟨c,h1,h2⟩:=fq b x h;exact ⟨c,aay _ h1,h2⟩
theorem gB {α β:Type} {F:α→β→Prop} {R:β→β→Prop} {S:α→α→Prop} (hRS:∀ a b x y,F a x→F b y→R x y→S a b):∀ {as:List α} {us:List β},Paired F as us→us.Pairwise R→as.Pairwise S
  | _,_,.nil,_=>.nil
  | _,_,.cons a b,h=>by
    obtain ⟨h1,h2⟩:=abA.mp h;refine List.Pairwise.cons (fun c hc=>?_) (gB hRS b h2);obtain ⟨y,hy,hF⟩:=fq b c hc;exact hRS _ _ _ _ a hF (h1 y hy)
theorem nE {K:aaa} {H:Hp} {gs:List Sg} (hs:gs.length≤3) (sp:bb gs) {ns:List Int} (h9:ns.length≤9) {ws:List Wy} {us:List V} (hp:Paired (KWn H) ws us) (hw:∀ w∈ws,w.nums=ns∧w.within gs):Rnk K H 9 us (kfn H gs):=by
  have one:∀ t k wv,V.ref t∈us→H t=some (.tup [.ref k,wv])→∃ w∈ws,KWn H w (.ref t)∧KyIn H w (.ref k)∧WyIn H w wv:=fun t k wv ht e=>by
    obtain ⟨w,hw,hk⟩:=d8 hp _ ht;obtain ⟨t',kx,v,e',ht',h1,h2⟩:=id hk;cases e';rw [e] at ht';injection ht' with z
    injection z with z
    injection z with z1 z
    injection z with z2 _
    subst z1 z2;exact ⟨w,hw,hk,h1,h2⟩
  refine ⟨fun x hx=>?_,fun t t' k k' wv wv' ht ht' e e'=>?_⟩
  · obtain ⟨w,hw,t,kx,v,rfl,ht,h1,h2⟩:=d8 hp _ hx;obtain ⟨a,ks,rfl,ha⟩:=h1.ref;exact ⟨t,a,v,ks,rfl,ht,ha⟩
  · obtain ⟨w,mw,kw,ky,wy⟩:=one t k wv ht e;obtain ⟨w',mw',kw',ky',wy'⟩:=one t' k' wv' ht' e';obtain ⟨n1,i1⟩:=hw w mw;obtain ⟨n2,i2⟩:=hw w' mw';have z1:w.size=ns.length:=by rw [← w.nums_len,n1]
    have z2:w'.size=ns.length:=by rw [← w'.nums_len,n2]
    obtain ⟨q1,q2⟩:=il hs sp w w' (by omega) (by omega) i1 i2;rw [ip kw,ip kw',← q1,← q2];refine ⟨fY K H 9 w w' _ _ (by omega) ky ky',fun _=>io K H 9 w w' _ _ (by omega) ky ky',fun h=>?_⟩;have : w=w':=jJ w w' (by rw [q1];exact decide_eq_true h) (by rw [n1,n2]);subst this;exact jo K H 9 w _ _ (by omega) wy wy'
theorem kL {H:Hp} {gs:List Sg} (hs:gs.length≤3) (sp:bb gs) {n:Nat} {ns:List Int} (h1:1≤ns.length) (hn:ns.length≤n) (h9:n≤9) {us us':List V} (hp:Paired (KWn H) (al n gs ns) us) (pm:us'.Perm us) (so:us'.Pairwise fun x y=>kfn H gs x≤kfn H gs y):Paired (KWn H) (aw n gs ns) us':=by
  obtain ⟨ws',p1,p2⟩:=iZ pm.symm hp;have e:ws'=aw n gs ns:=by
    refine gz (key:=Wy.nr gs) (p1.symm.trans (dg gs n ns)) (gB (fun a b x y fa fb r=>?_) p2 so) (fB hs (dM gs hs sp) n ns h1 hn h9);rw [ip fa,ip fb] at r;exact r
  rw [← e];exact p2
open PySem L2
def wf (n:Nat):Nat→Int
  | 0=>1
  | j+1=>wf n j * ((n:Int) - 1+(1+(j:Int))) / (1+(j:Int))
theorem nV:∀ s:Nat,s≤3→∀ n:Nat,n≤9→1≤n→wf n (n - 1) / (n:Int) * (s:Int) ^ (n - 1)=cn s n:=by decide +kernel
theorem nW:∀ n:Nat,n≤9→∀ j:Nat,j≤8→0≤wf n j∧wf n j < 1000000000:=by decide +kernel
theorem lZ:∀ s:Nat,s≤3→∀ n:Nat,n≤9→0≤cn s n∧(1≤s∧1≤n→0 < cn s n):=by decide +kernel
theorem fA (i:Int):(!decide (V.int i=V.int i))=false:=by rw [decide_eq_true rfl];rfl
theorem cJ {α β:Type} {F G:α→β→Prop} (h:∀ a b,F a b→G a b):∀ {as:List α} {us:List β},Paired F as us→Paired G as us
  | _,_,.nil=>.nil
  | _,_,.cons a b=>.cons (h _ _ a) (cJ h b)
section
variable {P:Program} {w:World} {K:aaa} {mg:Str→Option Value} {base:Heap} {f:Addr} {fd:FuncData}
def mj:Sp:=fun vs H Q _=>∃ (n:Nat) (z:Str),vs=[.int n,.str z]∧1≤n∧n≤9∧z.length≤3∧Q (.int (cn z.length n)) H
abbrev cy:Stmt:=top 43
theorem aO:FnScope ["many","signs","found","k"] ["many","signs"] (ap cy):=⟨rfl,rfl,rfl,by decide +kernel,rfl,by decide +kernel,by decide +kernel⟩
theorem fU (F:Fun K "_law_ways_of" "_law_ways_of" cy f fd) (B:Bu K mg):FnOk P w K mg base CX0 1 f fd ["many","signs"] mj:=by
  refine F.ok aO (fun vs H Q E h=>?_) (fun cdv A outer s H vs Q E hr h=>?_)
  · obtain ⟨n,z,rfl,_⟩:=h;rfl
  obtain ⟨n,z,rfl,h1,h9,hz,q⟩:=h;refine ⟨_,(@af _ _ _ _ _ (@aB _ _ (2) _ _ _ _ (aO).nd rfl (Or.inl rfl) ae (by rfl) (by first|exact .inl rfl|exact .inr rfl|assumption)) (@af _ _ _ _ _ (@cz _ _ _ _ _ _ _ _ aaO rfl (@bE _ _ _ _ _ _ _ rfl B.irange (@aa _ _ _ _ _ ae (@aa _ _ _ _ _ (@pv _ 0 _ _ (by rfl) (by first|exact .inl rfl|exact .inr (.inl rfl)|exact .inr (.inr rfl)) (by decide) (by decide)) ad (by rfl)) (by rfl)) (by rfl) (by rfl)) (@au _ _ (3) _ (aO).nd rfl (Or.inl rfl) (.inl rfl)) (@ah _ _ _ (@aB _ _ (2) _ _ _ _ (aO).nd rfl (Or.inl rfl) (@av _ _ _ _ _ _ _ _ cB (@av _ _ _ _ _ _ _ _ bT (@pv _ 2 _ _ (by rfl) (by first|exact .inl rfl|exact .inr (.inl rfl)|exact .inr (.inr rfl)) (by decide) (by decide)) (@av _ _ _ _ _ _ _ _ bw (@av _ _ _ _ _ _ _ _ bG (@pv _ 0 _ _ (by rfl) (by first|exact .inl rfl|exact .inr (.inl rfl)|exact .inr (.inr rfl)) (by decide) (by decide)) ae) (@pv _ 3 _ _ (by rfl) (by first|exact .inl rfl|exact .inr (.inl rfl)|exact .inr (.inr rfl)) (by decide) (by decide)))) (@pv _ 3 _ _ (by rfl) (by first|exact .inl rfl|exact .inr (.inl rfl)|exact .inr (.inr rfl)) (by decide) (by decide))) (by rfl) (by first|exact .inl rfl|exact .inr rfl|assumption))) (by intro _;rfl)) (@af _ _ _ _ _ (@aB _ _ (2) _ _ _ _ (aO).nd rfl (Or.inl rfl) (@av _ _ _ _ _ _ _ _ cB (@pv _ 2 _ _ (by rfl) (by first|exact .inl rfl|exact .inr (.inl rfl)|exact .inr (.inr rfl)) (by decide) (by decide)) (@pv _ 0 _ _ (by rfl) (by first|exact .inl rfl|exact .inr (.inl rfl)|exact .inr (.inr rfl)) (by decide) (by decide))) (by rfl) (by first|exact .inl rfl|exact .inr rfl|assumption)) (@af _ _ _ _ _ (@cz _ _ _ _ _ _ _ _ aaO rfl (@bE _ _ _ _ _ _ _ rfl B.irange (@aa _ _ _ _ _ ae (@aa _ _ _ _ _ (@pv _ 0 _ _ (by rfl) (by first|exact .inl rfl|exact .inr (.inl rfl)|exact .inr (.inr rfl)) (by decide) (by decide)) ad (by rfl)) (by rfl)) (by rfl) (by rfl)) (@au _ _ (3) _ (aO).nd rfl (Or.inl rfl) (.inl rfl)) (@ah _ _ _ (@aB _ _ (2) _ _ _ _ (aO).nd rfl (Or.inl rfl) (@av _ _ _ _ _ _ _ _ bT (@pv _ 2 _ _ (by rfl) (by first|exact .inl rfl|exact .inr (.inl rfl)|exact .inr (.inr rfl)) (by decide) (by decide)) (@ao _ _ _ _ _ _ _ _ _ de rfl B.ilen aau (@aa _ _ _ _ _ (@pv _ 1 _ _ (by rfl) (by first|exact .inl rfl|exact .inr (.inl rfl)|exact .inr (.inr rfl)) (by decide) (by decide)) ad (by rfl)) (by decide) (by decide) (by rfl) (by rfl))) (by rfl) (by first|exact .inl rfl|exact .inr rfl|assumption))) (by intro _;rfl)) (@ah _ _ _ (@ar _ _ _ _ (@pv _ 2 _ _ (by rfl) (by first|exact .inl rfl|exact .inr (.inl rfl)|exact .inr (.inr rfl)) (by decide) (by decide)))))))),?_⟩;refine ⟨_,rfl,1,_,rfl,⟨by decide,by decide,by omega,by omega⟩,?_⟩;have e1:((n:Int) - 1).toNat=n - 1:=by omega
  refine cT (n:=((n:Int) - 1).toNat) (fun j σ H'=>∃ c3,σ=[some (.int n),some (.str z),some (.int (wf n j)),c3]∧H'=H) ⟨_,rfl,rfl⟩ ?_ ?_
  · rintro j σ H1 hj ⟨c3,rfl,rfl⟩;have b:=nW n h9 j (by omega);refine ⟨_,rfl,_,rfl,_,_,rfl,rfl,_,rfl,_,_,rfl,rfl,_,_,rfl,rfl,.inl ⟨by omega,by omega⟩,_,rfl,_,_,rfl,rfl,⟨by omega,by omega⟩,?_⟩;exact ⟨_,rfl,rfl⟩
  rintro σ H1 ⟨c3,rfl,rfl⟩;rw [e1];refine ⟨_,rfl,_,rfl,_,_,rfl,rfl,⟨by omega,by omega⟩,?_⟩;refine ⟨_,rfl,1,_,rfl,⟨by decide,by decide,by omega,by omega⟩,?_⟩;refine cT (n:=((n:Int) - 1).toNat) (fun j σ H'=>∃ c3,σ=[some (.int n),some (.str z),some (.int (wf n (n - 1) / (n:Int) * (z.length:Int) ^ j)),c3]∧H'=H1) ⟨c3,by rw [Int.pow_zero,Int.mul_one];rfl,rfl⟩ ?_ ?_
  · rintro j σ H2 hj ⟨c3,rfl,rfl⟩;refine ⟨_,rfl,_,rfl,_,rfl,aa5 hz (by show 3≤sizeLine;decide),_,_,rfl,rfl,.inr ⟨by omega,by omega⟩,?_⟩;refine ⟨some (.int (1+(j:Int))),?_,rfl⟩;rw [Int.pow_succ,← Int.mul_assoc];rfl
  rintro σ H2 ⟨c3,rfl,rfl⟩;rw [e1,nV _ hz n h9 h1];exact ⟨_,rfl,q⟩
def gW:Sp:=fun vs H Q _=>∃ (wl r:Addr) (ns:List Int) (gs:List Sg) (M:Int),vs=[.ref wl,.ref r,.str (ak gs)]∧H r=some (.lst (ns.map V.int))∧r≠wl∧1≤ns.length∧ns.length≤5∧1≤gs.length∧gs.length≤3∧bb gs∧kg ns∧Wel H wl M∧M < 999990000 ∧
  ∀ H',But wl H H'→Wel H' wl (M+1)→Q (.bl true) H'
abbrev bv:Stmt:=top 44
theorem aY:FnScope ["well","row","signs","ways","step","number"] ["well","row","signs"] (ap bv):=⟨rfl,rfl,rfl,by decide +kernel,rfl,by decide +kernel,by decide +kernel⟩
theorem d9 (F:Fun K "_law_small_right" "_law_small_right" bv f fd) (B:Bu K mg) (C__law_all:Cal P w K mg base "_law_all" 6 ["row","signs"] (jW 5)) (C__law_key:Cal P w K mg base "_law_key" 20 ["way"] (iI 9)) (C_how_many_ways:Cal P w K mg base "how_many_ways" 4 ["signs","many"] iJ) (C__law_ways_of:Cal P w K mg base "_law_ways_of" 1 ["many","signs"] mj) (C__law_draw:Cal P w K mg base "_law_draw" 2 ["well","many"] cW) (C_nth_way:Cal P w K mg base "nth_way" 12 ["row","signs","number"] iG) (C_number_of_way:Cal P w K mg base "number_of_way" 32 ["way","signs"] iH):FnOk P w K mg base CX0 33 f fd ["well","row","signs"] gW:=by
  refine F.ok aY (fun vs H Q E h=>?_) (fun cdv A outer s H vs Q E hr h=>?_)
  · obtain ⟨wl,r,ns,gs,M,rfl,_⟩:=h;rfl
  obtain ⟨wl,r,ns,gs,M,rfl,er,nrw,h1,h5,g1,g3,sp,sm,hw,hM,q⟩:=h;refine ⟨_,(@af _ _ _ _ _ (@h8 _ (3) _ _ _ _ _ _ _ _ _ _ (["key","way"]) ([none,none]) _ _ _ _ (aY).nd rfl (Or.inl rfl) rfl (@bX _ _ _ _ (@ao _ _ _ _ _ _ _ _ _ (iu rfl hr.units) rfl B.isorted PyProof.Rows.boot_sorted (@aa _ _ _ _ _ (@eE _ _ _ _ _ _ _ _ (["way"]) ([none]) _ _ _ _ rfl (@bX _ _ _ _ (@ai _ _ _ _ _ _ _ _ _ _ _ C__law_all hr (by omega) rfl (@aa _ _ _ _ _ (@pv _ 1 _ _ (by rfl) (by first|exact .inl rfl|exact .inr (.inl rfl)|exact .inr (.inr rfl)) (by decide) (by decide)) (@aa _ _ _ _ _ (@pv _ 2 _ _ (by rfl) (by first|exact .inl rfl|exact .inr (.inl rfl)|exact .inr (.inr rfl)) (by decide) (by decide)) ad (by rfl)) (by rfl)) (by decide) (by rfl) (by rfl))) rfl trivial trivial (fun _ _ _ _=>⟨(@au _ _ (0) _ (show abp (["way"]:List Str) by decide +kernel) rfl (Or.inl rfl) (.inr rfl)),bo,(@dy _ _ _ _ _ (@aa _ _ _ _ _ (@ai _ _ _ _ _ _ _ _ _ _ _ C__law_key hr (by omega) rfl (@aa _ _ _ _ _ (@pv _ 0 _ _ (by rfl) (by first|exact .inl rfl|exact .inr (.inl rfl)|exact .inr (.inr rfl)) (by decide) (by decide)) ad (by rfl)) (by decide) (by rfl) (by rfl)) (@aa _ _ _ _ _ (@pv _ 0 _ _ (by rfl) (by first|exact .inl rfl|exact .inr (.inl rfl)|exact .inr (.inr rfl)) (by decide) (by decide)) ad (by rfl)) (by rfl)))⟩) (by rfl) (by rfl) (by rfl) (by rfl) (by intro _;rfl)) ad (by rfl)) (by decide) (by decide) (by rfl) (by rfl))) rfl trivial trivial (fun _ _ _ _=>⟨(@mB _ _ _ _ _ _ (2) rfl rfl (@aH _ _ _ _ _ (@au _ _ (0) _ (show abp (["key","way"]:List Str) by decide +kernel) rfl (Or.inl rfl) (.inr rfl)) (@aH _ _ _ _ _ (@au _ _ (1) _ (show abp (["key","way"]:List Str) by decide +kernel) rfl (Or.inl rfl) (.inr rfl)) cI (by rfl)) (by rfl)) (by rfl) (by rfl)),bo,(@pv _ 1 _ _ (by rfl) (by first|exact .inl rfl|exact .inr (.inl rfl)|exact .inr (.inr rfl)) (by decide) (by decide))⟩) (by rfl) (by rfl) (by rfl) (by rfl) (by intro _;rfl) (by rfl) (by first|exact .inl rfl|exact .inr rfl|assumption)) (@af _ _ _ _ _ (@a8 _ _ _ _ _ _ _ _ (@PW.pt _ _ _ (@gx _ _ _ _ _ _ _ (@aM _ _ _ _ _ _ _ _ fR (@ai _ _ _ _ _ _ _ _ _ _ _ C_how_many_ways hr (by omega) rfl (@aa _ _ _ _ _ (@pv _ 2 _ _ (by rfl) (by first|exact .inl rfl|exact .inr (.inl rfl)|exact .inr (.inr rfl)) (by decide) (by decide)) (@aa _ _ _ _ _ (@ao _ _ _ _ _ _ _ _ _ aq rfl B.ilen aau (@aa _ _ _ _ _ (@pv _ 1 _ _ (by rfl) (by first|exact .inl rfl|exact .inr (.inl rfl)|exact .inr (.inr rfl)) (by decide) (by decide)) ad (by rfl)) (by decide) (by decide) (by rfl) (by rfl)) ad (by rfl)) (by rfl)) (by decide) (by rfl) (by rfl)) (@ao _ _ _ _ _ _ _ _ _ aq rfl B.ilen aau (@aa _ _ _ _ _ (@pv _ 3 _ _ (by rfl) (by first|exact .inl rfl|exact .inr (.inl rfl)|exact .inr (.inr rfl)) (by decide) (by decide)) ad (by rfl)) (by decide) (by decide) (by rfl) (by rfl)) (aL _)) (@eW _ _ _ _ (@aM _ _ _ _ _ _ _ _ fR (@ao _ _ _ _ _ _ _ _ _ aq rfl B.ilen aau (@aa _ _ _ _ _ (@pv _ 3 _ _ (by rfl) (by first|exact .inl rfl|exact .inr (.inl rfl)|exact .inr (.inr rfl)) (by decide) (by decide)) ad (by rfl)) (by decide) (by decide) (by rfl) (by rfl)) (@ai _ _ _ _ _ _ _ _ _ _ _ C__law_ways_of hr (by omega) rfl (@aa _ _ _ _ _ (@ao _ _ _ _ _ _ _ _ _ aq rfl B.ilen aau (@aa _ _ _ _ _ (@pv _ 1 _ _ (by rfl) (by first|exact .inl rfl|exact .inr (.inl rfl)|exact .inr (.inr rfl)) (by decide) (by decide)) ad (by rfl)) (by decide) (by decide) (by rfl) (by rfl)) (@aa _ _ _ _ _ (@pv _ 2 _ _ (by rfl) (by first|exact .inl rfl|exact .inr (.inl rfl)|exact .inr (.inr rfl)) (by decide) (by decide)) ad (by rfl)) (by rfl)) (by decide) (by rfl) (by rfl)) (aL _))))) (@ah _ _ _ (@ar _ _ _ _ dJ)) aE) (@af _ _ _ _ _ (@aB _ _ (4) _ _ _ _ (aY).nd rfl (Or.inl rfl) (@av _ _ _ _ _ _ _ _ bw ae (@av _ _ _ _ _ _ _ _ cB (@ao _ _ _ _ _ _ _ _ _ aq rfl B.ilen aau (@aa _ _ _ _ _ (@pv _ 3 _ _ (by rfl) (by first|exact .inl rfl|exact .inr (.inl rfl)|exact .inr (.inr rfl)) (by decide) (by decide)) ad (by rfl)) (by decide) (by decide) (by rfl) (by rfl)) ae)) (by rfl) (by first|exact .inl rfl|exact .inr rfl|assumption)) (@af _ _ _ _ _ (@cz _ _ _ _ _ _ _ _ aaO rfl (kC rfl B.irange (aa (ai C__law_draw hr (by omega) rfl (aa (pv 0) (aa (pv 4) ad))) (aa (ao aq rfl B.ilen aau (aa (pv 3) ad)) (aa (pv 4) ad)))) (@au _ _ (5) _ (aY).nd rfl (Or.inl rfl) (.inl rfl)) (@ah _ _ _ (@a8 _ _ _ _ _ _ _ _ (@PW.pt _ _ _ (@gx _ _ _ _ _ _ _ (@aM _ _ _ _ _ _ _ _ fR (@ao _ _ _ _ _ _ _ _ _ (@b_ _ hr.gd hr.units) rfl B.irepr abb (@aa _ _ _ _ _ (@ai _ _ _ _ _ _ _ _ _ _ _ C_nth_way hr (by omega) rfl (@aa _ _ _ _ _ (@pv _ 1 _ _ (by rfl) (by first|exact .inl rfl|exact .inr (.inl rfl)|exact .inr (.inr rfl)) (by decide) (by decide)) (@aa _ _ _ _ _ (@pv _ 2 _ _ (by rfl) (by first|exact .inl rfl|exact .inr (.inl rfl)|exact .inr (.inr rfl)) (by decide) (by decide)) (@aa _ _ _ _ _ (@pv _ 5 _ _ (by rfl) (by first|exact .inl rfl|exact .inr (.inl rfl)|exact .inr (.inr rfl)) (by decide) (by decide)) ad (by rfl)) (by rfl)) (by rfl)) (by decide) (by rfl) (by rfl)) ad (by rfl)) (by decide) (by decide) (by rfl) (by rfl)) (@ao _ _ _ _ _ _ _ _ _ (@b_ _ hr.gd hr.units) rfl B.irepr abb (@aa _ _ _ _ _ (@aI _ _ _ _ _ _ _ aC (@pv _ 3 _ _ (by rfl) (by first|exact .inl rfl|exact .inr (.inl rfl)|exact .inr (.inr rfl)) (by decide) (by decide)) (@pv _ 5 _ _ (by rfl) (by first|exact .inl rfl|exact .inr (.inl rfl)|exact .inr (.inr rfl)) (by decide) (by decide)) (fun _ _=>rfl)) ad (by rfl)) (by decide) (by decide) (by rfl) (by rfl)) (aL _)) (@eW _ _ _ _ (@aM _ _ _ _ _ _ _ _ fR (@ai _ _ _ _ _ _ _ _ _ _ _ C_number_of_way hr (by omega) rfl (@aa _ _ _ _ _ (@aI _ _ _ _ _ _ _ aC (@pv _ 3 _ _ (by rfl) (by first|exact .inl rfl|exact .inr (.inl rfl)|exact .inr (.inr rfl)) (by decide) (by decide)) (@pv _ 5 _ _ (by rfl) (by first|exact .inl rfl|exact .inr (.inl rfl)|exact .inr (.inr rfl)) (by decide) (by decide)) (fun _ _=>rfl)) (@aa _ _ _ _ _ (@pv _ 2 _ _ (by rfl) (by first|exact .inl rfl|exact .inr (.inl rfl)|exact .inr (.inr rfl)) (by decide) (by decide)) ad (by rfl)) (by rfl)) (by decide) (by rfl) (by rfl)) (@pv _ 5 _ _ (by rfl) (by first|exact .inl rfl|exact .inr (.inl rfl)|exact .inr (.inr rfl)) (by decide) (by decide)) (aL _))))) (@ah _ _ _ (@ar _ _ _ _ dJ)) aE)) (by intro _;rfl)) (@ah _ _ _ (@ar _ _ _ _ (@bZ _ _ _ _ _ _ _ _ eG (@ao _ _ _ _ _ _ _ _ _ (@b_ _ hr.gd hr.units) rfl B.irepr abb (@aa _ _ _ _ _ (@ai _ _ _ _ _ _ _ _ _ _ _ C_nth_way hr (by omega) rfl (@aa _ _ _ _ _ (@pv _ 1 _ _ (by rfl) (by first|exact .inl rfl|exact .inr (.inl rfl)|exact .inr (.inr rfl)) (by decide) (by decide)) (@aa _ _ _ _ _ (@pv _ 2 _ _ (by rfl) (by first|exact .inl rfl|exact .inr (.inl rfl)|exact .inr (.inr rfl)) (by decide) (by decide)) (@aa _ _ _ _ _ (@av _ _ _ _ _ _ _ _ bG (@ao _ _ _ _ _ _ _ _ _ aq rfl B.ilen aau (@aa _ _ _ _ _ (@pv _ 3 _ _ (by rfl) (by first|exact .inl rfl|exact .inr (.inl rfl)|exact .inr (.inr rfl)) (by decide) (by decide)) ad (by rfl)) (by decide) (by decide) (by rfl) (by rfl)) ae) ad (by rfl)) (by rfl)) (by rfl)) (by decide) (by rfl) (by rfl)) ad (by rfl)) (by decide) (by decide) (by rfl) (by rfl)) (@ao _ _ _ _ _ _ _ _ _ (@b_ _ hr.gd hr.units) rfl B.irepr abb (@aa _ _ _ _ _ (@aI _ _ _ _ _ _ _ aC (@pv _ 3 _ _ (by rfl) (by first|exact .inl rfl|exact .inr (.inl rfl)|exact .inr (.inr rfl)) (by decide) (by decide)) (@ol _ _ _ _ _ _ m7 ae) (fun _ _=>rfl)) ad (by rfl)) (by decide) (by decide) (by rfl) (by rfl)) (aL _)))))))),?_⟩;have zl:(ak gs).length=gs.length:=bI gs;have hl:(ns.map V.int).length=ns.length:=aad _;have nd:=dM gs g3 sp;have lA:=gh 5 gs ns;have lB:=mY 5 (by decide) gs.length g3 ns.length h5;have lC:=nD gs.length g3 ns.length h5 h1;have lp:=(dg gs 5 ns).length_eq;refine ⟨_,rfl,_,rfl,r,ns,gs,rfl,er,h1,h5,by decide,g1,g3,fun pa ua H1 s1 npa epa hwa=>?_⟩;refine ⟨pa,rfl,⟨_,SqL.of epa⟩,?_⟩;refine gF (Trn.list (xs:=ua)) (fun i ys H'=>Same H1 H'∧Paired (KWn H') ((al 5 gs ns).take i) ys) ⟨Same.refl _,.nil⟩ (fun i ys H' hi z=>⟨SqL.of (z.1 _ _ epa),gg (by have:=abS z.2;rw [← this,aas];omega)⟩) (fun i x ys H0' H' hi hx z Nx nx=>?_) (fun ys H2 z p2 n2=>?_)
  · obtain ⟨rfl,hx⟩:=hx;obtain ⟨S,hys⟩:=z;obtain ⟨w0,hw0,hwx⟩:=fk (hwa.mono (Tups.of S)) hx;have m0:=(fg gs w0 5 ns h1 h5).mp ((dg gs 5 ns).mem_iff.mp (aam hw0));have z0:w0.size=ns.length:=by rw [← w0.nums_len,m0.1]
    refine ⟨_,rfl,w0,x,rfl,hwx,by omega,by decide,fun kx H3 s3 hk=>?_⟩;refine ⟨_,rfl,(by show 2≤sizeLine;decide),fun t ht=>nx _ _ ?_⟩;have st:=Same.new ht (.tup [kx,x]);have S3:=s3.trans st;refine ⟨S.trans S3,?_⟩;rw [aaK,hw0];refine Paired.app (cJ (fun a b h=>KWn.mono S3 h) hys) (.cons ⟨t,kx,x,rfl,ag,hk.mono st,hwx.mono (Tups.of S3)⟩ .nil)
  obtain ⟨S2,hys⟩:=z;rw [← hwa.length,aa4] at hys;have s2:=Same.new n2 (.lst ys);have e2:upd H2 p2 (.lst ys) p2=some (.lst ys):=ag
  replace hys:=cJ (fun a b h=>KWn.mono s2 h) hys
  have S12:=S2.trans s2;generalize upd H2 p2 (.lst ys)=H3 at s2 e2 hys S12 ⊢;refine ⟨p2,ys,kfn H3 gs,9,rfl,e2,by decide,nE g3 sp (ns:=ns) (by omega) hys (fun w hw=>(fg gs w 5 ns h1 h5).mp ((dg gs 5 ns).mem_iff.mp hw)),fun q1 us' nq pm so=>?_⟩;have hso:=kL g3 sp h1 h5 (by decide) hys pm so;have s4:=Same.new nq (.lst us');have e4:upd H3 q1 (.lst us') q1=some (.lst us'):=ag
  replace hso:=cJ (fun a b h=>KWn.mono s4 h) hso
  have S4:=s1.trans (S12.trans s4);generalize upd H3 q1 (.lst us')=H4 at s4 e4 hso S4 ⊢;have lso:=abS hso;refine ⟨q1,rfl,⟨_,SqL.of e4⟩,?_⟩;refine gF (Trn.list (xs:=us')) (fun i ys H'=>H'=H4∧WyAll H4 ((aw 5 gs ns).take i) ys) ⟨rfl,.nil⟩ (fun i ys H' hi z=>⟨SqL.of (by rw [z.1];exact e4),gg (by have:=abS z.2;rw [← this,aas];omega)⟩) (fun i x ys H0' H' hi hx z Nx nx=>?_) (fun ys H5 z p5 n5=>?_)
  · obtain ⟨rfl,hx⟩:=hx;obtain ⟨rfl,hys⟩:=z;obtain ⟨w0,hw0,t,kx,v,rfl,et,hk,hv⟩:=Paired.at hso hx;refine ⟨t,_,rfl,SqT.of et,rfl,_,_,rfl,_,_,rfl,rfl,_,rfl,nx _ _ ⟨rfl,?_⟩⟩;rw [aaK,hw0];exact Paired.app hys (.cons hv .nil)
  obtain ⟨rfl,hvs⟩:=z;rw [← lso,aa4] at hvs;have s5:=Same.new n5 (.lst ys);have e5:upd H5 p5 (.lst ys) p5=some (.lst ys):=ag
  replace hvs:=hvs.mono (Tups.of s5)
  have S5:=S4.trans s5;have lvs:=hvs.length;have er5:=S5 _ _ er;have hw5:=hw.keep S5 (aaJ _);have np5:p5≠wl:=fun e=>by rw [e] at n5;obtain ⟨a,b,c,hh,_⟩:=hw.keep S4 (aaJ _);rw [hh] at n5;cases n5
  generalize upd H5 p5 (.lst ys)=H6 at s5 e5 hvs S5 er5 hw5 ⊢;have eL:((ys.length:Nat):Int)=cn gs.length ns.length:=by rw [← lvs,lA];exact lC
  have lAw:((aw 5 gs ns).length:Int)=cn gs.length ns.length:=by rw [lA];exact lC
  have lpos:1≤ys.length:=by
    have:=(lZ gs.length g3 ns.length (by omega)).2 ⟨g1,h1⟩;omega
  refine ⟨_,rfl,_,rfl,r,_,rfl,.inl (SqL.of er5),?_⟩;rw [hl];refine ⟨gs,ns.length,rfl,g3,sp,h1,by omega,fun H7 s7=>?_⟩;have e7:=s7 _ _ e5;have er7:=s7 _ _ er5;refine ⟨_,rfl,p5,_,rfl,.inl (SqL.of e7),?_⟩;refine ⟨rfl,false,congrArg V.bl (by rw [eL];exact fA _),a_ ?_⟩;refine ⟨_,rfl,p5,_,rfl,.inl (SqL.of e7),_,rfl,r,_,rfl,.inl (SqL.of er7),?_⟩;refine ⟨_,rfl,ns.length,ak gs,by rw [hl];rfl,h1,by omega,by omega,?_⟩;rw [zl];refine ⟨rfl,false,congrArg V.bl (by rw [eL];exact fA _),a_ ?_⟩;refine ⟨_,rfl,p5,_,rfl,.inl (SqL.of e7),_,_,rfl,rfl,⟨by decide,by decide⟩,_,_,rfl,rfl,?_⟩;have w7:=hw5.keep s7 (aaJ _);obtain ⟨stp,hstp⟩:∃ stp:Int,stp=1+(ys.length:Int) / 40:=⟨_,rfl⟩
  have st1:0 < stp∧stp≤1135:=by omega
  refine ⟨_,rfl,_,rfl,wl,_,M,rfl,(by show 0 < 1+(ys.length:Int) / 40;omega),(by show 1+(ys.length:Int) / 40 < _;omega),w7,by omega,fun r1 H8 a1 b1 bu w8=>?_⟩;have t8:=w7.tups bu;have e8:=bu _ _ np5 e7;have er8:=bu _ _ nrw er7;have hvs8:=(hvs.mono (Tups.of s7)).mono t8;have bb8:But wl H H8:=(But.of (S5.trans s7)).trans bu;refine ⟨_,rfl,p5,_,rfl,.inl (SqL.of e8),_,rfl,r1,_,_,rfl,⟨by omega,by omega,by omega,by omega,(by show 0 < 1+(ys.length:Int) / 40;omega),(by show 1+(ys.length:Int) / 40≤_;omega)⟩,?_⟩;have num:∀ {H':Hp} {i:Int},Same H8 H'→0≤i→i < (ys.length:Nat)→∃ wy u,wy.nr gs=i∧wy.nums=ns∧wy.within gs∧atI ys i=some u∧WyIn H' wy u:=fun {H' i} S i0 i1=>by
    obtain ⟨j,rfl⟩:=abO i0;have hj:j < ys.length:=by omega
    obtain ⟨wy,hwy,hin⟩:=fk (hvs8.mono (Tups.of S)) (aae hj);obtain ⟨q1,q2,q3⟩:=m6 g3 nd h1 h5 (by decide) lAw hwy;exact ⟨wy,_,q1,q2,q3,df (aae hj),hin⟩
  refine nK Trn.up (fun i σ H'=>∃ c5,σ=[some (.ref wl),some (.ref r),some (.str (ak gs)),some (.ref p5),some (.int (1+(ys.length:Int) / 40)),c5]∧Same H8 H') ⟨_,rfl,Same.refl _⟩ (fun _ _ _ _ _=>trivial) ?_ ?_
  · rintro i x σ H9 H9' hi ⟨rfl,rfl⟩ ⟨c5,rfl,S9⟩;have hlt:=iU (show 0 < 1+(ys.length:Int) / 40 by omega) hi;have hge:0≤r1+(i:Int) * (1+(ys.length:Int) / 40):=Int.add_nonneg a1 (ab1 (by omega) (by omega));generalize r1+(i:Int) * (1+(ys.length:Int) / 40)=k at hlt hge ⊢;obtain ⟨wy,u,q1,q2,q3,q4,q5⟩:=num S9 hge hlt;have zw:wy.size=ns.length:=by rw [← wy.nums_len,q2]
    have bd:wy.Bd:=.of (by rw [q2];exact sm);have dp:=dj wy;have dl:=wy.deep_le;refine ⟨_,rfl,_,rfl,_,rfl,r,wy,gs,by rw [q1];rfl,by rw [q2];exact S9 _ _ er8,by omega,g3,sp,q3,fun v H10 s10 hv=>?_⟩;have S10:=S9.trans s10;refine ⟨v,aT wy,rfl,hv.dat,cE wy bd,by omega,dB bd (by omega),?_⟩;refine ⟨_,rfl,_,rfl,p5,_,_,_,rfl,rfl,SqL.of (S10 _ _ e8),q4,?_⟩;have q5':=q5.mono (Tups.of s10);refine ⟨u,aT wy,rfl,q5'.dat,cE wy bd,by omega,dB bd (by omega),?_⟩;refine ⟨rfl,false,congrArg V.bl (by rw [decide_eq_true rfl];rfl),a_ ?_⟩;refine ⟨_,rfl,_,rfl,p5,_,_,_,rfl,rfl,SqL.of (S10 _ _ e8),q4,_,rfl,wy,u,gs,rfl,q5',by omega,g3,sp,q3,fun H11 s11=>?_⟩;refine ⟨_,rfl,rfl,false,congrArg V.bl (by rw [q1];exact fA _),a_ ?_⟩;exact ⟨_,rfl,S10.trans s11⟩
  · rintro σ H9 ⟨c5,rfl,S9⟩;obtain ⟨wy,u,q1,q2,q3,q4,q5⟩:=num (i:=(ys.length:Int) - 1) S9 (by omega) (by omega);have zw:wy.size=ns.length:=by rw [← wy.nums_len,q2]
    have bd:wy.Bd:=.of (by rw [q2];exact sm);have dp:=dj wy;have dl:=wy.deep_le;refine ⟨_,rfl,_,rfl,_,rfl,p5,_,rfl,.inl (SqL.of (S9 _ _ e8)),_,_,rfl,rfl,r,wy,gs,by rw [q1];rfl,by rw [q2];exact S9 _ _ er8,by omega,g3,sp,q3,fun v H10 s10 hv=>?_⟩;have S10:=S9.trans s10;refine ⟨v,aT wy,rfl,hv.dat,cE wy bd,by omega,dB bd (by omega),?_⟩;have q4':atI ys (-1)=some u:=by
      obtain ⟨ys',y',rfl⟩:∃ ys' y',ys=ys'++[y']:=⟨ys.dropLast,ys.getLast (fun e=>by rw [e] at lpos;simp at lpos),(List.dropLast_concat_getLast _).symm⟩
      rw [l8];rw [show (((ys'++[y']).length:Nat):Int) - 1=((ys'.length:Nat):Int) by simp] at q4;rw [df (v:=y') (by simp)] at q4;exact q4
    refine ⟨_,rfl,_,rfl,p5,_,_,_,rfl,rfl,SqL.of (S10 _ _ e8),q4',?_⟩;have q5':=q5.mono (Tups.of s10);refine ⟨u,aT wy,rfl,q5'.dat,cE wy bd,by omega,dB bd (by omega),?_⟩;refine ⟨rfl,?_⟩;show Q (.bl (decide (V.str (aT wy).shown=V.str (aT wy).shown))) H10;rw [decide_eq_true rfl];exact q _ (bb8.trans (But.of S10)) (w8.keep S10 (aaJ _))
end
open PySem L2
theorem mO {K:aaa} {H:Hp} {ns:List Int}:∀ (j:Nat) x y,(ns.map V.int)[j]?=some x→(ns.map V.int)[j]?=some y→EqR K H 0 x y true:=fun j x y hx hy=>by
  rw [hx] at hy;cases hy;rw [aaF] at hx;obtain ⟨k,_,rfl⟩:=aaT.mp hx;have:=EqR.flat (K:=K) (H:=H) (n:=0) (x:=.int k) (y:=.int k) rfl rfl;rw [jg rfl] at this;exact this
theorem l_ (n:Nat):(aaR n).all (fun _=>true)=true:=by simp
section
variable {P:Program} {w:World} {K:aaa} {mg:Str→Option Value} {base:Heap} {f:Addr} {fd:FuncData}
def ju:Sp:=fun vs H Q _=>∃ (wl:Addr) (gs:List Sg) (M:Int),vs=[.ref wl,.str (ak gs)]∧1≤gs.length∧gs.length≤3∧bb gs∧Wel H wl M∧M < 999980000 ∧
  ∀ H',But wl H H'→Wel H' wl (M+300)→Q (.bl true) H'
abbrev bA:Stmt:=top 45
theorem ay:FnScope ["well","signs","row","most","ways","some","numbers","k","way","j"] ["well","signs"] (ap bA):=⟨rfl,rfl,rfl,by decide +kernel,rfl,by decide +kernel,by decide +kernel⟩
theorem eH (F:Fun K "_law_long_right" "_law_long_right" bA f fd) (B:Bu K mg) (C__law_draw:Cal P w K mg base "_law_draw" 2 ["well","many"] cW) (C__law_row:Cal P w K mg base "_law_row" 4 ["well","many"] jT) (C_how_many_ways:Cal P w K mg base "how_many_ways" 4 ["signs","many"] iJ) (C__law_way:Cal P w K mg base "_law_way" 11 ["well","row","signs"] (jR 9)) (C_nth_way:Cal P w K mg base "nth_way" 12 ["row","signs","number"] iG) (C_number_of_way:Cal P w K mg base "number_of_way" 32 ["way","signs"] iH) (C__law_key:Cal P w K mg base "_law_key" 20 ["way"] (iI 9)):FnOk P w K mg base CX0 33 f fd ["well","signs"] ju:=by
  refine F.ok ay (fun vs H Q E h=>?_) (fun cdv A outer s H vs Q E hr h=>?_)
  · obtain ⟨wl,gs,M,rfl,_⟩:=h;rfl
  obtain ⟨wl,gs,M,rfl,g1,g3,sp,hw,hM,q⟩:=h;refine ⟨_,(@af _ _ _ _ _ (@aB _ _ (2) _ _ _ _ (ay).nd rfl (Or.inr rfl) (@ai _ _ _ _ _ _ _ _ _ _ _ C__law_row hr (by omega) rfl (@aa _ _ _ _ _ (@pv _ 0 _ _ (by rfl) (by first|exact .inl rfl|exact .inr (.inl rfl)|exact .inr (.inr rfl)) (by decide) (by decide)) (@aa _ _ _ _ _ (@av _ _ _ _ _ _ _ _ bG ae (@ai _ _ _ _ _ _ _ _ _ _ _ C__law_draw hr (by omega) rfl (@aa _ _ _ _ _ (@pv _ 0 _ _ (by rfl) (by first|exact .inl rfl|exact .inr (.inl rfl)|exact .inr (.inr rfl)) (by decide) (by decide)) (@aa _ _ _ _ _ ae ad (by rfl)) (by rfl)) (by decide) (by rfl) (by rfl))) ad (by rfl)) (by rfl)) (by decide) (by rfl) (by rfl)) (by rfl) (by first|exact .inl rfl|exact .inr rfl|assumption)) (@af _ _ _ _ _ (@aB _ _ (3) _ _ _ _ (ay).nd rfl (Or.inl rfl) (@ai _ _ _ _ _ _ _ _ _ _ _ C_how_many_ways hr (by omega) rfl (@aa _ _ _ _ _ (@pv _ 1 _ _ (by rfl) (by first|exact .inl rfl|exact .inr (.inl rfl)|exact .inr (.inr rfl)) (by decide) (by decide)) (@aa _ _ _ _ _ (@ao _ _ _ _ _ _ _ _ _ aq rfl B.ilen aau (@aa _ _ _ _ _ (@pv _ 2 _ _ (by rfl) (by first|exact .inl rfl|exact .inr (.inl rfl)|exact .inr (.inr rfl)) (by decide) (by decide)) ad (by rfl)) (by decide) (by decide) (by rfl) (by rfl)) ad (by rfl)) (by rfl)) (by decide) (by rfl) (by rfl)) (by rfl) (by first|exact .inl rfl|exact .inr rfl|assumption)) (@af _ _ _ _ _ (@aB _ _ (4) _ _ _ _ (ay).nd rfl (Or.inl rfl) (@aW _ _ _ _ (@aa _ _ _ _ _ (@ai _ _ _ _ _ _ _ _ _ _ _ C__law_way hr (by omega) rfl (@aa _ _ _ _ _ (@pv _ 0 _ _ (by rfl) (by first|exact .inl rfl|exact .inr (.inl rfl)|exact .inr (.inr rfl)) (by decide) (by decide)) (@aa _ _ _ _ _ (@pv _ 2 _ _ (by rfl) (by first|exact .inl rfl|exact .inr (.inl rfl)|exact .inr (.inr rfl)) (by decide) (by decide)) (@aa _ _ _ _ _ (@pv _ 1 _ _ (by rfl) (by first|exact .inl rfl|exact .inr (.inl rfl)|exact .inr (.inr rfl)) (by decide) (by decide)) ad (by rfl)) (by rfl)) (by rfl)) (by decide) (by rfl) (by rfl)) (@aa _ _ _ _ _ (@ai _ _ _ _ _ _ _ _ _ _ _ C__law_way hr (by omega) rfl (@aa _ _ _ _ _ (@pv _ 0 _ _ (by rfl) (by first|exact .inl rfl|exact .inr (.inl rfl)|exact .inr (.inr rfl)) (by decide) (by decide)) (@aa _ _ _ _ _ (@pv _ 2 _ _ (by rfl) (by first|exact .inl rfl|exact .inr (.inl rfl)|exact .inr (.inr rfl)) (by decide) (by decide)) (@aa _ _ _ _ _ (@pv _ 1 _ _ (by rfl) (by first|exact .inl rfl|exact .inr (.inl rfl)|exact .inr (.inr rfl)) (by decide) (by decide)) ad (by rfl)) (by rfl)) (by rfl)) (by decide) (by rfl) (by rfl)) ad (by rfl)) (by rfl))) (by rfl) (by first|exact .inl rfl|exact .inr rfl|assumption)) (@af _ _ _ _ _ (@aB _ _ (5) _ _ _ _ (ay).nd rfl (Or.inl rfl) (@aW _ _ _ _ (@aa _ _ _ _ _ ae (@aa _ _ _ _ _ (@av _ _ _ _ _ _ _ _ bG (@pv _ 3 _ _ (by rfl) (by first|exact .inl rfl|exact .inr (.inl rfl)|exact .inr (.inr rfl)) (by decide) (by decide)) ae) (@aa _ _ _ _ _ (@av _ _ _ _ _ _ _ _ cB (@pv _ 3 _ _ (by rfl) (by first|exact .inl rfl|exact .inr (.inl rfl)|exact .inr (.inr rfl)) (by decide) (by decide)) ae) (@aa _ _ _ _ _ (@ai _ _ _ _ _ _ _ _ _ _ _ C__law_draw hr (by omega) rfl (@aa _ _ _ _ _ (@pv _ 0 _ _ (by rfl) (by first|exact .inl rfl|exact .inr (.inl rfl)|exact .inr (.inr rfl)) (by decide) (by decide)) (@aa _ _ _ _ _ (@pv _ 3 _ _ (by rfl) (by first|exact .inl rfl|exact .inr (.inl rfl)|exact .inr (.inr rfl)) (by decide) (by decide)) ad (by rfl)) (by rfl)) (by decide) (by rfl) (by rfl)) ad (by rfl)) (by rfl)) (by rfl)) (by rfl))) (by rfl) (by first|exact .inl rfl|exact .inr rfl|assumption)) (@af _ _ _ _ _ (@aB _ _ (4) _ _ _ _ (ay).nd rfl (Or.inl rfl) (@av _ _ _ _ _ _ _ _ h_ (@pv _ 4 _ _ (by rfl) (by first|exact .inl rfl|exact .inr (.inl rfl)|exact .inr (.inr rfl)) (by decide) (by decide)) (@eE _ _ _ _ _ _ _ _ (["number","row","signs"]) ([none,some 2,some 1]) _ _ _ _ rfl (@bX _ _ _ _ (@pv _ 5 _ _ (by rfl) (by first|exact .inl rfl|exact .inr (.inl rfl)|exact .inr (.inr rfl)) (by decide) (by decide))) rfl ⟨rfl,⟨rfl,trivial⟩⟩ ⟨⟨rfl,Or.inl rfl,Or.inl rfl⟩,⟨⟨rfl,Or.inl rfl,Or.inl rfl⟩,trivial⟩⟩ (fun _ _ _ _=>⟨(@au _ _ (0) _ (show abp (["number","row","signs"]:List Str) by decide +kernel) rfl (Or.inl rfl) (.inr rfl)),bo,(@ai _ _ _ _ _ _ _ _ _ _ _ C_nth_way hr (by omega) rfl (@aa _ _ _ _ _ (@pv _ 1 _ _ (by rfl) (by first|exact .inl rfl|exact .inr (.inl rfl)|exact .inr (.inr rfl)) (by decide) (by decide)) (@aa _ _ _ _ _ (@pv _ 2 _ _ (by rfl) (by first|exact .inl rfl|exact .inr (.inl rfl)|exact .inr (.inr rfl)) (by decide) (by decide)) (@aa _ _ _ _ _ (@pv _ 0 _ _ (by rfl) (by first|exact .inl rfl|exact .inr (.inl rfl)|exact .inr (.inr rfl)) (by decide) (by decide)) ad (by rfl)) (by rfl)) (by rfl)) (by decide) (by rfl) (by rfl))⟩) (by rfl) (by rfl) (by rfl) (by rfl) (by intro _;rfl))) (by rfl) (by first|exact .inl rfl|exact .inr rfl|assumption)) (@af _ _ _ _ _ (@h8 _ (6) _ _ _ _ _ _ _ _ _ _ (["way","signs"]) ([none,some 1]) _ _ _ _ (ay).nd rfl (Or.inl rfl) rfl (@bX _ _ _ _ (@pv _ 4 _ _ (by rfl) (by first|exact .inl rfl|exact .inr (.inl rfl)|exact .inr (.inr rfl)) (by decide) (by decide))) rfl ⟨rfl,trivial⟩ ⟨⟨rfl,Or.inl rfl,Or.inl rfl⟩,trivial⟩ (fun _ _ _ _=>⟨(@au _ _ (0) _ (show abp (["way","signs"]:List Str) by decide +kernel) rfl (Or.inl rfl) (.inr rfl)),bo,(@ai _ _ _ _ _ _ _ _ _ _ _ C_number_of_way hr (by omega) rfl (@aa _ _ _ _ _ (@pv _ 0 _ _ (by rfl) (by first|exact .inl rfl|exact .inr (.inl rfl)|exact .inr (.inr rfl)) (by decide) (by decide)) (@aa _ _ _ _ _ (@pv _ 1 _ _ (by rfl) (by first|exact .inl rfl|exact .inr (.inl rfl)|exact .inr (.inr rfl)) (by decide) (by decide)) ad (by rfl)) (by rfl)) (by decide) (by rfl) (by rfl))⟩) (by rfl) (by rfl) (by rfl) (by rfl) (by intro _;rfl) (by rfl) (by first|exact .inl rfl|exact .inr rfl|assumption)) (@af _ _ _ _ _ (@a8 _ _ _ _ _ _ _ _ (@PW.pt _ _ _ (@gx _ _ _ _ _ _ _ (@aM _ _ _ _ _ _ _ _ (@jB _ hr.units) (@bQ _ _ _ _ _ _ _ _ _ _ cF (@pv _ 6 _ _ (by rfl) (by first|exact .inl rfl|exact .inr (.inl rfl)|exact .inr (.inr rfl)) (by decide) (by decide)) (@cG _ _ _ ae) cH) (@pv _ 5 _ _ (by rfl) (by first|exact .inl rfl|exact .inr (.inl rfl)|exact .inr (.inr rfl)) (by decide) (by decide)) (aL _)) (@eW _ _ _ _ (@aM _ _ _ _ _ _ _ _ (@jB _ hr.units) (@eE _ _ _ _ _ _ _ _ (["n"]) ([none]) _ _ _ _ rfl (@bX _ _ _ _ (@pv _ 6 _ _ (by rfl) (by first|exact .inl rfl|exact .inr (.inl rfl)|exact .inr (.inr rfl)) (by decide) (by decide))) rfl trivial trivial (fun _ _ _ _=>⟨(@au _ _ (0) _ (show abp (["n"]:List Str) by decide +kernel) rfl (Or.inl rfl) (.inr rfl)),(@iY _ _ _ (@bf _ _ _ (@ao _ _ _ _ _ _ _ _ _ (@iw _ _ ("bool") rfl) rfl B.iisinstance aaz (@aa _ _ _ _ _ (@pv _ 0 _ _ (by rfl) (by first|exact .inl rfl|exact .inr (.inl rfl)|exact .inr (.inr rfl)) (by decide) (by decide)) (@aa _ _ _ _ _ (@b8 _ _ (.ty "bool") _ _ rfl B.ibool PyProof.Rows.boot_bool rfl (by decide) (by decide)) ad (by rfl)) (by rfl)) (by decide) (by decide) (by rfl) (by rfl)) (by intro _;rfl))),(@pv _ 0 _ _ (by rfl) (by first|exact .inl rfl|exact .inr (.inl rfl)|exact .inr (.inr rfl)) (by decide) (by decide))⟩) (by rfl) (by rfl) (by rfl) (by rfl) (by intro _;rfl)) (@aW _ _ _ _ ad) (aL _))))) (@ah _ _ _ (@ar _ _ _ _ dJ)) aE) (@af _ _ _ _ _ (@cz _ _ _ _ _ _ _ _ aaO rfl (@j3 _ _ _ _ _ _ _ _ rfl B.ienumerate (@aa _ _ _ _ _ (@pv _ 4 _ _ (by rfl) (by first|exact .inl rfl|exact .inr (.inl rfl)|exact .inr (.inr rfl)) (by decide) (by decide)) ad (by rfl)) (by rfl)) (@dw _ _ _ _ _ _ rfl (@aH _ _ _ _ _ (@au _ _ (7) _ (ay).nd rfl (Or.inl rfl) (.inl rfl)) (@aH _ _ _ _ _ (@au _ _ (8) _ (ay).nd rfl (Or.inl rfl) (.inl rfl)) cI (by rfl)) (by rfl)) (by rfl) (by rfl)) (@af _ _ _ _ _ (@a8 _ _ _ _ _ _ _ _ (@aM _ _ _ _ _ _ _ _ fR (@ao _ _ _ _ _ _ _ _ _ (@b_ _ hr.gd hr.units) rfl B.irepr abb (@aa _ _ _ _ _ (@ai _ _ _ _ _ _ _ _ _ _ _ C_nth_way hr (by omega) rfl (@aa _ _ _ _ _ (@pv _ 2 _ _ (by rfl) (by first|exact .inl rfl|exact .inr (.inl rfl)|exact .inr (.inr rfl)) (by decide) (by decide)) (@aa _ _ _ _ _ (@pv _ 1 _ _ (by rfl) (by first|exact .inl rfl|exact .inr (.inl rfl)|exact .inr (.inr rfl)) (by decide) (by decide)) (@aa _ _ _ _ _ (@aI _ _ _ _ _ _ _ aC (@pv _ 6 _ _ (by rfl) (by first|exact .inl rfl|exact .inr (.inl rfl)|exact .inr (.inr rfl)) (by decide) (by decide)) (@pv _ 7 _ _ (by rfl) (by first|exact .inl rfl|exact .inr (.inl rfl)|exact .inr (.inr rfl)) (by decide) (by decide)) (fun _ _=>rfl)) ad (by rfl)) (by rfl)) (by rfl)) (by decide) (by rfl) (by rfl)) ad (by rfl)) (by decide) (by decide) (by rfl) (by rfl)) (@ao _ _ _ _ _ _ _ _ _ (@b_ _ hr.gd hr.units) rfl B.irepr abb (@aa _ _ _ _ _ (@pv _ 8 _ _ (by rfl) (by first|exact .inl rfl|exact .inr (.inl rfl)|exact .inr (.inr rfl)) (by decide) (by decide)) ad (by rfl)) (by decide) (by decide) (by rfl) (by rfl)) (aL _)) (@ah _ _ _ (@ar _ _ _ _ dJ)) aE) (@ah _ _ _ (@cz _ _ _ _ _ _ _ _ aaO rfl (@gy _ _ _ _ _ _ rfl B.irange (@aa _ _ _ _ _ (@pv _ 7 _ _ (by rfl) (by first|exact .inl rfl|exact .inr (.inl rfl)|exact .inr (.inr rfl)) (by decide) (by decide)) ad (by rfl)) (by rfl)) (@au _ _ (9) _ (ay).nd rfl (Or.inl rfl) (.inl rfl)) (@ah _ _ _ (@a8 _ _ _ _ _ _ _ _ (@aM _ _ _ _ _ _ _ _ fR (@bZ _ _ _ _ _ _ _ _ (nu rfl hr.units) (@ai _ _ _ _ _ _ _ _ _ _ _ C__law_key hr (by omega) rfl (@aa _ _ _ _ _ (@aI _ _ _ _ _ _ _ aC (@pv _ 4 _ _ (by rfl) (by first|exact .inl rfl|exact .inr (.inl rfl)|exact .inr (.inr rfl)) (by decide) (by decide)) (@pv _ 9 _ _ (by rfl) (by first|exact .inl rfl|exact .inr (.inl rfl)|exact .inr (.inr rfl)) (by decide) (by decide)) (fun _ _=>rfl)) ad (by rfl)) (by decide) (by rfl) (by rfl)) (@ai _ _ _ _ _ _ _ _ _ _ _ C__law_key hr (by omega) rfl (@aa _ _ _ _ _ (@pv _ 8 _ _ (by rfl) (by first|exact .inl rfl|exact .inr (.inl rfl)|exact .inr (.inr rfl)) (by decide) (by decide)) ad (by rfl)) (by decide) (by rfl) (by rfl)) (aL _)) (@bZ _ _ _ _ _ _ _ _ mW (@aI _ _ _ _ _ _ _ aC (@pv _ 6 _ _ (by rfl) (by first|exact .inl rfl|exact .inr (.inl rfl)|exact .inr (.inr rfl)) (by decide) (by decide)) (@pv _ 9 _ _ (by rfl) (by first|exact .inl rfl|exact .inr (.inl rfl)|exact .inr (.inr rfl)) (by decide) (by decide)) (fun _ _=>rfl)) (@aI _ _ _ _ _ _ _ aC (@pv _ 6 _ _ (by rfl) (by first|exact .inl rfl|exact .inr (.inl rfl)|exact .inr (.inr rfl)) (by decide) (by decide)) (@pv _ 7 _ _ (by rfl) (by first|exact .inl rfl|exact .inr (.inl rfl)|exact .inr (.inr rfl)) (by decide) (by decide)) (fun _ _=>rfl)) (aL _)) (aL _)) (@ah _ _ _ (@ar _ _ _ _ dJ)) aE)) (by intro _;rfl)))) (by intro _;rfl)) (@ah _ _ _ (@ar _ _ _ _ dJ)))))))))),?_⟩;have zl:(ak gs).length=gs.length:=bI gs;have nd:=dM gs g3 sp;refine ⟨_,rfl,_,rfl,wl,4,M,rfl,by decide,by decide,hw,by omega,fun d H1 a1 b1 bu1 w1=>?_⟩;refine ⟨_,_,rfl,rfl,wl,9 - d,M+1,rfl,by omega,by omega,w1,by omega,fun pr ns H2 bu2 w2 npr epr hlen sm=>?_⟩;have hl:(ns.map V.int).length=ns.length:=aad _;have h1:1≤ns.length:=by omega
  have h9:ns.length≤9:=by omega
  have nrw:pr≠wl:=w1.ne npr;have bb2:But wl H H2:=bu1.trans bu2;refine ⟨_,rfl,_,rfl,pr,_,rfl,.inl (SqL.of epr),?_⟩;rw [hl];refine ⟨gs,ns.length,rfl,g3,sp,h1,h9,fun H3 s3=>?_⟩;have er3:=s3 _ _ epr;have w3:=w2.keep s3 (aaJ _);have bb3:=bb2.trans (But.of s3);have cb:=gK gs.length g3 ns.length h9;have cp:=(lZ gs.length g3 ns.length h9).2 ⟨g1,h1⟩;obtain ⟨most,hmost⟩:∃ m,m=cn gs.length ns.length:=⟨_,rfl⟩
  rw [← hmost] at cb cp ⊢;refine ⟨_,rfl,_,rfl,_,rfl,wl,pr,gs,ns,_,rfl,er3,nrw,h1,h9,by decide,g1,g3,w3,by omega,fun v1 wy1 H4 k1 n1 i1 bu4 w4=>?_⟩;have er4:=bu4 _ _ nrw er3;refine ⟨_,rfl,_,rfl,_,rfl,wl,pr,gs,ns,_,rfl,er4,nrw,h1,h9,by decide,g1,g3,w4,by omega,fun v2 wy2 H5 k2 n2 i2 bu5 w5=>?_⟩;have er5:=bu5 _ _ nrw er4;have k15:=k1.mono (w4.tups bu5);refine ⟨(by show 2≤sizeLine;decide),fun p6 np6=>?_⟩;have s6:=Same.new np6 (.lst [v1,v2]);have e6:upd H5 p6 (.lst [v1,v2]) p6=some (.lst [v1,v2]):=ag;have np6w:p6≠wl:=w5.ne np6
  replace k15:=k15.mono (Tups.of s6)
  replace k2:=k2.mono (Tups.of s6)
  have er6:=s6 _ _ er5;have w6:=w5.keep s6 (aaJ _);have bb6:But wl H _:=((bb3.trans bu4).trans bu5).trans (But.of s6);generalize upd H5 p6 (.lst [v1,v2])=H6 at s6 e6 k15 k2 er6 w6 bb6 ⊢;refine ⟨_,rfl,_,_,rfl,rfl,_,rfl,_,_,rfl,rfl,⟨by decide,by decide⟩,_,rfl,_,rfl,wl,_,_,rfl,cp,by omega,w6,by omega,fun dd H7 a7 b7 bu7 w7=>?_⟩;have er7:=bu7 _ _ nrw er6;have e7:=bu7 _ _ np6w e6;have t7:=w6.tups bu7
  replace k15:=k15.mono t7
  replace k2:=k2.mono t7
  have bb7:=bb6.trans bu7;obtain ⟨u0,c0,d0⟩:=fz g3 nd h1 h9 (k:=0) (aaJ _) (by omega);obtain ⟨u1,c1,d1⟩:=fz g3 nd h1 h9 (k:=most - 1) (by omega) (by omega);obtain ⟨u2,c2,d2⟩:=fz g3 nd h1 h9 (k:=most / 2) (by omega) (by omega);obtain ⟨u3,c3,d3⟩:=fz g3 nd h1 h9 (k:=dd) a7 (by omega);have hu:∀ u∈[u0,u1,u2,u3],u.nums=ns∧u.within gs:=fun u hu=>by
    simp only [List.mem_cons,List.not_mem_nil,or_false] at hu;rcases hu with rfl|rfl|rfl|rfl
    · exact d0
    · exact d1
    · exact d2
    · exact d3
  have eU:[V.int 0,.int (most - 1),.int (most / 2),.int dd]=([u0,u1,u2,u3].map (Wy.nr gs)).map V.int:=by
    simp only [abQ,List.map_nil,c0,c1,c2,c3]
  refine ⟨(by show 4≤sizeLine;decide),fun p8 np8=>?_⟩;have s8:=Same.new np8 (.lst [V.int 0,.int (most - 1),.int (most / 2),.int dd]);have e8:upd H7 p8 (.lst [V.int 0,.int (most - 1),.int (most / 2),.int dd]) p8=some (.lst (([u0,u1,u2,u3].map (Wy.nr gs)).map V.int)):=by rw [← eU];exact ag
  have np8w:p8≠wl:=w7.ne np8;obtain ⟨H8,hH8⟩:∃ H8,H8=upd H7 p8 (.lst [V.int 0,.int (most - 1),.int (most / 2),.int dd]):=⟨_,rfl⟩
  rw [← hH8] at s8 e8;generalize hE4:[u0,u1,u2,u3]=us4 at hu e8;have eI:(us4.map (Wy.nr gs)).length=us4.length:=aad _;have er8:=s8 _ _ er7;have l4:us4.length=4:=by rw [← hE4];rfl
  refine ⟨_,rfl,_,rfl,p8,rfl,⟨_,SqL.of (by rw [hH8] at e8;exact e8)⟩,?_⟩;refine gF (Trn.list (xs:=(us4.map (Wy.nr gs)).map V.int)) (fun i ys H'=>Same H8 H'∧WyAll H' (us4.take i) ys) ⟨by rw [hH8];exact Same.refl _,.nil⟩ (fun i ys H' hi z=>⟨SqL.of (z.1 _ _ e8),aJ (by have:=abS z.2;rw [← this,aas];omega)⟩) (fun i x ys H0' H' hi hx z Nx nx=>?_) (fun ys H9 z p9 np9=>?_)
  · obtain ⟨rfl,hx⟩:=hx;obtain ⟨S,hys⟩:=z;rw [aaF,aaF] at hx;obtain ⟨nv,hnv,rfl⟩:=aaT.mp hx;obtain ⟨u,hu',rfl⟩:=aaT.mp hnv;obtain ⟨m1,m2⟩:=hu u (aam hu');refine ⟨_,rfl,_,rfl,_,rfl,pr,u,gs,rfl,by rw [m1];exact S _ _ er8,by rw [← u.nums_len,m1];omega,g3,sp,m2,fun v H10 s10 hv=>nx _ _ ?_⟩;refine ⟨S.trans s10,?_⟩;rw [aaK,hu'];exact Paired.app (hys.mono (Tups.of s10)) (.cons hv .nil)
  obtain ⟨S9,hys⟩:=z;rw [aad,aad,aa4] at hys;have l9:=hys.length;have s9:=Same.new np9 (.lst ys);have S89:=S9.trans s9;have e69:upd H9 p9 (.lst ys) p6=some (.lst [v1,v2]):=S89 _ _ (s8 _ _ e7);refine ⟨p6,p9,_,_,rfl,rfl,e69,ag,(by show 2+ys.length≤sizeLine;exact ab6 (aJ (by omega))),fun pA npA=>?_⟩;have sA:=Same.new npA (.lst ([v1,v2]++ys));have eA:upd (upd H9 p9 (.lst ys)) pA (.lst ([v1,v2]++ys)) pA=some (.lst ([v1,v2]++ys)):=ag;have S8A:=S89.trans sA;have S7A:=s8.trans S8A;have hvA:WyAll (upd (upd H9 p9 (.lst ys)) pA (.lst ([v1,v2]++ys))) ([wy1,wy2]++us4) ([v1,v2]++ys):=Paired.app (.cons (k15.mono (Tups.of S7A)) (.cons (k2.mono (Tups.of S7A)) .nil)) (hys.mono (Tups.of (s9.trans sA)));have hwA:∀ u∈[wy1,wy2]++us4,u.nums=ns∧u.within gs:=fun u h=>by
    rcases aaE.mp h with h|h
    · simp only [List.mem_cons,List.not_mem_nil,or_false] at h;rcases h with rfl|rfl
      · exact ⟨n1,i1⟩
      · exact ⟨n2,i2⟩
    · exact hu u h
  have lW:([wy1,wy2]++us4).length=6:=by rw [aat,l4];rfl
  have dW:([wy1,wy2]++us4).drop 2=us4:=rfl;have e8A:=S8A _ _ e8;have erA:=S8A _ _ er8;generalize upd (upd H9 p9 (.lst ys)) pA (.lst ([v1,v2]++ys))=HA at sA eA S8A S7A hvA e8A erA ⊢;have wA:=(w7.keep s8 (aaJ _)).keep S8A (aaJ _);have bbA:=(bb7.trans (But.of s8)).trans (But.of S8A);generalize [v1,v2]++ys=vs6 at eA hvA ⊢;generalize [wy1,wy2]++us4=wys at hvA hwA lW dW;have l6:=hvA.length;have szW:∀ u∈wys,u.size=ns.length:=fun u hu=>by rw [← u.nums_len,(hwA u hu).1]
  refine ⟨_,rfl,pA,rfl,⟨_,SqL.of eA⟩,?_⟩;refine gF (Trn.list (xs:=vs6)) (fun i ys H'=>Same HA H'∧ys=((wys.take i).map (Wy.nr gs)).map V.int) ⟨Same.refl _,rfl⟩ (fun i ys H' hi z=>⟨SqL.of (z.1 _ _ eA),aJ (by rw [z.2,aad,aad,aas];omega)⟩) (fun i x ys H0' H' hi hx z Nx nx=>?_) (fun ys HB z pB npB=>?_)
  · obtain ⟨rfl,hx⟩:=hx;obtain ⟨S,rfl⟩:=z;obtain ⟨u,hu',hux⟩:=fk (hvA.mono (Tups.of S)) hx;have mu:=aam hu';obtain ⟨m1,m2⟩:=hwA u mu;have zu:=szW u mu;refine ⟨_,rfl,_,rfl,u,x,gs,rfl,hux,by omega,g3,sp,m2,fun H10 s10=>nx _ _ ⟨S.trans s10,?_⟩⟩;rw [aaK,hu',aaL,aaL];rfl
  obtain ⟨SB,rfl⟩:=z;rw [← l6,aa4];have sB:=Same.new npB (.lst ((wys.map (Wy.nr gs)).map V.int));have eB:upd HB pB (.lst ((wys.map (Wy.nr gs)).map V.int)) pB=some (.lst ((wys.map (Wy.nr gs)).map V.int)):=ag;have SAB:=SB.trans sB;generalize upd HB pB (.lst ((wys.map (Wy.nr gs)).map V.int))=HB' at sB eB SAB ⊢;have cutN:ed ((wys.map (Wy.nr gs)).map V.int) (some 2) none=(us4.map (Wy.nr gs)).map V.int:=by
    have:=fj ((wys.map (Wy.nr gs)).map V.int) 2 (by rw [aad,aad];omega);rw [show (some (2:Int))=some ((2:Nat):Int) from rfl,this,← abR,← abR,dW]
  refine ⟨_,rfl,2,rfl,pB,_,rfl,SqL.of eB,fun pC npC=>?_⟩;rw [cutN];have sC:=Same.new npC (.lst ((us4.map (Wy.nr gs)).map V.int));refine ⟨_,rfl,0,pC,p8,_,_,by decide,rfl,rfl,SqL.of ag,SqL.of (sC _ _ (SAB _ _ e8A)),.inr ⟨fun _=>true,rfl,mO,?_⟩⟩;rw [l_];refine ⟨false,rfl,a_ ?_⟩;have SAC:=SAB.trans sC;have eBC:=sC _ _ eB;generalize upd HB' pC (.lst ((us4.map (Wy.nr gs)).map V.int))=HC at sC SAC eBC ⊢;refine ⟨_,rfl,pB,rfl,⟨_,SqL.of eBC⟩,?_⟩;refine gF (Trn.list (xs:=(wys.map (Wy.nr gs)).map V.int)) (fun i ys H'=>H'=HC∧ys=[]) ⟨rfl,rfl⟩ (fun i ys H' hi z=>⟨SqL.of (by rw [z.1];exact eBC),aJ (by rw [z.2];exact aaB _)⟩) (fun i x ys H0' H' hi hx z Nx nx=>?_) (fun ys HD z pD npD=>?_)
  · obtain ⟨rfl,hx⟩:=hx;obtain ⟨rfl,rfl⟩:=z;rw [aaF] at hx;obtain ⟨nv,hnv,rfl⟩:=aaT.mp hx;exact ⟨_,rfl,_,_,false,rfl,.int nv,rfl,false,rfl,a_ (nx _ _ ⟨rfl,rfl⟩)⟩
  obtain ⟨rfl,rfl⟩:=z;refine ⟨aaB _,fun pE npE=>?_⟩;have sD:=Same.new npD (.lst []);have sE:=Same.new npE (.lst []);refine neE (SqL.of (sE _ _ ag)) (SqL.of ag) ⟨false,rfl,a_ ?_⟩;have SAE:=SAC.trans (sD.trans sE);have sE':=sE;generalize upd (upd HD pD (.lst [])) pE (.lst [])=HE at SAE sE' ⊢;have eBE:HE pB=some (.lst ((wys.map (Wy.nr gs)).map V.int)):=(sD.trans sE') _ _ eBC;refine ⟨_,rfl,pA,rfl,⟨_,SqL.of (SAE _ _ eA)⟩,?_⟩;have nat:∀ {i:Nat} {u:Wy},wys[i]?=some u→atI ((wys.map (Wy.nr gs)).map V.int) (i:Int)=some (.int (u.nr gs)):=fun {i u} h=>df (by rw [aaF,aaF,h];rfl);refine je (xs:=vs6) (fun i σ H'=>∃ c7 c8 c9,σ=[some (.ref wl),some (.str (ak gs)),some (.ref pr),some (.int most),some (.ref pA),some (.ref p8),some (.ref pB),c7,c8,c9]∧Same HE H') ⟨_,_,_,rfl,Same.refl _⟩ ?_ ?_ ?_
  · rintro i σ H' hi ⟨_,_,_,rfl,S⟩;exact SqL.of (S _ _ (SAE _ _ eA))
  · rintro i x p σ H' hx ⟨c7,c8,c9,rfl,S⟩ np;have sF:=Same.new np (.tup [.int i,x]);have SF:=S.trans sF;refine ⟨p,_,rfl,SqT.of ag,rfl,_,_,rfl,_,_,rfl,rfl,?_⟩;generalize upd H' p (.tup [.int i,x])=HF at SF ⊢;have SAF:=SAE.trans SF;obtain ⟨u,hu',hux⟩:=fk (hvA.mono (Tups.of SAF)) hx;have mu:=aam hu';obtain ⟨m1,m2⟩:=hwA u mu;have zu:=szW u mu;have bd:u.Bd:=.of (by rw [m1];exact sm);have dp:=dj u;have dl:=u.deep_le;have hi6:i < 6:=by
      have:=(aag.mp hu').1;omega
    refine ⟨_,rfl,_,rfl,_,rfl,_,rfl,pB,_,_,_,rfl,rfl,SqL.of (SF _ _ eBE),nat hu',pr,u,gs,rfl,by rw [m1];exact SAF _ _ erA,by omega,g3,sp,m2,fun v HG sG hv=>?_⟩;have SG:=SF.trans sG;refine ⟨v,aT u,rfl,hv.dat,cE u bd,by omega,dB bd (by omega),?_⟩;refine ⟨_,rfl,x,aT u,rfl,(hux.mono (Tups.of sG)).dat,cE u bd,by omega,dB bd (by omega),?_⟩;refine ⟨rfl,false,congrArg V.bl (by rw [decide_eq_true rfl];rfl),a_ ?_⟩;refine ⟨_,rfl,(i:Int),rfl,by omega,by omega,?_⟩;refine cT (n:=((i:Nat):Int).toNat) (fun j σ H'=>∃ c9,σ=[some (.ref wl),some (.str (ak gs)),some (.ref pr),some (.int most),some (.ref pA),some (.ref p8),some (.ref pB),some (.int (i:Nat)),some x,c9]∧Same HE H') ⟨_,rfl,SG⟩ ?_ ?_
    · rintro j σ H'' hj ⟨c9,rfl,SH⟩;have hj':j < i:=by omega
      have SAH:=SAE.trans SH;have hji:j < vs6.length:=by omega
      obtain ⟨u',hu'',hux'⟩:=fk (hvA.mono (Tups.of SAH)) (aae hji);have mu':=aam hu'';obtain ⟨m1',m2'⟩:=hwA u' mu';have zu':=szW u' mu';obtain ⟨ub,hub,huxH⟩:=fk (hvA.mono (Tups.of SAH)) hx;rw [hu'] at hub;cases hub;rw [Int.zero_add];refine ⟨_,rfl,_,rfl,pA,_,_,_,rfl,rfl,SqL.of (SAH _ _ eA),df (aae hji),u',_,rfl,hux',by omega,by decide,fun kx H1' s1' hk=>?_⟩;refine ⟨_,rfl,u,x,rfl,huxH.mono (Tups.of s1'),by omega,by decide,fun ky H2' s2' hk'=>?_⟩;obtain ⟨ka,_,rfl,_⟩:=hk.ref;obtain ⟨kb,_,rfl,_⟩:=hk'.ref;have SI:=SH.trans (s1'.trans s2');obtain ⟨z1,z2⟩:=il g3 sp u' u (by omega) (by omega) m2' m2;refine ⟨9,ka,kb,_,by decide,rfl,rfl,io K H2' 9 u' u _ _ (by omega) (hk.mono s2') hk',?_⟩;refine ⟨_,rfl,_,rfl,pB,_,_,_,rfl,rfl,SqL.of (SI _ _ eBE),nat hu'',_,rfl,_,rfl,pB,_,_,_,rfl,rfl,SqL.of (SI _ _ eBE),nat hu',_,_,rfl,rfl,?_⟩;refine ⟨rfl,false,congrArg V.bl ?_,a_ ⟨_,rfl,SI⟩⟩;rw [z2,decide_eq_true rfl];rfl
    · rintro σ H'' ⟨c9,rfl,SH⟩;exact ⟨_,_,_,rfl,SH⟩
  · rintro σ H' ⟨c7,c8,c9,rfl,S⟩;exact q _ (bbA.trans (But.of (SAE.trans S))) ((wA.keep (SAE.trans S) (aaJ _)).more (by omega))
end
open PySem L2
theorem lX (ns:List Int) (lo hi:Option Int):∃ ms:List Int,ed (ns.map V.int) lo hi=ms.map V.int∧ms.length≤ns.length:=by
  refine ⟨(ns.drop (HT.sIx ns.length 0 lo)).take (HT.sIx ns.length ns.length hi - HT.sIx ns.length 0 lo),?_,?_⟩
  · unfold ed;rw [aad,List.map_take,abR]
  · rw [aas,aaC];omega
theorem But.same {H H1 H2:Hp} {wl:Addr} (s:Same H H1) (n:H wl=none) (b:But wl H1 H2):Same H H2:=fun c o h=>b c o (aK h n) (s c o h)
section
variable {P:Program} {w:World} {K:aaa} {mg:Str→Option Value} {base:Heap} {f:Addr} {fd:FuncData}
def jV (K:aaa):Sp:=fun vs H Q _=>∃ (a:Addr) (ns:List Int),vs=[.ref a]∧SqL K H a (ns.map V.int)∧ns.length≤63∧∀ H',Q (.bl true) H'
abbrev eD:Stmt:=top 46
theorem dk:FnScope ["script","k","cell","well","signs","many"] ["script"] (ap eD):=⟨rfl,rfl,rfl,by decide +kernel,rfl,by decide +kernel,by decide +kernel⟩
theorem nB (F:Fun K "law" "law" eD f fd) (B:Bu K mg) (C__law_well:Cal P w K mg base "_law_well" 1 ["cell"] js) (C__law_draw:Cal P w K mg base "_law_draw" 2 ["well","many"] cW) (C__law_row:Cal P w K mg base "_law_row" 4 ["well","many"] jT)
    (C__law_signs:Cal P w K mg base "_law_signs" 3 ["well"] dO) (C__law_small_right:Cal P w K mg base "_law_small_right" 33 ["well","row","signs"] gW) (C__law_long_right:Cal P w K mg base "_law_long_right" 33 ["well","signs"] ju) (C_how_many_ways:Cal P w K mg base "how_many_ways" 4 ["signs","many"] iJ) (C__law_ways_of:Cal P w K mg base "_law_ways_of" 1 ["many","signs"] mj) (C_nth_way:Cal P w K mg base "nth_way" 12 ["row","signs","number"] iG) (C_number_of_way:Cal P w K mg base "number_of_way" 32 ["way","signs"] iH):FnOk P w K mg base CX0 34 f fd ["script"] (jV K):=by
  refine F.ok dk (fun vs H Q E h=>?_) (fun cdv A outer s H vs Q E hr h=>?_)
  · obtain ⟨a,ns,rfl,_⟩:=h;rfl
  obtain ⟨a,ns,rfl,hS,h63,q⟩:=h;refine ⟨_,(@af _ _ _ _ _ (@cz _ _ _ _ _ _ _ _ aaO rfl (@j3 _ _ _ _ _ _ _ _ rfl B.ienumerate (@aa _ _ _ _ _ (@av _ _ _ _ _ _ _ _ h_ (@aW _ _ _ _ (@aa _ _ _ _ _ ae ad (by rfl))) (@bQ _ _ _ _ _ _ _ _ _ _ cF (@pv _ 0 _ _ (by rfl) (by first|exact .inl rfl|exact .inr (.inl rfl)|exact .inr (.inr rfl)) (by decide) (by decide)) cH (@cG _ _ _ ae))) ad (by rfl)) (by rfl)) (@dw _ _ _ _ _ _ rfl (@aH _ _ _ _ _ (@au _ _ (1) _ (dk).nd rfl (Or.inl rfl) (.inl rfl)) (@aH _ _ _ _ _ (@au _ _ (2) _ (dk).nd rfl (Or.inl rfl) (.inl rfl)) cI (by rfl)) (by rfl)) (by rfl) (by rfl)) (@af _ _ _ _ _ (@aB _ _ (3) _ _ _ _ (dk).nd rfl (Or.inl rfl) (@ai _ _ _ _ _ _ _ _ _ _ _ C__law_well hr (by omega) rfl (@aa _ _ _ _ _ (@pv _ 2 _ _ (by rfl) (by first|exact .inl rfl|exact .inr (.inl rfl)|exact .inr (.inr rfl)) (by decide) (by decide)) ad (by rfl)) (by decide) (by rfl) (by rfl)) (by rfl) (by first|exact .inl rfl|exact .inr rfl|assumption)) (@af _ _ _ _ _ (@aB _ _ (4) _ _ _ _ (dk).nd rfl (Or.inr rfl) (@ai _ _ _ _ _ _ _ _ _ _ _ C__law_signs hr (by omega) rfl (@aa _ _ _ _ _ (@pv _ 3 _ _ (by rfl) (by first|exact .inl rfl|exact .inr (.inl rfl)|exact .inr (.inr rfl)) (by decide) (by decide)) ad (by rfl)) (by decide) (by rfl) (by rfl)) (by rfl) (by first|exact .inl rfl|exact .inr rfl|assumption)) (@af _ _ _ _ _ (@aB _ _ (5) _ _ _ _ (dk).nd rfl (Or.inl rfl) (@av _ _ _ _ _ _ _ _ bw ae (@ai _ _ _ _ _ _ _ _ _ _ _ C__law_draw hr (by omega) rfl (@aa _ _ _ _ _ (@pv _ 3 _ _ (by rfl) (by first|exact .inl rfl|exact .inr (.inl rfl)|exact .inr (.inr rfl)) (by decide) (by decide)) (@aa _ _ _ _ _ ae ad (by rfl)) (by rfl)) (by decide) (by rfl) (by rfl))) (by rfl) (by first|exact .inl rfl|exact .inr rfl|assumption)) (@mv _ _ _ _ _ (@a8 _ _ _ _ _ _ _ _ (@PW.pt _ _ _ (@h7 _ _ _ _ _ _ _ (@aM _ _ _ _ _ _ _ _ eG (@pv _ 1 _ _ (by rfl) (by first|exact .inl rfl|exact .inr (.inl rfl)|exact .inr (.inr rfl)) (by decide) (by decide)) ae (aL _)) (@hZ _ _ _ _ (@aM _ _ _ _ _ _ _ _ eG (@ai _ _ _ _ _ _ _ _ _ _ _ C__law_draw hr (by omega) rfl (@aa _ _ _ _ _ (@pv _ 3 _ _ (by rfl) (by first|exact .inl rfl|exact .inr (.inl rfl)|exact .inr (.inr rfl)) (by decide) (by decide)) (@aa _ _ _ _ _ ae ad (by rfl)) (by rfl)) (by decide) (by rfl) (by rfl)) ae (aL _))))) (@ah _ _ _ (@aB _ _ (5) _ _ _ _ (dk).nd rfl (Or.inl rfl) ae (by rfl) (by first|exact .inl rfl|exact .inr rfl|assumption))) aE) (@ah _ _ _ (@a8 _ _ _ _ _ _ _ _ (@PW.pt _ _ _ (@gx _ _ _ _ _ _ _ (@bD _ _ _ _ (@bf _ _ _ (@ai _ _ _ _ _ _ _ _ _ _ _ C__law_small_right hr (by omega) rfl (@aa _ _ _ _ _ (@pv _ 3 _ _ (by rfl) (by first|exact .inl rfl|exact .inr (.inl rfl)|exact .inr (.inr rfl)) (by decide) (by decide)) (@aa _ _ _ _ _ (@ai _ _ _ _ _ _ _ _ _ _ _ C__law_row hr (by omega) rfl (@aa _ _ _ _ _ (@pv _ 3 _ _ (by rfl) (by first|exact .inl rfl|exact .inr (.inl rfl)|exact .inr (.inr rfl)) (by decide) (by decide)) (@aa _ _ _ _ _ (@pv _ 5 _ _ (by rfl) (by first|exact .inl rfl|exact .inr (.inl rfl)|exact .inr (.inr rfl)) (by decide) (by decide)) ad (by rfl)) (by rfl)) (by decide) (by rfl) (by rfl)) (@aa _ _ _ _ _ (@pv _ 4 _ _ (by rfl) (by first|exact .inl rfl|exact .inr (.inl rfl)|exact .inr (.inr rfl)) (by decide) (by decide)) ad (by rfl)) (by rfl)) (by rfl)) (by decide) (by rfl) (by rfl)) (by intro _;rfl))) (@eW _ _ _ _ (@bD _ _ _ _ (@bf _ _ _ (@ai _ _ _ _ _ _ _ _ _ _ _ C__law_long_right hr (by omega) rfl (@aa _ _ _ _ _ (@pv _ 3 _ _ (by rfl) (by first|exact .inl rfl|exact .inr (.inl rfl)|exact .inr (.inr rfl)) (by decide) (by decide)) (@aa _ _ _ _ _ (@pv _ 4 _ _ (by rfl) (by first|exact .inl rfl|exact .inr (.inl rfl)|exact .inr (.inr rfl)) (by decide) (by decide)) ad (by rfl)) (by rfl)) (by decide) (by rfl) (by rfl)) (by intro _;rfl)))))) (@ah _ _ _ (@ar _ _ _ _ dJ)) aE)))))) (by intro _;rfl)) (@af _ _ _ _ _ (@cz _ _ _ _ _ _ _ _ aaO rfl (@bX _ _ _ _ (@aW _ _ _ _ (@aa _ _ _ _ _ a9 (@aa _ _ _ _ _ a9 (@aa _ _ _ _ _ a9 ad (by rfl)) (by rfl)) (by rfl)))) (@au _ _ (4) _ (dk).nd rfl (Or.inr rfl) (.inl rfl)) (@ah _ _ _ (@a8 _ _ _ _ _ _ _ _ (@aM _ _ _ _ _ _ _ _ (@jB _ hr.units) (@eE _ _ _ _ _ _ _ _ (["many","signs"]) ([none,some 4]) _ _ _ _ rfl (@bE _ _ _ _ _ _ _ rfl B.irange (@aa _ _ _ _ _ ae (@aa _ _ _ _ _ ae ad (by rfl)) (by rfl)) (by rfl) (by rfl)) rfl ⟨rfl,trivial⟩ ⟨⟨rfl,Or.inl rfl,Or.inl rfl⟩,trivial⟩ (fun _ _ _ _=>⟨(@au _ _ (0) _ (show abp (["many","signs"]:List Str) by decide +kernel) rfl (Or.inl rfl) (.inr rfl)),(@iY _ _ _ (@aM _ _ _ _ _ _ _ _ fR (@ai _ _ _ _ _ _ _ _ _ _ _ C_how_many_ways hr (by omega) rfl (@aa _ _ _ _ _ (@pv _ 1 _ _ (by rfl) (by first|exact .inl rfl|exact .inr (.inl rfl)|exact .inr (.inr rfl)) (by decide) (by decide)) (@aa _ _ _ _ _ (@pv _ 0 _ _ (by rfl) (by first|exact .inl rfl|exact .inr (.inl rfl)|exact .inr (.inr rfl)) (by decide) (by decide)) ad (by rfl)) (by rfl)) (by decide) (by rfl) (by rfl)) (@ai _ _ _ _ _ _ _ _ _ _ _ C__law_ways_of hr (by omega) rfl (@aa _ _ _ _ _ (@pv _ 0 _ _ (by rfl) (by first|exact .inl rfl|exact .inr (.inl rfl)|exact .inr (.inr rfl)) (by decide) (by decide)) (@aa _ _ _ _ _ (@pv _ 1 _ _ (by rfl) (by first|exact .inl rfl|exact .inr (.inl rfl)|exact .inr (.inr rfl)) (by decide) (by decide)) ad (by rfl)) (by rfl)) (by decide) (by rfl) (by rfl)) (aL _))),(@pv _ 0 _ _ (by rfl) (by first|exact .inl rfl|exact .inr (.inl rfl)|exact .inr (.inr rfl)) (by decide) (by decide))⟩) (by rfl) (by rfl) (by rfl) (by rfl) (by intro _;rfl)) (@aW _ _ _ _ ad) (aL _)) (@ah _ _ _ (@ar _ _ _ _ dJ)) aE)) (by intro _;rfl)) (@ah _ _ _ (@ar _ _ _ _ (@fQ _ _ _ _ _ _ _ (@bZ _ _ _ _ _ _ _ _ (@ny _ hr.units) (@ai _ _ _ _ _ _ _ _ _ _ _ C_nth_way hr (by omega) rfl (@aa _ _ _ _ _ (@aW _ _ _ _ (@aa _ _ _ _ _ ae (@aa _ _ _ _ _ ae (@aa _ _ _ _ _ ae ad (by rfl)) (by rfl)) (by rfl))) (@aa _ _ _ _ _ a9 (@aa _ _ _ _ _ ae ad (by rfl)) (by rfl)) (by rfl)) (by decide) (by rfl) (by rfl)) (@dy _ _ _ _ _ (@aa _ _ _ _ _ a9 (@aa _ _ _ _ _ ae (@aa _ _ _ _ _ (@dy _ _ _ _ _ (@aa _ _ _ _ _ a9 (@aa _ _ _ _ _ ae (@aa _ _ _ _ _ ae ad (by rfl)) (by rfl)) (by rfl))) ad (by rfl)) (by rfl)) (by rfl))) (aL _)) (@fP _ _ _ _ _ (@bZ _ _ _ _ _ _ _ _ eG (@ai _ _ _ _ _ _ _ _ _ _ _ C_number_of_way hr (by omega) rfl (@aa _ _ _ _ _ (@dy _ _ _ _ _ (@aa _ _ _ _ _ a9 (@aa _ _ _ _ _ (@dy _ _ _ _ _ (@aa _ _ _ _ _ a9 (@aa _ _ _ _ _ ae (@aa _ _ _ _ _ ae ad (by rfl)) (by rfl)) (by rfl))) (@aa _ _ _ _ _ ae ad (by rfl)) (by rfl)) (by rfl))) (@aa _ _ _ _ _ a9 ad (by rfl)) (by rfl)) (by decide) (by rfl) (by rfl)) ae (aL _)))))))),?_⟩;have t3:(3:Nat)≤sizeLine:=by decide
  refine ⟨(by show 1≤sizeLine;decide),fun p1 n1=>?_⟩;have g1:=Same.new n1 (.lst [.int 0]);refine ⟨_,rfl,6,rfl,a,_,rfl,g1.seq hS,fun p2 n2=>?_⟩;obtain ⟨ms,em,hm⟩:=lX ns none (some 6);rw [em];have g2:=Same.new n2 (.lst (ms.map V.int));refine ⟨p1,p2,_,_,rfl,rfl,g2 _ _ ag,ag,b9 (by rw [aad];show 1+ms.length≤1000;omega),fun p3 n3=>?_⟩;have e3:upd (upd (upd H p1 (.lst [.int 0])) p2 (.lst (ms.map V.int))) p3 (.lst ([.int 0]++ms.map V.int)) p3=_:=ag;have el:[V.int 0]++ms.map V.int=(0 :: ms).map V.int:=rfl;rw [el] at e3 ⊢;revert e3;generalize upd (upd (upd H p1 (.lst [.int 0])) p2 (.lst (ms.map V.int))) p3 (.lst ((0 :: ms).map V.int))=H3;intro e3;refine ⟨p3,rfl,⟨_,SqL.of e3⟩,je (xs:=(0 :: ms).map V.int) (fun i σ H'=>∃ c1 c2 c3 c4 c5,σ=[some (.ref a),c1,c2,c3,c4,c5]∧Same H3 H') ⟨_,_,_,_,_,rfl,Same.refl _⟩ ?_ ?_ ?_⟩
  · rintro i σ H' _ ⟨_,_,_,_,_,rfl,S⟩;exact SqL.of (S _ _ e3)
  · rintro i x pp σ H' hx ⟨c1,c2,c3,c4,c5,rfl,S⟩ npp;rw [aaF] at hx;obtain ⟨c,_,rfl⟩:=aaT.mp hx;have s4:=Same.new npp (.tup [.int (i:Nat),.int c]);refine ⟨pp,_,rfl,SqT.of ag,rfl,_,_,rfl,_,_,rfl,rfl,?_⟩;generalize upd H' pp (.tup [.int (i:Nat),.int c])=H4 at s4 ⊢;refine ⟨_,rfl,c,rfl,fun wl ca cb H5 g5 nw ew=>?_⟩;have S5:=S.trans (s4.trans g5);have nwl:H3 wl=none:=(S.trans s4).free nw;have w5:Wel H5 wl 0:=⟨ca,cb,0,ew,by omega,by omega⟩
    refine ⟨_,rfl,wl,_,rfl,w5,by omega,fun gs H6 gl1 gl3 sp k6 w6=>?_⟩;refine ⟨_,rfl,wl,4,_,rfl,by decide,by decide,w6,by omega,fun r1 H7 a1 b1 k7 w7=>⟨_,_,rfl,rfl,?_⟩⟩;refine ⟨fun σ H'=>∃ m:Int,σ=[some (.ref a),some (.int (i:Nat)),some (.int c),some (.ref wl),some (.str (ak gs)),some (.int m)]∧1≤m∧m≤5∧But wl H7 H'∧Wel H' wl 3,?_,?_⟩
    · refine ⟨_,rfl,rfl,_,rfl,lG (fun z=>?_) (fun z=>?_)⟩
      · refine ⟨_,rfl,wl,4,_,rfl,by decide,by decide,w7,by omega,fun r2 H8 a2 b2 k8 w8=>⟨rfl,_,rfl,lG (fun z=>?_) (fun z=>?_)⟩⟩
        · exact ⟨_,rfl,by omega,by omega,k8,w8.more (by omega)⟩
        · exact ⟨_,rfl,by omega,by omega,k8,w8.more (by omega)⟩
      · exact ⟨_,rfl,by omega,by omega,But.refl,w7.more (by omega)⟩
    · rintro σ H8 ⟨m,rfl,m1,m5,k8,w8⟩;refine ⟨_,rfl,_,rfl,_,rfl,wl,m,_,rfl,by omega,by omega,w8,by omega,fun pr rs H9 k9 w9 nr er hlen hsm=>?_⟩;have nrw:pr≠wl:=w8.ne nr;refine ⟨_,rfl,wl,pr,rs,gs,_,rfl,er,nrw,by omega,by omega,gl1,gl3,sp,hsm,w9,by omega,fun HA kA wA=>⟨true,rfl,a_ ?_⟩⟩;refine ⟨_,rfl,_,rfl,wl,gs,_,rfl,gl1,gl3,sp,wA,by omega,fun HB kB wB=>⟨true,rfl,a_ ?_⟩⟩;exact ⟨_,_,_,_,_,rfl,But.same S5 nwl (((((k6.trans k7).trans k8).trans k9).trans kA).trans kB)⟩
  · rintro σ H4 ⟨c1,c2,c3,c4,c5,rfl,S4⟩;refine ⟨t3,fun pl npl=>?_⟩;have e4:upd H4 pl (.lst [.str "+",.str "-*",.str "+-*"]) pl=some (.lst ([[Sg.plus],[.minus,.times],[.plus,.minus,.times]].map fun gs=>V.str (ak gs))):=by
      rw [ag];have x1:("+":Str)=ak [.plus]:=by decide +kernel
      have x2:("-*":Str)=ak [.minus,.times]:=by decide +kernel
      have x3:("+-*":Str)=ak [.plus,.minus,.times]:=by decide +kernel
      simp only [abQ,List.map_nil,← x1,← x2,← x3]
    generalize upd H4 pl (.lst [.str "+",.str "-*",.str "+-*"])=H5 at e4 ⊢;refine ⟨pl,rfl,⟨_,SqL.of e4⟩,gb (xs:=[[Sg.plus],[.minus,.times],[.plus,.minus,.times]].map fun gs=>V.str (ak gs)) (fun i σ H'=>∃ c1 c2 c3 c4 c5,σ=[some (.ref a),c1,c2,c3,c4,c5]∧Same H5 H') ⟨_,_,_,_,_,rfl,Same.refl _⟩ ?_ ?_ ?_⟩
    · rintro i σ H' _ ⟨_,_,_,_,_,rfl,S⟩;exact SqL.of (S _ _ e4)
    · rintro i x σ H' hx ⟨c1,c2,c3,c4,c5,rfl,S⟩;rw [aaF] at hx;obtain ⟨gs,hgs,rfl⟩:=aaT.mp hx;have hg:1≤gs.length∧gs.length≤3∧bb gs:=by
        have:=aam hgs;simp only [List.mem_cons,List.not_mem_nil,or_false] at this;rcases this with rfl|rfl|rfl
        · exact ⟨by decide,by decide,by unfold bb;decide +kernel⟩
        · exact ⟨by decide,by decide,by unfold bb;decide +kernel⟩
        · exact ⟨by decide,by decide,by unfold bb;decide +kernel⟩
      obtain ⟨g1,g3,sp⟩:=hg;have zl:(ak gs).length=gs.length:=bI gs;refine ⟨1,10,rfl,⟨by decide,by decide,by decide,by decide⟩,?_⟩;refine fX (n:=9) (fun j ys H''=>Same H' H''∧ys=[]) ⟨Same.refl _,rfl⟩ ?_ ?_ ?_
      · rintro j ys H'' hj ⟨_,rfl⟩;exact aJ (aaB _)
      · rintro j ys H'' hj ⟨S1,rfl⟩ nx;have ej:(1:Int)+(j:Int)=((1+j:Nat):Int):=by omega
        rw [ej];refine ⟨_,rfl,_,rfl,gs,1+j,rfl,g3,sp,by omega,by omega,fun H6 s6=>?_⟩;refine ⟨_,rfl,_,rfl,1+j,ak gs,rfl,by omega,by omega,by omega,?_⟩;rw [zl];exact ⟨rfl,false,congrArg V.bl (fA _),a_ (nx ⟨S1.trans s6,rfl⟩)⟩
      rintro ys H'' ⟨S1,rfl⟩ p13 n13;have g13:=Same.new n13 (.lst []);refine ⟨aaB _,fun p14 n14=>?_⟩;have g14:=Same.new n14 (.lst []);refine neE (SqL.of (g14 _ _ ag)) (SqL.of ag) ⟨false,rfl,a_ ?_⟩;exact ⟨_,_,_,_,_,rfl,((S.trans S1).trans g13).trans g14⟩
    · rintro σ H6 ⟨c1,c2,c3,c4,c5,rfl,S6⟩;have es:("+-":Str)=ak [.plus,.minus]:=by decide +kernel
      have sp:bb [.plus,.minus]:=by unfold bb;decide +kernel
      rw [es];refine ⟨t3,fun a0 m0=>?_⟩;have s0:=Same.new m0 (.lst [.int 1,.int 2,.int 3]);refine ⟨a0,.node .plus (.num 1) (.node .minus (.num 2) (.num 3)),[.plus,.minus],by rw [show (Wy.node .plus (.num 1) (.node .minus (.num 2) (.num 3))).nr [.plus,.minus]=1 by decide +kernel];rfl,ag,by decide,by decide,sp,⟨by decide,trivial,by decide,trivial,trivial⟩,fun v H7 s7 hv=>?_⟩;refine ⟨t3,fun t1 m1=>⟨t3,fun t2 m2=>?_⟩⟩;have k1:=Same.new m1 (.tup [.str "-",.int 2,.int 3]);have k2:=Same.new m2 (.tup [.str "+",.int 1,.ref t1]);have hw:WyIn (upd (upd H7 t1 (.tup [.str "-",.int 2,.int 3])) t2 (.tup [.str "+",.int 1,.ref t1])) (.node .plus (.num 1) (.node .minus (.num 2) (.num 3))) (.ref t2):=⟨t2,_,_,rfl,ag,rfl,⟨t1,_,_,rfl,k2 _ _ ag,rfl,rfl⟩⟩
      refine ⟨_,_,(hv.mono (Tups.of (k1.trans k2))).dat,hw.dat,by decide +kernel,by decide +kernel,by decide +kernel,true,rfl,cD ?_⟩;refine ⟨t3,fun t3' m3=>⟨t3,fun t4 m4=>?_⟩⟩;have k3:=Same.new m3 (.tup [.str "+",.int 1,.int 2]);have k4:=Same.new m4 (.tup [.str "-",.ref t3',.int 3]);refine ⟨.node .minus (.node .plus (.num 1) (.num 2)) (.num 3),_,[.plus,.minus],rfl,⟨t4,_,_,rfl,ag,⟨t3',_,_,rfl,k4 _ _ ag,rfl,rfl⟩,rfl⟩,by decide,by decide,sp,⟨by decide,⟨by decide,trivial,trivial⟩,trivial⟩,fun H8 s8=>?_⟩;rw [show (Wy.node .minus (.node .plus (.num 1) (.num 2)) (.num 3)).nr [.plus,.minus]=6 by decide +kernel];exact ⟨rfl,q _⟩
end
open PySem L2
theorem all_mk {l:PySem.W.OpenLaw} {w:World} {K:aaa} {h:Heap} {mg:Str→Option Value} {fa:Addr} (X:K.In h) (G:h.Ns mainGlobals mg) (hfa:mg "law" = some (.ref fa))
    {tM tS1 tS2 tS3:Tok} {cS:Addr} {odS:Option Addr} {nS:Nat} {slS:Array (Option Value)}
    {tM3 tP1 tP2 tP3 tP4 tP5 tP6 tP7:Tok} {cP:Addr} {odP:Option Addr} {nP:Nat} {slP:Array (Option Value)}
{f0:Addr}
{f1:Addr}
{f2:Addr}
{f3:Addr}
{f4:Addr}
{f5:Addr}
{f6:Addr}
{f7:Addr}
{f8:Addr}
{f9:Addr}
{f10:Addr}
{f11:Addr}
{f12:Addr}
{f13:Addr}
{f14:Addr}
{f15:Addr}
{f16:Addr}
{f17:Addr}
{f18:Addr}
{f19:Addr}
{f20:Addr}
{f21:Addr}
{f22:Addr}
{f23:Addr}
{f24:Addr}
{f25:Addr}
{f26:Addr}
{f27:Addr}
{f28:Addr}
{f29:Addr}
{f30:Addr}
{f31:Addr}
{f32:Addr}
{od33 an33:Option Addr} {sl33:Array (Option Value)} {oc33 kV33 dc33 pm33 cd33 ct33:Value} {f33:Addr}
    (q0:Fq K "is_whole" dX f0)
    (q1:Fq K "is_row" fN f1)
    (q2:Fq K "is_signs" dY f2)
    (q3:Fq K "is_many" eV f3)
    (q4:Fq K "is_sign" eT f4)
    (q5:Fq K "is_way" fM f5)
    (q6:Fq K "need_row" dU f6)
    (q7:Fq K "need_signs" cX f7)
    (q8:Fq K "need_way" dS f8)
    (q9:Fq K "need_many" dq f9)
    (q10:Fq K "list_numbers" cw f10)
    (q11:Fq K "join_signs" cY f11)
    (q12:Fq K "how_many_ways" bS f12)
    (q13:Fq K "nth_way" eS f13)
    (q14:Fq K "number_of_way" bR f14)
    (q15:Fq K "has_signs_among" bz f15)
    (q16:Fq K "counts_up_to" cx f16)
    (q17:Fq K "ways_by_cut" cM f17)
    (q18:Fq K "way_at" fL f18)
    (q19:Fq K "number_at" dn f19)
    (q20:Fq K "_law_mixed" c6 f20)
    (q21:Fq K "_law_well" dt f21)
    (q22:Fq K "_law_draw" dv f22)
    (q23:Fq K "_law_number" cN f23)
    (q24:Fq K "_law_row" d4 f24)
    (q25:Fq K "_law_signs" cZ f25)
    (q26:Fq K "_law_way" dZ f26)
    (q27:Fq K "_law_many" du f27)
    (q28:Fq K "_law_key" d5 f28)
    (q29:Fq K "_law_all" d6 f29)
    (q30:Fq K "_law_ways_of" cy f30)
    (q31:Fq K "_law_small_right" bv f31)
    (q32:Fq K "_law_long_right" bA f32)
    (a33:aav K mainGlobals "law" = some (some (.ref f33))) (l33:K.lookup f33=some ⟨oc33,od33,.func (abf "law" "law" (bL eD) (bC eD) (ap eD) .none kV33 dc33 pm33 an33 cd33 ct33),sl33⟩) (c33:abz K cd33 "law" = true) (k33:abe K (.ref f33)=true)
    (cI:aav K mainGlobals "len" = some none)
    (cH : aav K mainGlobals "isinstance" = some none)
    (cG:aav K mainGlobals "int" = some none)
    (cC:aav K mainGlobals "bool" = some none)
    (cV:aav K mainGlobals "str" = some none)
    (c1:aav K mainGlobals "tuple" = some none)
    (cJ:aav K mainGlobals "list" = some none)
    (cU:aav K mainGlobals "sorted" = some none)
    (cO:aav K mainGlobals "range" = some none)
    (cQ:aav K mainGlobals "repr" = some none)
    (cF:aav K mainGlobals "enumerate" = some none)
    (c0:aav K mainGlobals "sum" = some none)
    (cA:aav K mainGlobals "all" = some none)
    (cL:aav K mainGlobals "min" = some none)
    (cK:aav K mainGlobals "max" = some none)
    (cz:aav K mainGlobals "abs" = some none)
    (cE:aav K mainGlobals "divmod" = some none)
    (cD:aav K mainGlobals "dict" = some none)
    (cT:aav K mainGlobals "set" = some none)
    (cR:aav K mainGlobals "reversed" = some none)
    (cB:aav K mainGlobals "any" = some none)
    (c2:aav K mainGlobals "zip" = some none)
    (gM:aav K mainGlobals "MOST_NUMBERS" = some (some (.int 9 tM)))
    (gS:aav K mainGlobals "SIGNS" = some (some (.ref cS)))
    (lS:K.lookup cS=some ⟨.type "tuple",odS,.seq #[.str "+" tS1,.str "-" tS2,.str "*" tS3] nS,slS⟩)
    (gM3:aav K mainGlobals "MOST_NUMBERS" = some (some (.int 9 tM3)))
    (gP:aav K mainGlobals "SIGNS_TO_PUT" = some (some (.ref cP)))
    (lP:K.lookup cP=some ⟨.type "tuple",odP,.seq #[.str "+" tP1,.str "-" tP2,.str "*" tP3,.str "+-" tP4,.str "+*" tP5,.str "-*" tP6,.str "+-*" tP7] nP,slP⟩) :
    ∃ fd:FuncData,(∀ (s:Shared) (v:Value),BindsTo s fd ⟨[v],[]⟩ [("script",v)])∧∀ base:Heap,K.In base→base.Ns mainGlobals mg→FnOk l.prog w K mg base CX0 34 fa fd ["script"] (jV K):=by
  have e:=hfa.symm.trans (abU X G a33);cases e;obtain ⟨_,a5,bI,ck⟩:=q0.use X G (ps:=["thing"]) fun _ _ _ _ _ _ us hl=>match us,hl with|[_],_=>rfl
  obtain ⟨_,a1,bE,cg⟩:=q1.use X G (ps:=["thing"]) fun _ _ _ _ _ _ us hl=>match us,hl with|[_],_=>rfl
  obtain ⟨_,a3,bG,ci⟩:=q2.use X G (ps:=["thing"]) fun _ _ _ _ _ _ us hl=>match us,hl with|[_],_=>rfl
  obtain ⟨_,a0,bD,cf⟩:=q3.use X G (ps:=["thing"]) fun _ _ _ _ _ _ us hl=>match us,hl with|[_],_=>rfl
  obtain ⟨_,a2,bF,ch⟩:=q4.use X G (ps:=["thing"]) fun _ _ _ _ _ _ us hl=>match us,hl with|[_],_=>rfl
  obtain ⟨_,a4,bH,cj⟩:=q5.use X G (ps:=["thing"]) fun _ _ _ _ _ _ us hl=>match us,hl with|[_],_=>rfl
  obtain ⟨_,ba,bO,co⟩:=q6.use X G (ps:=["thing"]) fun _ _ _ _ _ _ us hl=>match us,hl with|[_],_=>rfl
  obtain ⟨_,bb,bP,cp⟩:=q7.use X G (ps:=["thing"]) fun _ _ _ _ _ _ us hl=>match us,hl with|[_],_=>rfl
  obtain ⟨_,bc,bQ,cq⟩:=q8.use X G (ps:=["thing"]) fun _ _ _ _ _ _ us hl=>match us,hl with|[_],_=>rfl
  obtain ⟨_,a9,bM,cn⟩:=q9.use X G (ps:=["thing"]) fun _ _ _ _ _ _ us hl=>match us,hl with|[_],_=>rfl
  obtain ⟨_,a8,bK,cm⟩:=q10.use X G (ps:=["way"]) fun _ _ _ _ _ _ us hl=>match us,hl with|[_],_=>rfl
  obtain ⟨_,a6,bJ,cl⟩:=q11.use X G (ps:=["way"]) fun _ _ _ _ _ _ us hl=>match us,hl with|[_],_=>rfl
  obtain ⟨_,aZ,bB,ce⟩:=q12.use X G (ps:=["signs","many"]) fun _ _ _ _ _ _ us hl=>match us,hl with|[_,_],_=>rfl
  obtain ⟨_,bd,bT,cr⟩:=q13.use X G (ps:=["row","signs","number"]) fun _ _ _ _ _ _ us hl=>match us,hl with|[_,_,_],_=>rfl
  obtain ⟨_,bf,bV,ct⟩:=q14.use X G (ps:=["way","signs"]) fun _ _ _ _ _ _ us hl=>match us,hl with|[_,_],_=>rfl
  obtain ⟨_,aY,bx,cd⟩:=q15.use X G (ps:=["way","signs"]) fun _ _ _ _ _ _ us hl=>match us,hl with|[_,_],_=>rfl
  obtain ⟨_,aX,bw,cc⟩:=q16.use X G (ps:=["signs","many"]) fun _ _ _ _ _ _ us hl=>match us,hl with|[_,_],_=>rfl
  obtain ⟨_,bh,bY,cv⟩:=q17.use X G (ps:=["signs","counts","left","right"]) fun _ _ _ _ _ _ us hl=>match us,hl with|[_,_,_,_],_=>rfl
  obtain ⟨_,bg,bX,cu⟩:=q18.use X G (ps:=["row","signs","counts","number"]) fun _ _ _ _ _ _ us hl=>match us,hl with|[_,_,_,_],_=>rfl
  obtain ⟨_,be,bU,cs⟩:=q19.use X G (ps:=["way","signs","counts"]) fun _ _ _ _ _ _ us hl=>match us,hl with|[_,_,_],_=>rfl
  obtain ⟨_,aP,bn,b4⟩:=q20.use X G (ps:=["cell","k"]) fun _ _ _ _ _ _ us hl=>match us,hl with|[_,_],_=>rfl
  obtain ⟨_,aW,bu,cb⟩:=q21.use X G (ps:=["cell"]) fun _ _ _ _ _ _ us hl=>match us,hl with|[_],_=>rfl
  obtain ⟨_,aL,bj,b0⟩:=q22.use X G (ps:=["well","many"]) fun _ _ _ _ _ _ us hl=>match us,hl with|[_,_],_=>rfl
  obtain ⟨_,aQ,bo,b5⟩:=q23.use X G (ps:=["well"]) fun _ _ _ _ _ _ us hl=>match us,hl with|[_],_=>rfl
  obtain ⟨_,aR,bp,b6⟩:=q24.use X G (ps:=["well","many"]) fun _ _ _ _ _ _ us hl=>match us,hl with|[_,_],_=>rfl
  obtain ⟨_,aS,bq,b7⟩:=q25.use X G (ps:=["well"]) fun _ _ _ _ _ _ us hl=>match us,hl with|[_],_=>rfl
  obtain ⟨_,aU,bs,b9⟩:=q26.use X G (ps:=["well","row","signs"]) fun _ _ _ _ _ _ us hl=>match us,hl with|[_,_,_],_=>rfl
  obtain ⟨_,aO,bm,b3⟩:=q27.use X G (ps:=["way"]) fun _ _ _ _ _ _ us hl=>match us,hl with|[_],_=>rfl
  obtain ⟨_,aM,bk,b1⟩:=q28.use X G (ps:=["way"]) fun _ _ _ _ _ _ us hl=>match us,hl with|[_],_=>rfl
  obtain ⟨_,aK,bi,bZ⟩:=q29.use X G (ps:=["row","signs"]) fun _ _ _ _ _ _ us hl=>match us,hl with|[_,_],_=>rfl
  obtain ⟨_,aV,bt,ca⟩:=q30.use X G (ps:=["many","signs"]) fun _ _ _ _ _ _ us hl=>match us,hl with|[_,_],_=>rfl
  obtain ⟨_,aT,br,b8⟩:=q31.use X G (ps:=["well","row","signs"]) fun _ _ _ _ _ _ us hl=>match us,hl with|[_,_,_],_=>rfl
  obtain ⟨_,aN,bl,b2⟩:=q32.use X G (ps:=["well","signs"]) fun _ _ _ _ _ _ us hl=>match us,hl with|[_,_],_=>rfl
  have a7:=lN (st:=eD) l33 c33 k33;have B:Bu K mg:=⟨aaq X G cI,aaq X G cH,aaq X G cG,aaq X G cC,aaq X G cV,aaq X G c1,aaq X G cJ,aaq X G cU,aaq X G cO,aaq X G cQ,aaq X G cF,aaq X G c0,aaq X G cA,aaq X G cL,aaq X G cK,aaq X G cz,aaq X G cE,aaq X G cD,aaq X G cT,aaq X G cR,aaq X G cB,aaq X G c2⟩
  have B':Co K mg tM cS:=⟨abU X G gM,abU X G gS,fun H=>.inr ⟨_,_,_,lS,rfl,rfl,by show 3≤sizeLine;decide,.cons ⟨_,rfl⟩ (.cons ⟨_,rfl⟩ (.cons ⟨_,rfl⟩ .nil))⟩⟩
  have B3:Cp K mg tM3 cP:=⟨abU X G gM3,abU X G gP,fun H=>.inr ⟨_,_,_,lP,rfl,rfl,by show 7≤sizeLine;decide,.cons ⟨_,rfl⟩ (.cons ⟨_,rfl⟩ (.cons ⟨_,rfl⟩ (.cons ⟨_,rfl⟩ (.cons ⟨_,rfl⟩ (.cons ⟨_,rfl⟩ (.cons ⟨_,rfl⟩ .nil))))))⟩⟩
  refine ⟨abf "law" "law" (bL eD) (bC eD) (ap eD) .none kV33 dc33 pm33 an33 cd33 ct33,fun s v=>.of_eq rfl,fun base _ _=>?_⟩;have ay:Cal l.prog w K mg base "is_whole" 1 ["thing"] (bW K):=⟨_,_,i_ a5 B,bI,a5.kp,ck⟩
  have av:Cal l.prog w K mg base "is_sign" 1 ["thing"] jt:=⟨_,_,jF a2 B B',bF,a2.kp,ch⟩
  have ax:Cal l.prog w K mg base "is_way" 2 ["thing"] gZ:=⟨_,_,kH a4 B B' ay av,bH,a4.kp,cj⟩
  have aE:Cal l.prog w K mg base "need_way" 3 ["thing"] eK:=⟨_,_,i6 bc ax,bQ,bc.kp,cq⟩
  have aA:Cal l.prog w K mg base "list_numbers" 21 ["way"] (fE 20):=⟨_,_,fu a8 bK cm ay 20,bK,a8.kp,cm⟩
  have az:Cal l.prog w K mg base "join_signs" 21 ["way"] (jS 20):=⟨_,_,gq a6 bJ cl ay 20,bJ,a6.kp,cl⟩
  have af:Cal l.prog w K mg base "_law_mixed" 1 ["cell","k"] gX:=⟨_,_,lq aP,bn,aP.kp,b4⟩
  have am:Cal l.prog w K mg base "_law_well" 1 ["cell"] js:=⟨_,_,mG aW B,bu,aW.kp,cb⟩
  have ab:Cal l.prog w K mg base "_law_draw" 2 ["well","many"] cW:=⟨_,_,mH aL af,bj,aL.kp,b0⟩
  have ag:Cal l.prog w K mg base "_law_number" 3 ["well"] fF:=⟨_,_,kG aQ ab,bo,aQ.kp,b5⟩
  have ah:Cal l.prog w K mg base "_law_row" 4 ["well","many"] jT:=⟨_,_,nA aR B ab ag,bp,aR.kp,b6⟩
  have ai:Cal l.prog w K mg base "_law_signs" 3 ["well"] dO:=⟨_,_,ii aS ab,bq,aS.kp,b7⟩
  have ak:Cal l.prog w K mg base "_law_way" 11 ["well","row","signs"] (jR 9):=⟨_,_,nz aU bs b9 B ab 9,bs,aU.kp,b9⟩
  have au:Cal l.prog w K mg base "is_row" 2 ["thing"] g0:=⟨_,_,kI a1 B B3 ay,bE,a1.kp,cg⟩
  have aC:Cal l.prog w K mg base "need_row" 3 ["thing"] eM:=⟨_,_,i7 ba au,bO,ba.kp,co⟩
  have ar:Cal l.prog w K mg base "is_many" 2 ["thing"] fG:=⟨_,_,jG a0 B B3 ay,bD,a0.kp,cf⟩
  have aw:Cal l.prog w K mg base "is_signs" 1 ["thing"] eO:=⟨_,_,ja a3 B B3,bG,a3.kp,ci⟩
  have aD:Cal l.prog w K mg base "need_signs" 2 ["thing"] bN:=⟨_,_,gp bb aw,bP,bb.kp,cp⟩
  have aB:Cal l.prog w K mg base "need_many" 3 ["thing"] dN:=⟨_,_,ie a9 ar,bM,a9.kp,cn⟩
  have aJ:Cal l.prog w K mg base "ways_by_cut" 1 ["signs","counts","left","right"] iF:=⟨_,_,fT bh B,bY,bh.kp,cv⟩
  have an:Cal l.prog w K mg base "counts_up_to" 2 ["signs","many"] iK:=⟨_,_,fv aX B aJ,bw,aX.kp,cc⟩
  have aI:Cal l.prog w K mg base "way_at" 11 ["row","signs","counts","number"] (gU 9):=⟨_,_,kF bg bX cu B aJ 9,bX,bg.kp,cu⟩
  have ao:Cal l.prog w K mg base "has_signs_among" 22 ["way","signs"] lf:=⟨_,_,ij aY B az,bx,aY.kp,cd⟩
  have aG:Cal l.prog w K mg base "number_at" 31 ["way","signs","counts"] (jU 9):=⟨_,_,ic be bU cs B ay aA aJ 9,bU,be.kp,cs⟩
  have aH:Cal l.prog w K mg base "number_of_way" 32 ["way","signs"] iH:=⟨_,_,e9 bf B aE aD ao aA an aG,bV,bf.kp,ct⟩
  have aF:Cal l.prog w K mg base "nth_way" 12 ["row","signs","number"] iG:=⟨_,_,jC bd B aC aD an ay aI,bT,bd.kp,cr⟩
  have aq:Cal l.prog w K mg base "how_many_ways" 4 ["signs","many"] iJ:=⟨_,_,e_ aZ aD aB an,bB,aZ.kp,ce⟩
  have ae:Cal l.prog w K mg base "_law_many" 10 ["way"] (gY 9):=⟨_,_,i9 aO bm b3 B 9,bm,aO.kp,b3⟩
  have ac:Cal l.prog w K mg base "_law_key" 20 ["way"] (iI 9):=⟨_,_,jD aM bk b1 B ae 9,bk,aM.kp,b1⟩
  have aa:Cal l.prog w K mg base "_law_all" 6 ["row","signs"] (jW 5):=⟨_,_,jE aK bi bZ B 5,bi,aK.kp,bZ⟩
  have al:Cal l.prog w K mg base "_law_ways_of" 1 ["many","signs"] mj:=⟨_,_,fU aV B,bt,aV.kp,ca⟩
  have aj:Cal l.prog w K mg base "_law_small_right" 33 ["well","row","signs"] gW:=⟨_,_,d9 aT B aa ac aq al ab aF aH,br,aT.kp,b8⟩
  have ad:Cal l.prog w K mg base "_law_long_right" 33 ["well","signs"] ju:=⟨_,_,eH aN B ab ah aq ak aF aH ac,bl,aN.kp,b2⟩
  exact nB a7 B am ab ah ai aj ad aq al aF aH
theorem walk {l:PySem.W.OpenLaw} {q:Program} {loose:List Str} {XP:(Str→Option Value)→Heap→Prop} {YP:World→Heap→Prop} {d:DefRec} {K:Params→aaa} (hn:l.most=some 63) (hdf:d.params.defaults=[]) (hi:PyProof.Rows.importsNone q=true)
    (hY:∀ (w:World) (h:Heap),YP w h→(K w.params).In h)
    (F:∀ (w:World) (mg:Str→Option Value) (fa:Addr) (h:Heap),(K w.params).In h→h.Ns mainGlobals mg→mg d.name=some (.ref fa) →
      ∃ fd:FuncData,(∀ (s:Shared) (u:Value),BindsTo s fd ⟨[u],[]⟩ [("script",u)])∧∀ base:Heap,(K w.params).In base→base.Ns mainGlobals mg→FnOk l.prog w (K w.params) mg base CX0 34 fa fd ["script"] (jV (K w.params))) :
    PySem.W.WalkO q loose XP YP l.row.toRowW d [] (fun f vs=>PySem.call f vs) :=
  L2.walk_of (n:=63) (k:=34) (x:="script") (CX:=fun _=>CX0) (sp:=fun w=>jV (K w.params)) hn (by decide) hdf ⟨rfl,by decide,by decide,rfl⟩ hi hY F (fun _ _ a ns hl _ hS=>⟨a,ns,rfl,hS,hl,fun _=>rfl⟩) fun _ _ _ _ _ z=>z
end Put
namespace PySem.W.Fast
def tw12666822574818695391:=0
def tw13520976268804371537:=0
def tw14020179588497756089:=0
def tw2328168496598436268:=0
def tw7863378177285095690:=0
def tw5510045848563127808:=0
def tw15201404605469585053:=0
def tw8289175171166694840:=0
def tw6121540410859363583:=0
def tw8982542296927563324:=0
def tw12835443033047575241:=0
def tw10157893953984670775:=0
def tw7601921783989266882:=0
def tw16410952878066585400:=0
def tw10793244043479881615:=0
def tw11420062243715881874:=0
def tw5794624642214586284:=0
def tw12469731502100092809:=0
def tw16235295499453172165:=0
def tw14215178233440334398:=0
def tw11020885024146146474:=0
def tw9833229222784976798:=0
def tw12624745888738351227:=0
def tw11279276391245206990:=0
def tw3930904800609866865:=0
def tw8816559087965794425:=0
def tw13842084702294294501:=0
def tw17872432085917832814:=0
def tw556834688596061411:=0
def tw17523947444834862860:=0
def tw2369599616662721124:=0
def tw8578718111118607618:=0
def tw9222100280385846531:=0
def tw16000760657054342204:=0
def tw1744122191416805212:=0
def tw8740010388626152549:=0
def tw9390316808963080045:=0
def tw5107961104626434855:=0
def tw17991194341115748199:=0
def tw17825180907974114238:=0
def tw16744203143980198781:=0
def tw6155523604106224697:=0
def tw7979322970299205148:=0
def tw3488283736209628604:=0
def tw7644918984427167118:=0
def tw6933902947960471330:=0
def tw16563512860235310376:=0
def tw9521305337526269125:=0
def tw3552719248504064159:=0
def tw15041269632987662512:=0
def tw10025019346465813652:=0
def tw13160688062339144010:=0
def tw1827525907047050658:=0
def tw16323360674108161933:=0
def tw14254093798128708975:=0
def tw15111233021916461315:=0
def tw6098267451405542109:=0
def tw1362245907669091368:=0
def tw1815530568784895522:=0
def tw11878102476396599836:=0
def tw6496411178241105130:=0
def tw4775872148131249084:=0
def tw16190052327508494721:=0
def tw219856390458070477:=0
def tw5159342217109166475:=0
def tw17633045294676308070:=0
def tw15547755376271245300:=0
def tw16092422647393714146:=0
def tw10807264616963203975:=0
def tw12152389375447294115:=0
def tw564317928310988129:=0
def tw656084600963677254:=0
def tw8814221966652423090:=0
def tw6757433643090789145:=0
def tw5109129310436357679:=0
def tw8279436341050575684:=0
def tw10600749838021171182:=0
def tw4720294077016940129:=0
def tw7083821284318795636:=0
def tw13307025193240932402:=0
def tw7638233480960084674:=0
def tw8465045634999088929:=0
def tw15304225666595303148:=0
def tw2057963833797400580:=0
def tw6115601365605684068:=0
def tw1293589150762085926:=0
def tw11510315408405829160:=0
def tw13013897442571103639:=0
def tw10596091482478161098:=0
def tw9464589682379209153:=0
def tw1171424604251182272:=0
def tw15710579417509133809:=0
def tw4084069029155205178:=0
def tw15970365607702470144:=0
def tw10989596363592948052:=0
def tw18068924899526958717:=0
def tw4435507878036629505:=0
def tw9233059085306896783:=0
def tw17055393902021361645:=0
def tw6555383532118476009:=0
def tw16450444483680868711:=0
def tw4712559877546209789:=0
def tw18312595388908672213:=0
def tw4872018810482245986:=0
def tw6970499274381559189:=0
def tw12690896121919038626:=0
def tw1869715544189338945:=0
def tw17980371600327468962:=0
def tw8164959401945152327:=0
def tw1178350117035579712:=0
def tw1401814503958341468:=0
def tw834497995682810576:=0
def tw10039301623001060245:=0
def tw16388859071883949068:=0
def tw11298392129794572060:=0
def tw5865648062539041825:=0
def tw7922401888217441618:=0
def tw2703552857280790712:=0
def tw10317845876710736628:=0
def tw3082456436276929896:=0
def tw2332349447251189317:=0
def tw12790727153958317597:=0
def tw16009157572571282881:=0
def tw5874883712539356603:=0
def tw16303998755306266408:=0
def tw4333514186523593293:=0
def tw10854805984755100149:=0
def tw1888712954191859403:=0
def tw6476834124642765517:=0
def tw7704613213916845142:=0
def tw3195721659647341483:=0
def tw8203809990106703433:=0
def tw2750209843422887184:=0
def tw15998587532503326632:=0
def tw8728067648134995099:=0
def tw14640605890175093524:=0
def tw970222796625024328:=0
def tw11924822156898230618:=0
def tw11139102477071668941:=0
def tw9489754775602382366:=0
def tw2610104673936748279:=0
def tw12741073361420727089:=0
def tw7485488195849319497:=0
def tw16525150142009143375:=0
def tw9392027315402655862:=0
def tw12464338990592254554:=0
def tw1654131520757394495:=0
def tw11614857670226753899:=0
def tw8851991015255190456:=0
def tw4838610656291184596:=0
def tw5536213143778202847:=0
def tw6461393627960842269:=0
def tw2949470386991264373:=0
def tw4440596080397927852:=0
def tw8747279251508991463:=0
def tw6395803290001841570:=0
def tw4173876886108135493:=0
def tw16332638795098930910:=0
def tw715383261949488718:=0
def tw15117802103410615208:=0
def tw326187188248802948:=0
def tw1017417808357179054:=0
def tw4301587313963648095:=0
def tw8549607563464544942:=0
def tw14878522335440618415:=0
def tw15557728389151048222:=0
def tw9554601336525698209:=0
def tw11483491023999592821:=0
def tw6502768415693388485:=0
def tw7573481204525905749:=0
def tw13931594538132719938:=0
def tw8899308739846425386:=0
def tw11607938585322992057:=0
def tw18374389384315832868:=0
def tw2609092958603269200:=0
def tw13910617916534010241:=0
def tw12269300112838592563:=0
def tw14432625613598761619:=0
def tw11983430608068050490:=0
def tw17137693467930932348:=0
def tw17610489729886965668:=0
def tw16771248654958539113:=0
def tw14210307752411205503:=0
def tw14332261461575880310:=0
def tw2544040081567186321:=0
def tw13043741773427215531:=0
def tw11545605360337693265:=0
def tw8737884784725429851:=0
def tw13515655670394073622:=0
def tw6704315375783679935:=0
def tw8083911125639987209:=0
def tw528609774472631602:=0
def tw480464530455271271:=0
def tw13636346011180396357:=0
def tw17459271818791000338:=0
def tw5216084513115304871:=0
def tw12396635410423087678:=0
def tw11447301496871934202:=0
def tw17271455180104180701:=0
def tw1867208632597508013:=0
end PySem.W.Fast
open PySem PySem.W PyProof.Rows
set_option maxRecDepth 100000 in
set_option maxHeartbeats 0 in
theorem PySem.Challenge.cw_putsigns_k06_ways_in_order_holds : PySem.Challenge.rw_putsigns_k06_ways_in_order.Holds := by
  w_on;o_law;k_head;(case hw=>w_witness2)
  k_fill
  refine Put.walk (l:=PySem.Challenge.rw_putsigns_k06_ways_in_order) rfl rfl ?hi (fun w h Y=>PySem.W.kIn_of Y) ?F
  case hi=>first|rfl|decide +kernel
  case F =>
    intro w mg fa h KX G hmg;refine' Put.all_mk KX G hmg ?q0 ?q1 ?q2 ?q3 ?q4 ?q5 ?q6 ?q7 ?q8 ?q9 ?q10 ?q11 ?q12 ?q13 ?q14 ?q15 ?q16 ?q17 ?q18 ?q19 ?q20 ?q21 ?q22 ?q23 ?q24 ?q25 ?q26 ?q27 ?q28 ?q29 ?q30 ?q31 ?q32 ?a33 ?l33 ?c33 ?k33 ?z_len ?z_isinstance ?z_int ?z_bool ?z_str ?z_tuple ?z_list ?z_sorted ?z_range ?z_repr ?z_enumerate ?z_sum ?z_all ?z_min ?z_max ?z_abs ?z_divmod ?z_dict ?z_set ?z_reversed ?z_any ?z_zip ?gM ?gS ?lS ?gM3 ?gP ?lP
    (case q0=>exact L2.Fq.mk4 (by k_is) (by k_is) (by k_is) (by k_is))
    (case q1=>exact L2.Fq.mk4 (by k_is) (by k_is) (by k_is) (by k_is))
    (case q2=>exact L2.Fq.mk4 (by k_is) (by k_is) (by k_is) (by k_is))
    (case q3=>exact L2.Fq.mk4 (by k_is) (by k_is) (by k_is) (by k_is))
    (case q4=>exact L2.Fq.mk4 (by k_is) (by k_is) (by k_is) (by k_is))
    (case q5=>exact L2.Fq.mk4 (by k_is) (by k_is) (by k_is) (by k_is))
    (case q6=>exact L2.Fq.mk4 (by k_is) (by k_is) (by k_is) (by k_is))
    (case q7=>exact L2.Fq.mk4 (by k_is) (by k_is) (by k_is) (by k_is))
    (case q8=>exact L2.Fq.mk4 (by k_is) (by k_is) (by k_is) (by k_is))
    (case q9=>exact L2.Fq.mk4 (by k_is) (by k_is) (by k_is) (by k_is))
    (case q10=>exact L2.Fq.mk4 (by k_is) (by k_is) (by k_is) (by k_is))
    (case q11=>exact L2.Fq.mk4 (by k_is) (by k_is) (by k_is) (by k_is))
    (case q12=>exact L2.Fq.mk4 (by k_is) (by k_is) (by k_is) (by k_is))
    (case q13=>exact L2.Fq.mk4 (by k_is) (by k_is) (by k_is) (by k_is))
    (case q14=>exact L2.Fq.mk4 (by k_is) (by k_is) (by k_is) (by k_is))
    (case q15=>exact L2.Fq.mk4 (by k_is) (by k_is) (by k_is) (by k_is))
    (case q16=>exact L2.Fq.mk4 (by k_is) (by k_is) (by k_is) (by k_is))
    (case q17=>exact L2.Fq.mk4 (by k_is) (by k_is) (by k_is) (by k_is))
    (case q18=>exact L2.Fq.mk4 (by k_is) (by k_is) (by k_is) (by k_is))
    (case q19=>exact L2.Fq.mk4 (by k_is) (by k_is) (by k_is) (by k_is))
    (case q20=>exact L2.Fq.mk4 (by k_is) (by k_is) (by k_is) (by k_is))
    (case q21=>exact L2.Fq.mk4 (by k_is) (by k_is) (by k_is) (by k_is))
    (case q22=>exact L2.Fq.mk4 (by k_is) (by k_is) (by k_is) (by k_is))
    (case q23=>exact L2.Fq.mk4 (by k_is) (by k_is) (by k_is) (by k_is))
    (case q24=>exact L2.Fq.mk4 (by k_is) (by k_is) (by k_is) (by k_is))
    (case q25=>exact L2.Fq.mk4 (by k_is) (by k_is) (by k_is) (by k_is))
    (case q26=>exact L2.Fq.mk4 (by k_is) (by k_is) (by k_is) (by k_is))
    (case q27=>exact L2.Fq.mk4 (by k_is) (by k_is) (by k_is) (by k_is))
    (case q28=>exact L2.Fq.mk4 (by k_is) (by k_is) (by k_is) (by k_is))
    (case q29=>exact L2.Fq.mk4 (by k_is) (by k_is) (by k_is) (by k_is))
    (case q30=>exact L2.Fq.mk4 (by k_is) (by k_is) (by k_is) (by k_is))
    (case q31=>exact L2.Fq.mk4 (by k_is) (by k_is) (by k_is) (by k_is))
    (case q32=>exact L2.Fq.mk4 (by k_is) (by k_is) (by k_is) (by k_is))
    (case a33=>k_is)
    (case l33=>k_is)
    (case c33=>k_is)
    (case k33=>k_is)
    (case z_len=>k_is)
    (case z_isinstance=>k_is)
    (case z_int=>k_is)
    (case z_bool=>k_is)
    (case z_str=>k_is)
    (case z_tuple=>k_is)
    (case z_list=>k_is)
    (case z_sorted=>k_is)
    (case z_range=>k_is)
    (case z_repr=>k_is)
    (case z_enumerate=>k_is)
    (case z_sum=>k_is)
    (case z_all=>k_is)
    (case z_min=>k_is)
    (case z_max=>k_is)
    (case z_abs=>k_is)
    (case z_divmod=>k_is)
    (case z_dict=>k_is)
    (case z_set=>k_is)
    (case z_reversed=>k_is)
    (case z_any=>k_is)
    (case z_zip=>k_is)
    (case gM=>k_is)
    (case gS=>k_is)
    (case lS=>k_is)
    (case gM3=>k_is)
    (case gP=>k_is)
    (case lP=>k_is)

