import PyProof.Rows.All
import Wide.All
import OpenK.AllK
import Wide.FinOn
import Lean
import PyProof.EqAt
import PyProof.EqKinds
import PyProof.TupleCall
import PySem.Challenge.RW_putsigns_k32_first_ways_and_twins_of_lon
open PySem.W renaming Frag → aaa, mg_none_of → aau, nsIn → aay, kia_one → aa2, keepIn → aa9, fnOf → abc, mg_of → abo, codeIn → abz, findIn → ab6, Looks → acg
open List renaming length_map → aab, size_toArray → aad, map_append → aae, getElem?_eq_getElem → aaf, length_append → aag, mem_cons_of_mem → aaj, mem_singleton → aak, getElem?_map → aam, mem_cons_self → aan, getD_eq_getElem?_getD → aao, mem_append_right → aar, length_take → aas, mem_append → aat, map_cons → aav, mem_of_getElem? → aaw, replicate → aax, take_add_one → aaz, getElem?_eq_some_iff → aaB, mem_cons → aaC, range → aaF, length_drop → aaJ, mem_range → aaK, length_cons → aaL, Nodup → aaO, take_length → aaP, mem_map → aaQ, take_of_length_le → aaR, sum_cons → aaS, take_append_drop → aaT, getElem?_range → aaV, findSome?_cons → aaY, length_nil → aa1, append_assoc → aa3, mem_append_left → aa4, all_eq_true → aa5, flatten_cons → aa6, length_range → aa7, map_map → aba, mem_of_mem_take → abf, map_nil → abh, replicate_succ → abk, findSome?_append → abm, getElem?_append_left → abq, find?_cons → abB, length_singleton → abC, map_drop → abG, map_take → abH, getElem?_append_right → abJ, mem_of_mem_drop → abK, drop_eq_getElem_cons → abL, flatten_append → abM, map_congr_left → abN, getElem?_take_of_lt → abQ, filter_append → abT, range_succ → abU, exists_of_findSome?_eq_some → ab1, take_zero → ab5, singleton_append → ab7, getElem_mem → acd, any_cons → ace, mem_filter → ach, nodup_cons → aci
open Nat renaming le_refl → aac, lt_of_lt_of_le → aap, ne_of_lt → aaA, le_trans → aaN, zero_le → aaX, le_of_lt → abi, ne_of_gt → abj, mul_le_mul → abr, pow_le_pow_right → abu, eq_one_of_mul_eq_one_right → abx, eq_one_of_mul_eq_one_left → aby, lt_irrefl → abI, lt_add_of_pos_right → abV, lt_of_le_of_lt → abW, mul_assoc → acf, not_lt → ack
open PySem.Heap renaming get?_push_of_some → aah, lt_size → aaq, get?_push_size → aaG, SameBut → abP
open Bool renaming false_ne_true → aai
open PyProof.Rows renaming boot_isinstance → aal, boot_tuple → aaI, callWith_type1 → abl, boot_int → abn, boot_repr → abA, boot_all → abE, boot_list → ab3, boot_str → aca, boot_sum → acb
open PySem renaming boot_len → aaD, mem_of_lookup → aa8
open Option renaming map_eq_some_iff → aaE, isSome_iff_exists → abR, bind_eq_some_iff → abX
open PySem.Paired renaming length → aaH
open PySem.PassesOwn renaming never → aaM
open PySem.Builtin.Str renaming occurrences → aaU
open Option.some renaming inj → aaW
open PySem.F renaming plainAttrs_list → aaZ, slot_list_append → abd, type_list_append → abe, slot_dict_getitem → acj
open Int renaming le_refl → aa0, eq_ofNat_of_zero_le → abg, mul_le_mul_of_nonneg_right → abw, lt_or_eq_of_le → abS, mul_nonneg → ab4
open PySem.PyData renaming depthAll → abb, keyHash → abt, showable → abD, showableAll → abY, shownAll → abZ, depth → ab9
open PySem.Sem renaming wp → abp
open PySem.Builtin.List renaming listTooLong → abv
open False renaming elim → abF
open Ne renaming symm → abO
open PySem.Value renaming isStrOf → ab0
open PySem.Calls renaming callWith_builtin → ab2
open Nat.succ renaming inj → ab8
set_option Elab.async false
set_option linter.all false
set_option maxRecDepth 100000
namespace L2
open PySem PySem.Spec PyProof.Rows
abbrev Key:=Sum Int Str
def eZ:Key→Value→Bool
  | .inl k,v=>Value.isInt k v
  | .inr x,v=>ab0 x v
def sK (w:World):Key→Int
  | .inl k=>hashInt k
  | .inr x=>hashStr w x
theorem aZ:∀ {k:Key} {v:Value},eZ k v=true→(∃ i t,k=Sum.inl i∧v=Value.int i t)∨(∃ x t,k=Sum.inr x∧v=Value.str x t)
  | .inl i,v,h=>by
    obtain ⟨t,e⟩:=Value.isInt_shape (k:=i) (v:=v) h;exact .inl ⟨i,t,rfl,e⟩
  | .inr x,v,h=>by
    obtain ⟨t,e⟩:=Value.isStrOf_shape (x:=x) (v:=v) h;exact .inr ⟨x,t,rfl,e⟩
theorem oG (i:Int) (t:Tok):eZ (.inl i) (.int i t)=true:=by simp [eZ,Value.isInt]
theorem oF (x:Str) (t:Tok):eZ (.inr x) (.str x t)=true:=by simp [eZ,ab0]
theorem sJ (a b:Int):decide ((Sum.inl a:Key)=Sum.inl b)=(a == b):=by
  by_cases e:a=b
  · subst e;simp
  · have h:¬ (Sum.inl a:Key)=Sum.inl b:=fun q=>e (Sum.inl.inj q);rw [decide_eq_false h];exact (beq_eq_false_iff_ne.mpr e).symm
theorem sG (a b:Str):decide ((Sum.inr a:Key)=Sum.inr b)=decide (a=b):=by
  by_cases e:a=b
  · subst e;simp
  · have h:¬ (Sum.inr a:Key)=Sum.inr b:=fun q=>e (Sum.inr.inj q);rw [decide_eq_false h,decide_eq_false e]
theorem sI (a:Int) (b:Str):decide ((Sum.inl a:Key)=Sum.inr b)=false:=decide_eq_false (fun q=>nomatch q)
theorem sH (a:Str) (b:Int):decide ((Sum.inr a:Key)=Sum.inl b)=false:=decide_eq_false (fun q=>nomatch q)
def aD (prog:Program) (w:World):PySem.KeyKind prog w Key where
  is:=eZ
  hash:=sK w
  inj:=fun v a b ha hb=>by
    rcases aZ ha with ⟨i,t,rfl,rfl⟩|⟨x,t,rfl,rfl⟩
    · rcases aZ hb with ⟨j,u,rfl,e⟩|⟨y,u,rfl,e⟩
      · injection e with e1 _;rw [e1]
      · exact nomatch e
    · rcases aZ hb with ⟨j,u,rfl,e⟩|⟨y,u,rfl,e⟩
      · exact nomatch e
      · injection e with e1 _;rw [e1]
  byValue:=fun k v h=>by
    rcases aZ h with ⟨i,t,rfl,rfl⟩|⟨x,t,rfl,rfl⟩ <;> rfl
  pyHash:=fun hv h=>by
    rcases aZ hv with ⟨i,t,rfl,rfl⟩|⟨x,t,rfl,rfl⟩
    · exact wpAny_pyHash_int h
    · exact wpAny_pyHash_str h
  eqBool:=fun hu hv h=>by
    rcases aZ hu with ⟨i,t,rfl,rfl⟩|⟨x,t,rfl,rfl⟩
    · rcases aZ hv with ⟨j,u,rfl,rfl⟩|⟨y,u,rfl,rfl⟩
      · rw [sJ] at h;exact wpAny_eqBool_int h
      · rw [sI] at h;exact SeqAt.EqAt.int_str i t y u _ _ _ _ h
    · rcases aZ hv with ⟨j,u,rfl,rfl⟩|⟨y,u,rfl,rfl⟩
      · rw [sH] at h;exact SeqAt.EqAt.str_int x t j u _ _ _ _ h
      · rw [sG] at h;exact wpAny_eqBool_str h
  «strs»:=fun k x t v h=>by
    rcases aZ h with ⟨i,u,rfl,e⟩|⟨y,u,rfl,e⟩
    · exact nomatch e
    · injection e with e1 _
      subst e1;cases v <;> rfl
theorem mO (prog:Program) (w:World) (k:Key) (v:Value):(aD prog w).is k v=eZ k v:=rfl
theorem lY (prog:Program) (w:World) (i:Int) (t:Tok):(aD prog w).is (.inl i) (.int i t)=true:=oG i t
theorem lX (prog:Program) (w:World) (x:Str) (t:Tok):(aD prog w).is (.inr x) (.str x t)=true:=oF x t
open PySem PySem.Spec PyProof.Rows
inductive V where
  | non|bl (b:Bool)|int (i:Int)|str (x:Str)|byt (b:Array UInt8)|flt (b:UInt64)|ref (a:Addr)|ty (n:String)
  deriving DecidableEq
def RelV:V→Value→Prop
  | .non,u=>u=Value.none
  | .bl b,u=>u=Value.bool b
  | .int i,u=>∃ t,u=Value.int i t
  | .str x,u=>∃ t,u=Value.str x t
  | .byt b,u=>∃ t,u=Value.bytes b t
  | .flt b,u=>∃ t,u=Value.float b t
  | .ref a,u=>u=Value.ref a
  | .ty n,u=>u=Value.type n
abbrev Vals:List V→List Value→Prop:=Paired RelV
theorem Vals.length {xs:List V} {us:List Value} (r:Vals xs us):xs.length=us.length:=aaH r
theorem Vals.get:∀ {xs:List V} {us:List Value} {i:Nat} {x:V},Vals xs us→xs[i]?=some x→∃ u,us[i]?=some u∧RelV x u
  | _,_,_,_,.nil,e=>by simp at e
  | _,_,0,_,.cons r _,e=>by simp at e;subst e;exact ⟨_,rfl,r⟩
  | _,_,i+1,x,.cons _ t,e=>by
    obtain ⟨u,h1,h2⟩:=Vals.get (i:=i) (x:=x) t (by simpa using e);exact ⟨u,by simpa using h1,h2⟩
theorem Vals.set {x:V} {u:Value} (r:RelV x u):∀ {xs:List V} {us:List Value} (i:Nat),Vals xs us→Vals (xs.set i x) (us.set i u)
  | _,_,_,.nil=>.nil
  | _,_,0,.cons _ t=>.cons r t
  | _,_,i+1,.cons q t=>.cons q (Vals.set r i t)
theorem Vals.append {xs ys:List V} {us ws:List Value} (h:Vals xs us) (s:Vals ys ws):Vals (xs++ys) (us++ws):=by
  induction h with
  | nil=>exact s
  | cons r t ih=>exact .cons r ih
theorem Vals.take:∀ {xs:List V} {us:List Value} (n:Nat),Vals xs us→Vals (xs.take n) (us.take n)
  | _,_,0,_=>.nil
  | _,_,_+1,.nil=>.nil
  | _,_,n+1,.cons r t=>.cons r (Vals.take n t)
theorem Vals.drop:∀ {xs:List V} {us:List Value} (n:Nat),Vals xs us→Vals (xs.drop n) (us.drop n)
  | _,_,0,r=>r
  | _,_,_+1,.nil=>.nil
  | _,_,n+1,.cons _ t=>Vals.drop n t
def RelO:Option V→Option Value→Prop
  | some v,some u=>RelV v u
  | none,none=>True
  | _,_=>False
def KV {κ:Type}:List (κ × V)→List (κ × Value)→Prop:=Paired fun (p:κ × V) (q:κ × Value)=>p.1=q.1∧RelV p.2 q.2
def kV:Key→V
  | .inl i=>.int i
  | .inr x=>.str x
inductive HO where
  | lst (xs:List V)
  | tup (xs:List V)
  | dK (kvs:List (Key × V))|dT (kvs:List (List Key × V))
  | set (S:Int→Bool) (n:Nat)
  | ins (C dx:Addr) (fs:List (Str × V))
  | own (x:Addr)
  | xd (fs:List (Str × V))
  | met (f x:Addr)
  | rng (lo hi:Int)
  | frz (o:Obj) (u:HO)
  | tbl (ps:Array Value)
  | ext (φ:Heap→Prop)
abbrev Hp:=Addr→Option HO
def upd (H:Hp) (a:Addr) (o:HO):Hp:=fun b=>if b=a then some o else H b
theorem ad {H:Hp} {a:Addr} {o:HO}:upd H a o a=some o:=by unfold upd;rw [if_pos rfl]
theorem aF {H:Hp} {a b:Addr} {o:HO} (h:b≠a):upd H a o b=H b:=by unfold upd;rw [if_neg h]
theorem tR {H:Hp} {a b:Addr} {o u:HO} (h:H a=some o) (h':H b=some u) (d:o≠u):a≠b:=by
  intro e;subst e;rw [h] at h';exact d (aaW h')
theorem aH {H:Hp} {a b:Addr} {o:HO} (h:H a=some o) (h':H b=none):a≠b:=by
  intro e;subst e;rw [h] at h';cases h'
section
variable (P:Program) (w:World)
def ObjOk (H:Hp) (h:Heap) (a:Addr):HO→Prop
  | .lst xs=>xs.length≤sizeLine∧∃ (its:List Value) (n:Nat),Vals xs its∧h.get? a=some { cls:=.type "list",data:=.seq its.toArray n }
  | .tup xs=>xs.length≤sizeLine∧∃ its:List Value,Vals xs its∧IsTup h a its.toArray
  | .dK kvs=>kvs.length≤sizeLine∧(a == sysModules)=false∧∃ vs,KV kvs vs∧h.DictOf (aD P w) a vs
  | .dT kvs=>kvs.length≤sizeLine∧(a == sysModules)=false∧∃ xs:List (List Key × Addr × Value),
      Paired (fun (p:List Key × V) (q:List Key × Addr × Value)=>p.1=q.1∧H q.2.1=some (.tup (p.1.map kV))∧RelV p.2 q.2.2) kvs xs ∧
      ∃ o es ep,h.get? a=some o∧o.ExactDict∧o.data=.dict es ep∧es.toList=xs.map (entryOfKey (tupleKind (aD P w)))∧(xs.map (·.1)).Nodup
  | .set S n=>h.SetOf (intKind P w) a S n
  | .ins C dx fs=>H dx=some (.own a)∧fs.length≤1000∧dx≠a∧h.get? a=some (PySem.W.instObj C dx) ∧
      ∃ mA,h.Ns1 dx mA∧(∀ f,RelO (fs.lookup f) (mA f))∧PySem.Within mA (fs.map (·.1))
  | .own _=>∃ o,h.get? a=some o
  | .xd fs=>∃ mA,h.Ns1 a mA∧∀ f,RelO (fs.lookup f) (mA f)
  | .rng lo hi=>∃ t u v,h.get? a=some { cls:=.type "range",data:=.fields #[.int lo t,.int hi u,.int 1 v] }
  | .frz o u=>h.get? a=some o∧ObjOk H h a u
  | .tbl ps=>h.get? a=some { cls:=.none,data:=.fields ps }
  | .met f x=>h.get? a=some (PySem.W.methodObj (.ref f) (.ref x))
  | .ext φ=>φ h∧(∃ o,h.get? a=some o)∧∀ h1 h2:Heap,φ h1→(∀ o,h1.get? a=some o→h2.get? a=some o)→φ h2
def HOk (H:Hp) (h:Heap):Prop:=∀ a o,H a=some o→ObjOk P w H h a o
end
section
variable {P:Program} {w:World} {H H':Hp} {h h':Heap} {a:Addr} {o:HO}
theorem ObjOk.lt (x:ObjOk P w H h a o):a < h.objs.size:=by
  cases o with
  | lst xs=>obtain ⟨_,_,_,_,e⟩:=x;exact aaq e
  | tup xs=>obtain ⟨_,_,_,p⟩:=x;exact p.lt
  | dK kvs=>obtain ⟨_,_,_,_,o,_,_,e,_⟩:=x;exact aaq e
  | dT kvs=>obtain ⟨_,_,_,_,o,_,_,e,_⟩:=x;exact aaq e
  | set S n=>obtain ⟨o,_,_,_,e,_⟩:=x;exact aaq e
  | ins C dx fs=>obtain ⟨_,_,_,e,_⟩:=x;exact aaq e
  | own y=>obtain ⟨_,e⟩:=x;exact aaq e
  | xd fs=>obtain ⟨_,⟨_,_,_,e,_⟩,_⟩:=x;exact aaq e
  | rng lo hi=>obtain ⟨_,_,_,e⟩:=x;exact aaq e
  | frz ob u=>obtain ⟨e,_⟩:=x;exact aaq e
  | tbl ps=>exact aaq (show h.get? a=some _ from x)
  | met f y=>exact aaq (show h.get? a=some _ from x)
  | ext φ=>obtain ⟨_,⟨_,e⟩,_⟩:=x;exact aaq e
theorem Paired.mapP {α β:Type} {F G:α→β→Prop} {l₁:List α} {l₂:List β} (h:Paired F l₁ l₂) (f:∀ a b,F a b→G a b):Paired G l₁ l₂:=by
  induction h with
  | nil=>exact .nil
  | cons r t ih=>exact .cons (f _ _ r) ih
theorem Paired.imp' {α β:Type} {F G:α→β→Prop} (f:∀ a b,F a b→G a b) {l₁:List α} {l₂:List β} (r:Paired F l₁ l₂):Paired G l₁ l₂:=Paired.mapP r f
theorem ObjOk.stay (x:ObjOk P w H h a o) (k:∀ b u,(b=a∨H b=some (.own a))→h.get? b=some u→h'.get? b=some u)
    (ho:∀ b,H b=some (.own a)→H' b=some (.own a)) (ht:∀ b xs,H b=some (.tup xs)→H' b=some (.tup xs)):ObjOk P w H' h' a o:=by
  induction o with
  | lst xs=>obtain ⟨z,its,n,r,e⟩:=x;exact ⟨z,its,n,r,k _ _ (.inl rfl) e⟩
  | tup xs=>obtain ⟨z,its,r,ob,e,c⟩:=x;exact ⟨z,its,r,ob,k _ _ (.inl rfl) e,c⟩
  | dK kvs=>obtain ⟨z,y,vs,r,ob,es,ep,e,c⟩:=x;exact ⟨z,y,vs,r,ob,es,ep,k _ _ (.inl rfl) e,c⟩
  | dT kvs =>
    obtain ⟨z,y,xs,r,ob,es,ep,e,c⟩:=x;exact ⟨z,y,xs,Paired.mapP r fun p q z=>⟨z.1,ht _ _ z.2.1,z.2.2⟩,ob,es,ep,k _ _ (.inl rfl) e,c⟩
  | set S n=>obtain ⟨ob,es,ep,t,e,c⟩:=x;exact ⟨ob,es,ep,t,k _ _ (.inl rfl) e,c⟩
  | ins C dx fs =>
    obtain ⟨d,z,ne,e,mA,⟨od,es,ep,e2,c⟩,r⟩:=x;exact ⟨ho _ d,z,ne,k _ _ (.inl rfl) e,mA,⟨od,es,ep,k _ _ (.inr d) e2,c⟩,r⟩
  | own y=>obtain ⟨ob,e⟩:=x;exact ⟨ob,k _ _ (.inl rfl) e⟩
  | xd fs=>obtain ⟨mA,⟨od,es,ep,e,c⟩,r⟩:=x;exact ⟨mA,⟨od,es,ep,k _ _ (.inl rfl) e,c⟩,r⟩
  | rng lo hi=>obtain ⟨t,u,v,e⟩:=x;exact ⟨t,u,v,k _ _ (.inl rfl) e⟩
  | frz ob u ih=>obtain ⟨e,q⟩:=x;exact ⟨k _ _ (.inl rfl) e,ih q⟩
  | tbl ps =>
    have e:h.get? a=some { cls:=.none,data:=.fields ps }:=x;show h'.get? a=some { cls:=.none,data:=.fields ps };exact k a _ (.inl rfl) e
  | met f y =>
    have e:h.get? a=some (PySem.W.methodObj (.ref f) (.ref y)):=x;show h'.get? a=some (PySem.W.methodObj (.ref f) (.ref y));exact k a _ (.inl rfl) e
  | ext φ=>obtain ⟨p,⟨o,e⟩,st⟩:=x;exact ⟨st _ _ p fun o q=>k _ _ (.inl rfl) q,⟨o,k _ _ (.inl rfl) e⟩,st⟩
theorem HOk.lt (x:HOk P w H h) (e:H a=some o):a < h.objs.size:=(x a o e).lt
theorem HOk.fresh (x:HOk P w H h) (e:h.objs.size≤a):H a=none:=by
  cases q:H a with
  | none=>rfl
  | some u=>exact absurd (aap (x.lt q) e) (abI _)
theorem HOk.kept (x:HOk P w H h) (k:∀ b u,h.get? b=some u→h'.get? b=some u):HOk P w H h':=fun a o e =>
  (x a o e).stay (fun b u _ q=>k b u q) (fun _ q=>q) fun _ _ q=>q
theorem HOk.laid (x:HOk P w H h) (k:∀ b u,h.get? b=some u→h'.get? b=some u) (hp:h.objs.size≤a) (new:ObjOk P w (upd H a o) h' a o):HOk P w (upd H a o) h':=fun b u e=>by
  have hn:=x.fresh hp;by_cases hb:b=a
  · subst hb;rw [ad] at e;cases e;exact new
  · rw [aF hb] at e;exact (x b u e).stay (fun c v _ q=>k c v q) (fun c q=>by rw [aF (aH q hn)];exact q) fun c xs q=>by rw [aF (aH q hn)];exact q
end
def Rd (H:Hp) (a:Addr) (u:HO):Prop:=H a=some u∨∃ o,H a=some (.frz o u)
theorem Rd.ok {P:Program} {w:World} {H:Hp} {h:Heap} {a:Addr} {u:HO} (r:Rd H a u) (x:HOk P w H h):ObjOk P w H h a u:=by
  rcases r with r|⟨o,r⟩
  · exact x a u r
  · obtain ⟨_,q⟩:=x a _ r;exact q
def Mut:Option HO→Prop
  | some (.lst _)=>True
  | some (.dK _)=>True
  | some (.dT _)=>True
  | some (.set _ _)=>True
  | some (.ins _ _ _)=>True
  | some (.ext _)=>True
  | _=>False
section
variable {P:Program} {w:World} {H:Hp} {h h':Heap} {x e:Addr} {o':HO}
theorem HOk.write (ok:HOk P w H h) (mu:Mut (H x)) (he:e=x∨H e=some (.own x)) (k:∀ b u,b≠e→h.get? b=some u→h'.get? b=some u) (heo:∃ u,h'.get? e=some u)
    (new:ObjOk P w (upd H x o') h' x o'):HOk P w (upd H x o') h':=fun b u q=>by
  have nown:∀ c y,H c=some (.own y)→c≠x:=fun c y r z=>by subst z;rw [r] at mu;exact mu
  have ntup:∀ c xs,H c=some (.tup xs)→c≠x:=fun c xs r z=>by subst z;rw [r] at mu;exact mu
  by_cases hb:b=x
  · subst hb;rw [ad] at q;cases q;exact new
  · rw [aF hb] at q;by_cases hbe:b=e
    · have q':H b=some (.own x):=by
        rcases he with z|z
        · exact absurd (hbe.trans z) hb
        · rw [hbe];exact z
      rw [q] at q';cases q';obtain ⟨v,hv⟩:=heo;exact ⟨v,by rw [hbe];exact hv⟩
    · refine (ok b u q).stay (fun c v hc r=>k c v ?_ r) (fun c r=>by rw [aF (nown c b r)];exact r) fun c xs r=>by rw [aF (ntup c xs r)];exact r
      rcases hc with rfl|hc
      · exact hbe
      · rintro rfl;rcases he with z|z
        · exact nown c b hc z
        · rw [hc] at z;cases z;exact hb rfl
end
structure Un (fs ex:List Addr) (H H':Hp) (h h':Heap):Prop where
  keep:∀ b o,h.get? b=some o→H b=none→b∉fs→b∉ex→h'.get? b=some o
  slot:∀ b o,h.get? b=some o→H b=none→b∈fs→b∉ex→∃ sl,h'.get? b=some { o with slots:=sl }
  free:∀ b o,h.get? b=some o→H b=none→b∉ex→H' b=none
  there:∀ b o,h.get? b=some o→b∉ex→∃ o',h'.get? b=some o'
  tups:∀ b xs,H b=some (.tup xs)→H' b=some (.tup xs)
  frzs:∀ b o u,H b=some (.frz o u)→H' b=some (.frz o u)
  tbls:∀ b ps,H b=some (.tbl ps)→∃ more,H' b=some (.tbl (ps++more))
section
variable {fs fs' ex ex':List Addr} {H H1 H2:Hp} {h h1 h2 h':Heap} {a x e:Addr} {o:HO}
theorem Un.any (u:Un fs ex H H1 h h1) {b:Addr} {ob:Obj} (q:h.get? b=some ob) (n:H b=none) (hx:b∉ex):∃ sl,h1.get? b=some { ob with slots:=sl }:=by
  by_cases hb:b∈fs
  · exact u.slot b ob q n hb hx
  · exact ⟨ob.slots,u.keep b ob q n hb hx⟩
theorem Un.kept (k:∀ b u,h.get? b=some u→h'.get? b=some u):Un fs ex H H h h' :=
  ⟨fun b ob q _ _ _=>k b ob q,fun b ob q _ _ _=>⟨ob.slots,k b ob q⟩,fun _ _ _ n _=>n,fun b ob q _=>⟨ob,k b ob q⟩,fun _ _ q=>q,fun _ _ _ q=>q,fun _ ps q=>⟨#[],by rw [q];simp⟩⟩
theorem Un.refl:Un fs ex H H h h:=Un.kept fun _ _ q=>q
theorem Un.laid (k:∀ b u,h.get? b=some u→h'.get? b=some u) (hp:h.objs.size≤a) (hn:H a=none):Un fs ex H (upd H a o) h h' where
  keep:=fun b u q _ _ _=>k b u q
  slot:=fun b u q _ _ _=>⟨u.slots,k b u q⟩
  free:=fun b u q n _=>by rw [aF (aaA (aap (aaq q) hp))];exact n
  there:=fun b u q _=>⟨u,k b u q⟩
  tups:=fun b xs q=>by rw [aF (aH q hn)];exact q
  frzs:=fun b u xs q=>by rw [aF (aH q hn)];exact q
  tbls:=fun b ps q=>⟨#[],by rw [aF (aH q hn),q];simp⟩
theorem Un.write (mu:Mut (H x)) (he:e=x∨H e=some (.own x)) (k:∀ b u,b≠e→h.get? b=some u→h'.get? b=some u) (heo:∃ u,h'.get? e=some u):Un fs ex H (upd H x o) h h':=by
  have hx:∀ b,H b=none→b≠x:=fun b n z=>by subst z;rw [n] at mu;exact mu
  have hb:∀ b,H b=none→b≠e:=fun b n z=>by
    subst z;rcases he with r|r
    · exact hx b n r
    · rw [n] at r;cases r
  have hm:∀ b u,H b=some u→¬ Mut (some u)→b≠x:=fun b u q nm z=>by subst z;rw [q] at mu;exact nm mu
  refine ⟨fun b u q n _ _=>k b u (hb b n) q,fun b u q n _ _=>⟨u.slots,k b u (hb b n) q⟩,fun b u q n _=>by rw [aF (hx b n)];exact n,fun b u q _=>?_,
    fun b xs q=>by rw [aF (hm b _ q fun z=>z)];exact q,fun b u xs q=>by rw [aF (hm b _ q fun z=>z)];exact q,fun b ps q=>⟨#[],by rw [aF (hm b _ q fun z=>z),q];simp⟩⟩
  by_cases hbe:b=e
  · subst hbe;exact heo
  · exact ⟨u,k b u hbe q⟩
end
def trk (h:Heap) (H:Hp):List Addr:=(aaF h.objs.size).filter fun a=>(H a).isSome
def kL (h:Heap) (H:Hp):Heap:=PySem.W.hideAll h (trk h H)
theorem oK (h:Heap) (H:Hp):(kL h H).objs.size=h.objs.size:=PySem.W.hideAll_size _ _
theorem pR {h:Heap} {H:Hp} {b:Addr} {o:Obj} (e:h.get? b=some o) (n:H b=none):(kL h H).get? b=some o :=
  PySem.W.hideAll_get _ e fun hm=>by
    have q:(H b).isSome=true:=(ach.mp hm).2;rw [n] at q;simp at q
theorem qT {h:Heap} {H:Hp} {b:Addr} {o:Obj} (e:(kL h H).get? b=some o):h.get? b=some o∧H b=none:=by
  have e':h.get? b=some o:=PySem.W.of_hideAll (trk h H) e;refine ⟨e',?_⟩;cases q:H b with
  | none=>rfl
  | some x =>
    have hm:b∈trk h H:=List.mem_filter.mpr ⟨aaK.mpr (aaq e'),by simp [q]⟩;have z:(kL h H).get? b=none:=PySem.W.hideAll_none (trk h H) hm;rw [z] at e;cases e
def rl (g h:Heap) (L:Addr):List (Addr × Obj):=(aaF h.objs.size).filterMap fun a=>if a=L∨(g.get? a).isSome=true then none else (h.get? a).map fun o=>(a,o)
def cZ (g h:Heap) (L d:Addr):List (Addr × Obj):=(rl g h L).filter fun p=>decide (p.1≠d)
open PySem PySem.Spec PyProof.Rows
structure Mod (K:aaa) (mg:Str→Option Value) (base:Heap):Prop where
  kin:K.In base
  glob:base.Ns mainGlobals mg
  blt:∃ mb,base.Ns builtinsNs mb∧∀ x:Str,x ≠ "__name__"→mb x=bootBuiltins x
  nolimit:base.NoLimit
  sysm:∃ mm,base.Ns sysModules mm
structure Cx where
  prog:Program
  w:World
  K:aaa
  mg:Str→Option Value
  base:Heap
  A:Around
  N:List Str
  s₀:Shared
  H₀:Hp
  env:Env
  outer:List Env
  stack:List Env
  ex:List Addr
  fn:Str→Bool
  calm:Bool
  pn:List (Addr × Obj)
  xe:Value→Shared→Prop
def frs (l:List Env):List Addr:=l.filterMap (·.frame)
abbrev Cx.fs (X:Cx):List Addr:=frs X.outer
def Vis (sc:Scope) (x:Str):Prop:=sc.names.lookup x=some .local∨sc.names.lookup x=some .cell∨sc.names.lookup x=some .free
def Loc (sc:Scope) (x:Str):Prop:=sc.names.lookup x=some .local∨sc.names.lookup x=some .cell
def uk (env:Env) (h:Heap) (m:Str→Option Value) (x:Str) (u:Value):Prop :=
  (env.kindOf x=some .local∧m x=some u)∨((env.kindOf x=some .cell∨env.kindOf x=some .free)∧∃ c,env.cells.lookup x=some c∧h.IsCell c (some u))
structure Cx.Ok (X:Cx):Prop where
  mod:Mod X.K X.mg X.base
  kind:X.env.scope.kind=.function
  glob:X.env.globals=mainGlobals
  blt:X.env.builtins=builtinsNs
  above:X.s₀.heap.objs.size≤X.env.locals
  inj:∀ x y c,X.env.cells.lookup x=some c→X.env.cells.lookup y=some c→x=y
  has:∀ x,(X.env.kindOf x=some .cell∨X.env.kindOf x=some .free)→∃ c,X.env.cells.lookup x=some c
  cab:∀ x c,X.fn x=true→X.env.cells.lookup x=some c→X.s₀.heap.objs.size≤c
  hd:X.calm=true→X.A.handled=none
  frames:X.A.frames=some X.stack
  stk:X.stack=X.outer∨(X.stack=X.env :: X.outer∧X.env.frame=some X.env.locals)
  exf:∀ b∈X.ex,b≠X.env.locals∧∀ x c,X.env.cells.lookup x=some c→c≠b
  bs:∀ b o,X.base.get? b=some o→X.s₀.heap.get? b=some o∧X.H₀ b=none
  bsz:X.base.objs.size≤X.s₀.heap.objs.size
  noex:∀ b o,X.base.get? b=some o→b∉X.ex
  exfs:∀ b∈X.ex,b∉X.fs
  funs:X.s₀.heap.FunFrames X.base X.outer
  frf:∀ b∈X.fs,X.H₀ b=none
structure Inv (X:Cx) (pins:List (Addr × Obj)) (σ:List (Option V)) (H:Hp) (s:Shared):Prop where
  ok:X.Ok
  os:s.os=X.s₀.os
  bare:AllBare s.gens
  base:Un X.fs X.ex X.H₀ H X.s₀.heap s.heap
  loc:∃ m,s.heap.Ns X.env.locals m∧∀ (i:Nat) (x:Str) (v:V),X.N[i]?=some x→σ[i]?=some (some v)→Vis X.env.scope x→∃ u,RelV v u∧uk X.env s.heap m x u
  cell:∀ x c,X.env.cells.lookup x=some c→∃ v,s.heap.IsCell c v
  free:H X.env.locals=none
  freeC:∀ x c,X.env.cells.lookup x=some c→H c=none
  pin:∀ p∈X.pn++pins,s.heap.get? p.1=some p.2∧H p.1=none∧p.1≠X.env.locals∧p.1∉X.fs∧∀ v,p.2.data≠.cell v
  hok:HOk X.prog X.w H s.heap
  len:σ.length=X.N.length
section
variable {X:Cx} {pins:List (Addr × Obj)} {σ:List (Option V)} {H H':Hp} {s:Shared} {h':Heap}
theorem Cx.Ok.nofr (ok:X.Ok) {b:Addr} {o:Obj} (e:X.base.get? b=some o):b∉X.fs:=fun hb=>by
  have:=(ok.funs.mem hb).1;rw [e] at this;cases this
theorem Inv.bs (I:Inv X pins σ H s):∀ b o,X.base.get? b=some o→s.heap.get? b=some o∧H b=none:=fun b o e =>
  ⟨I.base.keep b o (I.ok.bs b o e).1 (I.ok.bs b o e).2 (I.ok.nofr e) (I.ok.noex b o e),I.base.free b o (I.ok.bs b o e).1 (I.ok.bs b o e).2 (I.ok.noex b o e)⟩
theorem Inv.bk (I:Inv X pins σ H s):∀ b o,X.base.get? b=some o→s.heap.get? b=some o:=fun b o e=>(I.bs b o e).1
theorem Inv.mod (I:Inv X pins σ H s):Mod X.K X.mg X.base:=I.ok.mod
theorem Inv.kIn (I:Inv X pins σ H s):X.K.In s.heap:=I.ok.mod.kin.keeps I.bk
theorem Inv.lt (I:Inv X pins σ H s):X.env.locals < s.heap.objs.size:=let ⟨_,hn,_⟩:=I.loc;hn.lt
theorem Inv.sz (I:Inv X pins σ H s):X.s₀.heap.objs.size≤s.heap.objs.size:=aaN I.ok.above (abi I.lt)
theorem Inv.nofs (I:Inv X pins σ H s) {a:Addr} (h:s.heap.objs.size≤a):a∉X.fs:=fun hb=>by
  obtain ⟨_,o,ho,_⟩:=I.ok.funs.mem hb;exact absurd (aap (aaq ho) (aaN I.sz h)) (abI _)
theorem Inv.cne (I:Inv X pins σ H s):∀ x c,X.env.cells.lookup x=some c→c≠X.env.locals:=fun x c e z=>by
  obtain ⟨v,o,ho,hd⟩:=I.cell x c e;obtain ⟨m,⟨o',es,ep,ho',hd',_⟩,_⟩:=I.loc;rw [z,ho'] at ho;cases ho;rw [hd'] at hd;cases hd
theorem Inv.funs (I:Inv X pins σ H s):s.heap.FunFrames X.base X.outer:=by
  have all:∀ (l:List Env),(∀ b∈frs l,b∈X.fs)→X.s₀.heap.FunFrames X.base l→s.heap.FunFrames X.base l:=by
    intro l
    induction l with
    | nil=>intro _ _;trivial
    | cons env r ih =>
      intro hs hl;obtain ⟨hk,⟨L,o,hf,hn,ho,hd⟩,hr⟩:=hl;have hL:L∈X.fs:=hs L (by unfold frs;rw [List.filterMap_cons,hf];exact aan);obtain ⟨sl,e⟩:=I.base.slot L o ho (I.ok.frf L hL) hL fun z=>I.ok.exfs L z hL;exact ⟨hk,⟨L,_,hf,hn,e,hd⟩,ih (fun b hb=>hs b (by unfold frs;rw [List.filterMap_cons,hf];exact aaj _ hb)) hr⟩
  exact all X.outer (fun _ hb=>hb) I.ok.funs
theorem Inv.stack (I:Inv X pins σ H s):s.heap.FunFrames X.base X.stack:=by
  rcases I.ok.stk with e|⟨e,hf⟩
  · rw [e];exact I.funs
  · rw [e];obtain ⟨m,hn,_⟩:=I.loc;refine .cons (by rw [I.ok.kind];decide) hf hn ?_ I.funs;exact Heap.get?_none_of_le (aaN I.ok.bsz I.ok.above)
theorem Inv.stkSub (I:Inv X pins σ H s):∀ b∈frs X.stack,b∈X.env.locals :: X.fs:=fun b hb=>by
  rcases I.ok.stk with e|⟨e,hf⟩
  · rw [e] at hb;exact aaj _ hb
  · rw [e] at hb;unfold frs at hb;rw [List.filterMap_cons,hf] at hb;exact hb
theorem Inv.stkFree (I:Inv X pins σ H s):∀ b∈frs X.stack,H b=none:=fun b hb=>by
  rcases aaC.mp (I.stkSub b hb) with e|hb
  · rw [e];exact I.free
  · obtain ⟨_,o,ho,_⟩:=I.ok.funs.mem hb;exact I.base.free b o ho (I.ok.frf b hb) fun z=>I.ok.exfs b z hb
theorem Inv.step {g':Array GenState} {t':Nat} {d':Drawn} {ch:List Addr} (I:Inv X pins σ H s)
    (hch:∀ b∈ch,(b∈X.ex∨X.s₀.heap.objs.size≤b)∧b≠X.env.locals∧(∀ x c,X.env.cells.lookup x=some c→c≠b)∧∀ p∈X.pn++pins,p.1≠b)
    (keep:∀ b o,b≠X.env.locals→b∉X.fs→b∉ch→s.heap.get? b=some o→H b=none→h'.get? b=some o)
    (slot:∀ b o,b≠X.env.locals→b∈X.fs→b∉ch→s.heap.get? b=some o→H b=none→∃ sl,h'.get? b=some { o with slots:=sl }) (free:∀ b o,b∉ch→s.heap.get? b=some o→H b=none→H' b=none)
    (there:∀ b o,b∉ch→s.heap.get? b=some o→∃ o',h'.get? b=some o')
    (tups:∀ b xs,H b=some (.tup xs)→H' b=some (.tup xs)) (frzs:∀ b o u,H b=some (.frz o u)→H' b=some (.frz o u)) (tbls:∀ b ps,H b=some (.tbl ps)→∃ more,H' b=some (.tbl (ps++more)))
    (ns:∀ m,s.heap.Ns X.env.locals m→h'.Ns X.env.locals m) (hok:HOk X.prog X.w H' h') (hg:AllBare g') :
    Inv X pins σ H' { s with heap:=h',gens:=g',drawn:=d',toks:=t' }:=by
  have neL:∀ b o,X.s₀.heap.get? b=some o→b≠X.env.locals:=fun b o e=>aaA (aap (aaq e) I.ok.above);have neC:∀ b o,X.s₀.heap.get? b=some o→b∉X.ex→b∉ch:=fun b o e hx hb=>by
    rcases (hch b hb).1 with z|z
    · exact hx z
    · exact absurd (aap (aaq e) z) (abI _)
  have cellK:∀ x c,X.env.cells.lookup x=some c→∀ v,s.heap.IsCell c v→h'.IsCell c v:=fun x c e v ⟨o,ho,hd⟩=>by
    have nch:c∉ch:=fun z=>(hch c z).2.2.1 x c e rfl;by_cases hc:c∈X.fs
    · obtain ⟨sl,q⟩:=slot c o (I.cne x c e) hc nch ho (I.freeC x c e);exact ⟨_,q,hd⟩
    · exact ⟨o,keep c o (I.cne x c e) hc nch ho (I.freeC x c e),hd⟩
  refine ⟨I.ok,I.os,hg,⟨fun b o e n hb hx=>?_,fun b o e n hb hx=>?_,fun b o e n hx=>?_,fun b o e hx=>?_,fun b xs e=>tups b xs (I.base.tups b xs e),fun b o xs e=>frzs b o xs (I.base.frzs b o xs e),fun b ps e=>?_⟩,?_,fun x c e=>?_,?_,fun x c e=>?_,fun p hp=>?_,hok,I.len⟩
  · exact keep b o (neL b o e) hb (neC b o e hx) (I.base.keep b o e n hb hx) (I.base.free b o e n hx)
  · obtain ⟨sl,e1⟩:=I.base.slot b o e n hb hx;obtain ⟨sl',e2⟩:=slot b _ (neL b o e) hb (neC b o e hx) e1 (I.base.free b o e n hx);exact ⟨sl',e2⟩
  · obtain ⟨o',e1⟩:=I.base.there b o e hx;exact free b o' (neC b o e hx) e1 (I.base.free b o e n hx)
  · obtain ⟨o',e1⟩:=I.base.there b o e hx;exact there b o' (neC b o e hx) e1
  · obtain ⟨m1,e1⟩:=I.base.tbls b ps e;obtain ⟨m2,e2⟩:=tbls b _ e1;exact ⟨m1++m2,by rw [e2,Array.append_assoc]⟩
  · obtain ⟨m,hn,hl⟩:=I.loc;refine ⟨m,ns m hn,fun i x v e1 e2 e3=>?_⟩;obtain ⟨u,r,l⟩:=hl i x v e1 e2 e3;refine ⟨u,r,?_⟩;rcases l with l|⟨k,c,e,z⟩
    · exact .inl l
    · exact .inr ⟨k,c,e,cellK x c e _ z⟩
  · obtain ⟨v,z⟩:=I.cell x c e;exact ⟨v,cellK x c e v z⟩
  · obtain ⟨m,⟨o,_,_,ho,_⟩,_⟩:=I.loc;exact free _ o (fun z=>(hch _ z).2.1 rfl) ho I.free
  · obtain ⟨v,o,ho,hd⟩:=I.cell x c e;exact free c o (fun z=>(hch c z).2.2.1 x c e rfl) ho (I.freeC x c e)
  · obtain ⟨e,n,ne,nf,d⟩:=I.pin p hp;have nch:p.1∉ch:=fun z=>(hch p.1 z).2.2.2 p hp rfl;exact ⟨keep p.1 p.2 ne nf nch e n,free p.1 p.2 nch e n,ne,nf,d⟩
theorem Inv.un {t':Nat} (I:Inv X pins σ H s) (u:Un X.fs [] H H' s.heap h') (hok:HOk X.prog X.w H' h'):Inv X pins σ H' { s with heap:=h',toks:=t' }:=by
  obtain ⟨m,⟨o,es,ep,ho,r⟩,_⟩:=id I.loc;obtain ⟨sl,hL⟩:=u.any ho I.free (by simp);exact I.step (g':=s.gens) (d':=s.drawn) (ch:=[]) (fun _ z=>nomatch z) (fun b o _ hb _ e n=>u.keep b o e n hb (by simp)) (fun b o _ hb _ e n=>u.slot b o e n hb (by simp)) (fun b o _ e n=>u.free b o e n (by simp)) (fun b o _ e=>u.there b o e (by simp)) u.tups u.frzs u.tbls (fun m' hm=>by
    obtain ⟨o',es',ep',ho',r'⟩:=hm;rw [ho] at ho';cases ho';exact ⟨_,es',ep',hL,r'⟩) hok I.bare
theorem Inv.call {g':Array GenState} {t':Nat} {d':Drawn} {ch:List Addr} (I:Inv X pins σ H s) (u:Un (frs X.stack) ch H H' s.heap h') (hok:HOk X.prog X.w H' h') (hg:AllBare g')
    (hch:∀ b∈ch,(b∈X.ex∨X.s₀.heap.objs.size≤b)∧b≠X.env.locals∧(∀ x c,X.env.cells.lookup x=some c→c≠b)∧∀ p∈X.pn++pins,p.1≠b) :
    Inv X pins σ H' { s with heap:=h',gens:=g',drawn:=d',toks:=t' }:=by
  obtain ⟨m,⟨o,es,ep,ho,r⟩,_⟩:=id I.loc;obtain ⟨sl,hL⟩:=u.any ho I.free fun z=>(hch _ z).2.1 rfl;exact I.step (ch:=ch) hch (fun b o hL hb hc e n=>u.keep b o e n (fun z=>(aaC.mp (I.stkSub b z)).elim hL hb) hc) (fun b o _ _ hc e n=>u.any e n hc) (fun b o hc e n=>u.free b o e n hc) (fun b o hc e=>u.there b o e hc) u.tups u.frzs u.tbls (fun m' hm=>by
    obtain ⟨o',es',ep',ho',r'⟩:=hm;rw [ho] at ho';cases ho';exact ⟨_,es',ep',hL,r'⟩) hok hg
theorem Inv.turned {t':Nat} {it:Addr} (I:Inv X pins σ H s) (k:∀ b o,b≠it→s.heap.get? b=some o→h'.get? b=some o) (hn:H it=none) (hL:it≠X.env.locals)
    (h1:it∈X.ex∨X.s₀.heap.objs.size≤it) (h2:∀ x c,X.env.cells.lookup x=some c→c≠it) (h3:∀ p∈X.pn++pins,p.1≠it):Inv X pins σ H { s with heap:=h',toks:=t' }:=by
  have nit:∀ b u,H b=some u→b≠it:=fun b u e z=>by rw [z,hn] at e;cases e
  refine I.step (g':=s.gens) (d':=s.drawn) (ch:=[it]) (fun b hb=>?_) (fun b o _ _ hc e _=>k b o (fun z=>hc (by simp [z])) e) (fun b o _ _ hc e _=>⟨o.slots,k b o (fun z=>hc (by simp [z])) e⟩) (fun _ _ _ _ n=>n)
    (fun b o hc e=>⟨o,k b o (fun z=>hc (by simp [z])) e⟩) (fun _ _ e=>e) (fun _ _ _ e=>e) (fun b ps e=>⟨#[],by rw [e];simp⟩) (fun m hm=>?_) (fun b u e=>?_) I.bare
  · have e:b=it:=by simpa using hb
    subst e;exact ⟨h1,hL,h2,h3⟩
  · obtain ⟨o,es,ep,ho,r⟩:=hm;exact ⟨o,es,ep,k _ o (abO hL) ho,r⟩
  · refine (I.hok b u e).stay (fun c v hc q=>k c v ?_ q) (fun _ q=>q) fun _ _ q=>q;rcases hc with z|z
    · rw [z];exact nit b u e
    · exact nit c _ z
theorem Inv.tok (I:Inv X pins σ H s) (t:Nat):Inv X pins σ H { s with toks:=t }:=I.un (h':=s.heap) (t':=t) Un.refl I.hok
theorem Inv.kept {t':Nat} (I:Inv X pins σ H s) (k:∀ b u,s.heap.get? b=some u→h'.get? b=some u):Inv X pins σ H { s with heap:=h',toks:=t' }:=I.un (Un.kept k) (I.hok.kept k)
theorem Inv.laid {a:Addr} {o:HO} {t':Nat} (I:Inv X pins σ H s) (k:∀ b u,s.heap.get? b=some u→h'.get? b=some u) (hp:s.heap.objs.size≤a) (new:ObjOk X.prog X.w (upd H a o) h' a o) :
    Inv X pins σ (upd H a o) { s with heap:=h',toks:=t' }:=I.un (Un.laid k hp (I.hok.fresh hp)) (I.hok.laid k hp new)
theorem Inv.write {x e:Addr} {o:HO} {t':Nat} (I:Inv X pins σ H s) (mu:Mut (H x)) (he:e=x∨H e=some (.own x)) (k:∀ b u,b≠e→s.heap.get? b=some u→h'.get? b=some u) (heo:∃ u,h'.get? e=some u)
    (new:ObjOk X.prog X.w (upd H x o) h' x o):Inv X pins σ (upd H x o) { s with heap:=h',toks:=t' }:=I.un (Un.write mu he k heo) (I.hok.write mu he k heo new)
theorem Inv.pins_of {pins':List (Addr × Obj)} (I:Inv X pins σ H s) (h:∀ p∈pins',s.heap.get? p.1=some p.2∧H p.1=none∧p.1≠X.env.locals∧p.1∉X.fs∧∀ v,p.2.data≠.cell v):Inv X pins' σ H s :=
  ⟨I.ok,I.os,I.bare,I.base,I.loc,I.cell,I.free,I.freeC,fun p hp=>(aat.mp hp).elim (fun z=>I.pin p (aa4 _ z)) (h p),I.hok,I.len⟩
theorem lU {N:List Str} (hN:N.Nodup) {i j:Nat} {x:Str} (a:N[i]?=some x) (b:N[j]?=some x):i=j:=by
  obtain ⟨h1,e1⟩:=aaB.mp a;obtain ⟨h2,e2⟩:=aaB.mp b;exact (List.getElem_inj hN).mp (e1.trans e2.symm)
theorem oq {M:Model} {A:Around} {E:Value→Shared→Prop} {i:Nat} {x:Str} {v:V} {u:Value} {Q:Unit→Shared→Prop} (I:Inv X pins σ H s) (hN:X.N.Nodup) (hi:X.N[i]?=some x) (hx:Loc X.env.scope x) (r:RelV v u)
    (h:∀ s',Inv X pins (σ.set i (some v)) H s'→(∃ a,abP a s.heap s'.heap∧(a=X.env.locals∨X.env.cells.lookup x=some a))→Q () s') (hf:X.fn x=true∨X.env.scope.names.lookup x=some .local:=by first|exact .inl rfl|exact .inr rfl|assumption):wpAny M A (storeName X.env x u) Q E s:=by
  obtain ⟨m,hn,hl⟩:=id I.loc;have hcls:(X.env.scope.kind == .class || (X.env.scope.kind == .module && X.env.locals != X.env.globals))=false:=by rw [I.ok.kind];rfl
  have hiσ:i < σ.length:=by rw [I.len];exact (aaB.mp hi).1
  have cne:=I.cne;have tracked:∀ {a:Addr} {h':Heap},(∃ o,s.heap.get? a=some o∧H a=none)→abP a s.heap h'→HOk X.prog X.w H h':=fun {a h'} ha hs b ob e=>by
    obtain ⟨_,_,hfree⟩:=ha;refine (I.hok b ob e).stay (fun c w' hc q=>(hs.2 c ?_).trans q) (fun _ q=>q) fun _ _ q=>q;rintro rfl;rcases hc with rfl|hc
    · rw [hfree] at e;cases e
    · rw [hfree] at hc;cases hc
  rcases hx with hk|hk
  · refine wpAny_storeName_local hk hn (fun h' hn' hs=>?_) hcls;obtain ⟨oL,_,_,hoL,_⟩:=id hn;refine h _ ⟨I.ok,I.os,I.bare,⟨fun b o e n hb hx=>?_,fun b o e n hb hx=>?_,I.base.free,fun b o e hx=>?_,I.base.tups,I.base.frzs,I.base.tbls⟩,⟨_,hn',fun j y v' e1 e2 e3=>?_⟩,fun y c e=>?_,I.free,I.freeC,fun p hp=>?_,tracked ⟨oL,hoL,I.free⟩ hs,by simpa using I.len⟩ ⟨_,hs,.inl rfl⟩
    · exact (hs.2 b (aaA (aap (aaq e) I.ok.above))).trans (I.base.keep b o e n hb hx)
    · obtain ⟨sl,e1⟩:=I.base.slot b o e n hb hx;exact ⟨sl,(hs.2 b (aaA (aap (aaq e) I.ok.above))).trans e1⟩
    · obtain ⟨o',e1⟩:=I.base.there b o e hx;exact ⟨o',(hs.2 b (aaA (aap (aaq e) I.ok.above))).trans e1⟩
    · by_cases hj:j=i
      · subst hj;rw [hi] at e1;cases e1;rw [List.getElem?_set_self hiσ] at e2;cases e2;exact ⟨u,r,.inl ⟨hk,by simp⟩⟩
      · rw [List.getElem?_set_ne (abO hj)] at e2;obtain ⟨u',r',q⟩:=hl j y v' e1 e2 e3;refine ⟨u',r',?_⟩;rcases q with ⟨k,e⟩|⟨k,c,e,z⟩
        · refine .inl ⟨k,?_⟩;have : y≠x:=fun e=>hj (lU hN e1 (e ▸ hi));simp [this,e]
        · exact .inr ⟨k,c,e,z.sameBut hs (cne y c e)⟩
    · obtain ⟨w',z⟩:=I.cell y c e;exact ⟨w',z.sameBut hs (cne y c e)⟩
    · obtain ⟨e,n,ne,nf,d⟩:=I.pin p hp;exact ⟨(hs.2 p.1 ne).trans e,n,ne,nf,d⟩
  · have hfn:X.fn x=true:=by
      rcases hf with z|z
      · exact z
      · rw [z] at hk;cases hk
    obtain ⟨c,hc⟩:=I.ok.has x (.inl hk);obtain ⟨w',z⟩:=I.cell x c hc;refine wpAny_storeName_cell I.ok.kind hk hc z (fun h' hc' hs=>?_);obtain ⟨oc,hoc,hocd⟩:=id z;refine h { s with heap:=h' } ⟨I.ok,I.os,I.bare,⟨fun b o e n hb hx=>?_,fun b o e n hb hx=>?_,I.base.free,fun b o e hx=>?_,I.base.tups,I.base.frzs,I.base.tbls⟩,⟨m,hn.sameBut hs (abO (cne x c hc)),fun j y v' e1 e2 e3=>?_⟩,fun y c' e=>?_,I.free,I.freeC,fun p hp=>?_,tracked ⟨oc,hoc,I.freeC x c hc⟩ hs,by simpa using I.len⟩ ⟨c,hs,.inr hc⟩
    · exact (hs.2 b (aaA (aap (aaq e) (I.ok.cab x c hfn hc)))).trans (I.base.keep b o e n hb hx)
    · obtain ⟨sl,e1⟩:=I.base.slot b o e n hb hx;exact ⟨sl,(hs.2 b (aaA (aap (aaq e) (I.ok.cab x c hfn hc)))).trans e1⟩
    · obtain ⟨o',e1⟩:=I.base.there b o e hx;exact ⟨o',(hs.2 b (aaA (aap (aaq e) (I.ok.cab x c hfn hc)))).trans e1⟩
    · by_cases hj:j=i
      · subst hj;rw [hi] at e1;cases e1;rw [List.getElem?_set_self hiσ] at e2;cases e2;exact ⟨u,r,.inr ⟨.inl hk,c,hc,hc'⟩⟩
      · rw [List.getElem?_set_ne (abO hj)] at e2;obtain ⟨u',r',q⟩:=hl j y v' e1 e2 e3;refine ⟨u',r',?_⟩;rcases q with q|⟨k,c',e,z'⟩
        · exact .inl q
        · refine .inr ⟨k,c',e,z'.sameBut hs ?_⟩;rintro rfl;exact hj (lU hN e1 (I.ok.inj _ _ _ e hc ▸ hi))
    · by_cases hcc:c'=c
      · subst hcc;exact ⟨_,hc'⟩
      · obtain ⟨w2,z2⟩:=I.cell y c' e;exact ⟨w2,z2.sameBut hs hcc⟩
    · obtain ⟨e,n,ne,nf,d⟩:=I.pin p hp;refine ⟨(hs.2 p.1 ?_).trans e,n,ne,nf,d⟩;intro q;rw [q,hoc] at e;have q':oc=p.2:=aaW e;exact d w' (by rw [← q'];exact hocd)
theorem fW {M:Model} {A:Around} {E:Value→Shared→Prop} {i:Nat} {x:Str} {v:V} {u:Value} {Q:Unit→Shared→Prop} (I:Inv X pins σ H s) (hN:X.N.Nodup) (hi:X.N[i]?=some x) (hx:Loc X.env.scope x) (r:RelV v u)
    (h:∀ s',Inv X pins (σ.set i (some v)) H s'→Q () s') (hf:X.fn x=true∨X.env.scope.names.lookup x=some .local:=by first|exact .inl rfl|exact .inr rfl|assumption):wpAny M A (storeName X.env x u) Q E s :=
  oq I hN hi hx r (fun s' I' _=>h s' I') hf
theorem Inv.call' {s':Shared} {ch:List Addr} (I:Inv X pins σ H s) (ho:s'.os=s.os) (u:Un (frs X.stack) ch H H' s.heap s'.heap) (hok:HOk X.prog X.w H' s'.heap) (hg:AllBare s'.gens)
    (hch:∀ b∈ch,(b∈X.ex∨X.s₀.heap.objs.size≤b)∧b≠X.env.locals∧(∀ x c,X.env.cells.lookup x=some c→c≠b)∧∀ p∈X.pn++pins,p.1≠b):Inv X pins σ H' s':=by
  obtain ⟨h',g',d',t',o'⟩:=s';have e:o'=s.os:=ho;subst e;exact I.call (g':=g') (t':=t') (d':=d') u hok hg hch
end
abbrev XK:=Value→Option Addr→Hp→Prop
abbrev St:=List (Option V)
abbrev VK:=V→Hp→Prop
abbrev TE:=St→Hp→VK→Prop
abbrev TT:=St→Hp→(Bool→Hp→Prop)→Prop
abbrev TA:=St→Hp→(List V→Hp→Prop)→Prop
structure Ends where
  nx:St→Hp→Prop
  rt:VK
  bk:St→Hp→Prop:=fun _ _=>False
  ct:St→Hp→Prop:=fun _ _=>False
abbrev TS:=Ends→St→Hp→Prop
def EP (X:Cx) (pins:List (Addr × Obj)) (σ:St) (Q:VK) (u:Value) (s':Shared):Prop:=∃ v H',Inv X pins σ H' s'∧RelV v u∧Q v H'
def TP (X:Cx) (pins:List (Addr × Obj)) (σ:St) (Q:Bool→Hp→Prop) (b:Bool) (s':Shared):Prop:=∃ H',Inv X pins σ H' s'∧Q b H'
def AP (X:Cx) (pins:List (Addr × Obj)) (σ:St) (Q:List V→Hp→Prop) (us:List Value) (s':Shared):Prop:=∃ vs H',Inv X pins σ H' s'∧Vals vs us∧Q vs H'
def SP (X:Cx) (pins:List (Addr × Obj)) (D:Ends) (f:Flow) (s':Shared):Prop :=
  match f with
  | .next=>∃ σ' H',Inv X pins σ' H' s'∧D.nx σ' H'
  | .brk=>∃ σ' H',Inv X pins σ' H' s'∧D.bk σ' H'
  | .cont=>∃ σ' H',Inv X pins σ' H' s'∧D.ct σ' H'
  | .ret u=>∃ v σ' H',Inv X pins σ' H' s'∧RelV v u∧D.rt v H'
def PE (X:Cx) (e:Expr) (t:TE):Prop :=
  ∀ (pins:List (Addr × Obj)) (s:Shared) (σ:St) (H:Hp) (Q:VK),Inv X pins σ H s→t σ H Q→wpAny (model X.prog X.w) X.A (eval e X.env) (EP X pins σ Q) X.xe s
def PT (X:Cx) (e:Expr) (t:TT):Prop :=
  ∀ (pins:List (Addr × Obj)) (s:Shared) (σ:St) (H:Hp) (Q:Bool→Hp→Prop),Inv X pins σ H s→t σ H Q→wpAny (model X.prog X.w) X.A (isTrue e X.env (eval e X.env)) (TP X pins σ Q) X.xe s
def PW (X:Cx) (e:Expr) (t:TT):Prop :=
  ∀ (whole:Sem Value) (pins:List (Addr × Obj)) (s:Shared) (σ:St) (H:Hp) (Q:Bool→Hp→Prop),Inv X pins σ H s→t σ H Q→wpAny (model X.prog X.w) X.A (isTrue e X.env whole) (TP X pins σ Q) X.xe s
theorem PW.pt {X:Cx} {e:Expr} {t:TT} (h:PW X e t):PT X e t:=h _
def PA (X:Cx) (es:List Expr) (t:TA):Prop :=
  ∀ (pos:Pos) (pins:List (Addr × Obj)) (s:Shared) (σ:St) (H:Hp) (Q:List V→Hp→Prop),Inv X pins σ H s→t σ H Q→wpAny (model X.prog X.w) X.A (spliced (backTo pos (starEach es X.env))) (AP X pins σ Q) X.xe s
def PS (X:Cx) (st:Stmt) (t:TS):Prop :=
  ∀ (pins:List (Addr × Obj)) (s:Shared) (σ:St) (H:Hp) (D:Ends),Inv X pins σ H s→t D σ H→wpAny (model X.prog X.w) X.A (exec st X.env) (SP X pins D) X.xe s
def PSs (X:Cx) (st:List Stmt) (t:TS):Prop :=
  ∀ (pins:List (Addr × Obj)) (s:Shared) (σ:St) (H:Hp) (D:Ends),Inv X pins σ H s→t D σ H→wpAny (model X.prog X.w) X.A (execs st X.env) (SP X pins D) X.xe s
theorem thn {α:Type} {t:Sem α} {Q Q':α→Shared→Prop} {M:Model} {A:Around} {E:Value→Shared→Prop} {s:Shared} (h:wpAny M A t Q E s) (hQ:∀ a s,Q a s→Q' a s):wpAny M A t Q' E s:=wpAny_mono h hQ fun _ _ x=>x
open PySem PySem.Spec PyProof.Rows
section
variable {X:Cx}
def tf (i:Nat):TE:=fun σ H Q=>∃ v,σ[i]?=some (some v)∧Q v H
def tC (v:V):TE:=fun _ H Q=>Q v H
theorem sj {i:Nat} {x:Str} {pos:Pos} (hN:X.N[i]?=some x) (hv:Vis X.env.scope x) (hd:(x == ("__debug__":Str))=false:=by decide) (hcd:(x == ("__classdict__":Str))=false:=by decide):PE X (.Name x pos) (tf i):=by
  intro pins s σ H Q I h;obtain ⟨v,e,h⟩:=h;obtain ⟨m,hn,hl⟩:=I.loc;obtain ⟨u,r,l⟩:=hl i x v hN e hv;have fin:EP X pins σ Q u s:=⟨v,H,I,r,h⟩
  rcases l with ⟨hk,hm⟩|⟨hk,c,hc,hcell⟩
  · exact wpAny_Name (wpAny_loadName_local I.ok.kind hk hn hm fin) hd
  · rcases hk with hk|hk
    · exact wpAny_Name (wpAny_loadName_cell I.ok.kind hk hc hcell fin) hd
    · exact wpAny_Name (wpAny_loadName_free I.ok.kind hk hc hcell fin hcd) hd
theorem ag {i j pos}:PE X (.Constant (.int i) j pos) (tC (.int i)):=fun _ _ _ H _ I h=>wpAny_Constant_int ⟨.int i,H,I.tok _,⟨_,rfl⟩,h⟩
theorem fq {b j pos}:PE X (.Constant (.bool b) j pos) (tC (.bl b)):=fun _ _ _ H _ I h=>Constant_bool ⟨.bl b,H,I,rfl,h⟩
theorem ku {j pos}:PE X (.Constant .none j pos) (tC .non):=fun _ _ _ H _ I h=>Constant_none ⟨.non,H,I,rfl,h⟩
theorem ay {x j pos}:PE X (.Constant (.str x) j pos) (tC (.str x)):=fun _ _ _ H _ I h=>Calls.Constant_str ⟨.str x,H,I.tok _,⟨_,rfl⟩,h⟩
def Gl (X:Cx) (x:Str):Prop:=X.env.kindOf x=some .globalImplicit
theorem nQ {E:Value→Shared→Prop} {pins:List (Addr × Obj)} {s:Shared} {σ:St} {H:Hp} {x:Str} {u:Value} {pos:Pos} {Q:Value→Shared→Prop} (I:Inv X pins σ H s) (hg:Gl X x) (hm:X.mg x=some u) (h:Q u s)
    (hd:(x == ("__debug__":Str))=false:=by decide):wpAny (model X.prog X.w) X.A (eval (.Name x pos) X.env) Q E s :=
  Calls.Name_function_global I.ok.kind hg (Calls.loadGlobal_global (by rw [I.ok.glob];exact I.mod.glob.keeps I.bk) hm h) hd
theorem hW {E:Value→Shared→Prop} {pins:List (Addr × Obj)} {s:Shared} {σ:St} {H:Hp} {x:Str} {u:Value} {pos:Pos} {Q:Value→Shared→Prop} (I:Inv X pins σ H s) (hg:Gl X x) (hm:X.mg x=none) (hv:bootBuiltins x=some u) (h:Q u s)
    (hn:x ≠ "__name__":=by decide) (hd:(x == ("__debug__":Str))=false:=by decide):wpAny (model X.prog X.w) X.A (eval (.Name x pos) X.env) Q E s:=by
  obtain ⟨mb,h1,h2⟩:=I.mod.blt;exact Calls.Name_function_global I.ok.kind hg (Calls.loadGlobal_builtin (by rw [I.ok.glob];exact I.mod.glob.keeps I.bk) hm (by rw [I.ok.blt];exact h1.keeps I.bk) ((h2 x hn).trans hv) h) hd
theorem dY {x:Str} {v:V} {u:Value} {pos:Pos} (hg:Gl X x) (hm:X.mg x=some u) (r:RelV v u) (hd:(x == ("__debug__":Str))=false:=by decide):PE X (.Name x pos) (tC v) :=
  fun _ _ _ H _ I h=>nQ I hg hm ⟨v,H,I,r,h⟩ hd
theorem bh {x:Str} {v:V} {u:Value} {pos:Pos} (hg:Gl X x) (hm:X.mg x=none) (hv:bootBuiltins x=some u) (r:RelV v u) (hn:x ≠ "__name__":=by decide) (hd:(x == ("__debug__":Str))=false:=by decide):PE X (.Name x pos) (tC v) :=
  fun _ _ _ H _ I h=>hW I hg hm hv ⟨v,H,I,r,h⟩ hn hd
variable {a b:Expr} {ta tb:TE} {pos:Pos}
def tB (t:TE):TT:=fun σ H Q=>t σ H fun x H1=>∃ c,x=.bl c∧Q c H1
theorem aQ {e:Expr} {t:TE} (h:PE X e t) (he:∀ whole,isTrue e X.env whole=(do let v ← whole;standAt e.pos;holding [v] (truthy v)):=by intro _;rfl):PT X e (tB t):=by
  intro pins s σ H Q I hw;refine isTrue_plain (thn (h pins s σ H _ I hw) fun v s1 ⟨x,H1,I1,r1,q1⟩=>?_) (he _);obtain ⟨d,rfl,q⟩:=q1;cases r1;exact wpAny_truthy_bool ⟨H1,I1,q⟩
variable {tA tB':TT} {cZ:List Expr}
def uB (t u:TT):TT:=fun σ H Q=>t σ H fun c H1=>if c=true then u σ H1 Q else Q false H1
def tOr (t u:TT):TT:=fun σ H Q=>t σ H fun c H1=>if c=true then Q true H1 else u σ H1 Q
def up (t:TT):TT:=fun σ H Q=>t σ H fun c H1=>Q (!c) H1
theorem df (ha:PT X a tA):PW X (.BoolOp .And [a] pos) tA:=by
  intro wh pins s σ H Q I h;refine isTrue_and (thn (ha pins s σ H Q I h) fun c s1 e=>?_);cases c with
  | true=>exact isTrue_and_nil e
  | false=>exact e
theorem eQ (ha:PT X a tA):PW X (.BoolOp .Or [a] pos) tA:=by
  intro wh pins s σ H Q I h;refine isTrue_or (thn (ha pins s σ H Q I h) fun c s1 e=>?_);cases c with
  | false=>exact isTrue_or_nil e
  | true=>exact e
theorem cV (ha:PT X a tA) (hb:PW X (.BoolOp .And (b :: cZ) pos) tB'):PW X (.BoolOp .And (a :: b :: cZ) pos) (uB tA tB'):=by
  intro wh pins s σ H Q I h;refine isTrue_and (thn (ha pins s σ H _ I h) fun c s1 ⟨H1,I1,q1⟩=>?_);cases c with
  | true=>exact hb wh pins s1 σ H1 Q I1 q1
  | false=>exact ⟨H1,I1,q1⟩
theorem eR (ha:PT X a tA) (hb:PW X (.BoolOp .Or (b :: cZ) pos) tB'):PW X (.BoolOp .Or (a :: b :: cZ) pos) (tOr tA tB'):=by
  intro wh pins s σ H Q I h;refine isTrue_or (thn (ha pins s σ H _ I h) fun c s1 ⟨H1,I1,q1⟩=>?_);cases c with
  | true=>exact ⟨H1,I1,q1⟩
  | false=>exact hb wh pins s1 σ H1 Q I1 q1
theorem bM (ha:PT X a tA):PT X (.UnaryOp .Not a pos) (up tA):=by
  intro pins s σ H Q I h;exact isTrue_not (ha pins s σ H (fun c H1=>Q (!c) H1) I h)
def tG (ta tb:TE):TE:=fun σ H Q=>ta σ H fun x H1=>∃ c,x=.bl c∧if c=true then tb σ H1 Q else Q (.bl false) H1
def tq (ta:TE):TE:=fun σ H Q=>ta σ H fun x H1=>∃ c,x=.bl c∧Q (.bl (!c)) H1
theorem gX {op} {t:TE} (h:PE X a t):PE X (.BoolOp op [a] pos) t:=fun pins s σ H Q I hw=>BoolOp_one (h pins s σ H Q I hw)
theorem fQ (ha:PE X a ta) (hb:PE X (.BoolOp .And (b :: cZ) pos) tb):PE X (.BoolOp .And (a :: b :: cZ) pos) (tG ta tb):=by
  intro pins s σ H Q I h;refine BoolOp_and (thn (ha pins s σ H _ I h) fun v s1 ⟨x,H1,I1,r1,q1⟩=>?_);obtain ⟨c,rfl,q1⟩:=q1;cases r1;refine wpAny_truthy_bool ?_;cases c with
  | true=>exact hb pins s1 σ H1 Q I1 q1
  | false=>exact ⟨.bl false,H1,I1,rfl,q1⟩
theorem pE (ha:PE X a ta):PE X (.UnaryOp .Not a pos) (tq ta):=by
  intro pins s σ H Q I h;refine UnaryOp_ (thn (ha pins s σ H _ I h) fun v s1 ⟨x,H1,I1,r1,q1⟩=>?_);obtain ⟨c,rfl,q1⟩:=q1;cases r1;exact not_of (wpAny_truthy_bool ⟨.bl (!c),H1,I1,rfl,q1⟩)
def tIf (t:TT) (ta tb:TE):TE:=fun σ H Q=>t σ H fun c H1=>if c=true then ta σ H1 Q else tb σ H1 Q
theorem eV {c:Expr} (hc:PT X c tA) (ha:PE X a ta) (hb:PE X b tb):PE X (.IfExp c a b pos) (tIf tA ta tb):=by
  intro pins s σ H Q I h;refine wpAny_IfExp (thn (hc pins s σ H _ I h) fun d s1 ⟨H1,I1,q1⟩=>?_);cases d with
  | true=>exact ha pins s1 σ H1 Q I1 q1
  | false=>exact hb pins s1 σ H1 Q I1 q1
end
open PySem PySem.Spec PyProof.Rows
def SqL (K:aaa) (H:Hp) (a:Addr) (xs:List V):Prop :=
  Rd H a (.lst xs) ∨
    ∃ (o:Obj) (its:Array Value) (n:Nat),K.lookup a=some o∧o.cls=.type "list"∧o.dict=none∧o.data=.seq its n∧its.size≤sizeLine∧Vals xs its.toList
def SqT (K:aaa) (H:Hp) (a:Addr) (xs:List V):Prop :=
  Rd H a (.tup xs) ∨
    ∃ (o:Obj) (its:Array Value) (n:Nat),K.lookup a=some o∧o.cls=.type "tuple"∧o.data=.seq its n∧its.size≤sizeLine∧Vals xs its.toList
def uQ:Value→Option V
  | .none=>some .non
  | .bool b=>some (.bl b)
  | .int i _=>some (.int i)
  | .str x _=>some (.str x)
  | .bytes b _=>some (.byt b)
  | .float b _=>some (.flt b)
  | .ref a=>some (.ref a)
  | .type n=>some (.ty n)
  | _=>none
theorem RelV.abs {x:V} {u:Value} (r:RelV x u):uQ u=some x:=by
  cases x with
  | non=>cases r;rfl
  | bl _=>cases r;rfl
  | int _=>obtain ⟨t,rfl⟩:=r;rfl
  | str _=>obtain ⟨t,rfl⟩:=r;rfl
  | byt _=>obtain ⟨t,rfl⟩:=r;rfl
  | flt _=>obtain ⟨t,rfl⟩:=r;rfl
  | ref _=>cases r;rfl
  | ty _=>cases r;rfl
theorem RelV.inj {x y:V} {u:Value} (r:RelV x u) (q:RelV y u):x=y:=aaW (r.abs.symm.trans q.abs)
theorem Vals.inj {xs ys:List V} {us:List Value} (h:Vals xs us) (h':Vals ys us):xs=ys:=by
  induction h generalizing ys with
  | nil=>cases h';rfl
  | cons r t ih =>
    cases h' with
    | cons r' t'=>rw [r.inj r',ih t']
section
variable {X:Cx} {pins:List (Addr × Obj)} {σ:St} {H:Hp} {s:Shared} {a:Addr} {xs ys:List V}
theorem SqL.of {K:aaa} (h:H a=some (.lst xs)):SqL K H a xs:=.inl (.inl h)
theorem SqT.of {K:aaa} (h:H a=some (.tup xs)):SqT K H a xs:=.inl (.inl h)
theorem Inv.list (I:Inv X pins σ H s) (h:SqL X.K H a xs):∃ its:List Value,Vals xs its∧PlainL s.heap a its.toArray∧xs.length≤sizeLine:=by
  rcases h with h|⟨o,its,n,hk,hc,hd,hs,hz,r⟩
  · obtain ⟨z,its,n,r,e⟩:=h.ok I.hok;exact ⟨its,r,⟨_,n,e,rfl,rfl,rfl⟩,z⟩
  · refine ⟨its.toList,r,⟨o,n,I.kIn a o hk,hc,hd,by simpa using hs⟩,?_⟩;have e:=r.length;simp only [Array.length_toList] at e;lia
theorem Inv.tuple (I:Inv X pins σ H s) (h:SqT X.K H a xs):∃ its:List Value,Vals xs its∧IsTup s.heap a its.toArray∧xs.length≤sizeLine:=by
  rcases h with h|⟨o,its,n,hk,hc,hs,hz,r⟩
  · obtain ⟨z,its,r,p⟩:=h.ok I.hok;exact ⟨its,r,p,z⟩
  · refine ⟨its.toList,r,⟨o,I.kIn a o hk,hc,n,by simpa using hs⟩,?_⟩;have e:=r.length;simp only [Array.length_toList] at e;lia
theorem Inv.list_inj (I:Inv X pins σ H s) (h:SqL X.K H a xs) (h':SqL X.K H a ys):xs=ys:=by
  obtain ⟨its,r,⟨o,n,e,_,_,d⟩,_⟩:=I.list h;obtain ⟨its',r',⟨o',n',e',_,_,d'⟩,_⟩:=I.list h';rw [e] at e';cases e';rw [d] at d';injection d' with d1 _
  have : its=its':=by simpa using congrArg Array.toList d1
  subst this;exact r.inj r'
theorem Inv.tuple_inj (I:Inv X pins σ H s) (h:SqT X.K H a xs) (h':SqT X.K H a ys):xs=ys:=by
  obtain ⟨its,r,⟨o,e,_,n,d⟩,_⟩:=I.tuple h;obtain ⟨its',r',⟨o',e',_,n',d'⟩,_⟩:=I.tuple h';rw [e] at e';cases e';rw [d] at d';injection d' with d1 _
  have : its=its':=by simpa using congrArg Array.toList d1
  subst this;exact r.inj r'
end
abbrev Cx.wish (X:Cx) (E:Value→Shared→Prop):Cx:={ X with xe:=E }
abbrev Cx.nox (X:Cx):Cx:=X.wish fun _ _=>False
theorem Cx.Ok.wish {X:Cx} (ok:X.Ok) (E:Value→Shared→Prop):(X.wish E).Ok :=
  ⟨ok.mod,ok.kind,ok.glob,ok.blt,ok.above,ok.inj,ok.has,ok.cab,ok.hd,ok.frames,ok.stk,ok.exf,ok.bs,ok.bsz,ok.noex,ok.exfs,ok.funs,ok.frf⟩
theorem Cx.Ok.unwish {X:Cx} {E:Value→Shared→Prop} (ok:(X.wish E).Ok):X.Ok :=
  ⟨ok.mod,ok.kind,ok.glob,ok.blt,ok.above,ok.inj,ok.has,ok.cab,ok.hd,ok.frames,ok.stk,ok.exf,ok.bs,ok.bsz,ok.noex,ok.exfs,ok.funs,ok.frf⟩
section
variable {X:Cx} {pins:List (Addr × Obj)} {σ:St} {H:Hp} {s:Shared} {E:Value→Shared→Prop}
theorem Inv.wish (I:Inv X pins σ H s) (E:Value→Shared→Prop):Inv (X.wish E) pins σ H s:=⟨I.ok.wish E,I.os,I.bare,I.base,I.loc,I.cell,I.free,I.freeC,I.pin,I.hok,I.len⟩
theorem Inv.unwish (I:Inv (X.wish E) pins σ H s):Inv X pins σ H s:=⟨I.ok.unwish,I.os,I.bare,I.base,I.loc,I.cell,I.free,I.freeC,I.pin,I.hok,I.len⟩
theorem SP.unwish {D:Ends} {f:Flow} {s':Shared} (h:SP (X.wish E) pins D f s'):SP X pins D f s':=by
  cases f with
  | next=>obtain ⟨σ',H',I,q⟩:=h;exact ⟨σ',H',I.unwish,q⟩
  | brk=>obtain ⟨σ',H',I,q⟩:=h;exact ⟨σ',H',I.unwish,q⟩
  | cont=>obtain ⟨σ',H',I,q⟩:=h;exact ⟨σ',H',I.unwish,q⟩
  | ret u=>obtain ⟨v,σ',H',I,r,q⟩:=h;exact ⟨v,σ',H',I.unwish,r,q⟩
theorem PSs.nox {st:List Stmt} {t:TS} (h:PSs X.nox st t):PSs X st t:=fun pins s σ H D I hw =>
  wpAny_mono (h pins s σ H D (I.wish _) hw) (fun _ _ q=>q.unwish) fun _ _ z=>abF z
end
section
variable {X:Cx} {st:Stmt} {cZ:List Stmt} {t u:TS} {e:Expr} {te:TE} {pos:Pos}
def tu:TS:=fun D σ H=>D.nx σ H
def uo (t u:TS):TS:=fun D σ H=>t { D with nx:=u D } σ H
theorem aB:PSs X [] tu:=fun _ _ σ H _ I h=>wpAny_execs_nil ⟨σ,H,I,h⟩
theorem ae (h1:PS X st t) (h2:PSs X cZ u):PSs X (st :: cZ) (uo t u):=by
  intro pins s σ H D I h;refine wpAny_execs_cons (thn (h1 pins s σ H { D with nx:=u D } I h) fun f s1 q=>?_);cases f with
  | next =>
    obtain ⟨σ',H',I',q⟩:=q;exact h2 pins s1 σ' H' D I' q
  | ret v=>exact q
  | brk=>exact q
  | cont=>exact q
theorem af (h1:PS X st t):PSs X [st] t:=by
  intro pins s σ H D I h;refine wpAny_execs_cons (thn (h1 pins s σ H D I h) fun f s1 q=>?_);cases f with
  | next=>exact wpAny_execs_nil q
  | ret v=>exact q
  | brk=>exact q
  | cont=>exact q
theorem Inv.quiet {pins:List (Addr × Obj)} {σ:St} {H:Hp} {s:Shared} (I:Inv X pins σ H s):interactive X.env=false:=by simp [interactive,I.ok.kind]
def tz (te:TE):TS:=fun D σ H=>te σ H fun _ H1=>D.nx σ H1
theorem bR (he:PE X e te) (hs:swapsWith e none pos.line X.env=pure false:=by rfl):PS X (.Expr e pos) (tz te):=by
  intro pins s σ H D I h;exact wpAny_Expr_any (thn (he pins s σ H _ I h) fun v s1 ⟨x,H1,I1,r1,q1⟩=>⟨σ,H1,I1,q1⟩) I.quiet hs
def tj (te:TE):TS:=fun D σ H=>te σ H D.rt
theorem aq (he:PE X e te):PS X (.Return (some e) pos) (tj te):=by
  intro pins s σ H D I h;exact wpAny_Return_some (thn (he pins s σ H _ I h) fun v s1 ⟨x,H1,I1,r1,q1⟩=>⟨x,σ,H1,I1,r1,q1⟩)
def tw (c:TT) (t u:TS):TS:=fun D σ H=>c σ H fun b H1=>if b=true then t D σ H1 else u D σ H1
theorem aL {c:Expr} {a b:List Stmt} {tc:TT} (hc:PT X c tc) (ha:PSs X a t) (hb:PSs X b u):PS X (.If c a b pos) (tw tc t u):=by
  intro pins s σ H D I h;refine wpAny_If (thn (hc pins s σ H _ I h) fun d s1 ⟨H1,I1,q1⟩=>?_);cases d with
  | true=>exact ha pins s1 σ H1 D I1 q1
  | false=>exact hb pins s1 σ H1 D I1 q1
def rQ:TS:=fun _ _ _=>False
theorem eS:PS X st rQ:=fun _ _ _ _ _ _ h=>h.elim
end
abbrev TG:=V→St→Hp→(St→Hp→Prop)→Prop
abbrev TGs:=List V→St→Hp→(St→Hp→Prop)→Prop
def PG (X:Cx) (target:Expr) (t:TG):Prop :=
  ∀ (pins:List (Addr × Obj)) (s:Shared) (σ:St) (H:Hp) (v:V) (u:Value) (Q:St→Hp→Prop),Inv X pins σ H s→RelV v u→t v σ H Q →
    wpAny (model X.prog X.w) X.A (assign target X.env u) (fun _ s'=>∃ σ' H',Inv X pins σ' H' s'∧Q σ' H') X.xe s
def PGs (X:Cx) (ts:List Expr) (t:TGs):Prop :=
  ∀ (pins:List (Addr × Obj)) (s:Shared) (σ:St) (H:Hp) (vs:List V) (us:List Value) (Q:St→Hp→Prop),Inv X pins σ H s→Vals vs us→t vs σ H Q →
    wpAny (model X.prog X.w) X.A (assignInOrder ((assignEach ts X.env).map (·.2)) us) (fun _ s'=>∃ σ' H',Inv X pins σ' H' s'∧Q σ' H') X.xe s
abbrev sT:=V→V→V→Hp→(Hp→Prop)→Prop
def ui (X:Cx) (t:sT):Prop :=
  ∀ (pins:List (Addr × Obj)) (s:Shared) (σ:St) (H:Hp) (o i v:V) (ov iv u:Value) (Q:Hp→Prop),Inv X pins σ H s→RelV o ov→RelV i iv→RelV v u→t o i v H Q →
    wpAny (model X.prog X.w) X.A (setItem ov iv u) (fun _ s'=>∃ H',Inv X pins σ H' s'∧Q H') X.xe s
abbrev TIp:=V→V→Hp→VK→Prop
def PIp (X:Cx) (op:Operator) (t:TIp):Prop :=
  ∀ (pins:List (Addr × Obj)) (s:Shared) (σ:St) (H:Hp) (x y:V) (v u:Value) (Q:VK),Inv X pins σ H s→RelV x v→RelV y u→t x y H Q →
    wpAny (model X.prog X.w) X.A (inplaceOp op v u) (EP X pins σ Q) X.xe s
section
variable {X:Cx} {pos:Pos}
def pU (i:Nat):TG:=fun v σ H Q=>Q (σ.set i (some v)) H
theorem aj {i:Nat} {x:Str} (hN:X.N.Nodup) (hi:X.N[i]?=some x) (hx:Loc X.env.scope x) (hf:X.fn x=true∨X.env.scope.names.lookup x=some .local:=by first|exact .inl rfl|exact .inr rfl|assumption):PG X (.Name x pos) (pU i):=by
  intro pins s σ H v u Q I r h;exact wpAny_assign_Name (fW I hN hi hx r (fun s' I'=>⟨_,H,I',h⟩) hf)
def uN:TGs:=fun vs σ H Q=>vs=[]∧Q σ H
def ub (t:TG) (u:TGs):TGs:=fun vs σ H Q=>∃ v r,vs=v :: r∧t v σ H fun σ' H'=>u r σ' H' Q
theorem aU:PGs X [] uN:=by
  intro pins s σ H vs us Q I r h;obtain ⟨e,h⟩:=h;subst e;cases r;exact assignInOrder_nil ⟨σ,H,I,h⟩
theorem ap {e:Expr} {es:List Expr} {t:TG} {u:TGs} (h1:PG X e t) (h2:PGs X es u)
    (hs:(assignEach (e :: es) X.env).map (·.2)=assign e X.env :: (assignEach es X.env).map (·.2):=by rfl):PGs X (e :: es) (ub t u):=by
  intro pins s σ H vs us Q I r h;obtain ⟨v,vr,e1,h⟩:=h;subst e1;cases r with
  | cons r rr =>
    rw [hs];refine assignInOrder_cons (thn (h1 pins s σ H _ _ _ I r h) fun _ s1 ⟨σ1,H1,I1,q1⟩=>?_);exact h2 pins s1 σ1 H1 _ _ Q I1 rr q1
def ua (K:aaa) (n:Nat) (t:TGs):TG:=fun v σ H Q=>∃ a xs,v=.ref a∧SqT K H a xs∧xs.length=n∧t xs σ H Q
theorem bX {es:List Expr} {k:Nat} {t:TGs} {n:Nat} (hc:X.calm=true) (h:PGs X es t)
    (hn:(assignEach es X.env).length=n:=by rfl) (hst:(assignEach es X.env).findIdx? (·.1)=none:=by rfl):PG X (.Tuple es k pos) (ua X.K n t):=by
  intro pins s σ H v u Q I r hw;obtain ⟨a,xs,e1,hq,hl,hw⟩:=hw;subst e1;cases r;obtain ⟨its,rv,ht,hz⟩:=I.tuple hq;refine assign_Tuple_tuple (I.ok.hd hc) ht (by simp [hn,← hl,rv.length]) hst fun h' hx=>?_;have I1:Inv X pins σ H { s with heap:=h' }:=I.kept (t':=s.toks) fun b o e=>hx b o (aaA (aaq e)) e;exact h pins _ σ H xs _ Q I1 (by simpa using rv) hw
def uM (to ti:TE) (t:sT):TG:=fun v σ H Q=>to σ H fun o H1=>ti σ H1 fun i H2=>t o i v H2 fun H3=>Q σ H3
theorem pz {o i:Expr} {to ti:TE} {t:sT} (ho:PE X o to) (hi:PE X i ti) (hs:ui X t)
    (ha:∀ v,assign (.Subscript o i pos) X.env v=(do
      let ov ← holding [v] (eval o X.env)
      let iv ← holding [v,ov] (eval i X.env)
      standAt pos
      holding [v,ov,iv] (setItem ov iv v)
      release [v,ov,iv] []):=by intro _;rfl):PG X (.Subscript o i pos) (uM to ti t):=by
  intro pins s σ H v u Q I r h;rw [ha];refine wpAny_bind (wpAny_holding (thn (ho pins s σ H _ I h) fun ov s1 ⟨x,H1,I1,r1,q1⟩=>?_));refine wpAny_bind (wpAny_holding (thn (hi pins s1 σ H1 _ I1 q1) fun iv s2 ⟨y,H2,I2,r2,q2⟩=>?_));refine wpAny_bind (wpAny_standAt (wpAny_bind (wpAny_holding (thn (hs pins s2 σ H2 x y v ov iv u _ I2 r1 r2 r q2) fun _ s3 ⟨H3,I3,q3⟩=>?_))));exact wpAny_release ⟨σ,H3,I3,q3⟩
def rU (te:TE) (g:TG):TS:=fun D σ H=>te σ H fun x H1=>g x σ H1 D.nx
theorem bW {tg e:Expr} {te:TE} {g:TG} (he:PE X e te) (hg:PG X tg g) (hs:swapsWithSole [tg] e pos.line X.env=pure false:=by rfl) (hw:swappedStores [tg] e X.env=pure none:=by rfl)
    (h1:(assignEach [tg] X.env).map (·.2)=[assign tg X.env]:=by rfl):PS X (.Assign [tg] e pos) (rU te g):=by
  intro pins s σ H D I h;refine wpAny_Assign_stores (thn (he pins s σ H _ I h) fun v s1 ⟨x,H1,I1,r1,q1⟩=>?_) hs hw;rw [h1];exact thn (hg pins s1 σ H1 x v _ I1 r1 q1) fun _ s2 q=>q
theorem aC {i:Nat} {x:Str} {e:Expr} {te:TE} {pos':Pos} (hN:X.N.Nodup) (hi:X.N[i]?=some x) (hx:Loc X.env.scope x) (he:PE X e te) (hs:swapsWith e (some (.Name x pos')) pos.line X.env=pure false:=by rfl) (hf:X.fn x=true∨X.env.scope.names.lookup x=some .local:=by first|exact .inl rfl|exact .inr rfl|assumption) :
    PS X (.Assign [.Name x pos'] e pos) (rU te (pU i)):=by
  intro pins s σ H D I h;refine wpAny_Assign_Name (thn (he pins s σ H _ I h) fun v s1 ⟨y,H1,I1,r1,q1⟩=>?_) hs;exact fW I1 hN hi hx r1 (fun s2 I2=>⟨_,H1,I2,q1⟩) hf
def uA (i:Nat) (te:TE) (ti:TIp):TS:=fun D σ H=>∃ x,σ[i]?=some (some x)∧te σ H fun y H1=>ti x y H1 fun z H2=>D.nx (σ.set i (some z)) H2
theorem pk {i:Nat} {x:Str} {e:Expr} {te:TE} {op:Operator} {ti:TIp} {pos':Pos} (hN:X.N.Nodup) (hi:X.N[i]?=some x) (hx:Loc X.env.scope x) (he:PE X e te) (ho:PIp X op ti) (hf:X.fn x=true∨X.env.scope.names.lookup x=some .local:=by first|exact .inl rfl|exact .inr rfl|assumption) :
    PS X (.AugAssign (.Name x pos') op e pos) (uA i te ti):=by
  intro pins s σ H D I h;obtain ⟨v,e1,h⟩:=h;obtain ⟨m,hn,hl⟩:=I.loc;have vis:Vis X.env.scope x:=by rcases hx with k|k;exact .inl k;exact .inr (.inl k)
  obtain ⟨u,r,l⟩:=hl i x v hi e1 vis;refine wpAny_AugAssign_Name ?_;have go:wpAny (model X.prog X.w) X.A (eval e X.env) (fun w s₂=>wpAny (model X.prog X.w) X.A (inplaceOp op u w) (fun r s₃=>wpAny (model X.prog X.w) X.A (storeName X.env x r) (fun _=>SP X pins D .next) X.xe s₃) X.xe s₂) X.xe s:=by
    refine thn (he pins s σ H _ I h) fun w s1 ⟨y,H1,I1,r1,q1⟩=>?_;refine thn (ho pins s1 σ H1 v y u w _ I1 r r1 q1) fun z s2 ⟨zv,H2,I2,r2,q2⟩=>?_;exact fW I2 hN hi hx r2 (fun s3 I3=>⟨_,H2,I3,q2⟩) hf
  rcases l with ⟨hk,hm⟩|⟨hk,c,hc,hcell⟩
  · exact wpAny_loadName_local I.ok.kind hk hn hm go
  · rcases hk with hk|hk
    · exact wpAny_loadName_cell I.ok.kind hk hc hcell go
    · rcases hx with k|k
      · have : X.env.scope.names.lookup x=some .free:=hk;rw [k] at this;cases this
      · have : X.env.scope.names.lookup x=some .free:=hk;rw [k] at this;cases this
def ipI (f:Int→Int→Int):TIp:=fun x y H Q=>∃ i j,x=.int i∧y=.int j∧Q (.int (f i j)) H
theorem sO:PIp X .Add (ipI fun i j=>i+j):=by
  intro pins s σ H x y v u Q I r1 r2 h;obtain ⟨i,j,e1,e2,q⟩:=h;subst e1;subst e2;obtain ⟨t,rfl⟩:=r1;obtain ⟨t',rfl⟩:=r2;exact iadd_int ⟨.int _,H,I.tok _,⟨_,rfl⟩,q⟩
end
section
variable {X:Cx} {pos:Pos}
def rP (c:TT) (tb:TS):TS:=fun D σ H=>∃ W:Nat→St→Hp→Prop,(∃ m,W m σ H)∧∀ m σ H,W m σ H →
  c σ H fun b H1=>if b=true then ∃ N:St→Hp→Prop,(∀ σ' H',N σ' H'→∃ m',m' < m∧W m' σ' H')∧tb { D with nx:=N,ct:=N,bk:=D.nx } σ H1 else D.nx σ H1
theorem lC {c:Expr} {body:List Stmt} {tc:TT} {tb:TS} (hp:PassesOwn (model X.prog X.w) X.A X.env X.xe) (hc:PT X c tc) (hb:PSs X body tb):PS X (.While c body [] pos) (rP tc tb):=by
  intro pins s σ H D I h;obtain ⟨W,⟨m0,w0⟩,turn⟩:=h;refine wpAny_While (codeAny_whileLoop (fun n s'=>∃ σ' H',Inv X pins σ' H' s'∧W n σ' H') ?_ m0 ⟨σ,H,I,w0⟩);rintro n s1 ⟨σ1,H1,I1,w1⟩;refine wpAny_passesOwn hp (thn (hc pins s1 σ1 H1 _ I1 (turn n σ1 H1 w1)) fun b s2 ⟨H2,I2,q2⟩=>?_);cases b with
  | true =>
    obtain ⟨N,hN,q2⟩:=q2;rw [if_pos rfl];refine wpAny_passesOwn hp (thn (hb pins s2 σ1 H2 _ I2 q2) fun f s3 q3=>?_);cases f with
    | next =>
      obtain ⟨σ3,H3,I3,n3⟩:=q3;obtain ⟨m',hm,w3⟩:=hN σ3 H3 n3;exact ⟨m',hm,σ3,H3,I3,w3⟩
    | cont =>
      obtain ⟨σ3,H3,I3,n3⟩:=q3;obtain ⟨m',hm,w3⟩:=hN σ3 H3 n3;exact ⟨m',hm,σ3,H3,I3,w3⟩
    | brk=>exact q3
    | ret v=>exact q3
  | false =>
    rw [if_neg aai];exact wpAny_execs_nil ⟨σ1,H2,I2,q2⟩
end
structure It where
  go:Nat→Hp→Prop
  yld:Nat→Hp→V→Hp→Prop
  stop:Nat→Hp→Prop
def eh (X:Cx) (pins:List (Addr × Obj)) (H:Hp) (b:Addr):Prop :=
  H b=none∧b≠X.env.locals∧b∉X.fs∧(b∈X.ex∨X.s₀.heap.objs.size≤b)∧(∀ x c,X.env.cells.lookup x=some c→c≠b)∧∀ p∈X.pn++pins,p.1≠b
theorem Inv.fpOk {X:Cx} {pins:List (Addr × Obj)} {σ:St} {H H':Hp} {s:Shared} {b:Addr} (I:Inv X pins σ H s) (hb:s.heap.objs.size≤b) (hn:H' b=none):eh X pins H' b:=by
  refine ⟨hn,abj (aap I.lt hb),I.nofs hb,.inr (aaN I.sz hb),fun x c e z=>?_,fun p hp z=>?_⟩
  · obtain ⟨v,q⟩:=I.cell x c e;exact absurd (aap q.lt (by rw [z];exact hb)) (abI _)
  · exact absurd (aap (aaq (I.pin p hp).1) (by rw [z];exact hb)) (abI _)
structure Turn (P:Program) (w:World) (K:aaa) (tg:Expr) (J:It) (fp:List Addr) (it:Addr) (tn:Nat→Heap→Prop):Prop where
  mem:it∈fp
  obj:∀ i h,tn i h→∀ b∈fp,∃ o,h.get? b=some o∧∀ v,o.data≠.cell v
  keep:∀ i h h',tn i h→(∀ b∈fp,∀ o,h.get? b=some o→h'.get? b=some o)→tn i h'
  item:∀ (X:Cx),X.prog=P→X.w=w→X.K=K→X.calm=true→∀ (i:Nat) (pins:List (Addr × Obj)) (s:Shared) (σ:St) (H:Hp) (E:Value→Shared→Prop),Inv X pins σ H s→(∀ b∈fp,eh X pins H b)→tn i s.heap→J.go i H →
    wpAny (model P w) X.A (pyNext (.ref it)) (fun r s1=>∃ u,r=some u ∧
      wpAny (model P w) X.A (letOwnedTupleGo tg (.ref it) u) (fun _ s2=>∃ x H',Inv X pins σ H' s2∧RelV x u∧J.yld i H x H'∧tn (i+1) s2.heap∧∀ b∈fp,H' b=none) E s1) E s
  done:∀ (X:Cx),X.prog=P→X.w=w→X.K=K→X.calm=true→∀ (i:Nat) (pins:List (Addr × Obj)) (s:Shared) (σ:St) (H:Hp) (E:Value→Shared→Prop),Inv X pins σ H s→(∀ b∈fp,eh X pins H b)→tn i s.heap→J.stop i H →
    wpAny (model P w) X.A (pyNext (.ref it)) (fun r s1=>r=none∧Inv X pins σ H s1) E s
  self:∀ (A:Around) (i:Nat) (s:Shared) (Q:Value→Shared→Prop) (E:Value→Shared→Prop),tn i s.heap→Q (.ref it) s→wpAny (model P w) A (pyIter (.ref it)) Q E s
abbrev TI:=St→Hp→(It→Hp→Prop)→Prop
def PIE (X:Cx) (pins:List (Addr × Obj)) (σ:St) (tg:Expr) (R:It→Hp→Prop) (itv:Value) (s2:Shared):Prop :=
  ∃ (it:Addr) (fp:List Addr) (tn:Nat→Heap→Prop) (J:It) (H':Hp),itv=.ref it∧Inv X pins σ H' s2∧Turn X.prog X.w X.K tg J fp it tn∧tn 0 s2.heap∧(∀ b∈fp,eh X pins H' b)∧R J H'
def PI (X:Cx) (tg iter:Expr) (wi:TI):Prop :=
  ∀ (pins:List (Addr × Obj)) (s:Shared) (σ:St) (H:Hp) (R:It→Hp→Prop),Inv X pins σ H s→wi σ H R →
    wpAny (model X.prog X.w) X.A (eval iter X.env) (fun v s1=>wpAny (model X.prog X.w) X.A (pyIter v) (PIE X pins σ tg R) X.xe s1) X.xe s
theorem nX {M:Model} {A:Around} {E:Value→Shared→Prop} {s:Shared} {tg:Expr} {it:Addr} {u:Value} {o:Obj} {n:String} {vs:Array Value} {Q:Unit→Shared→Prop} (ho:s.heap.get? it=some o) (hc:o.cls=.type n) (hd:o.data=.fields vs)
    (hn:["enumerate","zip","dict_itemiterator","dict_reverseitemiterator","odict_iterator","itertools.zip_longest","itertools.pairwise"].contains n=false) (hQ:Q () s):wpAny M A (letOwnedTupleGo tg (.ref it) u) Q E s:=by
  unfold letOwnedTupleGo;cases tg <;> first
    | exact wpAny_pure hQ
    | (cases u <;> first
        | exact wpAny_pure hQ
        | (refine wpAny_bind (wpAny_load ho ?_)
           rw [hc,hd];show wpAny M A (if (["enumerate","zip","dict_itemiterator","dict_reverseitemiterator","odict_iterator","itertools.zip_longest","itertools.pairwise"].contains n && vs[0]? == some (rawInt _))=true then _ else _) Q E s;rw [if_neg (by intro h;rw [hn,Bool.false_and] at h;cases h)];exact wpAny_pure hQ))
def Itl (K:aaa) (a:Addr):It :=
  ⟨fun i H=>∃ xs x,SqL K H a xs∧xs[i]?=some x,fun i H x H'=>H'=H∧∀ xs,SqL K H a xs→xs[i]?=some x,fun i H=>∃ xs,SqL K H a xs∧xs.length≤i⟩
def Itt (K:aaa) (a:Addr):It :=
  ⟨fun i H=>∃ xs x,SqT K H a xs∧xs[i]?=some x,fun i H x H'=>H'=H∧∀ xs,SqT K H a xs→xs[i]?=some x,fun i H=>∃ xs,SqT K H a xs∧xs.length≤i⟩
def Itr (lo:Int) (n:Nat):It:=⟨fun i _=>i < n,fun i H x H'=>H'=H∧x=.int (lo+i),fun i _=>n≤i⟩
theorem oj {P:Program} {w:World} {K:aaa} {tg:Expr} (a it:Addr):Turn P w K tg (Itl K a) [it] it (fun i h=>h.IsListIter it a i) where
  mem:=by simp
  obj:=fun i h st b hb=>by
    have e:b=it:=by simpa using hb
    subst e;obtain ⟨o,e,c,d⟩:=st;exact ⟨o,e,fun v z=>by rw [d] at z;cases z⟩
  keep:=fun i h h' st k=>st.at fun o e=>k it (by simp) o e
  item:=by
    intro X hP hw hK hc i pins s σ H E I hf st hg;subst hP hw hK;obtain ⟨xs,x,hq,hx⟩:=hg;obtain ⟨its,rv,p,hz⟩:=I.list hq;obtain ⟨u,hu,ru⟩:=rv.get hx;obtain ⟨f0,f1,f2,f3,f4,f5⟩:=hf it (by simp);refine wpAny_pyNext_list_item st p.isList (x:=u) (by simpa using hu) fun h' st' sb=>?_;have I1:Inv X pins σ H { s with heap:=h' }:=I.turned (t':=s.toks) (fun b o hb e=>(sb.2 b hb).trans e) f0 f1 f3 f4 f5;obtain ⟨o,e,c,d⟩:=id st';exact ⟨u,rfl,nX (s:={ s with heap:=h' }) e c d (by decide) ⟨x,H,I1,ru,⟨rfl,fun ys hy=>by rw [I.list_inj hy hq];exact hx⟩,st',fun b hb=>(hf b hb).1⟩⟩
  done:=by
    intro X hP hw hK hc i pins s σ H E I hf st hg;subst hP hw hK;obtain ⟨xs,hq,hx⟩:=hg;obtain ⟨its,rv,p,hz⟩:=I.list hq;obtain ⟨f0,f1,f2,f3,f4,f5⟩:=hf it (by simp);have hl:=rv.length;exact wpAny_pyNext_list_end (I.ok.hd hc) st p.isList (by simp;lia) fun h' eb=>⟨rfl,I.turned (t':=s.toks) (fun b o hb e=>eb b o hb e) f0 f1 f3 f4 f5⟩
  self:=fun _ _ _ _ _ st h=>wpAny_pyIter_listiter st h
theorem mr {P:Program} {w:World} {K:aaa} {tg:Expr} (a it:Addr):Turn P w K tg (Itt K a) [it] it (fun i h=>h.IsTupleIter it a i) where
  mem:=by simp
  obj:=fun i h st b hb=>by
    have e:b=it:=by simpa using hb
    subst e;obtain ⟨o,e,c,d⟩:=st;exact ⟨o,e,fun v z=>by rw [d] at z;cases z⟩
  keep:=fun i h h' st k=>st.at fun o e=>k it (by simp) o e
  item:=by
    intro X hP hw hK hc i pins s σ H E I hf st hg;subst hP hw hK;obtain ⟨xs,x,hq,hx⟩:=hg;obtain ⟨its,rv,p,hz⟩:=I.tuple hq;obtain ⟨u,hu,ru⟩:=rv.get hx;obtain ⟨f0,f1,f2,f3,f4,f5⟩:=hf it (by simp);refine wpAny_pyNext_tuple_item st (show s.heap.IsTuple a its.toArray from p) (x:=u) (by simpa using hu) fun h' st' sb=>?_;have I1:Inv X pins σ H { s with heap:=h' }:=I.turned (t':=s.toks) (fun b o hb e=>(sb.2 b hb).trans e) f0 f1 f3 f4 f5;obtain ⟨o,e,c,d⟩:=id st';exact ⟨u,rfl,nX (s:={ s with heap:=h' }) e c d (by decide) ⟨x,H,I1,ru,⟨rfl,fun ys hy=>by rw [I.tuple_inj hy hq];exact hx⟩,st',fun b hb=>(hf b hb).1⟩⟩
  done:=by
    intro X hP hw hK hc i pins s σ H E I hf st hg;subst hP hw hK;obtain ⟨xs,hq,hx⟩:=hg;obtain ⟨its,rv,p,hz⟩:=I.tuple hq;obtain ⟨f0,f1,f2,f3,f4,f5⟩:=hf it (by simp);have hl:=rv.length;exact wpAny_pyNext_tuple_end (I.ok.hd hc) st (show s.heap.IsTuple a its.toArray from p) (by simp;lia) fun h' eb=>⟨rfl,I.turned (t':=s.toks) (fun b o hb e=>eb b o hb e) f0 f1 f3 f4 f5⟩
  self:=fun _ _ _ _ _ st h=>wpAny_pyIter_tupleiter st h
theorem mt {P:Program} {w:World} {K:aaa} {tg:Expr} (it:Addr) (lo:Int) (n:Nat):Turn P w K tg (Itr lo n) [it] it (fun i h=>IsRangeIter h it (lo+(i:Nat) * 1) ((n:Int) - (i:Nat)) 1) where
  mem:=by simp
  obj:=fun i h st b hb=>by
    have e:b=it:=by simpa using hb
    subst e;exact ⟨_,st,fun v z=>by
      have z':Data.fields _=Data.cell v:=z;cases z'⟩
  keep:=fun i h h' st k=>k it (by simp) _ st
  item:=by
    intro X hP hw hK hc i pins s σ H E I hf st hg;subst hP hw hK;obtain ⟨f0,f1,f2,f3,f4,f5⟩:=hf it (by simp);have W:=Walks.range (prog:=X.prog) (w:=X.w) (I.ok.hd hc) it lo 1 n;refine W.item i s _ _ hg st fun v h' tk hv st' kk=>?_;obtain ⟨t,rfl⟩:=hv;have I1:Inv X pins σ H { s with heap:=h',toks:=tk }:=I.turned (fun b o hb e=>kk b o (by simpa using hb) e) f0 f1 f3 f4 f5;refine ⟨_,rfl,nX (s:={ s with heap:=h',toks:=tk }) (n:="range_iterator") st' rfl rfl (by decide) ⟨.int (lo+i),H,I1,⟨t,?_⟩,⟨rfl,rfl⟩,st',fun b hb=>(hf b hb).1⟩⟩;rw [Int.mul_one]
  done:=by
    intro X hP hw hK hc i pins s σ H E I hf st hg;subst hP hw hK;obtain ⟨f0,f1,f2,f3,f4,f5⟩:=hf it (by simp);exact wpAny_pyNext_range_end (I.ok.hd hc) st (by have : n≤i:=hg;lia) fun h' eb=>⟨rfl,I.turned (t':=s.toks) (fun b o hb e=>eb b o hb e) f0 f1 f3 f4 f5⟩
  self:=fun _ _ _ _ _ st h=>wpAny_pyIter_rangeiter st h
open PySem PySem.Spec PyProof.Rows
section
variable {X:Cx} {tg:Expr}
def t7 (K:aaa) (tl:TE):TI:=fun σ H R=>tl σ H fun x H1=>∃ a,x=.ref a∧(∃ xs,SqL K H1 a xs)∧R (Itl K a) H1
def uK (K:aaa) (tl:TE):TI:=fun σ H R=>tl σ H fun x H1=>∃ a,x=.ref a∧(∃ xs,SqT K H1 a xs)∧R (Itt K a) H1
theorem cz {l:Expr} {tl:TE} (hl:PE X l tl):PI X tg l (t7 X.K tl):=by
  intro pins s σ H R I h;refine thn (hl pins s σ H _ I h) fun v s1 ⟨x,H1,I1,r1,q1⟩=>?_;obtain ⟨a,e,⟨xs,hq⟩,q⟩:=q1;subst e;cases r1;obtain ⟨its,rv,p,hz⟩:=I1.list hq;refine wpAny_pyIter_list p.isList ?_;refine ⟨s1.heap.objs.size,[s1.heap.objs.size],_,_,H1,rfl,I1.kept (t':=s1.toks) fun b o e=>aah _ e,oj a _,⟨_,aaG _ rfl,rfl,rfl⟩,fun b hb=>?_,q⟩;have e:b=s1.heap.objs.size:=by simpa using hb
  subst e;exact I1.fpOk (aac _) (I1.hok.fresh (aac _))
theorem gU {l:Expr} {tl:TE} (hl:PE X l tl):PI X tg l (uK X.K tl):=by
  intro pins s σ H R I h;refine thn (hl pins s σ H _ I h) fun v s1 ⟨x,H1,I1,r1,q1⟩=>?_;obtain ⟨a,e,⟨xs,hq⟩,q⟩:=q1;subst e;cases r1;obtain ⟨its,rv,p,hz⟩:=I1.tuple hq;refine wpAny_pyIter_tuple (show s1.heap.IsTuple a its.toArray from p) ?_;refine ⟨s1.heap.objs.size,[s1.heap.objs.size],_,_,H1,rfl,I1.kept (t':=s1.toks) fun b o e=>aah _ e,mr a _,⟨_,aaG _ rfl,rfl,rfl⟩,fun b hb=>?_,q⟩;have e:b=s1.heap.objs.size:=by simpa using hb
  subst e;exact I1.fpOk (aac _) (I1.hok.fresh (aac _))
theorem lA {pins:List (Addr × Obj)} {σ:St} {H:Hp} {s:Shared} {R:It→Hp→Prop} {E:Value→Shared→Prop} {lo hi:Int} {t u v:Tok} {tk:Nat} (I:Inv X pins σ H s) (h1:-(2 ^ 62)≤lo) (h2:lo < 2 ^ 62) (h3:-(2 ^ 62)≤hi) (h4:hi < 2 ^ 62)
    (q:R (Itr lo (hi - lo).toNat) H):wpAny (model X.prog X.w) X.A (pyIter (.ref s.heap.objs.size)) (PIE X pins σ tg R) E { s with heap:=s.heap.push { cls:=.type "range",data:=.fields #[.int lo t,.int hi u,.int 1 v] },toks:=tk }:=by
  refine wpAny_pyIter_range (IsRange.new ..) (small_one h1 h2 h3 h4) ?_;have I1:Inv X pins σ H { s with heap:=s.heap.push { cls:=.type "range",data:=.fields #[.int lo t,.int hi u,.int 1 v] },toks:=tk }:=I.kept fun b o e=>aah _ e;refine ⟨(s.heap.push { cls:=.type "range",data:=.fields #[.int lo t,.int hi u,.int 1 v] }).objs.size,[(s.heap.push { cls:=.type "range",data:=.fields #[.int lo t,.int hi u,.int 1 v] }).objs.size],_,_,H,rfl,
    I1.kept (t':=tk) fun b o e=>aah _ e,mt _ lo (hi - lo).toNat,?_,fun b hb=>?_,q⟩
  · have e1:lo+((0:Nat):Int) * 1=lo:=by simp
    have e2:(((hi - lo).toNat:Nat):Int) - ((0:Nat):Int)=Builtin.Range.rangeSize lo hi 1:=by rw [rangeSize_one];split <;> lia
    show IsRangeIter _ _ (lo+((0:Nat):Int) * 1) ((((hi - lo).toNat:Nat):Int) - ((0:Nat):Int)) 1;rw [e1,e2];exact aaG _ rfl
  · have e:b=(s.heap.push { cls:=.type "range",data:=.fields #[.int lo t,.int hi u,.int 1 v] }).objs.size:=by simpa using hb
    subst e;exact I1.fpOk (aac _) (I1.hok.fresh (aac _))
def tZ (ta:TA):TI:=fun σ H R=>ta σ H fun vs H1=>∃ j:Int,vs=[.int j]∧-(2 ^ 62)≤j∧j < 2 ^ 62∧R (Itr 0 j.toNat) H1
def tY (ta:TA):TI:=fun σ H R=>ta σ H fun vs H1=>∃ i j:Int,vs=[.int i,.int j]∧(-(2 ^ 62)≤i∧i < 2 ^ 62∧-(2 ^ 62)≤j∧j < 2 ^ 62)∧R (Itr i (j - i).toNat) H1
theorem cr {a:Expr} {ta:TA} {p pos:Pos} (hg:Gl X "range") (hm:X.mg "range" = none) (ha:PA X [a] ta) (hs:starEach [a] X.env=[(false,eval a X.env)]:=by rfl):PI X tg (.Call (.Name "range" p) [a] [] pos) (tZ ta):=by
  intro pins s σ H R I h;refine Call_ (hW I hg hm boot_range (abl (thn (ha pos pins s σ H _ I h) fun us s1 ⟨vs,H1,I1,r1,q1⟩=>?_) hs rfl));obtain ⟨j,e,q1,q2,q⟩:=q1;subst e;cases r1 with
  | cons r rr =>
    cases rr;obtain ⟨t,rfl⟩:=r;exact call_range_1 (lA I1 (by lia) (by lia) q1 q2 (by simpa using q))
theorem cq {a b:Expr} {ta:TA} {p pos:Pos} (hg:Gl X "range") (hm:X.mg "range" = none) (ha:PA X [a,b] ta) (hs:starEach [a,b] X.env=[(false,eval a X.env),(false,eval b X.env)]:=by rfl) (hs2:starEach [b] X.env=[(false,eval b X.env)]:=by rfl) :
    PI X tg (.Call (.Name "range" p) [a,b] [] pos) (tY ta):=by
  intro pins s σ H R I h;refine Call_ (hW I hg hm boot_range (abl (thn (ha pos pins s σ H _ I h) fun us s1 ⟨vs,H1,I1,r1,q1⟩=>?_) (by rw [hs,hs2]) (by rw [hs2];rfl)));obtain ⟨i,j,e,⟨q1,q2,q3,q4⟩,q⟩:=q1;subst e;cases r1 with
  | cons r rr =>
    cases rr with
    | cons r' rr =>
      cases rr;obtain ⟨t,rfl⟩:=r;obtain ⟨t',rfl⟩:=r';exact call_range_2 (lA I1 q1 q2 q3 q4 q)
def ux (wi:TI) (g:TG) (tb:TS):TS:=fun D σ H=>wi σ H fun J H1=>∃ W:Nat→Nat→St→Hp→Prop,(∃ m,W 0 m σ H1)∧∀ i m σ H,W i m σ H →
  (J.stop i H∧D.nx σ H)∨(J.go i H∧∃ N:St→Hp→Prop,(∀ σ' H',N σ' H'→∃ m',m' < m∧W (i+1) m' σ' H')∧∀ x H',J.yld i H x H'→g x σ H' fun σ2 H2=>tb { D with nx:=N,ct:=N,bk:=D.nx } σ2 H2)
def cF (fp:List Addr) (h:Heap):List (Addr × Obj):=fp.filterMap fun b=>(h.get? b).map fun o=>(b,o)
theorem d0 {fp:List Addr} {h:Heap} {b:Addr} {o:Obj} (hb:b∈fp) (e:h.get? b=some o):(b,o)∈cF fp h:=List.mem_filterMap.mpr ⟨b,hb,by rw [e];rfl⟩
theorem hU {fp:List Addr} {h:Heap} {p:Addr × Obj} (hp:p∈cF fp h):p.1∈fp∧h.get? p.1=some p.2:=by
  obtain ⟨b,hb,e⟩:=List.mem_filterMap.mp hp;cases q:h.get? b with
  | none=>rw [q] at e;cases e
  | some o =>
    rw [q] at e;have e':(b,o)=p:=aaW e;subst e';exact ⟨hb,q⟩
theorem Inv.pinned {pins:List (Addr × Obj)} {σ:St} {H:Hp} {s:Shared} {fp:List Addr} (I:Inv X pins σ H s) (hf:∀ b∈fp,eh X pins H b) (ho:∀ b∈fp,∃ o,s.heap.get? b=some o∧∀ v,o.data≠.cell v):Inv X (pins++cF fp s.heap) σ H s :=
  I.pins_of fun p hp=>(aat.mp hp).elim (fun z=>I.pin p (aar _ z)) fun z=>by
    obtain ⟨hb,e⟩:=hU z;obtain ⟨f0,f1,f2,_⟩:=hf p.1 hb;obtain ⟨o,e',d⟩:=ho p.1 hb;rw [e] at e';cases e';exact ⟨e,f0,f1,f2,d⟩
theorem Inv.unpinned {pins pl:List (Addr × Obj)} {σ:St} {H:Hp} {s:Shared} (I:Inv X (pins++pl) σ H s):Inv X pins σ H s:=I.pins_of fun p hp=>I.pin p (aar _ (aa4 _ hp))
theorem bV {iter:Expr} {body:List Stmt} {wi:TI} {g:TG} {tb:TS} {pos:Pos} (hp:PassesOwn (model X.prog X.w) X.A X.env X.xe) (hc:X.calm=true) (hi:PI X tg iter wi) (hg:PG X tg g) (hb:PSs X body tb)
    (hs:∀ x,foldedSetIterable iter X.env x=pure x:=by intro _;rfl):PS X (.For tg iter body [] pos) (ux wi g tb):=by
  intro pins s σ H D I h;refine wpAny_For (thn (hi pins s σ H _ I h) fun v s1 h1=>thn h1 fun itv s2 h2=>?_) hs;obtain ⟨it,fp,tn,J,H2,e,I2,T,st2,f2,W,⟨m0,w0⟩,turn⟩:=h2;subst e;have stat:∀ {H':Hp},(∀ b∈fp,H' b=none)→∀ b∈fp,eh X pins H' b:=fun hn b hb=>⟨hn b hb,(f2 b hb).2⟩
  refine codeAny_forLoop_any (fun n s'=>∃ i σ' H',Inv X pins σ' H' s'∧tn i s'.heap∧(∀ b∈fp,H' b=none)∧W i n σ' H') ?_ m0 ⟨0,σ,H2,I2,st2,fun b hb=>(f2 b hb).1,w0⟩;rintro n s3 ⟨i,σ3,H3,I3,st3,fr3,w3⟩;rcases turn i n σ3 H3 w3 with ⟨stop,qn⟩|⟨go,N,hN,step⟩
  · refine wpAny_passesOwn hp (thn (T.done X rfl rfl rfl hc i pins s3 σ3 H3 X.xe I3 (stat fr3) st3 stop) fun r s4 ⟨hr,I4⟩=>?_);subst hr;exact wpAny_execs_nil ⟨σ3,H3,I4,qn⟩
  · refine wpAny_passesOwn hp (thn (T.item X rfl rfl rfl hc i pins s3 σ3 H3 X.xe I3 (stat fr3) st3 go) fun r s4 ⟨u,hr,h4⟩=>?_);subst hr;refine wpAny_passesOwn hp (thn h4 fun _ s5 ⟨x,H5,I5,r5,y5,st5,fr5⟩=>?_);have I5':=I5.pinned (stat fr5) (T.obj _ _ st5);refine wpAny_passesOwn hp (thn (hg _ s5 σ3 H5 x u _ I5' r5 (step x H5 y5)) fun _ s6 ⟨σ6,H6,I6,q6⟩=>?_);refine wpAny_passesOwn hp (thn (hb _ s6 σ6 H6 _ I6 q6) fun f s7 q7=>?_);have again:∀ {σ7:St} {H7:Hp},Inv X (pins++cF fp s5.heap) σ7 H7 s7→N σ7 H7→∃ m,m < n∧∃ i σ' H',Inv X pins σ' H' s7∧tn i s7.heap∧(∀ b∈fp,H' b=none)∧W i m σ' H':=fun {σ7 H7} I7 n7=>by
      obtain ⟨m',hm,w7⟩:=hN σ7 H7 n7;refine ⟨m',hm,i+1,σ7,H7,I7.unpinned,T.keep _ _ _ st5 fun b hb o e=>(I7.pin (b,o) (aar _ (aar _ (d0 hb e)))).1,fun b hb=>?_,w7⟩;obtain ⟨o,e,d⟩:=T.obj _ _ st5 b hb;exact (I7.pin (b,o) (aar _ (aar _ (d0 hb e)))).2.1
    cases f with
    | next=>obtain ⟨σ7,H7,I7,n7⟩:=q7;exact again I7 n7
    | cont=>obtain ⟨σ7,H7,I7,n7⟩:=q7;exact again I7 n7
    | brk=>obtain ⟨σ7,H7,I7,q7⟩:=q7;exact ⟨σ7,H7,I7.unpinned,q7⟩
    | ret v=>obtain ⟨x7,σ7,H7,I7,r7,q7⟩:=q7;exact ⟨x7,σ7,H7,I7.unpinned,r7,q7⟩
end
theorem pZ {K:aaa} {a:Addr} {xs:List V} {g:TG} {tb:TS} {D:Ends} {σ:St} {H:Hp} (Pv:Nat→St→Hp→Prop) (h0:Pv 0 σ H) (hl:∀ i σ H,i≤xs.length→Pv i σ H→SqL K H a xs)
    (hs:∀ i x σ H,xs[i]?=some x→Pv i σ H→g x σ H fun σ2 H2=>tb { D with nx:=Pv (i+1),ct:=Pv (i+1),bk:=D.nx } σ2 H2) (hd:∀ σ H,Pv xs.length σ H→D.nx σ H) :
    ∃ W:Nat→Nat→St→Hp→Prop,(∃ m,W 0 m σ H)∧∀ i m σ H,W i m σ H →
      ((Itl K a).stop i H∧D.nx σ H)∨((Itl K a).go i H∧∃ N:St→Hp→Prop,(∀ σ' H',N σ' H'→∃ m',m' < m∧W (i+1) m' σ' H')∧∀ x H',(Itl K a).yld i H x H'→g x σ H' fun σ2 H2=>tb { D with nx:=N,ct:=N,bk:=D.nx } σ2 H2):=by
  refine ⟨fun i m σ H=>m=xs.length - i∧i≤xs.length∧Pv i σ H,⟨xs.length,by simp,aaX _,h0⟩,?_⟩;rintro i m σ H ⟨rfl,hi,p⟩;have q:=hl i σ H hi p;by_cases hlt:i < xs.length
  · refine .inr ⟨⟨xs,xs[i],q,by simp [hlt]⟩,Pv (i+1),fun σ' H' p'=>⟨xs.length - (i+1),by lia,rfl,hlt,p'⟩,fun x H' y=>?_⟩;obtain ⟨e,y⟩:=y;subst e;exact hs i x σ _ (y xs q) p
  · have e:i=xs.length:=by lia
    subst e;exact .inl ⟨⟨xs,q,aac _⟩,hd σ H p⟩
theorem hX {lo:Int} {n:Nat} {g:TG} {tb:TS} {D:Ends} {σ:St} {H:Hp} (Pv:Nat→St→Hp→Prop) (h0:Pv 0 σ H)
    (hs:∀ i σ H,i < n→Pv i σ H→g (.int (lo+i)) σ H fun σ2 H2=>tb { D with nx:=Pv (i+1),ct:=Pv (i+1),bk:=D.nx } σ2 H2) (hd:∀ σ H,Pv n σ H→D.nx σ H) :
    ∃ W:Nat→Nat→St→Hp→Prop,(∃ m,W 0 m σ H)∧∀ i m σ H,W i m σ H →
      ((Itr lo n).stop i H∧D.nx σ H)∨((Itr lo n).go i H∧∃ N:St→Hp→Prop,(∀ σ' H',N σ' H'→∃ m',m' < m∧W (i+1) m' σ' H')∧∀ x H',(Itr lo n).yld i H x H'→g x σ H' fun σ2 H2=>tb { D with nx:=N,ct:=N,bk:=D.nx } σ2 H2):=by
  refine ⟨fun i m σ H=>m=n - i∧i≤n∧Pv i σ H,⟨n,by simp,aaX _,h0⟩,?_⟩;rintro i m σ H ⟨rfl,hi,p⟩;by_cases hlt:i < n
  · refine .inr ⟨hlt,Pv (i+1),fun σ' H' p'=>⟨n - (i+1),by lia,rfl,hlt,p'⟩,fun x H' y=>?_⟩;obtain ⟨e,y⟩:=y;subst e y;exact hs i σ _ hlt p
  · have e:i=n:=by lia
    subst e;exact .inl ⟨aac _,hd σ H p⟩
open PySem PySem.Spec PyProof.Rows
abbrev R2:=V→V→Hp→VK→Prop
def OpR (X:Cx) (f:Value→Value→Sem Value) (r:R2):Prop :=
  ∀ (pins:List (Addr × Obj)) (s:Shared) (σ:St) (H:Hp) (x y:V) (v u:Value) (Q:VK),Inv X pins σ H s→RelV x v→RelV y u→r x y H Q →
    wpAny (model X.prog X.w) X.A (f v u) (EP X pins σ Q) X.xe s
def di (X:Cx) (f:Value) (r:List V→Hp→VK→Prop):Prop :=
  ∀ (pins:List (Addr × Obj)) (s:Shared) (σ:St) (H:Hp) (xs:List V) (us:List Value) (Q:VK),Inv X pins σ H s→Vals xs us→r xs H Q →
    wpAny (model X.prog X.w) X.A (call f us) (EP X pins σ Q) X.xe s
def uR (X:Cx) (r:V→Hp→(Bool→Hp→Prop)→Prop):Prop :=
  ∀ (pins:List (Addr × Obj)) (s:Shared) (σ:St) (H:Hp) (x:V) (v:Value) (Q:Bool→Hp→Prop),Inv X pins σ H s→RelV x v→r x H Q →
    wpAny (model X.prog X.w) X.A (truthy v) (TP X pins σ Q) X.xe s
def tOp (r:R2) (ta tb:TE):TE:=fun σ H Q=>ta σ H fun x H1=>tb σ H1 fun y H2=>r x y H2 Q
def rI (C:Int→Int→Prop) (g:Int→Int→V):R2:=fun x y H Q=>∃ i j,x=.int i∧y=.int j∧C i j∧Q (g i j) H
def rI0 (g:Int→Int→V):R2:=fun x y H Q=>∃ i j,x=.int i∧y=.int j∧Q (g i j) H
section
variable {X:Cx} {a b c:Expr} {ta tb tc:TE} {pos:Pos}
theorem sR (ha:PE X a ta) (hb:PE X b tb) {pins:List (Addr × Obj)} {s:Shared} {σ:St} {H:Hp} {R:V→V→Hp→Prop} (I:Inv X pins σ H s)
    (h:ta σ H fun x H1=>tb σ H1 fun y H2=>R x y H2) {Q:Value→Shared→Prop} {f:Value→Value→Sem Value}
    (hf:∀ v u s2 x y H2,Inv X pins σ H2 s2→RelV x v→RelV y u→R x y H2→wpAny (model X.prog X.w) X.A (f v u) Q X.xe s2) :
    wpAny (model X.prog X.w) X.A (eval a X.env) (fun v s₁=>wpAny (model X.prog X.w) X.A (eval b X.env) (fun u s₂=>wpAny (model X.prog X.w) X.A (f v u) Q X.xe s₂) X.xe s₁) X.xe s:=by
  refine thn (ha pins s σ H _ I h) fun v s1 ⟨x,H1,I1,r1,q1⟩=>?_;refine thn (hb pins s1 σ H1 _ I1 q1) fun u s2 ⟨y,H2,I2,r2,q2⟩=>?_;exact hf v u s2 x y H2 I2 r1 r2 q2
theorem au {op:Operator} {r:R2} (ho:OpR X (binaryOp op) r) (ha:PE X a ta) (hb:PE X b tb):PE X (.BinOp a op b pos) (tOp r ta tb):=by
  intro pins s σ H Q I h;exact wpAny_BinOp (sR ha hb I h fun v u s2 x y H2 I2 rx ry q=>ho pins s2 σ H2 x y v u Q I2 rx ry q)
theorem opI {f:Value→Value→Sem Value} {C:Int→Int→Prop} {g:Int→Int→Int}
    (rule:∀ (i j:Int) (t u:Tok) (s:Shared) (Q:Value→Shared→Prop) (E:Value→Shared→Prop),C i j→Q (.int (g i j) s.toks) { s with toks:=s.toks+1 }→wpAny (model X.prog X.w) X.A (f (.int i t) (.int j u)) Q E s) :
    OpR X f (rI C fun i j=>.int (g i j)):=by
  intro pins s σ H x y v u Q I rx ry h;obtain ⟨i,j,rfl,rfl,hc,q⟩:=h;obtain ⟨t,rfl⟩:=rx;obtain ⟨t',rfl⟩:=ry;exact rule i j t t' s _ _ hc ⟨.int (g i j),H,I.tok _,⟨_,rfl⟩,q⟩
theorem tQ {f:Value→Value→Sem Value} {g:Int→Int→Int}
    (rule:∀ (i j:Int) (t u:Tok) (s:Shared) (Q:Value→Shared→Prop) (E:Value→Shared→Prop),Q (.int (g i j) s.toks) { s with toks:=s.toks+1 }→wpAny (model X.prog X.w) X.A (f (.int i t) (.int j u)) Q E s) :
    OpR X f (rI0 fun i j=>.int (g i j)):=by
  intro pins s σ H x y v u Q I rx ry h;obtain ⟨i,j,rfl,rfl,q⟩:=h;obtain ⟨t,rfl⟩:=rx;obtain ⟨t',rfl⟩:=ry;exact rule i j t t' s _ _ ⟨.int (g i j),H,I.tok _,⟨_,rfl⟩,q⟩
theorem sw {f:Value→Value→Sem Value} {g:Int→Int→Bool}
    (rule:∀ (i j:Int) (t u:Tok) (s:Shared) (Q:Value→Shared→Prop) (E:Value→Shared→Prop),Q (.bool (g i j)) s→wpAny (model X.prog X.w) X.A (f (.int i t) (.int j u)) Q E s) :
    OpR X f (rI0 fun i j=>.bl (g i j)):=by
  intro pins s σ H x y v u Q I rx ry h;obtain ⟨i,j,rfl,rfl,q⟩:=h;obtain ⟨t,rfl⟩:=rx;obtain ⟨t',rfl⟩:=ry;exact rule i j t t' s _ _ ⟨.bl (g i j),H,I,rfl,q⟩
def uS (i j:Int):Prop:=0≤j∧j≤1000000∧i.natAbs < 2 ^ 64
def CMul (i j:Int):Prop:=(-(2 ^ 64) < i∧i < 2 ^ 64)∨(-(2 ^ 64) < j∧j < 2 ^ 64)
theorem CMul.ok {i j:Int} (h:CMul i j):IntMulOk i j:=by
  rcases h with ⟨h1,h2⟩|⟨h1,h2⟩
  · exact .of_left (intBits_le_64 h1 h2)
  · exact .of_right (intBits_le_64 h1 h2)
theorem a_:OpR X (binaryOp .Add) (rI0 fun i j=>.int (i+j)):=tQ fun _ _ _ _ _ _ _ q=>add_int q
theorem bN:OpR X (binaryOp .Sub) (rI0 fun i j=>.int (i - j)):=tQ fun _ _ _ _ _ _ _ q=>sub_int q
theorem dt:OpR X (binaryOp .Mult) (rI CMul fun i j=>.int (i * j)):=opI fun _ _ _ _ _ _ _ hc q=>mul_int q hc.ok
theorem gY:OpR X (binaryOp .Mod) (rI (fun _ j=>0 < j) fun i j=>.int (i % j)):=opI fun i j _ _ _ _ _ hc q=>by
  have h1:(0:Int) < j:=hc;exact mod_int' (by lia) (by rw [Int.fmod_eq_emod_of_nonneg i (by lia)];exact q)
theorem mG:OpR X (binaryOp .Pow) (rI uS fun i j=>.int (i ^ j.toNat)):=opI fun _ _ _ _ _ _ _ hc q=>pow_int_small hc.1 hc.2.1 hc.2.2 q
end
def tI:V→V→Bool
  | .non,.non=>true|.non,.int _=>true|.int _,.non=>true|.non,.bl _=>true|.bl _,.non=>true|.non,.str _=>true|.str _,.non=>true
  | .int _,.int _=>true|.bl _,.bl _=>true|.str _,.str _=>true|.byt _,.byt _=>true
  | .int _,.str _=>true|.str _,.int _=>true|.bl _,.str _=>true|.str _,.bl _=>true
  | _,_=>false
def rEq:R2:=fun x y H Q=>tI x y=true∧Q (.bl (decide (x=y))) H
def rNe:R2:=fun x y H Q=>tI x y=true∧Q (.bl (!decide (x=y))) H
theorem n_ {i j:Int}:decide (V.int i=V.int j)=(i == j):=by
  rw [Bool.eq_iff_iff];simp
theorem qg {i j:Bool}:decide (V.bl i=V.bl j)=(i == j):=by
  rw [Bool.eq_iff_iff];simp
theorem n9 {i j:Str}:decide (V.str i=V.str j)=(i == j):=by
  rw [Bool.eq_iff_iff];simp
theorem oa {i j:Array UInt8}:decide (V.byt i=V.byt j)=(i.toList == j.toList):=by
  rw [Bool.eq_iff_iff];cases i;cases j;simp
section
variable {X:Cx} {a b c:Expr} {ta tb tc:TE} {pos:Pos}
theorem aO {pins:List (Addr × Obj)} {σ:St} {H:Hp} {s:Shared} {Q:VK} {k k':Bool} (I:Inv X pins σ H s) (q:Q (.bl k) H) (e:k=k'):EP X pins σ Q (.bool k') s:=by
  subst e;exact ⟨.bl k,H,I,rfl,q⟩
theorem bn:OpR X (compareOp .Eq) rEq:=by
  intro pins s σ H x y v u Q I rx ry h;obtain ⟨hs,q⟩:=h;cases x with
  | non =>
    cases rx;cases y with
    | non=>cases ry;exact PySem.EqNone.eq_none_none (aO I q (by simp))
    | bl j=>cases ry;exact PySem.EqNone.eq_none_bool (aO I q (by simp))
    | int j=>obtain ⟨t',rfl⟩:=ry;exact PySem.EqNone.eq_none_int (aO I q (by simp))
    | str j=>obtain ⟨t',rfl⟩:=ry;exact PySem.EqNone.eq_none_str (aO I q (by simp))
    | _=>exact absurd (show false=true from hs) aai
  | bl i =>
    cases rx;cases y with
    | non=>cases ry;exact PySem.EqNone.eq_bool_none (aO I q (by simp))
    | bl j=>cases ry;exact eq_bool (aO I q qg)
    | str j=>obtain ⟨t',rfl⟩:=ry;exact PySem.EqMixed.eq_bool_str (aO I q (by simp))
    | _=>exact absurd (show false=true from hs) aai
  | int i =>
    obtain ⟨t,rfl⟩:=rx;cases y with
    | non=>cases ry;exact PySem.EqNone.eq_int_none (aO I q (by simp))
    | int j=>obtain ⟨t',rfl⟩:=ry;exact eq_int (aO I q n_)
    | str j=>obtain ⟨t',rfl⟩:=ry;exact PySem.EqMixed.eq_int_str (aO I q (by simp))
    | _=>exact absurd (show false=true from hs) aai
  | str i =>
    obtain ⟨t,rfl⟩:=rx;cases y with
    | non=>cases ry;exact PySem.EqNone.eq_str_none (aO I q (by simp))
    | bl j=>cases ry;exact PySem.EqMixed.eq_str_bool (aO I q (by simp))
    | int j=>obtain ⟨t',rfl⟩:=ry;exact PySem.EqMixed.eq_str_int (aO I q (by simp))
    | str j=>obtain ⟨t',rfl⟩:=ry;exact eq_str (aO I q n9)
    | _=>exact absurd (show false=true from hs) aai
  | byt i =>
    obtain ⟨t,rfl⟩:=rx;cases y with
    | byt j=>obtain ⟨t',rfl⟩:=ry;exact PySem.W.eq_bytes (aO I q oa)
    | _=>exact absurd (show false=true from hs) aai
  | _=>cases y <;> exact absurd (show false=true from hs) aai
theorem iW:OpR X (compareOp .NotEq) rNe:=by
  intro pins s σ H x y v u Q I rx ry h;obtain ⟨hs,q⟩:=h;cases x with
  | non =>
    cases rx;cases y with
    | non=>cases ry;exact PySem.EqNone.ne_none_none (aO I q (by simp))
    | bl j=>cases ry;exact PySem.EqNone.ne_none_bool (aO I q (by simp))
    | int j=>obtain ⟨t',rfl⟩:=ry;exact PySem.EqNone.ne_none_int (aO I q (by simp))
    | str j=>obtain ⟨t',rfl⟩:=ry;exact PySem.EqNone.ne_none_str (aO I q (by simp))
    | _=>exact absurd (show false=true from hs) aai
  | bl i =>
    cases rx;cases y with
    | non=>cases ry;exact PySem.EqNone.ne_bool_none (aO I q (by simp))
    | bl j=>cases ry;exact ne_bool (aO I q (congrArg not qg))
    | str j=>obtain ⟨t',rfl⟩:=ry;exact PySem.EqMixed.ne_bool_str (aO I q (by simp))
    | _=>exact absurd (show false=true from hs) aai
  | int i =>
    obtain ⟨t,rfl⟩:=rx;cases y with
    | non=>cases ry;exact PySem.EqNone.ne_int_none (aO I q (by simp))
    | int j=>obtain ⟨t',rfl⟩:=ry;exact ne_int (aO I q (congrArg not n_))
    | str j=>obtain ⟨t',rfl⟩:=ry;exact PySem.EqMixed.ne_int_str (aO I q (by simp))
    | _=>exact absurd (show false=true from hs) aai
  | str i =>
    obtain ⟨t,rfl⟩:=rx;cases y with
    | non=>cases ry;exact PySem.EqNone.ne_str_none (aO I q (by simp))
    | bl j=>cases ry;exact PySem.EqMixed.ne_str_bool (aO I q (by simp))
    | int j=>obtain ⟨t',rfl⟩:=ry;exact PySem.EqMixed.ne_str_int (aO I q (by simp))
    | str j=>obtain ⟨t',rfl⟩:=ry;exact ne_str (aO I q (congrArg not n9))
    | _=>exact absurd (show false=true from hs) aai
  | byt i =>
    obtain ⟨t,rfl⟩:=rx;cases y with
    | byt j=>obtain ⟨t',rfl⟩:=ry;exact PySem.W.ne_bytes (aO I q (congrArg not oa))
    | _=>exact absurd (show false=true from hs) aai
  | _=>cases y <;> exact absurd (show false=true from hs) aai
theorem lH:OpR X (compareOp .LtE) (rI0 fun i j=>.bl (decide (i≤j))):=sw fun _ _ _ _ _ _ _ q=>le_int q
theorem pH:OpR X (compareOp .Gt) (rI0 fun i j=>.bl (decide (j < i))):=sw fun _ _ _ _ _ _ _ q=>gt_int q
theorem tP:OpR X (compareOp .GtE) (rI0 fun i j=>.bl (decide (j≤i))):=sw fun _ _ _ _ _ _ _ q=>ge_int q
theorem cL:OpR X (compareOp .In) (fun x y H Q=>∃ i j,x=.str i∧y=.str j∧Q (.bl (!(aaU j i 0 j.length 1).isEmpty)) H):=by
  intro pins s σ H x y v u Q I rx ry h;obtain ⟨i,j,rfl,rfl,q⟩:=h;obtain ⟨t,rfl⟩:=rx;obtain ⟨t',rfl⟩:=ry;exact in_str (aO I q rfl)
theorem nJ:OpR X (compareOp .IsNot) (fun x y H Q=>y=.non∧Q (.bl (!decide (x=.non))) H):=by
  intro pins s σ H x y v u Q I rx ry h;obtain ⟨rfl,q⟩:=h;cases ry;refine isnot_none_gen (aO I q ?_);cases x <;> first
    | (cases rx;rfl)
    | (obtain ⟨t,rfl⟩:=rx;rfl)
theorem aE (b:Expr) {op:CmpOp} (h:op≠.In:=by decide) (h2:op≠.NotIn:=by decide):behindInMarks op b=false:=by
  have e1:(op == CmpOp.In)=false:=by cases op <;> first|rfl|exact absurd rfl h
  have e2:(op == CmpOp.NotIn)=false:=by cases op <;> first|rfl|exact absurd rfl h2
  cases b <;> simp [behindInMarks,e1,e2]
theorem bY {op:CmpOp} {r:R2} (ho:OpR X (compareOp op) r) (ha:PE X a ta) (hb:PE X b tb) (hm:behindInMarks op b=false):PE X (.Compare a [op] [b] pos) (tOp r ta tb):=by
  intro pins s σ H Q I h;exact wpAny_Compare1 (sR ha hb I h fun v u s2 x y H2 I2 rx ry q=>ho pins s2 σ H2 x y v u Q I2 rx ry q) hm
def rq (t:TE):TT:=fun σ H Q=>t σ H fun x H'=>∃ k,x=.bl k∧Q k H'
theorem av {op:CmpOp} {r:R2} (ho:OpR X (compareOp op) r) (ha:PE X a ta) (hb:PE X b tb) (hm:behindInMarks op b=false):PT X (.Compare a [op] [b] pos) (rq (tOp r ta tb)):=by
  intro pins s σ H Q I h;refine wpAny_isTrue_Compare1 (thn (ha pins s σ H _ I h) fun v s1 ⟨x,H1,I1,r1,q1⟩=>thn (hb pins s1 σ H1 _ I1 q1) fun u s2 ⟨y,H2,I2,r2,q2⟩ =>
    thn (ho pins s2 σ H2 x y v u _ I2 r1 r2 q2) fun c s3 ⟨z,H3,I3,r3,k,e,q3⟩=>?_) hm
  subst e;cases r3;exact wpAny_truthy_bool ⟨H3,I3,q3⟩
def rT (r r':R2) (ta tb tc:TE):TE:=fun σ H Q=>ta σ H fun x H1=>tb σ H1 fun y H2=>r x y H2 fun z H3=>∃ k,z=.bl k ∧
  (if k=true then tc σ H3 fun w' H4=>r' y w' H4 Q else Q (.bl false) H3)
theorem lB {op op':CmpOp} {r r':R2} (ho:OpR X (compareOp op) r) (ho':OpR X (compareOp op') r') (ha:PE X a ta) (hb:PE X b tb) (hc:PE X c tc)
    (hm:lastMarks [op,op'] [b,c]=false:=by with_unfolding_all rfl):PT X (.Compare a [op,op'] [b,c] pos) (rq (rT r r' ta tb tc)):=by
  intro pins s σ H Q I h;refine isTrue_chain (thn (ha pins s σ H _ I h) fun v s1 ⟨x,H1,I1,r1,q1⟩=>test_link (thn (hb pins s1 σ H1 _ I1 q1) fun u s2 ⟨y,H2,I2,r2,q2⟩ =>
    thn (ho pins s2 σ H2 x y v u _ I2 r1 r2 q2) fun d s3 ⟨z,H3,I3,r3,k,e,q3⟩=>?_)) hm
  subst e;cases r3;refine wpAny_truthy_bool ?_;cases k with
  | false =>
    obtain ⟨k',e',q'⟩:=q3;cases e';exact ite_ff ⟨H3,I3,q'⟩
  | true =>
    refine ite_tt (test_last (thn (hc pins s3 σ H3 _ I3 q3) fun w' s4 ⟨z',H4,I4,r4,q4⟩=>thn (ho' pins s4 σ H4 y z' u w' _ I4 r2 r4 q4) fun d' s5 ⟨z2,H5,I5,r5,k2,e2,q5⟩=>?_));subst e2;cases r5;exact wpAny_truthy_bool ⟨H5,I5,q5⟩
def sS (K:aaa) (x:V) (H:Hp) (k:Bool):Prop :=
  match x with
  | .non=>k=false
  | .bl b=>k=b
  | .int i=>k=(i != 0)
  | .str y=>y.length≤sizeLine∧k=((y.length:Int) != 0)
  | .byt y=>y.size≤sizeLine∧k=((y.size:Int) != 0)
  | .ref p=>(∃ xs,SqL K H p xs∧k=!xs.isEmpty)∨(∃ xs,SqT K H p xs∧k=!xs.isEmpty)∨∃ kvs,H p=some (.dK kvs)∧k=!kvs.isEmpty
  | _=>False
theorem mS {κ:Type} {kvs:List (κ × V)} {vs:List (κ × Value)} (r:KV kvs vs):(!vs.isEmpty)=!kvs.isEmpty:=by
  cases r <;> rfl
theorem je {xs:List V} {its:List Value} (r:Vals xs its):(!its.toArray.isEmpty)=!xs.isEmpty:=by
  cases r <;> simp
theorem fR:(sizeLine:Nat) < 2 ^ 63:=by rw [sizeLine_eq];decide
theorem oS:uR X (fun x H Q=>∃ k,sS X.K x H k∧Q k H):=by
  intro pins s σ H x v Q I rx h;obtain ⟨k,e,q⟩:=h;have hl:=fR;have hs:sizeLine=16777216:=sizeLine_eq;cases x with
  | non =>
    cases rx;have e':k=false:=e;subst e';exact truthy_none ⟨H,I,q⟩
  | bl b =>
    cases rx;have e':k=b:=e;subst e';exact wpAny_truthy_bool ⟨H,I,q⟩
  | int i =>
    obtain ⟨t,rfl⟩:=rx;have e':k=(i != 0):=e;subst e';exact PySem.P.truthy_int ⟨H,I,q⟩
  | str y =>
    obtain ⟨t,rfl⟩:=rx;obtain ⟨hy,e'⟩:y.length≤sizeLine∧k=((y.length:Int) != 0):=e;subst e';exact PySem.P.truthy_str (by lia) ⟨H,I.tok _,q⟩
  | byt y =>
    obtain ⟨t,rfl⟩:=rx;obtain ⟨hy,e'⟩:y.size≤sizeLine∧k=((y.size:Int) != 0):=e;subst e';exact PySem.W.truthy_bytes (by lia) ⟨H,I.tok _,q⟩
  | ref p =>
    cases rx;have e':(∃ xs,SqL X.K H p xs∧k=!xs.isEmpty)∨(∃ xs,SqT X.K H p xs∧k=!xs.isEmpty)∨∃ kvs,H p=some (.dK kvs)∧k=!kvs.isEmpty:=e;rcases e' with ⟨xs,hx,e'⟩|⟨xs,hx,e'⟩|⟨kvs,hx,e'⟩
    · subst e';obtain ⟨its,r,pl,hz⟩:=I.list hx;have hlen:=r.length;exact wpAny_truthy_list pl.isList (by simp only [aad];lia) ⟨H,I.tok _,by rw [je r];exact q⟩
    · subst e';obtain ⟨its,r,pl,hz⟩:=I.tuple hx;have hlen:=r.length;exact truthy_tuple pl (by simp only [aad];lia) ⟨H,I.tok _,by rw [je r];exact q⟩
    · subst e';obtain ⟨hz,hS,vs,r,m⟩:kvs.length≤sizeLine∧(p == sysModules)=false∧∃ vs,KV kvs vs∧s.heap.DictOf (aD X.prog X.w) p vs:=I.hok p _ hx;have hlen:kvs.length=vs.length:=aaH r;exact wpAny_truthy_dict hS m (by lia) ⟨H,I.tok _,by rw [mS r];exact q⟩
  | _=>exact (show False from e).elim
theorem ph (ha:PE X a ta) (he:∀ whole,isTrue a X.env whole=(do let v ← whole;standAt a.pos;holding [v] (truthy v))) :
    PT X a (fun σ H Q=>ta σ H fun x H'=>∃ k,sS X.K x H' k∧Q k H'):=by
  intro pins s σ H Q I h;exact isTrue_plain (thn (ha pins s σ H _ I h) fun v s1 ⟨x,H1,I1,r1,q1⟩=>oS pins s1 σ H1 x v Q I1 r1 q1) (he _)
theorem iZ:OpR X (binaryOp .Add) (fun x y H Q=>∃ i j,x=.str i∧y=.str j∧i.length+j.length≤sizeLine∧Q (.str (i++j)) H):=by
  intro pins s σ H x y v u Q I rx ry h;obtain ⟨i,j,rfl,rfl,hz,q⟩:=h;obtain ⟨t,rfl⟩:=rx;obtain ⟨t',rfl⟩:=ry;exact add_str (fun t' tk=>⟨.str (i++j),H,I.tok _,⟨_,rfl⟩,q⟩) hz
theorem ez {x:V} {us:List Value} (r:Vals [x] us):∃ u,us=[u]∧RelV x u:=by
  cases r with
  | cons r1 r2=>cases r2;exact ⟨_,rfl,r1⟩
theorem rn {x y:V} {us:List Value} (r:Vals [x,y] us):∃ u w',us=[u,w']∧RelV x u∧RelV y w':=by
  cases r with
  | cons r1 r2 =>
    cases r2 with
    | cons r3 r4=>cases r4;exact ⟨_,_,rfl,r1,r3⟩
theorem h6:di X (.type "int") (fun xs H Q=>(∃ i,xs=[.int i]∧Q (.int i) H)∨∃ k,xs=[.bl k]∧Q (.int (if k then 1 else 0)) H):=by
  intro pins s σ H xs us Q I r h;rcases h with ⟨i,rfl,q⟩|⟨k,rfl,q⟩
  · obtain ⟨u,rfl,t,rfl⟩:=ez r;exact call_int_int ⟨.int i,H,I,⟨_,rfl⟩,q⟩
  · obtain ⟨u,rfl,r1⟩:=ez r;cases r1;exact call_int_bool ⟨.int (if k then 1 else 0),H,I.tok _,⟨_,rfl⟩,q⟩
end
open PySem PySem.Spec PyProof.Rows
structure ObjM (h:Heap) (x dx C:Addr) (mA:Str→Option Value):Prop where
  obj:h.get? x=some (PySem.W.instObj C dx)
  ns:h.Ns1 dx mA
  ne:dx≠x
theorem oD {h:Heap} {dx:Addr} {mA:Str→Option Value} (n:h.Ns1 dx mA):∃ od,h.get? dx=some od∧∀ name,PySem.W.lookIn name od=some (mA name):=by
  obtain ⟨o,es,ep,ho,hd,hk,_,hm⟩:=n;refine ⟨o,ho,fun name=>?_⟩;have e:=hm name;unfold nsFind findBy at e;rw [← Array.find?_toList] at e;unfold PySem.W.lookIn;rw [hd];dsimp only;split
  · rename_i y q;rw [q] at e;exact congrArg some e
  · rename_i q;rw [q] at e;have a:es.toList.any (·.refKey)=false:=by
      rw [List.any_eq_false];intro y hy;obtain ⟨z,t,hkey⟩:=hk y (Array.mem_toList_iff.mp hy);simp [DictEntry.refKey,hkey]
    have a':¬ es.toList.any (·.refKey)=true:=by rw [a];exact aai
    rw [if_neg a'];exact congrArg some e
theorem ObjM.look {h:Heap} {x dx C:Addr} {mA:Str→Option Value} (I:ObjM h x dx C mA):∃ od,PySem.W.InstAt h x (PySem.W.instObj C dx) C (some od)∧∀ name,PySem.W.lookIn name od=some (mA name) :=
  let ⟨od,ho,hl⟩:=oD I.ns
  ⟨od,⟨I.obj,rfl,rfl,ho⟩,hl⟩
section
variable {prog:Program} {w:World} {A:Around} {E:Value→Shared→Prop} {s:Shared} {K:aaa} {x dx C f:Addr} {mA:Str→Option Value} {name:Str} {v:Value}
end
theorem RelO.some_of {v:V} {o:Option Value} (r:RelO (some v) o):∃ u,o=some u∧RelV v u:=by
  cases o with
  | none=>exact (show False from r).elim
  | some u=>exact ⟨u,rfl,r⟩
section
variable {P:Program} {w:World} {H H':Hp} {h h':Heap} {a C dx:Addr} {fs fs':List (Str × V)}
theorem q_ (hok:HOk P w H h) (e:H a=some (.ins C dx fs)):∃ mA,ObjM h a dx C mA∧(∀ f,RelO (fs.lookup f) (mA f))∧PySem.Within mA (fs.map (·.1))∧fs.length≤1000∧H dx=some (.own a):=by
  obtain ⟨d,z,ne,ob,mA,n,r,q⟩:=(show ObjOk P w H h a (.ins C dx fs) from hok a _ e)
  exact ⟨mA,⟨ob,n,ne⟩,r,q,z,d⟩
end
structure Cls (K:aaa) (C:Addr):Prop where
  pg:PySem.W.plainGet K C Str.empty=true
  hd:PySem.W.hasDictIn K C=true
  po:PySem.W.plainOver K C=true
  sa:ab6 K (.ref C) "__setattr__" = some (some (.builtin "object.__setattr__"))
theorem Cls.get {K:aaa} {C:Addr} (c:Cls K C) (f:Str):PySem.W.plainGet K C f=true:=c.pg
structure Con (K:aaa) (C:Addr) (f:Str) (v:V) (u:Value):Prop where
  at_:ab6 K (.ref C) f=some (some u)
  rel:RelV v u
  get:PySem.W.specialIn K u "__get__" = some none
  cp:PySem.W.copiedNames.contains f=false
structure Meth (K:aaa) (C:Addr) (m:Str) (f:Addr):Prop where
  at_:ab6 K (.ref C) m=some (some (.ref f))
  fn:PySem.W.isFn K (.ref f)=true
  kp:aa9 K (.ref f)=true
section
variable {X:Cx} {pins:List (Addr × Obj)} {σ:St} {H:Hp} {s:Shared} {a C dx:Addr} {fs:List (Str × V)} {f:Str} {v:V} {A:Around} {E:Value→Shared→Prop}
end
section
variable {X:Cx} {o e value:Expr} {f:Str} {pos pos' tpos:Pos} {ta tv:TE}
end
section
variable {X:Cx} {pins:List (Addr × Obj)} {σ:St} {H:Hp} {s:Shared} {A:Around} {E:Value→Shared→Prop} {Q:Value→Shared→Prop} {c:Value} {b:Bool}
inductive TyOf (K:aaa) (H:Hp):V→Value→Prop where
  | non:TyOf K H .non (.type "NoneType")
  | bl (x:Bool):TyOf K H (.bl x) (.type "bool")
  | int (i:Int):TyOf K H (.int i) (.type "int")
  | str (x:Str):TyOf K H (.str x) (.type "str")
  | flt (x:UInt64):TyOf K H (.flt x) (.type "float")
  | lst {a:Addr} {xs:List V} (e:H a=some (.lst xs)):TyOf K H (.ref a) (.type "list")
  | frz {a:Addr} {o:Obj} {xs:List V} (e:H a=some (.frz o (.lst xs))):TyOf K H (.ref a) (.type "list")
  | tup {a:Addr} {xs:List V} (e:H a=some (.tup xs)):TyOf K H (.ref a) (.type "tuple")
  | dK {a:Addr} {kvs:List (Key × V)} (e:H a=some (.dK kvs)):TyOf K H (.ref a) (.type "dict")
  | dT {a:Addr} {kvs:List (List Key × V)} (e:H a=some (.dT kvs)):TyOf K H (.ref a) (.type "dict")
  | ins {a C dx:Addr} {fs:List (Str × V)} (e:H a=some (.ins C dx fs)) (cl:Cls K C) (ha:ab6 K (.ref C) "__class__" = some (some (.builtin "object.__class__")))
      (hn:PySem.W.specialIn K (.builtin "object.__class__") "__get__" = some (some (.builtin "getset_descriptor.__get__"))) (htk:PySem.W.takesIn K (.builtin "object.__class__")=some true)
      (hm:PySem.W.mroIn K C (.type "object")=some true):TyOf K H (.ref a) (.ref C)
theorem oI {x:V} {u t:Value} (I:Inv X pins σ H s) (rx:RelV x u) (ty:TyOf X.K H x t) (e:PySem.W.kitOne X.K t c=some b) (h:∀ tk,Q (.bool b) { s with toks:=tk }) :
    wpAny (model X.prog X.w) A (call (.builtin "isinstance") [u,c]) Q E s:=by
  cases ty with
  | non=>cases (show u=Value.none from rx);exact aa2 PySem.W.kitx_none I.kIn True.intro e (fun z=>nomatch z) h
  | bl y=>cases (show u=Value.bool y from rx);exact aa2 PySem.W.kitx_bool I.kIn True.intro e (fun z=>nomatch z) h
  | int i=>obtain ⟨t,q⟩:=(show ∃ t,u=Value.int i t from rx);cases q;exact aa2 PySem.W.kitx_int I.kIn True.intro e (fun z=>nomatch z) h
  | str y=>obtain ⟨t,q⟩:=(show ∃ t,u=Value.str y t from rx);cases q;exact aa2 PySem.W.kitx_str I.kIn True.intro e (fun z=>nomatch z) h
  | flt y=>obtain ⟨t,q⟩:=(show ∃ t,u=Value.float y t from rx);cases q;exact aa2 PySem.W.kitx_float I.kIn True.intro e (fun z=>nomatch z) h
  | @lst a xs ea =>
    cases (show u=Value.ref a from rx);obtain ⟨_,_,n,_,h1⟩:=(show ObjOk X.prog X.w H s.heap a (.lst xs) from I.hok a _ ea)
    exact aa2 PySem.W.kitx_list I.kIn ⟨_,h1,rfl⟩ e (fun z=>nomatch z) h
  | @frz a ob xs ea =>
    cases (show u=Value.ref a from rx);obtain ⟨_,_,_,n,_,h1⟩:=(show ObjOk X.prog X.w H s.heap a (.frz ob (.lst xs)) from I.hok a _ ea)
    exact aa2 PySem.W.kitx_list I.kIn ⟨_,h1,rfl⟩ e (fun z=>nomatch z) h
  | @tup a xs ea =>
    cases (show u=Value.ref a from rx);obtain ⟨_,_,_,p⟩:=(show ObjOk X.prog X.w H s.heap a (.tup xs) from I.hok a _ ea)
    obtain ⟨o,h1,h2,_⟩:=p;exact aa2 PySem.W.kitx_tuple I.kIn ⟨o,h1,h2⟩ e (fun z=>nomatch z) h
  | @dK a kvs ea =>
    cases (show u=Value.ref a from rx);obtain ⟨_,_,vs,_,p⟩:=(show ObjOk X.prog X.w H s.heap a (.dK kvs) from I.hok a _ ea)
    obtain ⟨o,es,ep,h1,h2,_⟩:=p;exact aa2 PySem.W.kitx_dict I.kIn ⟨o,h1,h2.1⟩ e (fun z=>nomatch z) h
  | @dT a kvs ea =>
    cases (show u=Value.ref a from rx);obtain ⟨_,_,xs,_,o,es,ep,h1,h2,_⟩:=(show ObjOk X.prog X.w H s.heap a (.dT kvs) from I.hok a _ ea)
    exact aa2 PySem.W.kitx_dict I.kIn ⟨o,h1,h2.1⟩ e (fun z=>nomatch z) h
  | @ins a C dx fs ea cl ha hn htk hm =>
    cases (show u=Value.ref a from rx);obtain ⟨mA,O,_⟩:=q_ I.hok ea;obtain ⟨od,J,_⟩:=O.look;exact aa2 (PySem.W.kitx_own (cl.get _) cl.hd ha hn htk hm) I.kIn J e (fun z=>nomatch z) h
end
open PySem PySem.Spec PyProof.Rows
structure Room (k:Nat) (A:Around):Prop where
  hd:A.handled=none
  dp:A.depth+3 * k+5 < recursionLimit
  un:A.units+16 * k+200 < cLine
  gd:A.guards=some []
theorem Room.mono {j k:Nat} {A:Around} (r:Room k A) (h:j≤k):Room j A:=⟨r.hd,by have:=r.dp;lia,by have:=r.un;lia,r.gd⟩
theorem Room.deeper {k:Nat} {A:Around} (r:Room (k+1) A) (env:Env):Room k (A.deeper env) :=
  ⟨r.hd,by have:=r.dp;show A.depth+1+3 * k+5 < _;lia,by have:=r.un;show A.units+3+16 * k+200 < _;lia,r.gd⟩
theorem Room.depth {k:Nat} {A:Around} (r:Room k A):A.depth < recursionLimit:=by have:=r.dp;lia
theorem Room.units {k:Nat} {A:Around} (r:Room k A):A.units+64 < cLine:=by have:=r.un;lia
def uq:TA:=fun _ H Q=>Q [] H
def tF (ta:TE) (tr:TA):TA:=fun σ H Q=>ta σ H fun x H1=>tr σ H1 fun xs H2=>Q (x :: xs) H2
section
variable {X:Cx} {e:Expr} {es:List Expr} {te:TE} {t:TA} {pos:Pos}
theorem ac:PA X [] uq:=fun _ _ _ _ H Q I h=>Calls.spliced_nil ⟨[],H,I,.nil,h⟩
theorem aa (ha:PE X e te) (hr:PA X es t) (hs:starEach (e :: es) X.env=(false,eval e X.env) :: starEach es X.env:=by rfl):PA X (e :: es) (tF te t):=by
  intro pos pins s σ H Q I h;rw [hs];show wpAny _ _ (spliced ((false,eval e X.env) :: backTo pos (starEach es X.env))) _ _ s;refine Calls.spliced_cons (thn (ha pins s σ H _ I h) fun u s1 ⟨x,H1,I1,r1,q1⟩=>?_);exact thn (hr pos pins s1 σ H1 _ I1 q1) fun us s2 ⟨xs,H2,I2,r2,q2⟩=>⟨x :: xs,H2,I2,.cons r1 r2,q2⟩
def um (t:TA):TE:=fun σ H Q=>t σ H fun xs H1=>xs.length≤sizeLine∧∀ p,H1 p=none→Q (.ref p) (upd H1 p (.tup xs))
def ut (t:TA):TE:=fun σ H Q=>t σ H fun xs H1=>xs.length≤sizeLine∧∀ p,H1 p=none→Q (.ref p) (upd H1 p (.lst xs))
theorem aM {x1} (h:PA X es t):PE X (.Tuple es x1 pos) (um t):=by
  intro pins s σ H Q I hq;refine wpAny_Tuple_spliced (thn (h pos pins s σ H _ I hq) fun us s1 ⟨xs,H1,I1,r,z,q⟩=>⟨by rw [← r.length];exact z,?_⟩);have hf:H1 s1.heap.objs.size=none:=I1.hok.fresh (aac _);refine ⟨.ref s1.heap.objs.size,upd H1 s1.heap.objs.size (.tup xs),I1.laid (t':=s1.toks) (fun b u e=>aah _ e) (aac _) ?_,rfl,q _ hf⟩;exact ⟨z,us,r,⟨_,aaG _ rfl,rfl,_,rfl⟩⟩
theorem aY (h:PA X es t):PE X (.List es pos) (ut t):=by
  intro pins s σ H Q I hq;refine wpAny_List_spliced (thn (h pos pins s σ H _ I hq) fun us s1 ⟨xs,H1,I1,r,z,q⟩=>⟨by rw [← r.length];exact z,?_⟩);have hf:H1 s1.heap.objs.size=none:=I1.hok.fresh (aac _);refine ⟨.ref s1.heap.objs.size,upd H1 s1.heap.objs.size (.lst xs),I1.laid (t':=s1.toks) (fun b u e=>aah _ e) (aac _) ?_,rfl,q _ hf⟩;exact ⟨z,us,0,r,aaG _ rfl⟩
end
abbrev Sp:=List V→Hp→VK→XK→Prop
abbrev CXT:=List Env→Hp→Shared→XK→Value→Shared→Prop
structure Env0 (P:Program) (w:World) (K:aaa) (mg:Str→Option Value) (base:Heap) (A:Around) (outer:List Env) (s:Shared) (H:Hp):Prop where
  frames:A.frames=some outer
  mod:Mod K mg base
  bs:∀ b o,base.get? b=some o→s.heap.get? b=some o∧H b=none
  bsz:base.objs.size≤s.heap.objs.size
  funs:s.heap.FunFrames base outer
  frf:∀ b∈frs outer,H b=none
  hok:HOk P w H s.heap
  bare:AllBare s.gens
def CE (outer:List Env) (P:Program) (w:World) (H:Hp) (s:Shared) (Q:VK) (u:Value) (s':Shared):Prop :=
  ∃ v H',s'.os=s.os∧AllBare s'.gens∧Un (frs outer) [] H H' s.heap s'.heap∧HOk P w H' s'.heap∧RelV v u∧Q v H'
def CR (CX:CXT) (outer:List Env) (P:Program) (w:World) (H:Hp) (s:Shared) (Q:VK) (E:XK) (r:Result) (s':Shared):Prop :=
  match r with
  | .ok (.ret u)=>CE outer P w H s Q u s'
  | .ok _=>False
  | .error e=>CX outer H s E e s'
structure FnOk (P:Program) (w:World) (K:aaa) (mg:Str→Option Value) (base:Heap) (CX:CXT) (k:Nat) (f:Addr) (fd:FuncData) (ps:List Str) (sp:Sp):Prop where
  len:∀ vs H Q E,sp vs H Q E→vs.length=ps.length
  run:∀ (A:Around) (outer:List Env) (s:Shared) (H:Hp) (args:Args) (us:List Value) (vs:List V) (Q:VK) (E:XK),Room k A→Env0 P w K mg base A outer s H→BindsTo s fd args (ps.zip us)→Vals vs us→sp vs H Q E →
    codeAny (model P w) A (.call (.ref f) args) (CR CX outer P w H s Q E) s
section
variable {X:Cx} {pins:List (Addr × Obj)} {σ:St} {H:Hp} {s s':Shared}
theorem Inv.env0 (I:Inv X pins σ H s):Env0 X.prog X.w X.K X.mg X.base X.A X.stack s H :=
  ⟨I.ok.frames,I.ok.mod,I.bs,aaN I.ok.bsz I.sz,I.stack,I.stkFree,I.hok,I.bare⟩
theorem Inv.after {Q:VK} {u:Value} (I:Inv X pins σ H s) (h:CE X.stack X.prog X.w H s Q u s'):EP X pins σ Q u s':=by
  obtain ⟨v,H',os,bare,un,hok,r,q⟩:=h;obtain ⟨hh,g,d,t,os'⟩:=s';obtain rfl:os'=s.os:=os;exact ⟨v,H',I.call (h':=hh) (g':=g) (d':=d) (t':=t) (ch:=[]) un hok bare (fun b z=>absurd z (by simp)),r,q⟩
end
def rz (sp:Sp) (dvs:List V) (E:XK) (t:TA):TE:=fun σ H Q=>t σ H fun vs H1=>sp (vs++dvs) H1 Q E
def Binds (K:aaa) (fd:FuncData) (ps:List Str) (ds:List Value):Prop :=
  ∀ (s:Shared) (us:List Value),K.In s.heap→(us++ds).length=ps.length→BindsTo s fd ⟨us,[]⟩ (ps.zip (us++ds))
theorem Binds.all {K:aaa} {fd:FuncData} {ps:List Str} (h:∀ us:List Value,us.length=ps.length→bindArgs fd ⟨us,[]⟩=pure (ps.zip us)):Binds K fd ps []:=fun s us _ hl=>by
  rw [List.append_nil] at hl ⊢;exact .of_eq (h us hl)
def m6 (CX:CXT) (X:Cx) (E:XK):Prop:=∀ (pins:List (Addr × Obj)) (σ:St) (H:Hp) (s:Shared) (e:Value) (s':Shared),Inv X pins σ H s→CX X.stack H s E e s'→X.xe e s'
section
variable {X:Cx} {CX:CXT} {k:Nat} {f C:Addr} {fd:FuncData} {ps:List Str} {sp:Sp} {dvs:List V} {ds:List Value} {E:XK} {x m:Str} {p pos apos:Pos} {e o:Expr} {es:List Expr} {ta:TE} {t:TA}
theorem se {pins:List (Addr × Obj)} {σ:St} {H:Hp} {s:Shared} {Q:VK} {us:List Value} {vs:List V} (F:FnOk X.prog X.w X.K X.mg X.base CX k f fd ps sp) (hr:Room k X.A) (hb:Binds X.K fd ps ds) (hd:Vals dvs ds) (hx:m6 CX X E)
    (I:Inv X pins σ H s) (r:Vals vs us) (h:sp (vs++dvs) H Q E):wpAny (model X.prog X.w) X.A (call (.ref f) us) (EP X pins σ Q) X.xe s:=by
  have r2:Vals (vs++dvs) (us++ds):=r.append hd;have hl:(us++ds).length=ps.length:=by rw [← r2.length];exact F.len _ _ _ _ h
  refine wpAny_call (codeAny_mono (F.run X.A X.stack s H ⟨us,[]⟩ (us++ds) (vs++dvs) Q E hr I.env0 (hb s us I.kIn hl) r2 h) fun r s' hq=>?_);cases r with
  | error e=>exact hx pins σ H s e s' I hq
  | ok fl =>
    cases fl with
    | ret u=>exact I.after hq
    | next=>exact abF hq
    | brk=>exact abF hq
    | cont=>exact abF hq
theorem qQ (F:FnOk X.prog X.w X.K X.mg X.base CX k f fd ps sp) (hr:Room k X.A) (hg:Gl X x) (hm:X.mg x=some (.ref f)) (hk:aa9 X.K (.ref f)=true) (hb:Binds X.K fd ps ds) (hd:Vals dvs ds) (hx:m6 CX X E)
    (ha:PA X (e :: es) t) (hdb:(x == ("__debug__":Str))=false:=by decide) (he:starEach (e :: es) X.env=(false,eval e X.env) :: starEach es X.env:=by rfl) (hpl:(backTo pos (starEach es X.env)).any (·.1)=false:=by rfl) :
    PE X (.Call (.Name x p) (e :: es) [] pos) (rz sp dvs E t):=by
  intro pins s σ H Q I h;refine wpAny_Call_Name_kw (nQ I hg hm ?_ hdb);refine PySem.W.callWith_K (h₀:=X.base) I.ok.mod.kin hk (thn (ha pos pins s σ H _ I h) fun us s1 ⟨vs,H1,I1,r,q⟩=>⟨I1.kIn,?_⟩) he hpl;exact se F hr hb hd hx I1 r q
structure Mk (K:aaa) (C f:Addr):Prop where
  makes:PySem.W.makesIn K C=true
  init:ab6 K (.ref C) "__init__" = some (some (.ref f))
  fn:PySem.W.isFn K (.ref f)=true
  kp:aa9 K (.ref C)=true
end
section
variable {X:Cx} {CX:CXT} {k:Nat} {f C:Addr} {fd:FuncData} {ps ks:List Str} {sp:Sp} {E:XK} {x m:Str} {p pos apos kpos:Pos} {e o:Expr} {es:List Expr} {kws:List Keyword} {te ta:TE} {t tk:TA} {nm:Option Str}
structure KBinds (K:aaa) (fd:FuncData) (ps ks:List Str) (g:List Value→List Value→List Value) (gV:List V→List V→List V):Prop where
  to:∀ (s:Shared) (us ws:List Value),K.In s.heap→(g us ws).length=ps.length→BindsTo s fd ⟨us,ks.zip ws⟩ (ps.zip (g us ws))
  rel:∀ {vs:List V} {us:List Value} {zs:List V} {ws:List Value},Vals vs us→Vals zs ws→Vals (gV vs zs) (g us ws)
variable {g:List Value→List Value→List Value} {gV:List V→List V→List V}
end
structure FnScope (N P:List Str) (sc:Scope):Prop where
  kind:sc.kind=.function
  co:sc.isCoroutine=false
  gen:sc.isGenerator=false
  nd:N.Nodup
  pre:N.take P.length=P
  par:∀ x∈P,sc.names.lookup x=some .local∨sc.names.lookup x=some .cell
  nofree:∀ y∈sc.names,y.2≠.free
theorem jZ {kindOf:Str→Option NameKind} {x:Str}:∀ {binds:List (Str × Value)} {m:Str→Option Value},(∀ v,(x,v)∉binds)→bindL kindOf binds m x=m x
  | [],_,_=>rfl
  | (n,v) :: r,m,h=>by
    unfold bindL;rw [jZ fun w hw=>h w (aaj _ hw)];split
    · have : x≠n:=by rintro rfl;exact h v aan
      simp [this]
    · rfl
theorem j1 {kindOf:Str→Option NameKind} {x:Str}:∀ {binds:List (Str × Value)} {m:Str→Option Value},(∀ v,(x,v)∉binds)→bindC kindOf binds m x=m x
  | [],_,_=>rfl
  | (n,v) :: r,m,h=>by
    unfold bindC;rw [j1 fun w hw=>h w (aaj _ hw)];split
    · rfl
    · have : x≠n:=by rintro rfl;exact h v aan
      simp [this]
theorem j0 {kindOf:Str→Option NameKind} {x:Str} {v:Value}:∀ {P:List Str} {vs:List Value} {i:Nat} {m:Str→Option Value},P.Nodup→P[i]?=some x→vs[i]?=some v→kindOf x=some .local →
    bindL kindOf (P.zip vs) m x=some v
  | [],_,_,_,_,h,_,_=>by simp at h
  | _ :: _,[],_,_,_,_,h,_=>by simp at h
  | p :: P,w :: vs,0,m,nd,h1,h2,hk=>by
    simp at h1 h2;subst h1;subst h2;show bindL kindOf ((p,w) :: P.zip vs) m p=_;unfold bindL;rw [jZ fun v hv=>(aci.mp nd).1 (List.of_mem_zip hv).1,if_pos hk];simp
  | p :: P,w :: vs,i+1,m,nd,h1,h2,hk=>by
    show bindL kindOf ((p,w) :: P.zip vs) m x=_;unfold bindL;exact j0 (i:=i) (aci.mp nd).2 (by simpa using h1) (by simpa using h2) hk
theorem j2 {kindOf:Str→Option NameKind} {x:Str} {v:Value}:∀ {P:List Str} {vs:List Value} {i:Nat} {m:Str→Option Value},P.Nodup→P[i]?=some x→vs[i]?=some v→kindOf x≠some .local →
    bindC kindOf (P.zip vs) m x=some v
  | [],_,_,_,_,h,_,_=>by simp at h
  | _ :: _,[],_,_,_,_,h,_=>by simp at h
  | p :: P,w :: vs,0,m,nd,h1,h2,hk=>by
    simp at h1 h2;subst h1;subst h2;show bindC kindOf ((p,w) :: P.zip vs) m p=_;unfold bindC;rw [j1 fun v hv=>(aci.mp nd).1 (List.of_mem_zip hv).1,if_neg hk];simp
  | p :: P,w :: vs,i+1,m,nd,h1,h2,hk=>by
    show bindC kindOf ((p,w) :: P.zip vs) m x=_;unfold bindC;exact j2 (i:=i) (aci.mp nd).2 (by simpa using h1) (by simpa using h2) hk
def h7 (N:List Str) (vs:List V):St:=vs.map some++aax (N.length - vs.length) none
def oO (CX:CXT) (P:Program) (w:World) (K:aaa) (mg:Str→Option Value) (base:Heap) (N:List Str) (qual:Str) (scope:Scope) (f:Addr) (cd:Value) (A:Around) (outer:List Env) (s:Shared) (H:Hp) (E:XK):Cx where
  prog:=P
  w:=w
  K:=K
  mg:=mg
  base:=base
  A:=A.deeper (envOfC qual scope s.heap.objs.size f cd)
  N:=N
  s₀:=s
  H₀:=H
  env:=envOfC qual scope s.heap.objs.size f cd
  outer:=outer
  stack:=envOfC qual scope s.heap.objs.size f cd :: outer
  ex:=[]
  calm:=true
  fn:=fun _=>true
  pn:=[]
  xe:=fun e s'=>wpAny (model P w) (A.deeper (envOfC qual scope s.heap.objs.size f cd)) (leaving (envOfC qual scope s.heap.objs.size f cd) e) (fun _ s''=>CX outer H s E e s'') (fun e' s''=>CX outer H s E e' s'') s'
theorem l_ {sc:Scope} {n:Nat} {x:Str} (h:sc.names.lookup x=some .cell):∃ c,(cellsFrom n sc.names []).lookup x=some c:=by
  have q:=PySem.W.cellsFrom_some sc.names n [] (.inl h);exact abR.mp q
theorem oJ {CX:CXT} {P:Program} {w:World} {K:aaa} {mg:Str→Option Value} {base:Heap} {N ps:List Str} {qual:Str} {scope:Scope} {f:Addr} {cd:Value} {A:Around} {outer:List Env} {s s1:Shared} {H:Hp} {E:XK} {us:List Value} {vs:List V}
    (S:FnScope N ps scope) (hd:A.handled=none) (e0:Env0 P w K mg base A outer s H) (hl:vs.length=ps.length) (r:Vals vs us)
    (x:InCallC s s.heap.objs.size (bindL (envOfC qual scope s.heap.objs.size f cd).kindOf (ps.zip us) fun _=>none) (cellsFrom (s.heap.objs.size+1) scope.names []) (bindC (envOfC qual scope s.heap.objs.size f cd).kindOf (ps.zip us) fun _=>none) s1) :
    Inv (oO CX P w K mg base N qual scope f cd A outer s H E) [] (h7 N vs) H s1:=by
  have hpl:ps.length≤N.length:=by have:=congrArg List.length S.pre;rw [aas] at this;lia
  obtain ⟨h1,tk,rfl,hk⟩:=x.done;have noA:∀ b:Addr,b∉(oO CX P w K mg base N qual scope f cd A outer s H E).ex:=fun b z=>absurd (show b∈([]:List Addr) from z) (by simp);refine ⟨⟨e0.mod,S.kind,rfl,rfl,aac _,fun y z c h1 h2=>?_,fun y hy=>?_,fun y c _ h=>?_,fun _=>hd,Around.frames_deeper e0.frames,.inr ⟨rfl,rfl⟩,fun b z=>absurd z (noA b),e0.bs,e0.bsz,fun b _ _=>noA b,fun b z=>absurd z (noA b),e0.funs,e0.frf⟩,
    rfl,e0.bare,Un.kept hk,⟨_,x.toInCall.ns,fun i y v h1 h2 h3=>?_⟩,fun y c h=>⟨_,x.cell y c h⟩,e0.hok.fresh (aac _),fun y c h=>?_,fun p hp=>absurd (show p∈([]:List (Addr × Obj)) from hp) (by simp),e0.hok.kept hk,?_⟩
  · exact name_of_addr x.apart (aa8 h1) (aa8 h2)
  · have hy:scope.names.lookup y=some .cell∨scope.names.lookup y=some .free:=hy;rcases hy with hy|hy
    · exact l_ hy
    · exact absurd rfl (S.nofree _ (aa8 hy))
  · exact abi (x.above y c (aa8 h))
  · have hi:i < vs.length:=by
      unfold h7 at h2;by_cases hi:i < vs.length
      · exact hi
      · rw [abJ (by simpa using hi)] at h2;rw [List.getElem?_replicate] at h2;split at h2 <;> cases h2
    have ha:vs[i]?=some v:=by
      unfold h7 at h2;rw [abq (by simpa using hi),aam] at h2;cases e:vs[i]? with
      | none=>rw [e] at h2;cases h2
      | some a=>rw [e] at h2;cases h2;rfl
    obtain ⟨u,hu,rv⟩:=r.get ha;have hp:ps[i]?=some y:=by
      rw [← S.pre,abQ (by lia)];exact h1
    have ndP:ps.Nodup:=by rw [← S.pre];exact S.nd.sublist (List.take_sublist _ _)
    refine ⟨u,rv,?_⟩;rcases S.par y (aaw hp) with k|k
    · exact .inl ⟨k,j0 ndP hp hu k⟩
    · obtain ⟨c,e⟩:=l_ (n:=s.heap.objs.size+1) k;refine .inr ⟨.inl k,c,e,?_⟩;have q:=x.cell y c e;rw [j2 ndP hp hu (by show scope.names.lookup y≠_;rw [k];decide)] at q;exact q
  · exact e0.hok.fresh (abi (x.above y c (aa8 h)))
  · unfold h7;show _=N.length;rw [aag,aab,List.length_replicate];lia
theorem uc {CX:CXT} {P:Program} {w:World} {K:aaa} {mg:Str→Option Value} {base:Heap} {k:Nat} {f:Addr} {name qual:Str} {params:Arguments} {body:List Stmt} {scope:Scope} {dV kV doc pm cdv ct oc:Value} {an od:Option Addr}
    {osl:Array (Option Value)} {N ps:List Str} {sp:Sp} (lk:K.lookup f=some ⟨oc,od,.func (abc name qual params body scope dV kV doc pm an cdv ct),osl⟩) (hcd:abz K cdv qual=true) (S:FnScope N ps scope)
    (len:∀ vs H Q E,sp vs H Q E→vs.length=ps.length)
    (hbody:∀ (A:Around) (outer:List Env) (s:Shared) (H:Hp) (vs:List V) (Q:VK) (E:XK),Room k (A.deeper (envOfC qual scope s.heap.objs.size f cdv))→sp vs H Q E →
      ∃ t,PSs (oO CX P w K mg base N qual scope f cdv A outer s H E) body t∧t { nx:=fun _ H'=>Q .non H',rt:=Q } (h7 N vs) H) :
    FnOk P w K mg base CX (k+1) f (abc name qual params body scope dV kV doc pm an cdv ct) ps sp:=by
  refine ⟨len,fun A outer s H args us vs Q E hr e0 hb r hsp=>?_⟩;have hl:=len _ _ _ _ hsp;have KX:K.In s.heap:=e0.mod.kin.keeps fun b o e=>(e0.bs b o e).1;have lim:s.heap.NoLimit:=e0.mod.nolimit.keeps fun b o e=>(e0.bs b o e).1;have hkind:∀ y∈ps.zip us,scope.names.lookup y.1=some .local∨(scope.names.lookup y.1=some .cell∧((cellsFrom (s.heap.objs.size+1) scope.names []).lookup y.1).isSome=true):=fun ⟨n,v⟩ hy=>by
    rcases S.par n (List.of_mem_zip hy).1 with q|q
    · exact .inl q
    · exact .inr ⟨q,PySem.W.cellsFrom_some _ _ _ (.inl q)⟩
  refine codeAny_call_function hr.depth (KX _ _ lk) rfl S.co S.gen rfl (PySem.W.codeRec_of KX hcd) (hb _ _ _ _ ?_);refine wpAny_newFunctionEnv_cells S.kind hkind fun env he s1 x=>?_;subst he;refine ⟨lim.keeps x.toInCall.keep,codeAny_func ?_⟩;obtain ⟨t,ht,hq⟩:=hbody A outer s H vs Q E (hr.deeper _) hsp;have I:Inv (oO CX P w K mg base N qual scope f cdv A outer s H E) [] (h7 N vs) H s1:=oJ S hr.hd e0 hl r x;refine wpAny_mono (ht [] s1 (h7 N vs) H _ I hq) (fun fl s' hs=>?_) fun e s' hs=>hs;have fin:∀ {σ':St} {H':Hp} {v:V} {u:Value},Inv (oO CX P w K mg base N qual scope f cdv A outer s H E) [] σ' H' s'→RelV v u→Q v H'→CE outer P w H s Q u s' :=
    fun {σ' H' v u} J rv q=>⟨v,H',J.os,J.bare,J.base,J.hok,rv,q⟩
  cases fl with
  | ret u =>
    obtain ⟨v,σ',H',J,rv,q⟩:=hs;exact fin J rv q
  | next =>
    obtain ⟨σ',H',J,q⟩:=hs;exact fin (v:=V.non) (u:=Value.none) J rfl q
  | brk =>
    obtain ⟨_,_,_,q⟩:=hs;exact abF q
  | cont =>
    obtain ⟨_,_,_,q⟩:=hs;exact abF q
open PySem PySem.Spec PyProof.Rows
section
variable {X:Cx} {x:Str} {p pos:Pos} {e:Expr} {es:List Expr} {t:TA} {id T:String} {r:List V→Hp→VK→Prop}
def tCB (r:List V→Hp→VK→Prop) (t:TA):TE:=fun σ H Q=>t σ H fun vs H1=>r vs H1 Q
theorem ao (hc:di X (.builtin id) r) (hg:Gl X x) (hm:X.mg x=none) (hv:bootBuiltins x=some (.builtin id)) (ha:PA X (e :: es) t) (hn:x ≠ "__name__":=by decide) (hdb:(x == ("__debug__":Str))=false:=by decide)
    (he:starEach (e :: es) X.env=(false,eval e X.env) :: starEach es X.env:=by rfl) (hpl:(backTo pos (starEach es X.env)).any (·.1)=false:=by rfl):PE X (.Call (.Name x p) (e :: es) [] pos) (tCB r t):=by
  intro pins s σ H Q I h;refine wpAny_Call_Name_kw (hW I hg hm hv ?_ hn hdb);exact PyProof.Rows.callWith_builtin1 (thn (ha pos pins s σ H _ I h) fun us s1 ⟨vs,H1,I1,r1,q1⟩=>hc pins s1 σ H1 vs us Q I1 r1 q1) he hpl
theorem bH (hc:di X (.type T) r) (hg:Gl X x) (hm:X.mg x=none) (hv:bootBuiltins x=some (.type T)) (ha:PA X (e :: es) t) (hn:x ≠ "__name__":=by decide) (hdb:(x == ("__debug__":Str))=false:=by decide)
    (he:starEach (e :: es) X.env=(false,eval e X.env) :: starEach es X.env:=by rfl) (hpl:(backTo pos (starEach es X.env)).any (·.1)=false:=by rfl):PE X (.Call (.Name x p) (e :: es) [] pos) (tCB r t):=by
  intro pins s σ H Q I h;refine wpAny_Call_Name_kw (hW I hg hm hv ?_ hn hdb);exact abl (thn (ha pos pins s σ H _ I h) fun us s1 ⟨vs,H1,I1,r1,q1⟩=>hc pins s1 σ H1 vs us Q I1 r1 q1) he hpl
end
end L2
namespace HT
open PySem PyProof.Rows
section
open PySem.SeqAt
open PySem.AutoSeq1 (wpAny_loadPart')
open PySem.MeetsSeq PySem.MeetsSeq2 PySem.MeetsSeq3
end
section
variable {prog:Program} {w:World} {A:Around} {E:Value→Shared→Prop} {s:Shared}
theorem cat_tup {t b:Addr} {vs ws:List Value} {Q:Value→Shared→Prop} (ht:IsTup s.heap t vs.toArray) (hb:IsTup s.heap b ws.toArray) (hv:vs≠[])
    (h1:ws=[]→Q (.ref t) s) (h2:ws≠[]→Q (.ref s.heap.objs.size) { s with heap:=s.heap.push { cls:=.type "tuple",data:=.seq (vs++ws).toArray } })
    (hsz:vs.length+ws.length≤sizeLine):wpAny (model prog w) A (binaryOp .Add (.ref t) (.ref b)) Q E s:=by
  obtain ⟨⟨cls,dd,data,sl⟩,ho,hc,n,hd⟩:=id ht;obtain ⟨⟨cls2,dd2,data2,sl2⟩,ho2,hc2,n2,hd2⟩:=id hb;simp only at hc hd hc2 hd2;subst hc hd hc2 hd2;have e:vs.toArray++ws.toArray=(vs++ws).toArray:=by simp
  by_cases hw:ws=[]
  · exact concat_meets ⟨_,ho,rfl⟩ ⟨_,ho2,rfl⟩ noFill_tuple_add seq_tuple_add PySem.F.slot_tuple_add PySem.F.entry_tuple_add (PySem.F.args_tuple_add_2 _ _)
      (tuple_addW1 t b vs.toArray ws.toArray n n2 dd dd2 sl sl2 (by simpa using hv) (by simp [hw])) ⟨ho,ho2,h1 hw⟩
  · refine concat_meets ⟨_,ho,rfl⟩ ⟨_,ho2,rfl⟩ noFill_tuple_add seq_tuple_add PySem.F.slot_tuple_add PySem.F.entry_tuple_add (PySem.F.args_tuple_add_2 _ _)
      (tuple_addW2 t b vs.toArray ws.toArray n n2 dd dd2 sl sl2 (by simpa using hv) (by simpa using hw) (by rw [aad,aad];exact hsz)) ⟨ho,ho2,?_⟩
    rw [e];exact h2 hw
def sIx (n d:Nat):Option Int→Nat
  | none=>d
  | some v=>if v < 0 then (v+(n:Int)).toNat else min v.toNat n
end
end HT
namespace L2
open PySem PySem.Spec PyProof.Rows
abbrev TO:=St→Hp→(Option Int→Hp→Prop)→Prop
def PO (X:Cx) (e:Option Expr) (t:TO):Prop :=
  ∀ (pins:List (Addr × Obj)) (s:Shared) (σ:St) (H:Hp) (Q:Option Int→Hp→Prop),Inv X pins σ H s→t σ H Q →
    wpAny (model X.prog X.w) X.A (evalPart e X.env) (fun u s'=>∃ o H',Inv X pins σ H' s'∧IsPart u o∧Q o H') X.xe s
def qA:TO:=fun _ H Q=>Q none H
def tp (t:TE):TO:=fun σ H Q=>t σ H fun x H1=>∃ i,x=.int i∧Q (some i) H1
section
variable {X:Cx} {e:Expr} {te:TE} {lo hi:Option Expr} {tl th:TO} {pos p2:Pos}
theorem kt:PO X none qA:=by
  intro pins s σ H Q I h;rw [evalPart_none];exact wpAny_pure ⟨none,H,I,.none,h⟩
theorem kq (h:PE X e te):PO X (some e) (tp te):=by
  intro pins s σ H Q I hw;rw [evalPart_some];refine thn (h pins s σ H _ I hw) fun u s1 ⟨x,H1,I1,r1,q1⟩=>?_;obtain ⟨i,rfl,q⟩:=q1;obtain ⟨t,rfl⟩:=r1;exact ⟨some i,H1,I1,.int i t,q⟩
def SlR (X:Cx) (r:V→Option Int→Option Int→Hp→VK→Prop):Prop :=
  ∀ (pins:List (Addr × Obj)) (s:Shared) (σ:St) (H:Hp) (x:V) (v vl vu:Value) (lo hi:Option Int) (sl:Addr) (Q:VK),Inv X pins σ H s→RelV x v→s.heap.IsSliceOf sl vl vu .none→IsPart vl lo→IsPart vu hi→r x lo hi H Q →
    ∃ T id,typeLookup (.type T) "__getitem__" = pure (some (.builtin id))∧s.TypeIs v T∧wpAny (model X.prog X.w) X.A (getItem v (.ref sl)) (EP X pins σ Q) X.xe s
def tSl (r:V→Option Int→Option Int→Hp→VK→Prop) (te:TE) (tl th:TO):TE:=fun σ H Q=>te σ H fun x H1=>tl σ H1 fun l H2=>th σ H2 fun u H3=>r x l u H3 Q
theorem iU {r:V→Option Int→Option Int→Hp→VK→Prop} (hr:SlR X r) (he:PE X e te) (hl:PO X lo tl) (hu:PO X hi th):PE X (.Subscript e (.Slice lo hi none p2) pos) (tSl r te tl th):=by
  intro pins s σ H Q I h;refine Subscript_ (thn (he pins s σ H _ I h) fun v s1 ⟨x,H1,I1,r1,q1⟩=>?_);refine wpAny_Slice (thn (hl pins s1 σ H1 _ I1 q1) fun vl s2 ⟨l,H2,I2,pl,q2⟩=>thn (hu pins s2 σ H2 _ I2 q2) fun vu s3 ⟨u,H3,I3,pu,q3⟩=>?_);rw [evalPart_none];refine wpAny_pure ?_;have I4:Inv X pins σ H3 { s3 with heap:=s3.heap.push { cls:=.type "slice",data:=.fields #[vl,vu,.none] } }:=I3.kept (t':=s3.toks) fun b ob q=>aah _ q;obtain ⟨T,id,hT,ht,hg⟩:=hr pins { s3 with heap:=s3.heap.push { cls:=.type "slice",data:=.fields #[vl,vu,.none] } } σ H3 x v vl vu l u s3.heap.objs.size Q I4 r1 (Heap.IsSliceOf.new ..) pl pu q3;show wpAny (model X.prog X.w) X.A (subscriptTail e (.Slice lo hi none p2) v (.ref s3.heap.objs.size)) (EP X pins σ Q) X.xe { s3 with heap:=s3.heap.push { cls:=.type "slice",data:=.fields #[vl,vu,.none] } };exact tail_any (ops:=[.ref s3.heap.objs.size,v]) ht hT hg (by with_unfolding_all rfl)
def jF (xs:List V) (lo hi:Option Int):List V:=(xs.drop (HT.sIx xs.length 0 lo)).take (HT.sIx xs.length xs.length hi - HT.sIx xs.length 0 lo)
theorem l8 (xs:List V) (lo hi:Option Int):(jF xs lo hi).length≤xs.length:=by
  unfold jF;rw [aas,aaJ];lia
def tN (K:aaa):R2:=fun x y H Q=>∃ a b xs ys,x=.ref a∧y=.ref b∧SqT K H a xs∧SqT K H b ys∧xs≠[]∧xs.length+ys.length≤sizeLine ∧
  (ys=[]→Q (.ref a) H)∧(ys≠[]→∀ p,H p=none→Q (.ref p) (upd H p (.tup (xs++ys))))
theorem Vals.nil_iff {xs:List V} {us:List Value} (r:Vals xs us):us=[]↔xs=[]:=by
  cases r with
  | nil=>simp
  | cons _ _=>simp
theorem nM:OpR X (binaryOp .Add) (tN X.K):=by
  intro pins s σ H x y v u Q I rx ry h;obtain ⟨a,b,xs,ys,rfl,rfl,ha,hb,hx,hz,q1,q2⟩:=h;cases rx;cases ry;obtain ⟨its,r1,p1,_⟩:=I.tuple ha;obtain ⟨its2,r2,p2,_⟩:=I.tuple hb;refine HT.cat_tup p1 p2 (fun z=>hx (r1.nil_iff.mp z)) (fun z=>⟨.ref a,H,I,rfl,q1 (r2.nil_iff.mp z)⟩) (fun z=>?_) (by rw [← r1.length,← r2.length];exact hz);refine ⟨.ref s.heap.objs.size,_,I.laid (t':=s.toks) (o:=.tup (xs++ys)) (fun b ob q=>aah _ q) (aac _) ?_,rfl,q2 (fun w=>z (r2.nil_iff.mpr w)) _ (I.hok.fresh (aac _))⟩;exact ⟨by rw [aag];exact hz,_,r1.append r2,IsTup.new _ _⟩
end
open PySem PySem.Spec PyProof.Rows
def ixN (n:Nat) (i:Int):Option Nat:=if 0≤i then (if i < n then some i.toNat else none) else if -(n:Int)≤i then some (i+n).toNat else none
def atI {α:Type} (xs:List α) (i:Int):Option α:=(ixN xs.length i).bind fun j=>xs[j]?
theorem nV {n:Nat} {i:Int} {j:Nat} (h:ixN n i=some j):seqIndex? i n=some j∧j < n∧-(n:Int)≤i∧i < n:=by
  unfold ixN at h;by_cases h0:0≤i
  · rw [if_pos h0] at h;by_cases h1:i < n
    · rw [if_pos h1] at h;have e:i.toNat=j:=aaW h;exact ⟨by rw [seqIndex_of h0 h1,e],by lia,by lia,h1⟩
    · rw [if_neg h1] at h;cases h
  · rw [if_neg h0] at h;by_cases h1:-(n:Int)≤i
    · rw [if_pos h1] at h;have e:(i+n).toNat=j:=aaW h;exact ⟨by rw [seqIndex_neg (by lia) h1,e],by lia,h1,by lia⟩
    · rw [if_neg h1] at h;cases h
theorem kR {α:Type} {xs:List α} {i:Int} {v:α} (h:atI xs i=some v):∃ j,seqIndex? i xs.length=some j∧xs[j]?=some v∧j < xs.length∧-(xs.length:Int)≤i∧i < xs.length:=by
  unfold atI at h;cases e:ixN xs.length i with
  | none=>rw [e] at h;cases h
  | some j =>
    rw [e] at h;obtain ⟨h1,h2,h3,h4⟩:=nV e;exact ⟨j,h1,h,h2,h3,h4⟩
theorem fj {α:Type} {xs:List α} {j:Nat} {v:α} (h:xs[j]?=some v):atI xs (j:Int)=some v:=by
  have hj:j < xs.length:=(aaB.mp h).1;have e:ixN xs.length (j:Int)=some j:=by
    unfold ixN;rw [if_pos (by lia),if_pos (by lia)];simp
  unfold atI;rw [e];exact h
def rm (b:Expr):Prop:=∀ o i,subscripted b false o i=operate [o,i] (getItem o i)
def IxR (X:Cx) (r:R2):Prop :=
  ∀ (value slice:Expr) (pins:List (Addr × Obj)) (s:Shared) (σ:St) (H:Hp) (x y:V) (v u:Value) (Q:VK),Inv X pins σ H s→RelV x v→RelV y u→r x y H Q →
    subscripted slice false v u=operate [v,u] (getItem v u)→wpAny (model X.prog X.w) X.A (subscriptTail value slice v u) (EP X pins σ Q) X.xe s
def MtR (X:Cx) (id:String) (r:V→List V→Hp→VK→Prop):Prop :=
  ∀ (pins:List (Addr × Obj)) (s:Shared) (σ:St) (H:Hp) (x:V) (xs:List V) (v:Value) (us:List Value) (Q:VK),Inv X pins σ H s→RelV x v→Vals xs us→r x xs H Q →
    wpAny (model X.prog X.w) X.A (call (.builtin id) (v :: us)) (EP X pins σ Q) X.xe s
section
variable {X:Cx} {a b:Expr} {ta tb:TE} {pos:Pos}
theorem aG {r:R2} (hr:IxR X r) (ha:PE X a ta) (hb:PE X b tb) (hs:rm b):PE X (.Subscript a b pos) (tOp r ta tb):=by
  intro pins s σ H Q I h;exact Subscript_ (sR ha hb I h fun v u s2 x y H2 I2 rx ry q=>hr a b pins s2 σ H2 x y v u Q I2 rx ry q (hs _ _))
def uH (K:aaa):R2:=fun x y H Q=>∃ p xs i v,x=.ref p∧y=.int i∧SqL K H p xs∧atI xs i=some v∧Q v H
def uF (K:aaa):R2:=fun x y H Q=>∃ p xs i v,x=.ref p∧y=.int i∧SqT K H p xs∧atI xs i=some v∧Q v H
def uG:R2:=fun x y H Q=>∃ z i c,x=.str z∧y=.int i∧z.length≤sizeLine∧atI z.cps.toList i=some c∧Q (.str ⟨#[c]⟩) H
theorem aJ:IxR X (uH X.K):=by
  intro value slice pins s σ H x y v u Q I rx ry h hs;obtain ⟨p,xs,i,z,rfl,rfl,hq,he,q⟩:=h;cases rx;obtain ⟨t,rfl⟩:=ry;obtain ⟨its,r,pl,hz⟩:=I.list hq;obtain ⟨j,h1,h2,h3,h4,h5⟩:=kR he;obtain ⟨w,ew,rw'⟩:=r.get h2;have hl:=r.length;have hn:=fR;have fin:EP X pins σ Q w s:=⟨z,H,I,rw',q⟩
  by_cases h0:0≤i
  · have hj:i.toNat=j:=by
      rw [seqIndex_of h0 h5] at h1;exact aaW h1
    exact item_listR pl.isList h0 (by lia) (by rw [hj];simpa using ew) fin hs
  · have hj:(i+(its.toArray.size:Int)).toNat=j:=by
      rw [seqIndex_neg (by lia) h4] at h1;rw [aad,← hl];exact aaW h1
    exact subscriptTail_builtinR (x:=w) pl.isList.typeIs slot_list_getitem.lookup
      (wpAny_getItem_list_neg (Q:=fun r s'=>r=w∧EP X pins σ Q r s') pl.isList (by lia) (by rw [aad] <;> lia) (by lia) (by rw [hj];simpa using ew) ⟨rfl,fin⟩) hs
theorem aX:IxR X (uF X.K):=by
  intro value slice pins s σ H x y v u Q I rx ry h hs;obtain ⟨p,xs,i,z,rfl,rfl,hq,he,q⟩:=h;cases rx;obtain ⟨t,rfl⟩:=ry;obtain ⟨its,r,pl,hz⟩:=I.tuple hq;obtain ⟨j,h1,h2,h3,h4,h5⟩:=kR he;obtain ⟨w,ew,rw'⟩:=r.get h2;have hl:=r.length;have hn:=fR;have fin:EP X pins σ Q w s:=⟨z,H,I,rw',q⟩
  exact subscriptTail_builtinR (x:=w) pl.typeIs slot_tuple_getitem.lookup
    (getItem_tuple (j:=j) (Q:=fun r s'=>r=w∧EP X pins σ Q r s') pl (by lia) (by lia) (by rw [aad,← hl];exact h1) (by simpa using ew) ⟨rfl,fin⟩) hs
theorem sL:IxR X uG:=by
  intro value slice pins s σ H x y v u Q I rx ry h hs;obtain ⟨z,i,c,rfl,rfl,hz,he,q⟩:=h;obtain ⟨t,rfl⟩:=rx;obtain ⟨t',rfl⟩:=ry;obtain ⟨j,h1,h2,h3,h4,h5⟩:=kR he;have hl:z.cps.toList.length=z.length:=by simp [Str.length]
  rw [hl] at h1 h4 h5;have hn:=fR;exact tail_any (typeIs_str s z t) slot_str_getitem.lookup (getItem_str (c:=c) (by
    have e1:decide (i < -(2 ^ 63:Int))=false:=decide_eq_false (by lia);have e2:decide (i ≥ 2 ^ 63)=false:=decide_eq_false (by lia);rw [e1,e2,Bool.or_false]) (by rw [h1];simpa using h2) ⟨.str ⟨#[c]⟩,H,I.tok _,⟨_,rfl⟩,q⟩) hs
theorem mP (its:List Value) (n j:Nat) (u:Value):Obj.mapSeq (·.setIfInBounds j u) { cls:=.type "list",data:=.seq its.toArray n }={ cls:=.type "list",data:=.seq (its.set j u).toArray n }:=by
  simp [Obj.mapSeq]
theorem Inv.lst {pins:List (Addr × Obj)} {σ:St} {H:Hp} {s:Shared} {p:Addr} {xs:List V} (I:Inv X pins σ H s) (h:H p=some (.lst xs)) :
    ∃ (its:List Value) (n:Nat),Vals xs its∧s.heap.get? p=some { cls:=.type "list",data:=.seq its.toArray n }∧xs.length≤sizeLine:=by
  obtain ⟨z,its,n,r,e⟩:=I.hok p _ h;exact ⟨its,n,r,e,z⟩
theorem Inv.lstUpd {pins:List (Addr × Obj)} {σ:St} {H:Hp} {s:Shared} {p:Addr} {xs ys:List V} {its its':List Value} {n n':Nat} {f:Obj→Obj} (I:Inv X pins σ H s) (h:H p=some (.lst xs))
    (ho:s.heap.get? p=some { cls:=.type "list",data:=.seq its.toArray n }) (hf:f { cls:=.type "list",data:=.seq its.toArray n }={ cls:=.type "list",data:=.seq its'.toArray n' }) (r:Vals ys its') (hz:ys.length≤sizeLine) (t:Nat) :
    Inv X pins σ (upd H p (.lst ys)) { s with heap:=s.heap.update p f,toks:=t }:=by
  have e:(s.heap.update p f).get? p=some { cls:=.type "list",data:=.seq its'.toArray n' }:=by
    rw [Heap.get?_update_self f ho (by rw [hf] <;> rfl),hf]
  refine I.write (x:=p) (e:=p) (by rw [h];trivial) (.inl rfl) (fun b u hb q=>(Heap.get?_update_other _ _ (abO hb)).trans q) ⟨_,e⟩ ?_;exact ⟨hz,its',n',r,e⟩
def tK:V→V→V→Hp→(Hp→Prop)→Prop:=fun o i v H Q=>∃ p xs k j,o=.ref p∧i=.int k∧H p=some (.lst xs)∧ixN xs.length k=some j∧Q (upd H p (.lst (xs.set j v)))
theorem lg:ui X tK:=by
  intro pins s σ H o i v ov iv u Q I ro ri rv h;obtain ⟨p,xs,k,j,rfl,rfl,hp,hj,q⟩:=h;cases ro;obtain ⟨t,rfl⟩:=ri;obtain ⟨its,n,r,ho,hz⟩:=I.lst hp;obtain ⟨h1,h2,h3,h4⟩:=nV hj;have hl:=r.length;have hn:=fR;have I':Inv X pins σ (upd H p (.lst (xs.set j v))) { s with heap:=s.heap.update p (Obj.mapSeq (·.setIfInBounds j u)) } :=
    I.lstUpd hp ho (mP its n j u) (r.set rv j) (by rw [List.length_set];exact hz) s.toks
  by_cases h0:0≤k
  · have hk:k.toNat=j:=by
      rw [seqIndex_of h0 h4] at h1;exact aaW h1
    exact PySem.W.ki_setAt ho h0 (by lia) (by rw [aad,← hl];exact h4) (by rw [hk];exact ⟨_,I',q⟩)
  · have hk:(k+(its.toArray.size:Int)).toNat=j:=by
      rw [seqIndex_neg (by lia) h3] at h1;rw [aad,← hl];exact aaW h1
    exact PySem.W.ki_setBack ho (by lia) (by rw [aad,← hl];exact h3) (by lia) (by rw [hk];exact ⟨_,I',q⟩)
theorem j_ (lo hi:Option Int) (n:Nat):(sliceBounds lo hi none n).1=((HT.sIx n 0 lo:Nat):Int)∧(sliceBounds lo hi none n).2.1=((HT.sIx n n hi:Nat):Int)∧(sliceBounds lo hi none n).2.2=1:=by
  refine ⟨?_,?_,rfl⟩
  · cases lo with
    | none=>simp [sliceBounds,HT.sIx]
    | some i =>
      simp only [sliceBounds,HT.sIx,Option.getD_none,show (1:Int) > 0 by decide,if_true];by_cases h:i < 0
      · simp only [h,if_true] <;> lia
      · simp only [h,if_false] <;> lia
  · cases hi with
    | none=>simp [sliceBounds,HT.sIx]
    | some i =>
      simp only [sliceBounds,HT.sIx,Option.getD_none,show (1:Int) > 0 by decide,if_true];by_cases h:i < 0
      · simp only [h,if_true] <;> lia
      · simp only [h,if_false] <;> lia
theorem jk (its:List Value) (lo hi:Option Int):slicePick its.toArray lo hi none=((its.drop (HT.sIx its.length 0 lo)).take (HT.sIx its.length its.length hi - HT.sIx its.length 0 lo)).toArray:=by
  obtain ⟨h1,h2,h3⟩:=j_ lo hi its.toArray.size;unfold slicePick;rw [h1,h2,h3];simp only [sliceRange_one,pick_run,aad] <;> rfl
def uC (K:aaa):V→Option Int→Option Int→Hp→VK→Prop:=fun x lo hi H Q=>∃ a xs,x=.ref a∧SqL K H a xs∧∀ p,H p=none→Q (.ref p) (upd H p (.lst (jF xs lo hi)))
theorem ka:SlR X (uC X.K):=by
  intro pins s σ H x v vl vu lo hi sl Q I rx hs pl pu h;obtain ⟨a,xs,rfl,hx,q⟩:=h;cases rx;obtain ⟨its,r,ht,hz⟩:=I.list hx;have hlen:=r.length;refine ⟨"list",_,slot_list_getitem.lookup,ht.isList.typeIs,?_⟩;refine wpAny_getItem_list_slice ht.isList hs pl pu .none (by simp) ?_ (by rw [aad] <;> lia);rw [jk,← hlen];refine ⟨.ref s.heap.objs.size,_,I.laid (t':=s.toks) (o:=.lst (jF xs lo hi)) (fun b ob q=>aah _ q) (aac _) ?_,rfl,q _ (I.hok.fresh (aac _))⟩;exact ⟨aaN (l8 xs lo hi) hz,_,0,(r.drop (HT.sIx xs.length 0 lo)).take (HT.sIx xs.length xs.length hi - HT.sIx xs.length 0 lo),aaG _ rfl⟩
def dh:V→Bool
  | .non=>true
  | .bl _=>true
  | .int _=>true
  | .str _=>true
  | _=>false
def eqV:V→V→Bool
  | .non,.non=>true
  | .bl a,.bl b=>a == b
  | .bl a,.int b=>(if a then 1 else 0) == b
  | .int a,.bl b=>a == (if b then 1 else 0)
  | .int a,.int b=>a == b
  | .str a,.str b=>a == b
  | _,_=>false
theorem qc {A:Around} {s:Shared} {y x:V} {u v:Value} (ry:RelV y u) (rx:RelV x v) (fy:dh y=true) (fx:dh x=true):SeqAt.EqAt A s u v (eqV y x):=by
  cases y with
  | non =>
    cases ry;cases x with
    | non=>cases rx;exact SeqAt.EqAt.same _
    | bl b=>cases rx;exact SeqAt.EqAt.none_bool b
    | int b=>obtain ⟨t,rfl⟩:=rx;exact SeqAt.EqAt.none_int b t
    | str b=>obtain ⟨t,rfl⟩:=rx;exact SeqAt.EqAt.none_str b t
    | _=>exact absurd (show false=true from fx) aai
  | bl a =>
    cases ry;cases x with
    | non=>cases rx;exact SeqAt.EqAt.bool_none a
    | bl b=>cases rx;exact SeqAt.EqAt.bool_bool a b
    | int b=>obtain ⟨t,rfl⟩:=rx;exact SeqAt.EqAt.bool_int a b t
    | str b=>obtain ⟨t,rfl⟩:=rx;exact SeqAt.EqAt.bool_str a b t
    | _=>exact absurd (show false=true from fx) aai
  | int a =>
    obtain ⟨t',rfl⟩:=ry;cases x with
    | non=>cases rx;exact SeqAt.EqAt.int_none a t'
    | bl b=>cases rx;exact SeqAt.EqAt.int_bool a t' b
    | int b=>obtain ⟨t,rfl⟩:=rx;exact SeqAt.EqAt.int_int a t' b t
    | str b=>obtain ⟨t,rfl⟩:=rx;exact SeqAt.EqAt.int_str a t' b t
    | _=>exact absurd (show false=true from fx) aai
  | str a =>
    obtain ⟨t',rfl⟩:=ry;cases x with
    | non=>cases rx;exact SeqAt.EqAt.str_none a t'
    | bl b=>cases rx;exact SeqAt.EqAt.str_bool a t' b
    | int b=>obtain ⟨t,rfl⟩:=rx;exact SeqAt.EqAt.str_int a t' b t
    | str b=>obtain ⟨t,rfl⟩:=rx;exact SeqAt.EqAt.str_str a t' b t
    | _=>exact absurd (show false=true from fx) aai
  | _=>exact absurd (show false=true from fy) aai
def eqU (x:V) (u:Value):Bool:=match u with
  | .none=>eqV .non x
  | .bool b=>eqV (.bl b) x
  | .int i _=>eqV (.int i) x
  | .str z _=>eqV (.str z) x
  | _=>false
theorem qb {x y:V} {u:Value} (r:RelV y u) (f:dh y=true):eqU x u=eqV y x:=by
  cases y with
  | non=>cases r;rfl
  | bl b=>cases r;rfl
  | int i=>obtain ⟨t,rfl⟩:=r;rfl
  | str z=>obtain ⟨t,rfl⟩:=r;rfl
  | _=>exact absurd (show false=true from f) aai
theorem gA {x:V}:∀ {xs:List V} {us:List Value},Vals xs us→xs.all dh=true→us.any (eqU x)=xs.any fun y=>eqV y x
  | _,_,.nil,_=>rfl
  | y :: xs,u :: us,.cons r t,f=>by
    rw [List.all_cons,Bool.and_eq_true] at f;rw [ace,ace,qb r f.1,gA t f.2]
theorem eX {A:Around} {s:Shared} {x:V} {v:Value} (rx:RelV x v) (fx:dh x=true):∀ {xs:List V} {us:List Value},Vals xs us→xs.all dh=true→∀ u∈us,SeqAt.EqAt A s u v (eqU x u)
  | _,_,.nil,_=>fun u hu=>by cases hu
  | y :: xs,u :: us,.cons r t,f=>fun u' hu=>by
    rw [List.all_cons,Bool.and_eq_true] at f;rcases aaC.mp hu with rfl|hu
    · rw [qb r f.1];exact qc r rx f.1 fx
    · exact eX rx fx t f.2 u' hu
def inV (x:V) (xs:List V):Bool:=xs.any fun y=>eqV y x
def rIn (K:aaa) (neg:Bool):R2:=fun x y H Q=>∃ p xs,y=.ref p∧(SqL K H p xs∨SqT K H p xs)∧dh x=true∧xs.all dh=true∧Q (.bl (if neg then !inV x xs else inV x xs)) H
theorem jS:OpR X (compareOp .In) (rIn X.K false):=by
  intro pins s σ H x y v u Q I rx ry h;obtain ⟨p,xs,rfl,hq,fx,fs,q⟩:=h;cases ry;rcases hq with hq|hq
  · obtain ⟨its,r,pl,hz⟩:=I.list hq;refine SeqAt.in_listAt (eqU x) pl.isList (fun w hw=>eX rx fx r fs w (by simpa using hw)) ⟨.bl _,H,I,rfl,?_⟩;rw [show its.toArray.any (eqU x)=its.any (eqU x) by simp,gA r fs];exact q
  · obtain ⟨its,r,pl,hz⟩:=I.tuple hq;refine SeqAt.in_tupleAt (eqU x) pl (fun w hw=>eX rx fx r fs w (by simpa using hw)) ⟨.bl _,H,I,rfl,?_⟩;rw [show its.toArray.any (eqU x)=its.any (eqU x) by simp,gA r fs];exact q
theorem kx:OpR X (compareOp .NotIn) (rIn X.K true):=by
  intro pins s σ H x y v u Q I rx ry h;obtain ⟨p,xs,rfl,hq,fx,fs,q⟩:=h;cases ry;rcases hq with hq|hq
  · obtain ⟨its,r,pl,hz⟩:=I.list hq;refine SeqAt.notIn_listAt (eqU x) pl.isList (fun w hw=>eX rx fx r fs w (by simpa using hw)) ⟨.bl _,H,I,rfl,?_⟩;rw [show its.toArray.any (eqU x)=its.any (eqU x) by simp,gA r fs];exact q
  · obtain ⟨its,r,pl,hz⟩:=I.tuple hq;refine SeqAt.notIn_tupleAt (eqU x) pl (fun w hw=>eX rx fx r fs w (by simpa using hw)) ⟨.bl _,H,I,rfl,?_⟩;rw [show its.toArray.any (eqU x)=its.any (eqU x) by simp,gA r fs];exact q
theorem kw:OpR X (compareOp .NotIn) (fun x y H Q=>∃ i j,x=.str i∧y=.str j∧Q (.bl (!(!(aaU j i 0 j.length 1).isEmpty))) H):=by
  intro pins s σ H x y v u Q I rx ry h;obtain ⟨i,j,rfl,rfl,q⟩:=h;obtain ⟨t,rfl⟩:=rx;obtain ⟨t',rfl⟩:=ry;exact notIn_str ⟨.bl _,H,I,rfl,q⟩
theorem az:di X (.builtin "len") (fun xs H Q=>∃ p ys,xs=[.ref p]∧(SqL X.K H p ys∨SqT X.K H p ys)∧Q (.int ys.length) H):=by
  intro pins s σ H xs us Q I r h;obtain ⟨p,ys,rfl,hq,q⟩:=h;obtain ⟨u,rfl,rx⟩:=ez r;cases rx;have hn:=fR;rcases hq with hq|hq
  · obtain ⟨its,r',pl,hz⟩:=I.list hq;have hlen:=r'.length;exact Calls.call_len_list pl.isList (by simp only [aad] <;> lia) ⟨.int ys.length,H,I.tok _,⟨s.toks+1,by rw [aad,hlen]⟩,q⟩
  · obtain ⟨its,r',pl,hz⟩:=I.tuple hq;have hlen:=r'.length;exact len_tuple pl (by simp only [aad] <;> lia) ⟨.int ys.length,H,I.tok _,⟨s.toks+1,by rw [aad,hlen]⟩,q⟩
theorem gy:di X (.builtin "len") (fun xs H Q=>∃ z,xs=[.str z]∧z.length≤sizeLine∧Q (.int z.length) H):=by
  intro pins s σ H xs us Q I r h;obtain ⟨z,rfl,hz,q⟩:=h;obtain ⟨u,rfl,t,rfl⟩:=ez r;have hn:=fR;exact len_str (by lia) ⟨.int z.length,H,I.tok _,⟨_,rfl⟩,q⟩
theorem gx:di X (.type "list") (fun xs H Q=>∃ p ys,xs=[.ref p]∧(SqL X.K H p ys∨SqT X.K H p ys)∧∀ l,H l=none→Q (.ref l) (upd H l (.lst ys))):=by
  intro pins s σ H xs us Q I r h;obtain ⟨p,ys,rfl,hq,q⟩:=h;obtain ⟨u,rfl,rx⟩:=ez r;cases rx;have fin:∀ (its:List Value),Vals ys its→ys.length≤sizeLine→∀ (h':Heap) (c':Nat),(∀ b o',s.heap.get? b=some o'→h'.get? b=some o') →
      h'.get? s.heap.objs.size=some { cls:=.type "list",dict:=none,data:=.seq its.toArray c',slots:=#[] }→EP X pins σ Q (.ref s.heap.objs.size) { s with heap:=h' }:=fun its r' hz h' c' kp e =>
    ⟨.ref s.heap.objs.size,_,I.laid (t':=s.toks) kp (aac _) (show ObjOk X.prog X.w _ h' _ (.lst ys) from ⟨hz,its,c',r',e⟩),rfl,q _ (I.hok.fresh (aac _))⟩
  rcases hq with hq|hq
  · obtain ⟨its,r',pl,hz⟩:=I.list hq;have hlen:=r'.length;obtain ⟨o,ho,hc,n,hd⟩:=pl.isList;exact call_list_seq p (.inl rfl) ho hc hd (fun h' c' kp e=>fin its r' hz h' c' kp e) (by simp only [aad] <;> lia)
  · obtain ⟨its,r',pl,hz⟩:=I.tuple hq;have hlen:=r'.length;obtain ⟨o,ho,hc,n,hd⟩:=pl;exact call_list_seq p (.inr rfl) ho hc hd (fun h' c' kp e=>fin its r' hz h' c' kp e) (by simp only [aad] <;> lia)
theorem dy:di X (.type "tuple") (fun xs H Q=>∃ p ys,xs=[.ref p]∧((SqL X.K H p ys∧∀ l,H l=none→Q (.ref l) (upd H l (.tup ys)))∨(SqT X.K H p ys∧Q (.ref p) H))):=by
  intro pins s σ H xs us Q I r h;obtain ⟨p,ys,rfl,h⟩:=h;obtain ⟨u,rfl,rx⟩:=ez r;cases rx;rcases h with ⟨hq,q⟩|⟨hq,q⟩
  · obtain ⟨its,r',pl,hz⟩:=I.list hq;have hlen:=r'.length;refine call_tuple_list pl.isList (fun h' kp=>?_) (by simp only [aad] <;> lia);have I1:Inv X pins σ H { s with heap:=h' }:=I.kept (t':=s.toks) kp;have I2:Inv X pins σ (upd H h'.objs.size (.tup ys)) { s with heap:=h'.push { cls:=.type "tuple",data:=.seq its.toArray } } :=
      I1.laid (t':=s.toks) (fun b o e=>aah _ e) (aac _) (show ObjOk X.prog X.w _ _ _ (.tup ys) from ⟨hz,its,r',IsTup.new _ _⟩)
    exact ⟨.ref h'.objs.size,_,I2,rfl,q _ (I1.hok.fresh (aac _))⟩
  · obtain ⟨its,r',pl,hz⟩:=I.tuple hq;exact call_tuple_same pl ⟨.ref p,H,I,rfl,q⟩
def tyV (K:aaa) (T:String) (x:V) (H:Hp):Prop:=match x with
  | .str _=>T = "str"
  | .int _=>T = "int"
  | .ref p=>(T = "list"∧∃ xs,SqL K H p xs)∨(T = "tuple"∧∃ o,K.lookup p=some o∧o.cls=.type "tuple"∧o.dict=none) ∨
      (T = "dict"∧((∃ kvs,H p=some (.dK kvs))∨∃ kvs,H p=some (.dT kvs)))∨(T = "set"∧∃ S n,H p=some (.set S n))
  | _=>False
theorem mh {pins:List (Addr × Obj)} {σ:St} {H:Hp} {s:Shared} {T:String} {x:V} {v:Value} (I:Inv X pins σ H s) (r:RelV x v) (ty:tyV X.K T x H) :
    s.TypeIs v T∧∀ a,v=.ref a→∃ ob,s.heap.get? a=some ob∧ob.dict=none:=by
  cases x with
  | str z =>
    obtain ⟨t,rfl⟩:=r;cases (show T = "str" from ty);exact ⟨typeIs_str s z t,fun _ e=>nomatch e⟩
  | int i =>
    obtain ⟨t,rfl⟩:=r;cases (show T = "int" from ty);exact ⟨typeIs_int s i t,fun _ e=>nomatch e⟩
  | ref p =>
    cases r;rcases ty with ⟨rfl,xs,hq⟩|⟨rfl,o,hk,hc,hd⟩|⟨rfl,hk⟩|⟨rfl,S,n,hk⟩
    · obtain ⟨its,_,pl,_⟩:=I.list hq;refine ⟨pl.isList.typeIs,fun a e=>?_⟩;cases e;obtain ⟨o,n,e,c,hd,_⟩:=pl;exact ⟨o,e,hd⟩
    · refine ⟨⟨o,I.kIn p o hk,hc⟩,fun a e=>?_⟩;cases e;exact ⟨o,I.kIn _ o hk,hd⟩
    · have z:∃ o,s.heap.get? p=some o∧o.ExactDict:=by
        rcases hk with ⟨kvs,hk⟩|⟨kvs,hk⟩
        · obtain ⟨_,_,_,_,o,_,_,e,ex,_⟩:=I.hok p _ hk;exact ⟨o,e,ex⟩
        · obtain ⟨_,_,_,_,o,_,_,e,ex,_⟩:=I.hok p _ hk;exact ⟨o,e,ex⟩
      obtain ⟨o,e,ex⟩:=z;refine ⟨⟨o,e,ex.1⟩,fun a e2=>?_⟩;cases e2;exact ⟨o,e,ex.2.1⟩
    · obtain ⟨o,_,_,_,e,ex,_⟩:=I.hok p _ hk;refine ⟨⟨o,e,ex.1⟩,fun a e2=>?_⟩;cases e2;exact ⟨o,e,ex.2.1⟩
  | _=>exact abF ty
def uz (K:aaa) (T:String) (r:V→List V→Hp→VK→Prop) (to:TE):TE:=fun σ H Q=>to σ H fun x H1=>tyV K T x H1∧r x [] H1 Q
def tBM (K:aaa) (T:String) (r:V→List V→Hp→VK→Prop) (to:TE) (t:TA):TE:=fun σ H Q=>to σ H fun x H1=>tyV K T x H1∧t σ H1 fun xs H2=>r x xs H2 Q
variable {o e:Expr} {es:List Expr} {to:TE} {t:TA} {name:Str} {apos cpos:Pos} {T id:String} {r:V→List V→Hp→VK→Prop}
theorem pF (pa:PlainAttrs T) (slot:Slot T name id) (hty:typeOf (.builtin id)=pure (.type "method_descriptor")) (hm:MtR X id r) (ho:PE X o to)
    (hbase:attributeBase o name X.env (eval o X.env)=eval o X.env:=by rfl) (hline:(apos.endLine == cpos.line)=true:=by rfl):PE X (.Call (.Attribute o name apos) [] [] cpos) (uz X.K T r to):=by
  intro pins s σ H Q I h;refine wpAny_Call_method0_late hbase hline (thn (ho pins s σ H _ I h) fun v s1 ⟨x,H1,I1,r1,ty,q1⟩=>?_);obtain ⟨h1,h2⟩:=mh I1 r1 ty;exact ⟨T,id,pa,slot,hty,h1,h2,ab2 rfl (PySem.evalArgs_none (hm pins s1 σ H1 x [] v [] Q I1 r1 .nil q1))⟩
theorem jR (pa:PlainAttrs T) (slot:Slot T name id) (hty:typeOf (.builtin id)=pure (.type "method_descriptor")) (hm:MtR X id r) (ho:PE X o to) (ha:PA X (e :: es) t)
    (hbase:attributeBase o name X.env (eval o X.env)=eval o X.env:=by rfl)
    (hfew:((backTo cpos (starEach (e :: es) X.env)).all (fun x=>!x.1) && (backToKw cpos (keywordEach [] X.env)).all (fun x=>x.1.isSome)
      && decide ((e :: es).length+([]:List Keyword).length+(if ([]:List Keyword).isEmpty then 0 else 1) < 30))=true:=by rfl)
    (hline:(apos.endLine == cpos.line)=true:=by rfl) (hs:starEach (e :: es) X.env=(false,eval e X.env) :: starEach es X.env:=by rfl) (hplain:(backTo cpos (starEach es X.env)).any (·.1)=false:=by rfl) :
    PE X (.Call (.Attribute o name apos) (e :: es) [] cpos) (tBM X.K T r to t):=by
  intro pins s σ H Q I h;refine wpAny_Call_method_late hbase hfew hline rfl (thn (ho pins s σ H _ I h) fun v s1 ⟨x,H1,I1,r1,ty,q1⟩=>?_);obtain ⟨h1,h2⟩:=mh I1 r1 ty;refine ⟨T,id,pa,slot,hty,h1,h2,?_⟩;have hA:=ha cpos pins s1 σ H1 _ I1 q1;rw [hs] at hA ⊢;refine ab2 (by show (false || (backTo cpos (starEach es X.env)).any (·.1))=false;rw [hplain] <;> rfl) (Calls.evalArgs_plain ?_);exact thn hA fun us s2 ⟨vs,H2,I2,r2,q2⟩=>hm pins s2 σ H2 x vs v us Q I2 r1 r2 q2
end
open PySem PySem.Spec PyProof.Rows
def MtM (X:Cx) (id:String) (r:V→List V→Hp→VK→Prop):Prop :=
  ∀ (pins:List (Addr × Obj)) (s:Shared) (σ:St) (H:Hp) (x:V) (xs:List V) (v:Value) (us:List Value) (Q:VK),Inv X pins σ H s→RelV x v→Vals xs us→r x xs H Q →
    wpAny (model X.prog X.w) X.A (call (.builtin id) (v :: us)) (EP X pins σ Q) X.xe s
theorem Vals.one {x:V} {us:List Value} (h:Vals [x] us):∃ u,us=[u]∧RelV x u:=by
  cases h with
  | cons r t=>cases t;exact ⟨_,rfl,r⟩
theorem Vals.zero:∀ {us:List Value},Vals [] us→us=[]
  | _,.nil=>rfl
theorem Vals.dropLast {xs:List V} {us:List Value} (h:Vals xs us):Vals xs.dropLast us.dropLast:=by
  induction h with
  | nil=>exact .nil
  | cons r t ih =>
    cases t with
    | nil=>exact .nil
    | cons q t'=>exact .cons r ih
theorem Vals.rep {xs:List V} {us:List Value} (h:Vals xs us):∀ k:Nat,Vals (aax k xs).flatten (aax k us).flatten
  | 0=>.nil
  | k+1=>by
    rw [abk,abk,aa6,aa6];exact Vals.append h (Vals.rep h k)
theorem mX {α:Type} (l:List α):l.eraseIdx (l.length - 1)=l.dropLast:=by
  induction l with
  | nil=>rfl
  | cons a r ih =>
    cases r with
    | nil=>rfl
    | cons b r =>
      have e:(a :: b :: r).length - 1=((b :: r).length - 1)+1:=by
        have h1:(a :: b :: r).length=r.length+2:=rfl;have h2:(b :: r).length=r.length+1:=rfl;lia
      rw [e,List.eraseIdx_cons_succ,ih]
      all_goals rfl
theorem jV (its:List Value):∀ (k:Nat) (acc:List Value),
    List.foldl (fun x1 x2=>x1++x2) acc.toArray (aax k its.toArray)=(acc++(aax k its).flatten).toArray
  | 0,acc=>by simp
  | k+1,acc=>by
    have e:acc.toArray++its.toArray=(acc++its).toArray:=by simp
    have e2:(acc++its)++(aax k its).flatten=acc++(aax (k+1) its).flatten:=by
      rw [abk,aa6,aa3]
    rw [← e2,← jV its k (acc++its),← e,abk,List.foldl_cons]
section
variable {X:Cx} {pins:List (Addr × Obj)} {σ:St} {H:Hp} {s:Shared} {l b:Addr} {xs ys zs:List V}
theorem Inv.lset {its its':List Value} {n:Nat} {f:Array Value→Array Value} {t':Nat} (I:Inv X pins σ H s) (hH:H l=some (.lst xs))
    (e:s.heap.get? l=some { cls:=.type "list",data:=.seq its.toArray n }) (hf:f its.toArray=its'.toArray) (hv:Vals ys its') (hz:ys.length≤sizeLine) :
    Inv X pins σ (upd H l (.lst ys)) { s with heap:=s.heap.update l (Obj.mapSeq f),toks:=t' }:=by
  have q:=PySem.IsL.update e f;rw [hf] at q;refine I.write (x:=l) (e:=l) (by rw [hH];exact trivial) (.inl rfl) (fun b' u hb hu=>(Heap.get?_update_other s.heap (Obj.mapSeq f) (abO hb)).trans hu) ⟨_,q⟩ ?_;exact ⟨hz,its',_,hv,q⟩
theorem Inv.lnew {its:List Value} {t':Nat} (I:Inv X pins σ H s) (hv:Vals ys its) (hz:ys.length≤sizeLine) :
    Inv X pins σ (upd H s.heap.objs.size (.lst ys)) { s with heap:=s.heap.push { cls:=.type "list",data:=.seq its.toArray },toks:=t' } :=
  I.laid (fun _ _ q=>aah _ q) (aac _) ⟨hz,its,0,hv,aaG _ rfl⟩
theorem Inv.fresh (I:Inv X pins σ H s):H s.heap.objs.size=none:=I.hok.fresh (aac _)
theorem Inv.lstM (I:Inv X pins σ H s) (hH:H l=some (.lst xs)):xs.length≤sizeLine∧∃ (its:List Value) (n:Nat),Vals xs its∧xs.length=its.length∧s.heap.get? l=some { cls:=.type "list",data:=.seq its.toArray n }:=by
  obtain ⟨z,its,n,r,e⟩:=I.hok l _ hH;exact ⟨z,its,n,r,r.length,e⟩
theorem lR {n:Nat} (h:n≤sizeLine):abv n=false:=by
  unfold abv;exact decide_eq_false (by lia)
end
section
variable {X:Cx}
def qL:V→List V→Hp→VK→Prop:=fun x vs H Q=>∃ l xs y,x=.ref l∧vs=[y]∧H l=some (.lst xs)∧xs.length < sizeLine∧Q .non (upd H l (.lst (xs++[y])))
theorem dD:MtM X "list.append" qL:=by
  intro pins s σ H x vs v us Q I rx rv h;obtain ⟨l,xs,y,rfl,rfl,hH,hz,q⟩:=h;cases rx;obtain ⟨u,rfl,ru⟩:=rv.one;obtain ⟨z,its,n,r,hl,e⟩:=I.lstM hH;refine call_meets F.slot_list_append ⟨_,e,rfl⟩ F.entry_list_append (F.args_list_append_2 _ _) (PySem.list_append l its.toArray n u (by rw [aad];lia)) ⟨e,?_⟩;refine ⟨.non,_,I.lset (its':=its++[u]) hH e (by simp) (r.append (.cons ru .nil)) ?_,rfl,q⟩;rw [aag,abC];lia
def uE:V→List V→Hp→VK→Prop:=fun x vs H Q=>∃ l xs y,x=.ref l∧vs=[]∧H l=some (.lst xs)∧xs[xs.length - 1]?=some y∧Q y (upd H l (.lst xs.dropLast))
theorem pL:MtM X "list.pop" uE:=by
  intro pins s σ H x vs v us Q I rx rv h;obtain ⟨l,xs,y,rfl,rfl,hH,hy,q⟩:=h;cases rx;have hus:=rv.zero;subst hus;obtain ⟨z,its,n,r,hl,e⟩:=I.lstM hH;obtain ⟨u,hu,ru⟩:=r.get hy;have hy':its.toArray[its.toArray.size - 1]?=some u:=by
    show its.toArray[its.length - 1]?=some u;rw [← Array.getElem?_toList,← hl];exact hu
  refine call_meets F.slot_list_pop ⟨_,e,rfl⟩ F.entry_list_pop (F.args_list_pop_1 _) (MeetsSeq.list_pop_last l its.toArray n u hy' (by rw [aad];lia)) ⟨e,?_⟩;refine ⟨y,_,I.lset (its':=its.dropLast) hH e ?_ r.dropLast ?_,ru,q⟩
  · show its.toArray.eraseIdxIfInBounds (its.toArray.size - 1)=its.dropLast.toArray;rw [aad,List.eraseIdxIfInBounds_toArray,mX]
  · rw [List.length_dropLast];lia
def uJ:R2:=fun x y H Q=>∃ l b xs zs,x=.ref l∧y=.ref b∧H l=some (.lst xs)∧H b=some (.lst zs)∧xs.length+zs.length≤sizeLine∧∀ p,H p=none→Q (.ref p) (upd H p (.lst (xs++zs)))
theorem iY:OpR X (binaryOp .Add) uJ:=by
  intro pins s σ H x y v u Q I rx ry h;obtain ⟨l,b,xs,zs,rfl,rfl,hH,hB,hz,q⟩:=h;cases rx;cases ry;obtain ⟨z,its,n,r,hl,e⟩:=I.lstM hH;obtain ⟨z2,its2,n2,r2,hl2,e2⟩:=I.lstM hB;refine PySem.P.add_list e e2 ?_ (by rw [aad,aad];lia);have ea:its.toArray++its2.toArray=(its++its2).toArray:=by simp
  rw [ea];exact ⟨.ref _,_,I.lnew (t':=s.toks) (r.append r2) (by rw [aag];lia),rfl,q _ I.fresh⟩
def uD:R2:=fun x y H Q=>∃ l k xs,x=.ref l∧y=.int k∧H l=some (.lst xs)∧-(2 ^ 63)≤k∧k < 2 ^ 63∧xs.length * k.toNat≤sizeLine ∧
  ∀ p,H p=none→Q (.ref p) (upd H p (.lst (aax k.toNat xs).flatten))
theorem qX {α:Type} (xs:List α) (k:Nat):(aax k xs).flatten.length=k * xs.length:=by
  induction k with
  | zero=>simp
  | succ k ih=>rw [abk,aa6,aag,ih,Nat.succ_mul,Nat.add_comm]
theorem so:OpR X (binaryOp .Mult) uD:=by
  intro pins s σ H x y v u Q I rx ry h;obtain ⟨l,k,xs,rfl,rfl,hH,h1,h2,hz,q⟩:=h;cases rx;obtain ⟨t,rfl⟩:=ry;obtain ⟨z,its,n,r,hl,e⟩:=I.lstM hH;have hlen:its.toArray.size * k.toNat≤sizeLine:=by rw [aad,← hl];exact hz
  have hcap:¬ its.toArray.size * k.toNat > (2 ^ 63 - 1) / 8:=by
    have : (sizeLine:Nat)≤(2 ^ 63 - 1) / 8:=by decide
    lia
  have hfit:¬ (!Builtin.List.listFitsIndex k)=true:=by
    rw [fitsIndex_both h1 h2];exact aai
  have hlong:¬ abv (its.toArray.size * k.toNat)=true:=by
    rw [lR hlen];exact aai
  have hnew:List.foldl (fun x1 x2=>x1++x2) #[] (aax (if its.toArray.isEmpty=true then 0 else k.toNat) its.toArray)=(aax k.toNat its).flatten.toArray:=by
    have f0:∀ m:Nat,List.foldl (fun x1 x2=>x1++x2) #[] (aax m its.toArray)=(aax m its).flatten.toArray:=fun m=>by
      have:=jV its m [];rw [List.nil_append] at this;exact this
    rw [f0];cases its with
    | nil=>simp
    | cons a r'=>rw [if_neg (by simp)]
  refine wpAny_binaryOp_repeat_ref (T:="list") (U:="int") (by decide) ⟨_,e,rfl⟩ (fun s'=>typeIs_int s' k t) noFill_list_mul F.fills_int_mul F.slot_int_rmul repeat_list F.slot_int_index.lookup
    (call_meets F.slot_int_rmul (typeIs_int s k t) F.entry_int_rmul (F.args_int_rmul_2 _ _) (int___rmul___int_list k t l its.toArray n)
      ⟨e,rfl,⟨_,e,rfl⟩,call_meets F.slot_list_mul ⟨_,e,rfl⟩ F.entry_list_mul (F.args_list_mul_2 _ _) (AutoListH.list___mul___list_int_3 l its.toArray n k t hfit hcap hlong) ⟨e,?_⟩⟩)
  rw [hnew];exact ⟨.ref _,_,I.lnew (t':=s.toks) (r.rep k.toNat) (by rw [qX,Nat.mul_comm];exact hz),rfl,q _ I.fresh⟩
end
section
variable {prog:Program} {w:World} {A:Around} {E:Value→Shared→Prop} {s:Shared}
end
section
variable {X:Cx}
end
end L2
namespace Att
open PySem PySem.W PySem.Calls PyProof.Rows
theorem ik {P:Params} {h:Heap}:∀ (ns:List Int) (vs:List Value),WellAll P h vs (ns.map WData.int)→IntsAre vs ns:=by
  intro ns
  induction ns with
  | nil =>
    intro vs w;rw [abh] at w;cases w;exact .nil
  | cons n ns ih =>
    intro vs w;rw [aav] at w;cases w with
    | cons a b =>
      cases a;exact .cons _ _ (ih _ b)
theorem ow {l:OpenLaw} {n:Nat} (hn:l.most=some n) {P:Params} {h:Heap} {args:List WData} {vals:List Value}
    (hpre:l.row.toRowW.claim.pre args=true) (hwl:WellAll P h vals args) :
    ∃ a vs ns,vals=[Value.ref a]∧args=[WData.list (ns.map WData.int)]∧h.get? a=some { cls:=.type "list",data:=.seq vs.toArray }∧IntsAre vs ns∧ns.length≤n:=by
  have hsh:WShape.hasAll [] args [.list .int]=true:=(pre_splitW hpre).1;have hc:l.pre.holds [] { args:=args }=true:=(pre_splitW hpre).2;obtain ⟨d,r,rfl,h1,h2⟩:=hasAllW_cons hsh;obtain rfl:=hasAllW_nil h2;obtain ⟨xs,rfl,h3⟩:=hasW_list h1;obtain ⟨ns,rfl⟩:=items_int h3;have hlen:ns.length≤n:=by
    unfold OpenLaw.pre at hc;have h4:(WTm.not (.lt (.lit (.int (n:Int))) (.len (.arg 0)))).holds [] { args:=[.list (ns.map .int)] }=true:=by
      have h4:=(holds_andW hc).1;rw [hn] at h4;exact h4
    have h5:=condW_of h4 (w_not (w_lt w_lit (w_len_list (w_arg rfl))));rw [aab] at h5;refine Nat.le_of_not_lt fun q=>?_;have q':(n:Int) < ((ns.length:Nat):Int):=by lia
    first
      | (rw [decide_eq_true q'] at h5;exact absurd h5 (by decide))
      | (simp at h5;lia)
  cases hwl with
  | cons w1 w2 =>
    cases w2;cases w1 with
    | list ho hall=>exact ⟨_,_,ns,rfl,rfl,ho,ik ns _ hall,hlen⟩
theorem oy (l:OpenLaw) (args:List WData):l.row.toRowW.claim.post args (.bool true) args=true :=
  postW_of (r:=l.row.toRowW) (X:=(true == true))
    (show WShape.has [] (.bool true) .bool=true by first|rfl|decide|simp [WShape.has,WShape.arms,WShape.armsAll])
    (show (WTm.eq .res (.lit (.bool true))).value [] { args:=args,res:=some (.bool true),after:=args }=some (.bool (true == true)) from w_eq_bool (w_res rfl) w_lit) rfl
theorem attach_call {l:OpenLaw} {n:Nat} {q:Program} {loose:List Str} {XP:(Str→Option Value)→Heap→Prop} {YP:World→Heap→Prop} {d:DefRec}
    (hn:l.most=some n) (hdf:d.params.defaults=[])
    (call:∀ (w:World) (s₀ s₁:Shared) (mg mb:Str→Option Value) (fa:Addr) (o:Obj) (pm cd doc:Value) (a:Addr) (vs:List Value) (ns:List Int),
      Ground q loose [] XP w s₀ mg mb s₁.heap→YP w s₁.heap →
      s₁.heap.get? fa=some o→o.data=.func (docDef d.name d.params d.body d.scope pm cd doc)→s₁.heap.CodeRec cd d.name→mg d.name=some (.ref fa) →
      s₁.heap.get? a=some { cls:=.type "list",data:=.seq vs.toArray }→IntsAre vs ns→ns.length≤n→s₁.gens=#[] →
      codeAny (model l.prog w) callerA (.call (.ref fa) ⟨[.ref a],[]⟩) (fun r s'=>r=.ok (.ret (.bool true))∧OldK s₁.heap s'.heap∧s'.os=s₁.os∧AllBare s'.gens) s₁) :
    WalkO q loose XP YP l.row.toRowW d [] (fun f vs=>PySem.call f vs):=by
  intro w s₀ s₁ mg mb G Y fa o pm cd doc dV kV ho hd hcd hD hmg hg args vals as hpre hlay hrd hwl hlo;obtain rfl:dV=.none:=Dflts.none hD hdf;obtain rfl:kV=.none:=Dflts.noKw hD;obtain ⟨a,vs,ns,rfl,rfl,hobj,hints,hlen⟩:=ow hn hpre hwl;refine enter_call (codeAny_mono (call w s₀ s₁ mg mb fa o pm cd doc a vs ns G Y ho (fd_plain hd) hcd hmg hobj hints hlen hg) fun r s' hq=>?_);obtain ⟨rfl,h2,h3,h4⟩:=hq;exact ⟨.inl ⟨.bool true,.bool true,[],rfl,fun _=>rfl,.bool true,oy l _,fun _=>⟨List.Pairwise.nil,fun _ hm=>(nomatch hm)⟩⟩,h2,h3,h4⟩
section
variable {prog:Program} {w:World} {A:Around} {E:Value→Shared→Prop} {s:Shared} {K:Frag}
end
end Att
namespace L2
open PySem PySem.Spec PyProof.Rows
theorem jJ:∀ {vs:List Value} {ns:List Int},IntsAre vs ns→Vals (ns.map V.int) vs
  | _,_,.nil=>.nil
  | _,_,.cons n t h=>.cons ⟨t,rfl⟩ (jJ h)
def sU (H:Hp):Prop:=∀ b,H b=none∨∃ o xs,H b=some (.frz o (.lst xs))
theorem pN {P:Program} {w:World} {K:aaa} {mg mb:Str→Option Value} {CX:CXT} {k:Nat} {fa a:Addr} {fd:FuncData} {x:Str} {sp:Sp} {s₁:Shared} {vs:List Value} {ns:List Int}
    (KX:K.In s₁.heap) (hns:s₁.heap.Ns mainGlobals mg) (hb:s₁.heap.Ns builtinsNs mb) (hbb:∀ x:Str,x ≠ "__name__"→mb x=bootBuiltins x) (hlim:s₁.heap.NoLimit) (hsm:∃ mm,s₁.heap.Ns sysModules mm) (hg:s₁.gens=#[])
    (ha:s₁.heap.get? a=some { cls:=.type "list",data:=.seq vs.toArray }) (hi:IntsAre vs ns) (hl:ns.length≤sizeLine) (hr:Room k callerA)
    (F:∀ base:Heap,K.In base→base.Ns mainGlobals mg→FnOk P w K mg base CX k fa fd [x] sp) (hbind:∀ (s:Shared) (u:Value),BindsTo s fd ⟨[u],[]⟩ [(x,u)])
    (hsp:∀ H:Hp,sU H→SqL K H a (ns.map V.int)→sp [.ref a] H (fun v _=>v=.bl true) fun _ _ _=>False)
    (hCX:∀ H e s',CX [] H s₁ (fun _ _ _=>False) e s'→False) :
    codeAny (model P w) callerA (.call (.ref fa) ⟨[.ref a],[]⟩) (fun r s'=>r=.ok (.ret (.bool true))∧OldK s₁.heap s'.heap∧s'.os=s₁.os∧AllBare s'.gens) s₁:=by
  have rv:=jJ hi;have lenV:=hi.length;have core:∀ H:Hp,sU H→SqL K H a (ns.map V.int)→HOk P w H s₁.heap→(∀ b,H b≠none→b=a)→(H a≠none→K.lookup a=none) →
      codeAny (model P w) callerA (.call (.ref fa) ⟨[.ref a],[]⟩) (fun r s'=>r=.ok (.ret (.bool true))∧OldK s₁.heap s'.heap∧s'.os=s₁.os∧AllBare s'.gens) s₁:=by
    intro H hO hS hok hA hK;have base_of:∀ {b:Addr} {o:Obj},s₁.heap.get? b=some o→H b=none→(kL s₁.heap H).get? b=some o:=fun e n=>pR e n;have noA:∀ {b:Addr} {o:Obj} {es:Array DictEntry} {ep:Nat},s₁.heap.get? b=some o→o.data=.dict es ep→H b=none:=fun {b o es ep} e d=>by
      cases q:H b with
      | none=>rfl
      | some u =>
        have e':b=a:=hA b (by rw [q];simp);subst e';rw [ha] at e;cases e;have d':Data.seq vs.toArray _=Data.dict es ep:=d;cases d'
    have nsK:∀ {b:Addr} {m:Str→Option Value},s₁.heap.Ns b m→(kL s₁.heap H).Ns b m:=fun {b m} ⟨o,es,ep,e,d,r⟩=>⟨o,es,ep,base_of e (noA e d),d,r⟩
    have hKb:K.In (kL s₁.heap H):=fun b o e=>base_of (KX b o e) (by
      cases q:H b with
      | none=>rfl
      | some u =>
        have e':b=a:=hA b (by rw [q];simp);subst e';rw [hK (by rw [q];simp)] at e;cases e)
    have hM:Mod K mg (kL s₁.heap H):=⟨hKb,nsK hns,⟨mb,nsK hb,hbb⟩,let ⟨mc,h1,h2⟩:=hlim;⟨mc,nsK h1,h2⟩,let ⟨mm,h1⟩:=hsm;⟨mm,nsK h1⟩⟩
    have e0:Env0 P w K mg (kL s₁.heap H) callerA [] s₁ H:=⟨rfl,hM,fun b o e=>qT e,Nat.le_of_eq (oK _ _),trivial,fun b hb=>absurd (show b∈([]:List Addr) from hb) (by simp),hok,.of_eq hg⟩
    refine codeAny_mono ((F _ hKb (nsK hns)).run callerA [] s₁ H ⟨[.ref a],[]⟩ [.ref a] [.ref a] _ _ hr e0 (hbind s₁ (.ref a)) (.cons rfl .nil) (hsp H hO hS)) fun r s' h=>?_;cases r with
    | error e=>exact (hCX H e s' h).elim
    | ok fl =>
      cases fl with
      | next=>exact abF h
      | brk=>exact abF h
      | cont=>exact abF h
      | ret u =>
        obtain ⟨v,H',os,bare,un,hok',r',q⟩:=h;have q':v=.bl true:=q;subst q';obtain rfl:u=Value.bool true:=r';refine ⟨rfl,OldK.of_keep fun b o e=>?_,os,bare⟩;cases q:H b with
        | none=>exact un.keep b o e q (by intro z;exact absurd (show b∈([]:List Addr) from z) (by simp)) (by simp)
        | some u =>
          rcases hO b with z|⟨ob,xs,z⟩
          · rw [q] at z;cases z
          · have z2:=un.frzs b ob _ z;obtain ⟨e1,_⟩:=hok b _ z;obtain ⟨e2,_⟩:=hok' b _ z2;rw [e] at e1;cases e1;exact e2
  cases hk:K.lookup a with
  | some o =>
    have e:=KX a o hk;rw [ha] at e;cases e;refine core (fun _=>none) (fun _=>.inl rfl) (.inr ⟨_,vs.toArray,_,hk,rfl,rfl,rfl,by rw [aad,lenV];exact hl,by simpa using rv⟩) (fun b u z=>by have z':(none:Option HO)=some u:=z;cases z') (fun b z=>absurd rfl z) fun z=>absurd rfl z
  | none =>
    refine core (fun b=>if b=a then some (.frz { cls:=.type "list",data:=.seq vs.toArray } (.lst (ns.map V.int))) else none) (fun b=>?_) (.inl (.inr ⟨{ cls:=.type "list",data:=.seq vs.toArray },if_pos rfl⟩)) (fun b u z=>?_) (fun b z=>?_) fun _=>hk
    · by_cases hb:b=a
      · exact .inr ⟨_,_,if_pos hb⟩
      · exact .inl (if_neg hb)
    · by_cases hb:b=a
      · have z':=(if_pos hb).symm.trans z;cases z';subst hb;exact ⟨ha,by rw [aab];exact hl,vs,_,rv,ha⟩
      · have z':=(if_neg hb).symm.trans z;cases z'
    · by_cases hb:b=a
      · exact hb
      · exact absurd (if_neg hb) z
open PySem PySem.Spec PyProof.Rows
theorem walk_of {l:PySem.W.OpenLaw} {n k:Nat} {q:Program} {loose:List Str} {XP:(Str→Option Value)→Heap→Prop} {YP:World→Heap→Prop} {d:DefRec} {K:Params→aaa} {CX:World→CXT} {sp:World→Sp} {x:Str}
    (hn:l.most=some n) (hn2:n≤sizeLine) (hdf:d.params.defaults=[]) (hr:Room k callerA) (hi:PyProof.Rows.importsNone q=true)
    (hY:∀ (w:World) (h:Heap),YP w h→(K w.params).In h)
    (F:∀ (w:World) (mg:Str→Option Value) (fa:Addr) (h:Heap),(K w.params).In h→h.Ns mainGlobals mg→mg d.name=some (.ref fa) →
      ∃ fd:FuncData,(∀ (s:Shared) (u:Value),BindsTo s fd ⟨[u],[]⟩ [(x,u)]) ∧
        ∀ base:Heap,(K w.params).In base→base.Ns mainGlobals mg→FnOk l.prog w (K w.params) mg base (CX w) k fa fd [x] (sp w))
    (hsp:∀ (w:World) (H:Hp) (a:Addr) (ns:List Int),ns.length≤n→sU H→SqL (K w.params) H a (ns.map V.int)→sp w [.ref a] H (fun v _=>v=.bl true) fun _ _ _=>False)
    (hCX:∀ (w:World) (H:Hp) (s:Shared) (e:Value) (s':Shared),CX w [] H s (fun _ _ _=>False) e s'→False) :
    PySem.W.WalkO q loose XP YP l.row.toRowW d [] (fun f vs=>PySem.call f vs):=by
  refine Att.attach_call hn hdf fun w s₀ s₁ mg mb fa o pm cd doc a vs ns G Y ho hd hcd hmg hobj hints hlen hg=>?_;have KX:=hY w _ Y;obtain ⟨fd,hb,hF⟩:=F w mg fa _ KX G.T.g hmg;exact pN KX G.T.g G.T.b G.T.builtins G.T.nolimit (let ⟨mm,h1,_⟩:=(G.T.seer hi).mods;⟨mm,h1⟩) hg hobj hints (aaN hlen hn2) hr hF hb (fun H hO hS=>hsp w H a ns hlen hO hS) fun H e s'=>hCX w H s₁ e s'
open PySem PySem.Spec PyProof.Rows
def cA (s:Stmt):Arguments:=match s with
  | .FunctionDef _ a _ _ _ _ _ _ _ _=>a
  | _=>{ posonlyargs:=[],args:=[],vararg:=none,kwonlyargs:=[],kw_defaults:=[],kwarg:=none,defaults:=[] }
def bZ (s:Stmt):List Stmt:=match s with
  | .FunctionDef _ _ b _ _ _ _ _ _ _=>b
  | _=>[]
def ai (s:Stmt):Scope:=match s with
  | .FunctionDef _ _ _ _ _ _ sc _ _ _=>sc
  | _=>{ kind:=.function,names:=[],isGenerator:=false,isCoroutine:=false }
abbrev CX0:CXT:=fun _ _ _ _ _ _=>False
abbrev E0:XK:=fun _ _ _=>False
theorem tO {X:Cx}:m6 CX0 X E0:=fun _ _ _ _ _ _ _ h=>h.elim
structure Fun (K:aaa) (x qual:Str) (st:Stmt) (f:Addr) (fd:FuncData):Prop where
  ex:∃ (oc:Value) (od:Option Addr) (kV doc pm:Value) (an:Option Addr) (cdv ct:Value) (osl:Array (Option Value)),
    fd=abc x qual (cA st) (bZ st) (ai st) .none kV doc pm an cdv ct∧K.lookup f=some ⟨oc,od,.func fd,osl⟩∧abz K cdv qual=true
  kp:aa9 K (.ref f)=true
section
variable {P:Program} {w:World} {K:aaa} {mg:Str→Option Value} {base:Heap}
theorem Fun.ok {x qual:Str} {st:Stmt} {f:Addr} {fd:FuncData} {N ps:List Str} {k:Nat} {sp:Sp} (F:Fun K x qual st f fd) (S:FnScope N ps (ai st)) (len:∀ vs H Q E,sp vs H Q E→vs.length=ps.length)
    (hbody:∀ (cdv:Value) (A:Around) (outer:List Env) (s:Shared) (H:Hp) (vs:List V) (Q:VK) (E:XK),Room k (A.deeper (envOfC qual (ai st) s.heap.objs.size f cdv))→sp vs H Q E →
      ∃ t,PSs (oO CX0 P w K mg base N qual (ai st) f cdv A outer s H E).nox (bZ st) t∧t { nx:=fun _ H'=>Q .non H',rt:=Q } (h7 N vs) H):FnOk P w K mg base CX0 (k+1) f fd ps sp:=by
  obtain ⟨oc,od,kV,doc,pm,an,cdv,ct,osl,rfl,lk,hcd⟩:=F.ex;refine uc lk hcd S len fun A outer s H vs Q E hr hsp=>?_;obtain ⟨t,h,q⟩:=hbody cdv A outer s H vs Q E hr hsp;exact ⟨t,h.nox,q⟩
theorem Fun.binds {x qual:Str} {st:Stmt} {f:Addr} {fd:FuncData} {ps:List Str} (F:Fun K x qual st f fd)
    (h:∀ (kV doc pm:Value) (an:Option Addr) (cdv ct:Value) (us:List Value),us.length=ps.length→bindArgs (abc x qual (cA st) (bZ st) (ai st) .none kV doc pm an cdv ct) ⟨us,[]⟩=pure (ps.zip us)):Binds K fd ps []:=by
  obtain ⟨oc,od,kV,doc,pm,an,cdv,ct,osl,rfl,lk,hcd⟩:=F.ex;exact .all (h kV doc pm an cdv ct)
theorem pX {x qual:Str} {st:Stmt} {f:Addr} {oc:Value} {od an:Option Addr} {osl:Array (Option Value)} {kV doc pm cdv ct:Value} (l:K.lookup f=some ⟨oc,od,.func (abc x qual (cA st) (bZ st) (ai st) .none kV doc pm an cdv ct),osl⟩)
    (c:abz K cdv qual=true) (k:aa9 K (.ref f)=true):Fun K x qual st f (abc x qual (cA st) (bZ st) (ai st) .none kV doc pm an cdv ct):=⟨⟨oc,od,kV,doc,pm,an,cdv,ct,osl,rfl,l,c⟩,k⟩
end
theorem aA {n:Nat} (h:n≤1000):n < sizeLine:=abW h (by decide)
section
variable {X:Cx}
theorem pv (i:Nat) {x:Str} {pos:Pos} (hN:X.N[i]?=some x:=by rfl) (hv:Vis X.env.scope x:=by first|exact Or.inl rfl|exact Or.inr (Or.inl rfl)|exact Or.inr (Or.inr rfl)) (hd:(x == ("__debug__":Str))=false:=by decide)
    (hcd:(x == ("__classdict__":Str))=false:=by decide):PE X (.Name x pos) (tf i):=sj hN hv hd hcd
end
theorem aR {A B:Prop} (h:B):if false=true then A else B:=by
  rw [if_neg aai];exact h
theorem bj {A B:Prop} (h:A):if true=true then A else B:=by
  rw [if_pos rfl];exact h
theorem oH {c A B:Prop} [Decidable c] (h1:c→A) (h2:¬ c→B):if c then A else B:=by
  by_cases h:c
  · rw [if_pos h];exact h1 h
  · rw [if_neg h];exact h2 h
def Same (H H':Hp):Prop:=∀ b o,H b=some o→H' b=some o
theorem Same.refl (H:Hp):Same H H:=fun _ _ h=>h
theorem Same.trans {H H1 H2:Hp} (a:Same H H1) (b:Same H1 H2):Same H H2:=fun c o h=>b c o (a c o h)
theorem Same.free {H H':Hp} (e:Same H H') {l:Addr} (h:H' l=Option.none):H l=Option.none:=by
  cases q:H l with
  | none=>rfl
  | some o =>
    rw [e l o q] at h;cases h
theorem Same.seq {K:aaa} {H H':Hp} {a:Addr} {xs:List V} (e:Same H H') (h:SqL K H a xs):SqL K H' a xs:=by
  rcases h with (h|⟨o,h⟩)|h
  · exact .inl (.inl (e _ _ h))
  · exact .inl (.inr ⟨o,e _ _ h⟩)
  · exact .inr h
open PySem PySem.Spec PyProof.Rows
section
variable {κ:Type} [DecidableEq κ]
def bD (kvs:List (κ × V)) (k:κ):Option V:=(kvs.find? fun kv=>decide (kv.1=k)).map (·.2)
def cX (kvs:List (κ × V)) (k:κ) (v:V):List (κ × V) :=
  if (kvs.any fun kv=>decide (kv.1=k))=true then kvs.map (fun kv=>if kv.1=k then (kv.1,v) else kv) else kvs++[(k,v)]
theorem bz {p:κ × V} {r:List (κ × V)} {k:κ} (e:p.1=k):bD (p :: r) k=some p.2:=by simp [bD,abB,e]
theorem bA {p:κ × V} {r:List (κ × V)} {k:κ} (e:¬ p.1=k):bD (p :: r) k=bD r k:=by simp [bD,abB,e]
theorem fU (k:κ):∀ kvs:List (κ × V),(kvs.any fun kv=>decide (kv.1=k))=(bD kvs k).isSome
  | []=>rfl
  | p :: r=>by
    rw [ace];by_cases e:p.1=k
    · simp only [bz e,decide_eq_true e,Bool.true_or,Option.isSome_some]
    · rw [bA e,decide_eq_false e,Bool.false_or];exact fU k r
theorem kW (k j:κ) (y:V):∀ kvs:List (κ × V),bD (kvs.map fun kv=>if kv.1=k then (kv.1,y) else kv) j=(bD kvs j).map fun x=>if j=k then y else x
  | []=>rfl
  | p :: r=>by
    have ih:=kW k j y r;rw [aav];by_cases h:p.1=k
    · rw [if_pos h];by_cases e:p.1=j
      · rw [bz (p:=(p.1,y)) e,bz e,Option.map_some,if_pos (e.symm.trans h)]
      · rw [bA (p:=(p.1,y)) e,bA e,ih]
    · rw [if_neg h];by_cases e:p.1=j
      · rw [bz (p:=p) e,bz e,Option.map_some,if_neg (fun z=>h (e.trans z))]
      · rw [bA (p:=p) e,bA e,ih]
theorem jK (k j:κ) (y:V):∀ kvs:List (κ × V),bD kvs k=none→bD (kvs++[(k,y)]) j=if j=k then some y else bD kvs j
  | [],_=>by
    by_cases e:k=j
    · rw [if_pos e.symm];exact bz (p:=(k,y)) e
    · rw [if_neg (fun z=>e z.symm)];exact bA (p:=(k,y)) e
  | p :: r,hn=>by
    rw [List.cons_append];have hk:¬ p.1=k:=fun z=>by rw [bz z] at hn;cases hn
    rw [bA hk] at hn;have ih:=jK k j y r hn;by_cases e:p.1=j
    · rw [bz e,bz e,if_neg (fun z=>hk (e.trans z))]
    · rw [bA e,bA e,ih]
theorem eA (kvs:List (κ × V)) (k j:κ) (y:V):bD (cX kvs k y) j=if j=k then some y else bD kvs j:=by
  unfold cX;by_cases a:(kvs.any fun kv=>decide (kv.1=k))=true
  · rw [if_pos a,kW];rw [fU] at a;by_cases e:j=k
    · obtain ⟨x,hx⟩:=abR.mp a;rw [if_pos e,e,hx,Option.map_some,if_pos rfl]
    · rw [if_neg e];cases bD kvs j with
      | none=>rfl
      | some x=>rw [Option.map_some,if_neg e]
  · rw [if_neg a];refine jK k j y kvs ?_;rw [fU] at a;cases q:bD kvs k with
    | none=>rfl
    | some x=>rw [q] at a;exact (a rfl).elim
theorem bB (kvs:List (κ × V)) (k:κ) (v:V):(cX kvs k v).length≤kvs.length+1:=by
  unfold cX;split
  · rw [aab];lia
  · rw [aag,aaL,aa1];lia
theorem RelO.isSome_eq {o:Option V} {u:Option Value} (r:RelO o u):o.isSome=u.isSome:=by
  cases o with
  | none=>cases u with
    | none=>rfl
    | some _=>exact (show False from r).elim
  | some _=>cases u with
    | none=>exact (show False from r).elim
    | some _=>rfl
theorem KV.val {kvs:List (κ × V)} {vs:List (κ × Value)} (r:KV kvs vs) (k:κ):RelO (bD kvs k) (valueAt vs k):=by
  unfold KV at r
  induction r with
  | nil=>exact True.intro
  | @cons p q ps qs h t ih =>
    obtain ⟨h1,h2⟩:=h;by_cases e:p.1=k
    · have e':q.1=k:=h1.symm.trans e;have b:valueAt (q :: qs) k=some q.2:=by simp [valueAt,abB,e']
      rw [bz e,b];exact h2
    · have e':¬ q.1=k:=fun z=>e (h1.trans z);have b:valueAt (q :: qs) k=valueAt qs k:=by simp [valueAt,abB,e']
      rw [bA e,b];exact ih
theorem KV.any {kvs:List (κ × V)} {vs:List (κ × Value)} (r:KV kvs vs) (k:κ):(kvs.any fun kv=>decide (kv.1=k))=vs.any fun kv=>decide (kv.1=k):=by
  unfold KV at r
  induction r with
  | nil=>rfl
  | cons h t ih=>rw [ace,ace,ih,h.1]
theorem KV.repl {kvs:List (κ × V)} {vs:List (κ × Value)} (r:KV kvs vs) (k:κ) {y:V} {u:Value} (ry:RelV y u) :
    KV (kvs.map fun kv=>if kv.1=k then (kv.1,y) else kv) (vs.map fun kv=>if kv.1=k then (kv.1,u) else kv):=by
  unfold KV at r ⊢
  induction r with
  | nil=>exact .nil
  | @cons p q ps qs h t ih =>
    rw [aav,aav];refine .cons ?_ ih;obtain ⟨h1,h2⟩:=h;by_cases e:p.1=k
    · rw [if_pos e,if_pos (h1.symm.trans e)];exact ⟨h1,ry⟩
    · rw [if_neg e,if_neg (fun z=>e (h1.trans z))];exact ⟨h1,h2⟩
theorem KV.put {kvs:List (κ × V)} {vs:List (κ × Value)} (r:KV kvs vs) (k:κ) {y:V} {u:Value} (ry:RelV y u):KV (cX kvs k y) (stored vs k u):=by
  unfold cX stored;rw [r.any k];by_cases e:(vs.any fun kv=>decide (kv.1=k))=true
  · rw [if_pos e,if_pos e];exact r.repl k ry
  · rw [if_neg e,if_neg e];exact Paired.snoc r ⟨rfl,ry⟩
theorem KV.length {kvs:List (κ × V)} {vs:List (κ × Value)} (r:KV kvs vs):kvs.length=vs.length:=aaH r
end
theorem nU {P:Program} {w:World} {k:Key} {u:Value} (r:RelV (kV k) u):(aD P w).is k u=true:=by
  cases k with
  | inl i=>obtain ⟨t,e⟩:=(show ∃ t,u=Value.int i t from r);subst e;exact lY P w i t
  | inr x=>obtain ⟨t,e⟩:=(show ∃ t,u=Value.str x t from r);subst e;exact lX P w x t
theorem jU {P:Program} {w:World}:∀ {ks:List Key} {us:List Value},Vals (ks.map kV) us→ItemsAre (aD P w) ks us
  | [],_,r=>by rw [abh] at r;cases r;exact .nil
  | k :: ks,_,r=>by
    rw [aav] at r;cases r with
    | cons h t=>exact .cons (nU h) (jU t)
abbrev KT (H:Hp):List (List Key × V)→List (List Key × Addr × Value)→Prop:=Paired fun p q=>p.1=q.1∧H q.2.1=some (.tup (p.1.map kV))∧RelV p.2 q.2.2
theorem KT.val {H:Hp} {kvs:List (List Key × V)} {xs:List (List Key × Addr × Value)} (r:KT H kvs xs) (k:List Key):RelO (bD kvs k) ((atKey xs k).map (·.2)):=by
  induction r with
  | nil=>exact True.intro
  | @cons p q ps qs h t ih =>
    obtain ⟨h1,_,h2⟩:=h;by_cases e:p.1=k
    · have e':q.1=k:=h1.symm.trans e;have b:atKey (q :: qs) k=some q.2:=by simp [atKey,abB,e']
      rw [bz e,b];exact h2
    · have e':¬ q.1=k:=fun z=>e (h1.trans z);have b:atKey (q :: qs) k=atKey qs k:=by simp [atKey,abB,e']
      rw [bA e,b];exact ih
theorem KT.repl {H:Hp} {kvs:List (List Key × V)} {xs:List (List Key × Addr × Value)} (r:KT H kvs xs) (k:List Key) {y:V} {u:Value} (ry:RelV y u) :
    KT H (kvs.map fun kv=>if kv.1=k then (kv.1,y) else kv) (xs.map (putAt k u)):=by
  induction r with
  | nil=>exact .nil
  | @cons p q ps qs h t ih =>
    rw [aav,aav];refine .cons ?_ ih;obtain ⟨h1,h2,h3⟩:=h;unfold putAt;by_cases e:p.1=k
    · rw [if_pos e,if_pos (h1.symm.trans e)];exact ⟨h1,h2,ry⟩
    · rw [if_neg e,if_neg (fun z=>e (h1.trans z))];exact ⟨h1,h2,h3⟩
theorem KT.put {H:Hp} {kvs:List (List Key × V)} {xs:List (List Key × Addr × Value)} (r:KT H kvs xs) (k:List Key) {b:Addr} {y:V} {u:Value} (hb:H b=some (.tup (k.map kV))) (ry:RelV y u) :
    KT H (cX kvs k y) (storedH xs k b u):=by
  have e:(kvs.any fun kv=>decide (kv.1=k))=(atKey xs k).isSome:=by
    rw [fU,(r.val k).isSome_eq,Option.isSome_map]
  unfold cX storedH;rw [e];by_cases q:(atKey xs k).isSome=true
  · rw [if_pos q,if_pos q];exact r.repl k ry
  · rw [if_neg q,if_neg q];exact Paired.snoc r ⟨rfl,hb,ry⟩
theorem KT.keeps {H H':Hp} {kvs:List (List Key × V)} {xs:List (List Key × Addr × Value)} (r:KT H kvs xs) (ht:∀ b ys,H b=some (.tup ys)→H' b=some (.tup ys)):KT H' kvs xs :=
  Paired.mapP r fun _ _ z=>⟨z.1,ht _ _ z.2.1,z.2.2⟩
section
variable {P:Program} {w:World} {H:Hp} {h:Heap} {a:Addr}
theorem rB {u:HO} (ok:HOk P w H h) (e:Rd H a u):ObjOk P w H h a u:=e.ok ok
theorem qf {kvs:List (Key × V)} (ok:HOk P w H h) (e:Rd H a (.dK kvs)):kvs.length≤sizeLine∧(a == sysModules)=false∧∃ vs,KV kvs vs∧h.DictOf (aD P w) a vs :=
  show ObjOk P w H h a (.dK kvs) from rB ok e
theorem rF {kvs:List (Key × V)} (ok:HOk P w H h) (e:H a=some (.dK kvs)):kvs.length≤sizeLine∧(a == sysModules)=false∧∃ vs,KV kvs vs∧h.DictOf (aD P w) a vs:=qf ok (.inl e)
theorem kI {ks:List Key} (ok:HOk P w H h) (e:H a=some (.tup (ks.map kV))):(tupleKind (aD P w)).is h ks a:=by
  obtain ⟨_,its,r,o,h1,h2,n,h3⟩:=(show ObjOk P w H h a (.tup (ks.map kV)) from ok a _ e)
  exact ⟨o,its.toArray,n,h1,h2,h3,by simpa using jU r⟩
theorem qd {kvs:List (List Key × V)} (ok:HOk P w H h) (e:Rd H a (.dT kvs)):kvs.length≤sizeLine∧(a == sysModules)=false ∧
    ∃ xs,KT H kvs xs∧h.DictOfH (tupleKind (aD P w)) a xs:=by
  obtain ⟨z,y,xs,r,o,es,ep,h1,h2,h3,h4,h5⟩:=(show ObjOk P w H h a (.dT kvs) from rB ok e)
  refine ⟨z,y,xs,r,o,es,ep,h1,h2,h3,h4,fun x hx=>?_,h5⟩;have all:∀ {l:List (List Key × V)} {m:List (List Key × Addr × Value)},KT H l m→∀ x∈m,(tupleKind (aD P w)).is h x.1 x.2.1:=by
    intro l m q
    induction q with
    | nil=>intro x hx;exact nomatch hx
    | @cons p q ps qs hq t ih =>
      intro x hx;rcases aaC.mp hx with e|hx
      · subst e;exact kI ok (by rw [← hq.1];exact hq.2.1)
      · exact ih x hx
  exact all r x hx
theorem ud {kvs:List (List Key × V)} (ok:HOk P w H h) (e:H a=some (.dT kvs)):kvs.length≤sizeLine∧(a == sysModules)=false ∧
    ∃ xs,KT H kvs xs∧h.DictOfH (tupleKind (aD P w)) a xs:=qd ok (.inl e)
end
def DGet (H:Hp) (a:Addr) (y:V) (r:Option V):Prop :=
  (∃ kvs k,Rd H a (.dK kvs)∧y=kV k∧r=bD kvs k)∨∃ kvs k b,Rd H a (.dT kvs)∧y=.ref b∧H b=some (.tup (k.map kV))∧r=bD kvs k
def DPut (H:Hp) (a:Addr) (y v:V) (H':Hp):Prop :=
  (∃ kvs k,H a=some (.dK kvs)∧y=kV k∧kvs.length < sizeLine∧H'=upd H a (.dK (cX kvs k v))) ∨
  ∃ kvs k b,H a=some (.dT kvs)∧y=.ref b∧H b=some (.tup (k.map kV))∧kvs.length < sizeLine∧H'=upd H a (.dT (cX kvs k v))
theorem DGet.t {H:Hp} {a b:Addr} {kvs:List (List Key × V)} {k:List Key} (e:H a=some (.dT kvs)) (eb:H b=some (.tup (k.map kV))):DGet H a (.ref b) (bD kvs k):=.inr ⟨kvs,k,b,.inl e,rfl,eb,rfl⟩
theorem DPut.t {H:Hp} {a b:Addr} {kvs:List (List Key × V)} {k:List Key} {v:V} (e:H a=some (.dT kvs)) (eb:H b=some (.tup (k.map kV))) (hl:kvs.length < sizeLine) :
    DPut H a (.ref b) v (upd H a (.dT (cX kvs k v))):=.inr ⟨kvs,k,b,e,rfl,eb,hl,rfl⟩
section
variable {X:Cx} {pins:List (Addr × Obj)} {σ:St} {H:Hp} {s:Shared} {a:Addr} {y v:V} {u r:Value} {o:Option V} {A:Around} {E:Value→Shared→Prop}
theorem Inv.big (I:Inv X pins σ H s):sysModules < s.heap.objs.size:=by
  have h:mainGlobals < s.heap.objs.size:=(I.mod.glob.keeps I.bk).lt;exact Nat.lt_trans (by decide) h
theorem oN {Q:Value→Shared→Prop} (hu:A.units+1 < cLine) (I:Inv X pins σ H s) (g:DGet H a y (some v)) (ry:RelV y u) (h:∀ w' s',Inv X pins σ H s'→RelV v w'→Q w' s') :
    wpAny (model X.prog X.w) A (getItem (.ref a) u) Q E s:=by
  rcases g with ⟨kvs,k,e,ey,l⟩|⟨kvs,k,b,e,ey,eb,l⟩
  · subst ey;obtain ⟨z,hd,vs,rel,dd⟩:=qf I.hok e;obtain ⟨w',hw,rw'⟩:=RelO.some_of (v:=v) (o:=valueAt vs k) (by rw [l];exact rel.val k);exact wpAny_getItem_of (nU ry) dd.mapOf hw (h w' _ (I.tok _) rw')
  · subst ey;cases (show u=Value.ref b from ry);obtain ⟨z,hd,xs,rel,dd⟩:=qd I.hok e;obtain ⟨w',hw,rw'⟩:=RelO.some_of (v:=v) (o:=(atKey xs k).map (·.2)) (by rw [l];exact rel.val k);obtain ⟨p,hp,hp2⟩:=aaE.mp hw;refine wpAny_getItem_heap (tupleKind_room_in1 hu) (kI I.hok eb) dd hp ?_;rw [hp2];exact h w' _ (I.tok _) rw'
theorem oe {h':Heap} {t':Nat} {ob:HO} (I:Inv X pins σ H s) (mu:Mut (H a)) (hs:abP a s.heap h') (he:∃ q,h'.get? a=some q) (new:ObjOk X.prog X.w (upd H a ob) h' a ob) :
    Inv X pins σ (upd H a ob) { s with heap:=h',toks:=t' } :=
  I.write (x:=a) (e:=a) mu (.inl rfl) (fun b q hb z=>(hs.2 b hb).trans z) he new
theorem sP {P:Program} {w:World} {H':Hp} {h':Heap} {kvs:List (Key × V)} {vs:List (Key × Value)} (z:kvs.length≤sizeLine) (hd:(a == sysModules)=false) (rel:KV kvs vs) (dd:h'.DictOf (aD P w) a vs) :
    ObjOk P w H' h' a (.dK kvs):=⟨z,hd,vs,rel,dd⟩
theorem oM {H':Hp} {Q:Unit→Shared→Prop} (hu:A.units+1 < cLine) (I:Inv X pins σ H s) (g:DPut H a y v H') (ry:RelV y u) (rv:RelV v r) (h:∀ s',Inv X pins σ H' s'→Q () s') :
    wpAny (model X.prog X.w) A (setItem (.ref a) u r) Q E s:=by
  rcases g with ⟨kvs,k,e,ey,l,eH⟩|⟨kvs,k,b,e,ey,eb,l,eH⟩
  · subst ey eH;obtain ⟨z,hd,vs,rel,dd⟩:=rF I.hok e;have hz:vs.length≤sizeLine:=by rw [← rel.length];exact z
    have hl:(cX kvs k v).length≤sizeLine:=by have:=bB kvs k v;lia
    refine wpAny_setItem_pairs (hsz:=hz) (nU ry) dd fun h' dd' hs=>h _ ?_;have he:∃ q,h'.get? a=some q:=let ⟨q,_,_,hq,_⟩:=dd';⟨q,hq⟩;exact oe I (by rw [e];exact True.intro) hs he (sP hl hd (rel.put k rv) dd')
  · subst ey eH;cases (show u=Value.ref b from ry);obtain ⟨z,hd,xs,rel,dd⟩:=ud I.hok e;have hz:xs.length≤sizeLine:=by rw [← aaH rel];exact z
    have hl:(cX kvs k v).length≤sizeLine:=by have:=bB kvs k v;lia
    refine wpAny_setItem_heap (hsz:=hz) (tupleKind_room_in1 hu) (kI I.hok eb) dd fun h' dd' hs=>h _ ?_;obtain ⟨q,es,ep,hq,h2,h3,h4,_,h5⟩:=dd';refine oe I (by rw [e];exact True.intro) hs ⟨q,hq⟩ ⟨hl,hd,_,(rel.put k eb rv).keeps fun c ys ec=>?_,q,es,ep,hq,h2,h3,h4,h5⟩;rw [aF (tR ec e (fun z=>nomatch z))];exact ec
end
section
variable {X:Cx} {pins:List (Addr × Obj)} {σ:St} {H:Hp} {s:Shared} {a:Addr} {kvs:List (Key × V)} {k:Key} {u:Value} {A:Around} {E:Value→Shared→Prop}
end
def sW (i:Expr):Prop:=∀ ov iv,subscripted i false ov iv=operate [ov,iv] (getItem ov iv)
theorem nv {prog:Program} {w:World} {A:Around} {E:Value→Shared→Prop} {s:Shared} {env:Env} {value slice:Expr} {pos:Pos} {T id:String} {Q:Value→Shared→Prop}
    (hl:typeLookup (.type T) "__getitem__" = pure (some (.builtin id))) (hs:sW slice)
    (h:wpAny (model prog w) A (eval value env) (fun o s₁=>wpAny (model prog w) A (eval slice env) (fun i s₂=>s₂.TypeIs o T∧wpAny (model prog w) A (getItem o i) Q E s₂) E s₁) E s) :
    wpAny (model prog w) A (eval (.Subscript value slice pos) env) Q E s:=by
  refine Subscript_ (wpAny_mono h (fun o s₁ h₁=>wpAny_mono h₁ (fun i s₂ h₂=>?_) fun _ _ x=>x) fun _ _ x=>x);obtain ⟨hT,h₂⟩:=h₂;unfold subscriptTail;refine wpAny_bind ?_;rw [getitemInPython_of_ne hT.not_modules];refine wpAny_bind (wpAny_specialOf hT hl ?_);have fin:wpAny (model prog w) A (subscripted slice false o i) (fun r s₃=>wpAny (model prog w) A (letTemporaryGo value o r >>= fun _=>pure r) Q E s₃) E s₂:=by
    rw [hs o i];exact wpAny_operating (wpAny_mono h₂ (fun r s₃ h₃=>wpAny_bind (wpAny_letTemporaryGo (wpAny_pure h₃))) fun _ _ x=>x)
  first
    | exact wpAny_pure (wpAny_bind fin)
    | exact wpAny_bind (wpAny_pure (wpAny_bind fin))
    | exact wpAny_bind fin
theorem l7 {X:Cx} {pins:List (Addr × Obj)} {σ:St} {H:Hp} {s:Shared} {a:Addr} {y:V} {o:Option V} (I:Inv X pins σ H s) (g:DGet H a y o):s.TypeIs (.ref a) "dict":=by
  rcases g with ⟨kvs,k,e,_,_⟩|⟨kvs,k,b,e,_,_,_⟩
  · obtain ⟨_,_,vs,_,dd⟩:=qf I.hok e;exact dd.typeIs
  · obtain ⟨_,_,xs,_,dd⟩:=qd I.hok e;exact dd.typeIs
def tE (td ty:TE):TE:=fun σ H Q=>td σ H fun x H1=>ty σ H1 fun y H2=>∃ a v,x=.ref a∧DGet H2 a y (some v)∧Q v H2
def tJ (td ty tv:TE):TS:=fun D σ H=>tv σ H fun v H1=>td σ H1 fun x H2=>ty σ H2 fun y H3=>∃ a H4,x=.ref a∧DPut H3 a y v H4∧D.nx σ H4
section
variable {X:Cx} {o i e value:Expr} {pos pos' tpos:Pos} {td ty tv:TE}
theorem bG (hu:X.A.units+1 < cLine) (ho:PE X o td) (hi:PE X i ty) (hs:sW i):PE X (.Subscript o i pos) (tE td ty):=by
  intro pins s σ H Q I h;refine nv acj.lookup hs (thn (ho pins s σ H _ I h) fun u s1 ⟨x,H1,I1,rx,q1⟩=>thn (hi pins s1 σ H1 _ I1 q1) fun iv s2 ⟨y,H2,I2,ry,a,v,ex,g,q2⟩=>?_);subst ex;obtain rfl:u=Value.ref a:=rx;exact ⟨l7 I2 g,oN hu I2 g ry fun w' s3 I3 rw'=>⟨v,H2,I3,rw',q2⟩⟩
theorem ge (hu:X.A.units+1 < cLine) (ho:PE X o td) (hi:PE X i ty) (hv:PE X value tv) (hs:swapsWith value (some (.Subscript o i pos')) pos.line X.env=pure false) :
    PS X (.Assign [.Subscript o i pos'] value pos) (tJ td ty tv):=by
  intro pins s σ H D I h;refine wpAny_Assign_Subscript (thn (hv pins s σ H _ I h) fun r s1 ⟨v,H1,I1,rv,q1⟩=>thn (ho pins s1 σ H1 _ I1 q1) fun u s2 ⟨x,H2,I2,rx,q2⟩=>thn (hi pins s2 σ H2 _ I2 q2) fun iv s3 ⟨y,H3,I3,ry,a,H4,ex,g,q3⟩=>?_) hs;subst ex;obtain rfl:u=Value.ref a:=rx;exact oM hu I3 g ry rv fun s4 I4=>⟨σ,H4,I4,q3⟩
end
theorem qe {P:Program} {w:World} {H:Hp} (h:Heap) (hb:sysModules < h.objs.size):ObjOk P w H (h.push { cls:=.type "dict",data:=.dict #[] }) h.objs.size (.dT []) :=
  ⟨aaX _,beq_eq_false_iff_ne.mpr (abO (aaA hb)),[],.nil,_,#[],0,aaG _ rfl,⟨rfl,rfl,rfl⟩,rfl,rfl,List.nodup_nil⟩
def rR:TE:=fun _ H Q=>∀ p,H p=none→Q (.ref p) (upd H p (.dT []))
section
variable {X:Cx} {pos:Pos}
theorem lE:PE X (.Dict [] [] pos) rR:=fun pins s σ H Q I h =>
  wpAny_Dict_empty ⟨.ref s.heap.objs.size,_,I.laid (a:=s.heap.objs.size) (o:=.dT []) (t':=s.toks) (fun _ _ q=>aah _ q) (aac _) (qe s.heap I.big),rfl,h _ (I.hok.fresh (aac _))⟩
end
structure M1 (X:Cx) (o:Expr) (m:Str) (apos:Pos) (e:Expr) (cpos:Pos):Prop where
  base:attributeBase o m X.env (eval o X.env)=eval o X.env
  few:((backTo cpos (starEach [e] X.env)).all (fun x=>!x.1) && (backToKw cpos (keywordEach [] X.env)).all (fun x=>x.1.isSome)
    && decide (([e]:List Expr).length+([]:List Keyword).length+(if ([]:List Keyword).isEmpty then 0 else 1) < 30))=true
  line:(apos.endLine == cpos.line)=true
  trees:backTo cpos (starEach [e] X.env)=[(false,eval e X.env)]
structure M2 (X:Cx) (o:Expr) (m:Str) (apos:Pos) (e f:Expr) (cpos:Pos):Prop where
  base:attributeBase o m X.env (eval o X.env)=eval o X.env
  few:((backTo cpos (starEach [e,f] X.env)).all (fun x=>!x.1) && (backToKw cpos (keywordEach [] X.env)).all (fun x=>x.1.isSome)
    && decide (([e,f]:List Expr).length+([]:List Keyword).length+(if ([]:List Keyword).isEmpty then 0 else 1) < 30))=true
  line:(apos.endLine == cpos.line)=true
  trees:backTo cpos (starEach [e,f] X.env)=[(false,eval e X.env),(false,eval f X.env)]
section
variable {X:Cx} {pins:List (Addr × Obj)} {σ:St} {H:Hp} {s:Shared} {a:Addr} {y d:V} {u r:Value} {o:Option V} {A:Around} {E:Value→Shared→Prop}
end
section
variable {X:Cx} {o e f:Expr} {apos cpos:Pos} {td ty tx:TE}
end
section
variable {X:Cx} {pins:List (Addr × Obj)} {σ:St} {H:Hp} {s:Shared} {a:Addr} {kvs:List (Key × V)} {A:Around} {E:Value→Shared→Prop}
end
section
variable {X:Cx} {pins:List (Addr × Obj)} {σ:St} {H:Hp} {s:Shared} {a:Addr} {y:V} {u:Value} {A:Around} {E:Value→Shared→Prop}
end
open PySem PySem.Spec PyProof.Rows
section
variable {X:Cx}
end
section
variable {κ:Type} [DecidableEq κ]
end
end L2
set_option maxHeartbeats 4000000
namespace L2
open PySem PySem.Spec PyProof.Rows
theorem Inv.adopt {X:Cx} {pins:List (Addr × Obj)} {σ:St} {H:Hp} {s:Shared} {a:Addr} {o:HO} (I:Inv X pins σ H s) (hn:H a=none) (hs:X.s₀.heap.objs.size≤a) (hL:a≠X.env.locals) (hC:∀ x c,X.env.cells.lookup x=some c→c≠a) (hp:∀ p∈X.pn++pins,p.1≠a)
    (new:ObjOk X.prog X.w (upd H a o) s.heap a o):Inv X pins σ (upd H a o) s:=by
  have ne:∀ b u,X.s₀.heap.get? b=some u→b≠a:=fun b u e=>aaA (aap (aaq e) hs);refine ⟨I.ok,I.os,I.bare,⟨I.base.keep,I.base.slot,fun b u e n hx=>?_,I.base.there,fun b xs e=>?_,fun b u xs e=>?_,fun b ps e=>?_⟩,I.loc,I.cell,?_,fun x c e=>?_,fun p hq=>?_,fun b u e=>?_,I.len⟩
  · rw [aF (ne b u e)];exact I.base.free b u e n hx
  · have q:=I.base.tups b xs e;rw [aF (aH q hn)];exact q
  · have q:=I.base.frzs b u xs e;rw [aF (aH q hn)];exact q
  · obtain ⟨m,q⟩:=I.base.tbls b ps e;exact ⟨m,by rw [aF (aH q hn)];exact q⟩
  · rw [aF (abO hL)];exact I.free
  · rw [aF (hC x c e)];exact I.freeC x c e
  · obtain ⟨h1,h2,h3⟩:=I.pin p hq;exact ⟨h1,by rw [aF (hp p hq)];exact h2,h3⟩
  · by_cases hb:b=a
    · subst hb;rw [ad] at e;cases e;exact new
    · rw [aF hb] at e;exact (I.hok b u e).stay (fun c v _ q=>q) (fun c q=>by rw [aF (aH q hn)];exact q) fun c xs q=>by rw [aF (aH q hn)];exact q
def CellsIn (E:Env):List (Str × Addr)→Prop
  | []=>True
  | p :: r=>E.cells.lookup p.1=some p.2∧CellsIn E r
theorem CellsIn.get {E:Env}:∀ {cl:List (Str × Addr)} {x:Str} {c:Addr},CellsIn E cl→cl.lookup x=some c→E.cells.lookup x=some c:=by
  intro cl x c h e;have hm:=aa8 e;clear e
  induction cl with
  | nil=>exact nomatch hm
  | cons p r ih =>
    rcases aaC.mp hm with q|q
    · have:=h.1;rw [← q] at this;exact this
    · exact ih h.2 q
def CapOk (XE:Env) (sc:Scope) (XN:List Str):List Str→List (Option Nat)→Prop
  | [],[]=>True
  | _ :: n,none :: c=>CapOk XE sc XN n c
  | x :: n,some i :: c=>(XN[i]?=some x∧(XE.kindOf x=some .cell∨XE.kindOf x=some .free)∧(sc.names.lookup x=some .cell∨sc.names.lookup x=some .free))∧CapOk XE sc XN n c
  | _,_=>False
def ue (σ:St) (o:Option Nat):Option V:=match o with
  | none=>none
  | some i=>(σ[i]?).join
def bL (cap:List (Option Nat)) (σ:St):St:=cap.map (ue σ)
theorem CapOk.len {XE:Env} {sc:Scope} {XN:List Str}:∀ {n:List Str} {c:List (Option Nat)},CapOk XE sc XN n c→c.length=n.length
  | [],[],_=>rfl
  | _ :: _,none :: _,h=>congrArg (·+1) (CapOk.len (n:=_) (c:=_) h)
  | _ :: _,some _ :: _,h=>congrArg (·+1) (CapOk.len h.2)
  | [],_ :: _,h=>(show False from h).elim
  | _ :: _,[],h=>(show False from h).elim
theorem CapOk.get {XE:Env} {sc:Scope} {XN:List Str} {σ:St} {n:List Str} {c:List (Option Nat)} {j:Nat} {x:Str} {v:V} (h:CapOk XE sc XN n c) (h1:n[j]?=some x) (e:(bL c σ)[j]?=some (some v)) :
    ∃ i:Nat,XN[i]?=some x∧σ[i]?=some (some v)∧(XE.kindOf x=some .cell∨XE.kindOf x=some .free)∧(sc.names.lookup x=some .cell∨sc.names.lookup x=some .free):=by
  induction n generalizing c j with
  | nil=>cases h1
  | cons y n ih =>
    cases c with
    | nil=>exact h.elim
    | cons o c =>
      cases j with
      | zero =>
        cases h1;cases o with
        | none=>cases e
        | some i =>
          refine ⟨i,h.1.1,?_,h.1.2⟩;have e:some ((σ[i]?).join)=some (some v):=e;cases q:σ[i]? with
          | none=>rw [q] at e;cases e
          | some w=>rw [q] at e;injection e with e;exact congrArg some e
      | succ j =>
        cases o with
        | none=>exact ih (c:=c) (j:=j) h h1 e
        | some i=>exact ih (c:=c) (j:=j) h.2 h1 e
def dF (X:Cx) (E:Env) (fn:Str→Bool) (NY:List Str) (fp:List Addr) (s:Shared) (H:Hp):Cx where
  prog:=X.prog
  w:=X.w
  K:=X.K
  mg:=X.mg
  base:=X.base
  A:=X.A
  N:=NY
  s₀:=s
  H₀:=H
  env:=E
  outer:=X.stack
  stack:=X.stack
  ex:=fp
  fn:=fn
  calm:=X.calm
  pn:=[]
  xe:=fun _ _=>False
abbrev bq (X:Cx) (scope:Scope) (cl:List (Str × Addr)) (NY:List Str) (fp:List Addr) (s:Shared) (H:Hp) (C:Addr):Cx:=dF X (compEnvC scope cl C X.env) (fun _=>false) NY fp s H
def jI (X:Cx) (ifs:List Expr) (t:TT):Prop :=
  ∀ (pins:List (Addr × Obj)) (s:Shared) (σ:St) (H:Hp) (Q:Bool→Hp→Prop),Inv X pins σ H s→t σ H Q →
    wpAny (model X.prog X.w) X.A (forIn ifs true fun c r=>if r=true then do let ok ← isTrue c X.env (eval c X.env);pure (ForInStep.yield ok) else pure (ForInStep.yield r)) (TP X pins σ Q) X.xe s
theorem aV {X:Cx}:jI X [] (fun _ H Q=>Q true H):=fun _ _ _ H _ I h=>wpAny_tests_nil ⟨H,I,h⟩
theorem jG {elt tg2 iter2:Expr} {ifs2:List Expr} {G:List Comprehension} {k:Nat} (hk:G[k]?=some ⟨tg2,iter2,ifs2,0⟩) (hk2:G[k+1]?=none) {scope:Scope} {pos:Pos} {it acc:Value} {env:Env} :
    compTurn (.ListComp elt G scope pos) k it acc env=(do
      standAt iter2.pos
      match ← pyNext it with
      | none=>pure (.done .next)
      | some v =>
        letOwnedTupleGo tg2 it v
        assign tg2 env v
        let mut ok:=true
        for c in ifs2 do
          if ok then ok ← isTrue c env (eval c env)
        if ok then
          (do let _ ← call (.builtin "list.append") [acc,← eval elt env])
        again (.compLoop (.ListComp elt G scope pos) k it acc env)):=by
  unfold compTurn;simp only [hk,hk2];rfl
theorem mY {prog:Program} {w:World} {A:Around} {R:Result→Shared→Prop} {s:Shared} {elt tg2 iter2:Expr} {ifs2:List Expr} {G:List Comprehension} {k:Nat} (hk:G[k]?=some ⟨tg2,iter2,ifs2,0⟩) (hk2:G[k+1]?=none) {scope:Scope} {pos:Pos} {it acc:Value} {env:Env} (J:Nat→Shared→Prop)
    (turn:∀ n s,J n s→wpAny (model prog w) A (pyNext it) (fun r s₁=>match r with
      | none=>R (.ok .next) s₁
      | some v=>wpAny (model prog w) A (letOwnedTupleGo tg2 it v) (fun _ s₁'=>wpAny (model prog w) A (assign tg2 env v) (fun _ s₂ =>
          wpAny (model prog w) A (forIn ifs2 true fun c r=>if r=true then do let ok ← isTrue c env (eval c env);pure (ForInStep.yield ok) else pure (ForInStep.yield r)) (fun ok s₃ =>
            if ok=true then wpAny (model prog w) A (eval elt env) (fun x s₄ =>
              wpAny (model prog w) A (call (.builtin "list.append") [acc,x]) (fun _ s₅=>∃ m,m < n∧J m s₅) (fun _ _=>False) s₄) (fun _ _=>False) s₃
            else ∃ m,m < n∧J m s₃) (fun _ _=>False) s₂) (fun _ _=>False) s₁') (fun _ _=>False) s₁) (fun _ _=>False) s)
    (n:Nat) (h:J n s) :
    codeAny (model prog w) A (.compLoop (.ListComp elt G scope pos) k it acc env) R s:=by
  refine codeAny_loop rfl J (fun n s hI=>?_) n h;show wpAny _ A ((compTurn (.ListComp elt G scope pos) k it acc env).onRaise (fun x=>do noteFrame x env;theTreesLotGoes x)) _ _ s;refine wpAny_noted ?_;rw [jG hk hk2];refine wpAny_bind (wpAny_standAt (wpAny_bind (wpAny_mono (turn n s hI) (fun r s₁ h₁=>?_) fun _ _ h'=>h'.elim)));cases r with
  | none=>exact wpAny_pure h₁
  | some v =>
    refine wpAny_bind (wpAny_mono h₁ (fun _ s₁' h₁'=>?_) fun _ _ h'=>h'.elim);refine wpAny_bind (wpAny_mono h₁' (fun _ s₂ h₂=>wpAny_bind (wpAny_mono h₂ (fun ok s₃ h₃=>?_) fun _ _ h'=>h'.elim)) fun _ _ h'=>h'.elim);cases ok with
    | false=>exact wpAny_pure ⟨rfl,h₃⟩
    | true =>
      exact wpAny_bind (wpAny_bind (wpAny_mono h₃ (fun x s₄ h₄=>wpAny_bind (wpAny_mono h₄ (fun _ s₅ h₅=>wpAny_pure (wpAny_pure ⟨rfl,h₅⟩)) fun _ _ h'=>h'.elim)) fun _ _ h'=>h'.elim))
abbrev Lp (D:Addr) (its:List Value) (k:Nat):Addr × Obj:=(D,{ cls:=.type "list",data:=.seq its.toArray k })
section
variable {X:Cx} {pins:List (Addr × Obj)} {σ:St} {H2:Hp} {s2:Shared}
theorem Inv.cellLt (I2:Inv X pins σ H2 s2):∀ x c,X.env.cells.lookup x=some c→c < s2.heap.objs.size:=fun x c e=>by
  obtain ⟨v,q⟩:=I2.cell x c e;exact q.lt
theorem Inv.notStk (I2:Inv X pins σ H2 s2) {b:Addr} (hb:s2.heap.objs.size≤b):b∉frs X.stack:=fun hz=>by
  rcases aaC.mp (I2.stkSub b hz) with z|z
  · have:=I2.lt;rw [← z] at this;exact absurd (aap this hb) (abI _)
  · exact I2.nofs hb z
theorem Inv.offC (I2:Inv X pins σ H2 s2) {C:Addr} (hC:s2.heap.objs.size≤C) {σ':St} {H:Hp} {s:Shared} {h':Heap} (I:Inv X pins σ' H s) (hn:H C=none) (he:∀ b o,b≠C→s.heap.get? b=some o→h'.get? b=some o):Inv X pins σ' H { s with heap:=h' } :=
  I.turned (t':=s.toks) (it:=C) he hn (abj (aap I2.lt hC)) (.inr (aaN I2.sz hC)) (fun x c e z=>absurd (I2.cellLt x c e) (by rw [z];exact ack.mpr hC)) (fun p hp z=>absurd (aaq (I2.pin p hp).1) (by rw [z];exact ack.mpr hC))
theorem Inv.takeD (I2:Inv X pins σ H2 s2) {D:Addr} (hD:s2.heap.objs.size≤D) {σ':St} {H:Hp} {s:Shared} {o:HO} (I:Inv X pins σ' H s) (hn:H D=none) (ok:ObjOk X.prog X.w (upd H D o) s.heap D o):Inv X pins σ' (upd H D o) s :=
  I.adopt hn (aaN I2.sz hD) (abj (aap I2.lt hD)) (fun x c e=>aaA (aap (I2.cellLt x c e) hD)) (fun p hp=>aaA (aap (aaq (I2.pin p hp).1) hD)) ok
variable {E:Env} {fn:Str→Bool} {NY:List Str} {fp:List Addr}
theorem Inv.outB (I2:Inv X pins σ H2 s2) (f2:∀ b∈fp,eh X pins H2 b) {P:List (Addr × Obj)} {σ':St} {H3:Hp} {s4:Shared} (I4:Inv (dF X E fn NY fp s2 H2) P σ' H3 s4):Inv X pins σ H3 s4 :=
  I2.call' (ch:=fp) I4.os (show Un (frs X.stack) fp H2 H3 s2.heap s4.heap from I4.base) I4.hok I4.bare fun b hb=>⟨(f2 b hb).2.2.2.1,(f2 b hb).2.1,(f2 b hb).2.2.2.2.1,(f2 b hb).2.2.2.2.2⟩
structure BlkC (X:Cx) (s2:Shared) (h₁:Heap) (E:Env) (fn:Str→Bool):Prop where
  kind:E.scope.kind=.function
  glob:E.globals=X.env.globals
  blt:E.builtins=X.env.builtins
  loc:s2.heap.objs.size≤E.locals
  old:∀ b o,s2.heap.get? b=some o→h₁.get? b=some o
  ns:∃ m,h₁.Ns E.locals m
  cell:∀ x c,E.cells.lookup x=some c→(fn x=false∧X.env.cells.lookup x=some c)∨(fn x=true∧s2.heap.objs.size≤c∧c≠E.locals∧h₁.get? c=some { cls:=.type "cell",data:=.cell none }∧∀ y,E.cells.lookup y=some c→y=x)
  has:∀ x,E.kindOf x=some .cell∨E.kindOf x=some .free→∃ c,E.cells.lookup x=some c
theorem CapOk.noFn {fn:Str→Bool} {n:List Str} {c:List (Option Nat)} {j:Nat} {x:Str} {v:V} {σ:St} (h:((n.zip c).all fun p=>!fn p.1 || p.2 == none)=true) (h1:n[j]?=some x) (e:(bL c σ)[j]?=some (some v)):fn x=false:=by
  rw [bL,aam] at e;cases q:c[j]? with
  | none=>rw [q] at e;cases e
  | some o =>
    rw [q] at e;cases o with
    | none=>simp [ue] at e
    | some i =>
      have m:(x,some i)∈n.zip c:=aaw (i:=j) (by rw [List.getElem?_zip_eq_some];exact ⟨h1,q⟩);have:=aa5.mp h _ m;simpa using this
variable {h₁:Heap}
theorem Inv.fps (I2:Inv X pins σ H2 s2) (f2:∀ b∈fp,eh X pins H2 b) (fpl:∀ b∈fp,b < s2.heap.objs.size) (B:BlkC X s2 h₁ E fn) {P:List (Addr × Obj)} (hP:∀ p∈P,s2.heap.objs.size≤p.1) {H':Hp} (hn:∀ b∈fp,H' b=none):∀ b∈fp,eh (dF X E fn NY fp s2 H2) P H' b:=fun b hb=>by
  refine ⟨hn b hb,aaA (aap (fpl b hb) B.loc),fun hz=>?_,.inl hb,fun x c e=>?_,fun p hp=>?_⟩
  · rcases aaC.mp (I2.stkSub b hz) with z|z
    · exact (f2 b hb).2.1 z
    · exact (f2 b hb).2.2.1 z
  · rcases B.cell x c e with z|z
    · exact (f2 b hb).2.2.2.2.1 x c z.2
    · exact abj (aap (fpl b hb) z.2.1)
  · exact abj (aap (fpl b hb) (hP p hp))
theorem Inv.blkLoc (I2:Inv X pins σ H2 s2) (B:BlkC X s2 h₁ E fn) {cap:List (Option Nat)} (hcap:CapOk X.env E.scope X.N NY cap) (hx:((NY.zip cap).all fun p=>!fn p.1 || p.2 == none)=true) {h:Heap} (hk:∀ x c o,X.env.cells.lookup x=some c→s2.heap.get? c=some o→∃ o',h.get? c=some o'∧o'.data=o.data) {m:Str→Option Value} :
    ∀ (i:Nat) (x:Str) (v:V),NY[i]?=some x→(bL cap σ)[i]?=some (some v)→∃ u,RelV v u∧uk E h m x u:=fun j x v e1 e2=>by
  obtain ⟨i,h1,h2,h3,h4⟩:=CapOk.get (σ:=σ) hcap e1 e2;have nf:=CapOk.noFn hx e1 e2;obtain ⟨m',hn,hl⟩:=I2.loc;have vis:Vis X.env.scope x:=by rcases h3 with z|z;exact .inr (.inl z);exact .inr (.inr z)
  obtain ⟨u,r,l⟩:=hl i x v h1 h2 vis;refine ⟨u,r,.inr ⟨h4,?_⟩⟩;rcases l with ⟨k,_⟩|⟨_,c,e,z⟩
  · rcases h3 with z|z <;> (rw [k] at z;cases z)
  · obtain ⟨c',e'⟩:=B.has x h4;rcases B.cell x c' e' with q|q
    · have e'':=q.2;rw [e] at e'';cases e'';obtain ⟨o,ho,hd⟩:=z;obtain ⟨o',h',d'⟩:=hk x c o e ho;exact ⟨c,e',o',h',d'.trans hd⟩
    · rw [nf] at q;exact absurd q.1 aai
theorem Inv.blk (I2:Inv X pins σ H2 s2) (f2:∀ b∈fp,eh X pins H2 b) (fpl:∀ b∈fp,b < s2.heap.objs.size) (B:BlkC X s2 h₁ E fn) {cap:List (Option Nat)} (hcap:CapOk X.env E.scope X.N NY cap) (hx:((NY.zip cap).all fun p=>!fn p.1 || p.2 == none)=true)
    {P:List (Addr × Obj)} (hP:∀ p∈P,h₁.get? p.1=some p.2∧s2.heap.objs.size≤p.1∧p.1≠E.locals∧∀ v,p.2.data≠.cell v) {t':Nat}:Inv (dF X E fn NY fp s2 H2) P (bL cap σ) H2 { s2 with heap:=h₁,toks:=t' }:=by
  refine ⟨⟨I2.ok.mod,B.kind,B.glob.trans I2.ok.glob,B.blt.trans I2.ok.blt,B.loc,fun x y c e1 e2=>?_,B.has,fun x c hf e=>?_,I2.ok.hd,I2.ok.frames,.inl rfl,fun b hb=>⟨aaA (aap (fpl b hb) B.loc),fun x c e z=>?_⟩,I2.bs,aaN I2.ok.bsz I2.sz,fun b o e hb=>?_,fun b hb hz=>?_,I2.stack,I2.stkFree⟩,
    rfl,I2.bare,Un.kept B.old,⟨B.ns.choose,B.ns.choose_spec,fun j x v e1 e2 _=>I2.blkLoc B hcap hx (fun x c o _ ho=>⟨o,B.old _ _ ho,rfl⟩) j x v e1 e2⟩,fun x c e=>?_,I2.hok.fresh B.loc,fun x c e=>?_,fun p hp=>?_,I2.hok.kept B.old,?_⟩
  · rcases B.cell x c e1 with z|z
    · rcases B.cell y c e2 with q|q
      · exact I2.ok.inj x y c z.2 q.2
      · exact absurd (I2.cellLt x c z.2) (ack.mpr q.2.1)
    · exact (z.2.2.2.2 y e2).symm
  · rcases B.cell x c e with z|z
    · have hf:fn x=true:=hf;rw [z.1] at hf;cases hf
    · exact z.2.1
  · rcases B.cell x c e with q|q
    · exact (f2 b hb).2.2.2.2.1 x c q.2 z
    · exact absurd (fpl b hb) (by rw [← z];exact ack.mpr q.2.1)
  · rcases (f2 b hb).2.2.2.1 with z|z
    · exact I2.ok.noex b o e z
    · exact absurd (aap (aaq (I2.ok.bs b o e).1) z) (abI _)
  · rcases aaC.mp (I2.stkSub b hz) with z|z
    · exact (f2 b hb).2.1 z
    · exact (f2 b hb).2.2.1 z
  · rcases B.cell x c e with q|q
    · obtain ⟨v,o,ho,hd⟩:=I2.cell x c q.2;exact ⟨v,o,B.old _ _ ho,hd⟩
    · exact ⟨none,_,q.2.2.2.1,rfl⟩
  · rcases B.cell x c e with q|q
    · exact I2.freeC x c q.2
    · exact I2.hok.fresh q.2.1
  · obtain ⟨h1,h2,h3,h4⟩:=hP p hp;exact ⟨h1,I2.hok.fresh h2,h3,I2.notStk h2,h4⟩
  · show (bL cap σ).length=NY.length;unfold bL;rw [aab];exact hcap.len
theorem Inv.recap (I2:Inv X pins σ H2 s2) (f2:∀ b∈fp,eh X pins H2 b) (B:BlkC X s2 h₁ E fn) {cap:List (Option Nat)} (hcap:CapOk X.env E.scope X.N NY cap) (hx:((NY.zip cap).all fun p=>!fn p.1 || p.2 == none)=true) {pn:List (Addr × Obj)} {σ':St} {H':Hp} {s':Shared} (Z:Inv (dF X E fn NY fp s2 H2) pn σ' H' s'):Inv (dF X E fn NY fp s2 H2) pn (bL cap σ) H' s':=by
  refine ⟨Z.ok,Z.os,Z.bare,Z.base,?_,Z.cell,Z.free,Z.freeC,Z.pin,Z.hok,?_⟩
  · obtain ⟨m,hn,_⟩:=Z.loc;refine ⟨m,hn,fun j x v e1 e2 _=>I2.blkLoc B hcap hx (fun x c o e ho=>?_) j x v e1 e2⟩;have nfp:c∉fp:=fun hz=>(f2 c hz).2.2.2.2.1 x c e rfl;obtain ⟨sl,q⟩:=Z.base.any (show s2.heap.get? c=some o from ho) (I2.freeC x c e) nfp;exact ⟨_,q,rfl⟩
  · show (bL cap σ).length=NY.length;unfold bL;rw [aab];exact hcap.len
theorem Inv.blkC (I2:Inv X pins σ H2 s2) {scope:Scope} {cl:List (Str × Addr)} (hci:CellsIn X.env cl) (hkind:scope.kind=.function) (hhas:((relabel scope X.env).names.all fun p=>(p.2 != .cell && p.2 != .free) || (cl.lookup p.1).isSome)=true) {C:Addr} (hC:s2.heap.objs.size≤C)
    (old:∀ b o,s2.heap.get? b=some o→h₁.get? b=some o) (hns:∃ m,h₁.Ns C m):BlkC X s2 h₁ (compEnvC scope cl C X.env) (fun _=>false):=by
  refine ⟨hkind,rfl,rfl,hC,old,hns,fun x c e=>.inl ⟨rfl,hci.get e⟩,fun x hx=>?_⟩;have hx':(relabel scope X.env).names.lookup x=some .cell∨(relabel scope X.env).names.lookup x=some .free:=hx;have key:∀ k,(relabel scope X.env).names.lookup x=some k→(k=.cell∨k=.free)→∃ c,cl.lookup x=some c:=fun k e hk=>by
    have q:=aa5.mp hhas (x,k) (aa8 e);have q':(cl.lookup x).isSome=true:=by
      rcases hk with rfl|rfl <;> simpa using q
    exact abR.mp q'
  rcases hx' with e|e
  · exact key _ e (.inl rfl)
  · exact key _ e (.inr rfl)
theorem dZ {NY:List Str} {cap:List (Option Nat)}:((NY.zip cap).all fun p=>!(fun _:Str=>false) p.1 || p.2 == none)=true:=List.all_eq_true.mpr fun _ _=>rfl
theorem m5 {scope:Scope} (h:(scope.names.all fun y=>y.2 != .cell)=true):∀ y∈scope.names,y.2≠.cell:=fun y hy=>by
  have q:=aa5.mp h y hy;simpa using q
theorem kU {scope:Scope} (h:(scope.names.all fun y=>y.2 != .local || scope.names.lookup y.1 == some .local)=true):∀ y∈scope.names,y.2=.local→scope.names.lookup y.1=some .local:=fun y hy e=>by
  have q:=aa5.mp h y hy;rw [e] at q;simpa using q
theorem Inv.lstDone (I2:Inv X pins σ H2 s2) (f2:∀ b∈fp,eh X pins H2 b) {D C:Addr} (hD:s2.heap.objs.size≤D) (hC:s2.heap.objs.size≤C) (eC:E.locals=C) {P:List (Addr × Obj)} {σ':St} {H3:Hp} {s4:Shared} {ys:List V} {its:List Value} {k:Nat} (I4:Inv (dF X E fn NY fp s2 H2) (Lp D its k :: P) σ' H3 s4) (rv:Vals ys its) (hz:ys.length≤sizeLine) :
    Inv X pins σ (upd H3 D (.lst ys)) s4∧H3 D=none∧upd H3 D (.lst ys) C=none∧∃ m,s4.heap.Ns C m:=by
  subst eC;have pD:=I4.pin (Lp D its k) (aar _ aan);obtain ⟨m,hnC,_⟩:=id I4.loc;refine ⟨I2.takeD hD (I2.outB f2 I4) pD.2.1 ⟨hz,its,k,rv,pD.1⟩,pD.2.1,?_,m,hnC⟩;have z:D≠E.locals:=pD.2.2.1;rw [aF (abO z)];exact I4.free
theorem Inv.lstEnd (I2:Inv X pins σ H2 s2) (f2:∀ b∈fp,eh X pins H2 b) {D C:Addr} (hD:s2.heap.objs.size≤D) (hC:s2.heap.objs.size≤C) (eC:E.locals=C) {P:List (Addr × Obj)} {σ':St} {H3:Hp} {s4:Shared} {ys:List V} {its:List Value} {k:Nat} (I4:Inv (dF X E fn NY fp s2 H2) (Lp D its k :: P) σ' H3 s4) (rv:Vals ys its) (hz:ys.length≤sizeLine)
    {Q:VK} (qn:∀ p,H3 p=none→Q (.ref p) (upd H3 p (.lst ys))):compPost (model X.prog X.w) X.A X.xe none (EP X pins σ Q) (.ref D) C (.ok .next) s4:=by
  obtain ⟨I5,hD3,hC3,m,hn⟩:=I2.lstDone f2 hD hC eC I4 rv hz;exact ⟨m,hn,fun h' hsb=>⟨.ref D,_,I2.offC hC I5 hC3 fun b o hb e=>hsb.extBut b o hb e,rfl,qn D hD3⟩⟩
end
theorem nY {Y:Cx} {τ:Type} {val:τ→St} {nx:St→τ} (hc:Y.calm=true) (hxe:Y.xe=fun _ _=>False) (hrs:∀ {pn:List (Addr × Obj)} {σ':St} {H':Hp} {s':Shared},Inv Y pn σ' H' s'→Inv Y pn (val (nx σ')) H' s')
    {D:Addr} (hDx:D∈Y.ex∨Y.s₀.heap.objs.size≤D) (hDc:∀ x c,Y.env.cells.lookup x=some c→c≠D) (hDp:∀ p∈Y.pn,p.1≠D)
    {elt tg iter:Expr} {ifs:List Expr} {te:TE} {g:TG} {tt:TT} {G:List Comprehension} {scope:Scope} {pos:Pos} {k:Nat} (hbe:PE Y elt te) (hk:G[k]?=some ⟨tg,iter,ifs,0⟩) (hk2:G[k+1]?=none) (htg:PG Y tg g) (hfs:jI Y ifs tt)
    {P:List (Addr × Obj)} (hP:∀ p∈P,p.1≠D) {it:Addr} {fp:List Addr} {tn:Nat→Heap→Prop} {J:It} (T:Turn Y.prog Y.w Y.K tg J fp it tn) (neD:∀ b∈fp,D≠b) (fpY:∀ {H':Hp} {n:Nat} {its:List Value},(∀ b∈fp,H' b=none)→∀ b∈fp,eh Y (Lp D its n :: P) H' b)
    {R:Result→Shared→Prop} {Fin:List V→τ→Hp→Prop} (hR:∀ ys its k t H s,Inv Y (Lp D its k :: P) (val t) H s→Vals ys its→ys.length≤sizeLine→Fin ys t H→R (.ok .next) s)
    {W:Nat→Nat→List V→τ→Hp→Prop} (turn:∀ i m ys t H,W i m ys t H→(J.stop i H∧Fin ys t H) ∨
      (J.go i H∧ys.length < sizeLine∧∀ x H',J.yld i H x H'→g x (val t) H' fun σ3 H5=>tt σ3 H5 fun b H6=>if b=true then te σ3 H6 fun v H7=>∃ m',m' < m∧W (i+1) m' (ys++[v]) (nx σ3) H7 else ∃ m',m' < m∧W (i+1) m' ys (nx σ3) H6))
    {m0 kk:Nat} {ys:List V} {its:List Value} {t:τ} {H:Hp} {s:Shared} (I:Inv Y (Lp D its kk :: P) (val t) H s) (rv:Vals ys its) (hz:ys.length≤sizeLine) (st:tn 0 s.heap) (fr:∀ b∈fp,H b=none) (w0:W 0 m0 ys t H) :
    codeAny (model Y.prog Y.w) Y.A (.compLoop (.ListComp elt G scope pos) k (.ref it) (.ref D) Y.env) R s:=by
  have xe:∀ e s,Y.xe e s→False:=fun e s z=>by rw [hxe] at z;exact z
  refine mY hk hk2 (fun n s'=>∃ i ys its k t H',Inv Y (Lp D its k :: P) (val t) H' s'∧Vals ys its∧ys.length≤sizeLine∧tn i s'.heap∧(∀ b∈fp,H' b=none)∧W i n ys t H') ?_ m0 ⟨0,ys,its,kk,t,H,I,rv,hz,st,fr,w0⟩;rintro n s3 ⟨i,ys3,its3,k3,t3,H3,I3,rv3,hz3,st3,fr3,w3⟩;rcases turn i n ys3 t3 H3 w3 with ⟨stop,qn⟩|⟨go,hlt,step⟩
  · refine wpAny_mono (T.done Y rfl rfl rfl hc i _ s3 _ H3 (fun _ _=>False) I3 (fpY fr3) st3 stop) (fun r s4 ⟨hr,I4⟩=>?_) fun _ _ z=>z;subst hr;exact hR ys3 its3 k3 t3 H3 s4 I4 rv3 hz3 qn
  · refine wpAny_mono (T.item Y rfl rfl rfl hc i _ s3 _ H3 (fun _ _=>False) I3 (fpY fr3) st3 go) (fun r s4 ⟨u,hr,h4⟩=>?_) fun _ _ z=>z;subst hr;refine wpAny_mono h4 (fun _ s5 ⟨x,H5,I5,r5,y5,st5,fr5⟩=>?_) fun _ _ z=>z;have I5':=I5.pinned (fpY fr5) (T.obj _ _ st5);refine wpAny_mono (htg _ s5 _ H5 x u _ I5' r5 (step x H5 y5)) (fun _ s6 ⟨σ6,H6,I6,q6⟩=>?_) fun e s z=>(xe e s z).elim;refine wpAny_mono (hfs _ s6 σ6 H6 _ I6 q6) (fun ok s7 ⟨H7,I7,q7⟩=>?_) fun e s z=>(xe e s z).elim;have again:∀ {ys':List V} {its':List Value} {k':Nat} {σ':St} {H':Hp} {s':Shared},Inv Y (Lp D its' k' :: (P++cF fp s5.heap)) σ' H' s'→Vals ys' its'→ys'.length≤sizeLine→(∃ m',m' < n∧W (i+1) m' ys' (nx σ') H') →
        ∃ m,m < n∧∃ i ys its k t H',Inv Y (Lp D its k :: P) (val t) H' s'∧Vals ys its∧ys.length≤sizeLine∧tn i s'.heap∧(∀ b∈fp,H' b=none)∧W i m ys t H':=fun {ys' its' k' σ' H' s'} Z rv' hz' hw=>by
      obtain ⟨m',hm,w'⟩:=hw;have pn:∀ {b:Addr} {o:Obj},b∈fp→s5.heap.get? b=some o→_:=fun {b o} hb e=>Z.pin (b,o) (aar _ (aaj _ (aar _ (d0 hb e))));refine ⟨m',hm,i+1,ys',its',k',nx σ',H',hrs (Inv.unpinned (pl:=cF fp s5.heap) Z),rv',hz',T.keep _ _ _ st5 fun b hb o e=>(pn hb e).1,fun b hb=>?_,w'⟩;obtain ⟨o,e,d⟩:=T.obj _ _ st5 b hb;exact (pn hb e).2.1
    cases ok with
    | false =>
      rw [if_neg aai] at q7 ⊢;exact again I7 rv3 hz3 q7
    | true =>
      rw [if_pos rfl] at q7 ⊢;refine wpAny_mono (hbe _ s7 σ6 H7 _ I7 q7) (fun xv s15 ⟨v,H15,I15,r15,q15⟩=>?_) fun e s z=>(xe e s z).elim;have pD:=I15.pin (Lp D its3 k3) (aar _ aan);have hlen:=rv3.length;refine append_at pD.1 (fun h16 hs16 hD16=>?_) (by rw [aad];lia);have I16:Inv Y (P++cF fp s5.heap) σ6 H15 s15:=I15.pins_of fun p hp=>I15.pin p (aar _ (aaj _ hp));have I17:Inv Y (P++cF fp s5.heap) σ6 H15 { s15 with heap:=h16 }:=I16.turned (t':=s15.toks) (it:=D) (fun b o hb e=>hs16.extBut b o hb e) pD.2.1 pD.2.2.1 hDx hDc fun p hp=>by
        rcases aat.mp hp with z|z
        · exact hDp p z
        · rcases aat.mp z with z|z
          · exact hP p z
          · exact abO (neD _ (hU z).1)
      have I18:Inv Y (Lp D (its3++[xv]) (k3+1) :: (P++cF fp s5.heap)) σ6 H15 { s15 with heap:=h16 }:=I17.pins_of fun p hp=>by
        rcases aaC.mp hp with z|z
        · rw [z];refine ⟨?_,pD.2.1,pD.2.2.1,pD.2.2.2.1,fun v z=>by cases z⟩;rw [List.push_toArray] at hD16;exact hD16
        · exact I17.pin p (aar _ z)
      exact again I18 (rv3.append (.cons r15 .nil)) (by rw [aag,abC];exact hlt) q15
theorem Turn.lt {P:Program} {w:World} {K:aaa} {tg:Expr} {J:It} {fp:List Addr} {it:Addr} {tn:Nat→Heap→Prop} (T:Turn P w K tg J fp it tn) {h:Heap} {i:Nat} (st:tn i h):∀ b∈fp,b < h.objs.size:=fun b hb=>by
  obtain ⟨o,e,_⟩:=T.obj _ _ st b hb;exact aaq e
theorem BlkC.neD {X:Cx} {s2:Shared} {h₁:Heap} {E:Env} {fn:Str→Bool} (B:BlkC X s2 h₁ E fn) (hc:∀ x c,X.env.cells.lookup x=some c→c < s2.heap.objs.size) {D:Addr} (hD:s2.heap.objs.size≤D) {o:Obj} (h:h₁.get? D=some o) (ho:∀ v,o.data≠.cell v):∀ x c,E.cells.lookup x=some c→c≠D:=fun x c e z=>by
  rcases B.cell x c e with q|q
  · exact absurd (hc x c q.2) (by rw [z];exact ack.mpr hD)
  · have:=q.2.2.2.1;rw [z,h] at this;cases this;exact ho _ rfl
theorem Inv.newC {X:Cx} {pins:List (Addr × Obj)} {σ:St} {H2:Hp} {s2:Shared} {h₁:Heap} (I2:Inv X pins σ H2 s2) {scope:Scope} {cl:List (Str × Addr)} (hci:CellsIn X.env cl) (hkind:scope.kind=.function) (hhas:((relabel scope X.env).names.all fun p=>(p.2 != .cell && p.2 != .free) || (cl.lookup p.1).isSome)=true) {o:Obj}
    {m:Str→Option Value} (hns:h₁.Ns (s2.heap.push o).objs.size m) (ext:∀ b u,b≠(s2.heap.push o).objs.size→(s2.heap.push o).get? b=some u→h₁.get? b=some u) (hof:o.isFreed=false:=by rfl) :
    s2.heap.objs.size < (s2.heap.push o).objs.size∧BlkC X s2 h₁ (compEnvC scope cl (s2.heap.push o).objs.size X.env) (fun _=>false)∧h₁.get? s2.heap.objs.size=some o:=by
  have hC:s2.heap.objs.size < (s2.heap.push o).objs.size:=by rw [Heap.size_push];exact Nat.lt_succ_self _
  exact ⟨hC,I2.blkC hci hkind hhas (abi hC) (fun b u e=>ext b u (aaA (Nat.lt_trans (aaq e) hC)) (aah _ e)) ⟨m,hns⟩,ext _ _ (aaA hC) (aaG _ hof)⟩
theorem Inv.goLast {X:Cx} {pins:List (Addr × Obj)} {σ:St} {H2:Hp} {s2:Shared} {h₁:Heap} {E:Env} {fn:Str→Bool} {NY:List Str} {fp:List Addr} (I2:Inv X pins σ H2 s2) (f2:∀ b∈fp,eh X pins H2 b) (fpl:∀ b∈fp,b < s2.heap.objs.size) (B:BlkC X s2 h₁ E fn) {cap:List (Option Nat)} (hcap:CapOk X.env E.scope X.N NY cap)
    (hx:((NY.zip cap).all fun p=>!fn p.1 || p.2 == none)=true) (hc:X.calm=true) {C:Addr} (hC:s2.heap.objs.size < C) (eC:E.locals=C) (hD:h₁.get? s2.heap.objs.size=some { cls:=.type "list",dict:=none,data:=.seq ([]:List Value).toArray })
    {tg elt iter:Expr} {ifs:List Expr} {g:TG} {tt:TT} {te:TE} {J:It} {it:Addr} {tn:Nat→Heap→Prop} (T:Turn X.prog X.w X.K tg J fp it tn) (st:tn 0 h₁) (hbe:PE (dF X E fn NY fp s2 H2) elt te) (hbg:PG (dF X E fn NY fp s2 H2) tg g) (hbt:jI (dF X E fn NY fp s2 H2) ifs tt)
    {G:List Comprehension} (hk:G[0]?=some ⟨tg,iter,ifs,0⟩) (hk2:G[1]?=none) {scope:Scope} {pos:Pos} {t':Nat} {W:Nat→Nat→List V→Hp→Prop} {Fin:List V→Hp→Prop}
    (turn:∀ i m ys H,W i m ys H→(J.stop i H∧Fin ys H)∨(J.go i H∧ys.length < sizeLine∧∀ x H',J.yld i H x H'→g x (bL cap σ) H' fun σ2 H2=>tt σ2 H2 fun b H3=>if b=true then te σ2 H3 fun v H4=>∃ m',m' < m∧W (i+1) m' (ys++[v]) H4 else ∃ m',m' < m∧W (i+1) m' ys H3))
    {m0:Nat} (w0:W 0 m0 [] H2) {R:Result→Shared→Prop} (hR:∀ ys its k H s,Inv (dF X E fn NY fp s2 H2) [Lp s2.heap.objs.size its k] (bL cap σ) H s→Vals ys its→ys.length≤sizeLine→Fin ys H→R (.ok .next) s) :
    codeAny (model X.prog X.w) X.A (.compLoop (.ListComp elt G scope pos) 0 (.ref it) (.ref s2.heap.objs.size) E) R { s2 with heap:=h₁,toks:=t' }:=by
  subst eC;exact nY (τ:=Unit) (val:=fun _=>bL cap σ) (nx:=fun _=>()) (Y:=dF X E fn NY fp s2 H2) hc rfl (fun Z=>I2.recap f2 B hcap hx Z) (.inr (aac _)) (B.neD I2.cellLt (aac _) hD fun v z=>by cases z) (fun p hp=>by cases hp) hbe hk hk2 hbg hbt (P:=[]) (fun p hp=>by cases hp) T
    (fun b hb=>abj (fpl b hb)) (fun hn=>I2.fps f2 fpl B (fun p hp=>by rw [aak.mp hp];exact aac _) hn) (Fin:=fun ys _ H=>Fin ys H) (fun ys its k _ H s=>hR ys its k H s)
    (W:=fun i m ys _ H=>W i m ys H) (fun i m ys _ H=>turn i m ys H) (t:=()) (I2.blk f2 fpl B hcap hx (fun p hp=>by rw [aak.mp hp];exact ⟨hD,aac _,aaA hC,fun v z=>by cases z⟩)) .nil (aaX _) st (fun b hb=>(f2 b hb).1) w0
abbrev oP (cap:List (Option Nat)) (g:TG) (tt:TT) (te:TE) (σ:St) (Q:VK) (J:It) (H1:Hp):Prop:=∃ W:Nat→Nat→List V→Hp→Prop,(∃ m,W 0 m [] H1)∧∀ i m ys H,W i m ys H →
  (J.stop i H∧∀ p,H p=none→Q (.ref p) (upd H p (.lst ys))) ∨
  (J.go i H∧ys.length < sizeLine∧∀ x H',J.yld i H x H'→g x (bL cap σ) H' fun σ2 H2=>tt σ2 H2 fun b H3=>if b=true then te σ2 H3 fun v H4=>∃ m',m' < m∧W (i+1) m' (ys++[v]) H4 else ∃ m',m' < m∧W (i+1) m' ys H3)
def tLc (cap:List (Option Nat)) (wi:TI) (g:TG) (tt:TT) (te:TE):TE:=fun σ H Q=>wi σ H (oP cap g tt te σ Q)
section
variable {X:Cx}
theorem cY {elt tg iter:Expr} {ifs:List Expr} {scope:Scope} {pos:Pos} {cl:List (Str × Addr)} {NY:List Str} {cap:List (Option Nat)} {wi:TI} {g:TG} {tt:TT} {te:TE} (hc:X.calm=true) (hi:PI X tg iter wi)
    (hclos:closureFor scope X.env=pure cl) (hci:CellsIn X.env cl) (hcap:CapOk X.env (relabel scope X.env) X.N NY cap)
    (hb:∀ fp s H C,PG (bq X scope cl NY fp s H C) tg g∧jI (bq X scope cl NY fp s H C) ifs tt∧PE (bq X scope cl NY fp s H C) elt te)
    (hkind:scope.kind=.function:=by rfl) (hnc:(scope.names.all fun y=>y.2 != .cell)=true:=by rfl)
    (hnames:(scope.names.all fun y=>y.2 != .local || scope.names.lookup y.1 == some .local)=true:=by rfl)
    (hhas:((relabel scope X.env).names.all fun p=>(p.2 != .cell && p.2 != .free) || (cl.lookup p.1).isSome)=true:=by rfl)
    (hs:∀ x,foldedSetIterable iter X.env x=pure x:=by intro _;rfl) :
    PE X (.ListComp elt [⟨tg,iter,ifs,0⟩] scope pos) (tLc cap wi g tt te):=by
  intro pins s σ H Q I h;rw [eval_ListComp];refine wpAny_comprehension_free (use:=none) rfl hs hclos hkind (kU hnames) (wpAny_mono (hi pins s σ H _ I h) (fun v s1 h1=>wpAny_mono h1 (fun itv s2 h2=>?_) fun _ _ e=>e) fun _ _ e=>e);obtain ⟨it,fp,tn,J,H2,e,I2,T,st2,f2,W,⟨m0,w0⟩,turn⟩:=h2;subst e;refine wpAny_newObj_type (wpAny_newFunctionEnv (m5 hnc) (by intro y hy;simp at hy) (fun h₁ hns₁ hsb₁=>?_) hkind);dsimp only at hns₁ hsb₁ ⊢;obtain ⟨hC,B,hD⟩:=I2.newC hci hkind hhas hns₁ fun b o hb e=>hsb₁.extBut b o hb (aah _ e);generalize (s2.heap.push { cls:=.type "list",dict:=none,data:=.seq ([]:List Value).toArray }).objs.size=C at hC B ⊢;obtain ⟨hbg,hbt,hbe⟩:=hb fp s2 H2 C;have stW:=T.keep _ _ h₁ st2 fun b _ o e=>B.old b o e;have loop:=I2.goLast f2 (T.lt st2) B hcap dZ hc hC rfl hD T stW hbe hbg hbt (G:=[⟨tg,iter,ifs,0⟩]) rfl rfl (scope:=scope) (pos:=pos) (iter:=iter) (t':=s2.toks+([]:List (Str × Value)).length) turn w0 (R:=compPost (model X.prog X.w) X.A X.xe none (EP X pins σ Q) (.ref s2.heap.objs.size) C) fun ys its k H s I4 rv hz fin=>I2.lstEnd f2 (aac _) (abi hC) rfl I4 rv hz fin;exact codeAny_compStart_list loop (T.self _ 0 _ _ _ stW loop)
end
open PySem PySem.Spec PyProof.Rows
section
variable {X:Cx}
theorem aI {n:String}:di X (.builtin "isinstance") (fun xs H Q=>∃ x t b,xs=[x,.ty n]∧TyOf X.K H x t∧PySem.W.kitOne X.K t (.type n)=some b∧Q (.bl b) H):=by
  intro pins s σ H xs us Q I r h;obtain ⟨x,t,b,rfl,ty,e,q⟩:=h;obtain ⟨u,w',rfl,rx,rt⟩:=rn r;cases rt;exact oI I rx ty e fun tk=>⟨.bl b,H,I.tok _,rfl,q⟩
theorem iX:OpR X (binaryOp .FloorDiv) (rI (fun _ j=>0 < j∧j < 2 ^ 64) fun i j=>.int (i / j)):=opI fun i j _ _ _ _ _ hc q=>by
  have h1:(0:Int) < j:=hc.1;have h2:j < 2 ^ 64:=hc.2;refine floordiv_int (by lia) (by rw [Int.fdiv_eq_ediv_of_nonneg i (by lia)];exact q) (.inl (PyProof.noPylong_of_log2 ?_));have h3:j.natAbs < 2 ^ 64:=by lia
  have h4:j.natAbs≠0:=by lia
  have h5:j.natAbs.log2 < 64:=(Nat.log2_lt h4).mpr h3;lia
def Cal (P:Program) (w:World) (K:aaa) (mg:Str→Option Value) (base:Heap) (x:Str) (k:Nat) (ps:List Str) (sp:Sp):Prop :=
  ∃ f fd,FnOk P w K mg base CX0 k f fd ps sp∧Binds K fd ps []∧aa9 K (.ref f)=true∧mg x=some (.ref f)
theorem ah {x:Str} {k k':Nat} {ps:List Str} {sp:Sp} {e:Expr} {es:List Expr} {t:TA} {p pos:Pos} (C:Cal X.prog X.w X.K X.mg X.base x k ps sp) (hr:Room k' X.A) (hk:k≤k') (hg:Gl X x) (ha:PA X (e :: es) t)
    (hdb:(x == ("__debug__":Str))=false:=by decide) (he:starEach (e :: es) X.env=(false,eval e X.env) :: starEach es X.env:=by rfl) (hpl:(backTo pos (starEach es X.env)).any (·.1)=false:=by rfl) :
    PE X (.Call (.Name x p) (e :: es) [] pos) (rz sp [] E0 t):=by
  obtain ⟨f,fd,F,b,kp,m⟩:=C;exact qQ F (hr.mono hk) hg m kp b .nil tO ha hdb he hpl
end
theorem Same.new {H:Hp} {p:Addr} (h:H p=none) (o:HO):Same H (upd H p o):=fun b u q=>by rw [aF (aH q h)];exact q
def But (w:Addr) (H H':Hp):Prop:=∀ b o,b≠w→H b=some o→H' b=some o
theorem But.refl {w:Addr} {H:Hp}:But w H H:=fun _ _ _ h=>h
theorem But.trans {w:Addr} {H H1 H2:Hp} (a:But w H H1) (b:But w H1 H2):But w H H2:=fun c o n h=>b c o n (a c o n h)
theorem But.of {w:Addr} {H H':Hp} (a:Same H H'):But w H H':=fun c o _ h=>a c o h
theorem But.new {w:Addr} {H:Hp} {p:Addr} (h:H p=none) (o:HO):But w H (upd H p o):=But.of (Same.new h o)
theorem But.put {w:Addr} {H:Hp} {o:HO}:But w H (upd H w o):=fun b u n q=>by rw [aF n];exact q
end L2
namespace Srt
open PySem PySem.W PyProof.Rows
def run {α:Type} (lt:Nat→Nat→Bool):KasT α→α
  | .ret a=>a
  | .ask i j k=>run lt (k (lt i j))
section
variable (key:Nat→Int)
abbrev lt:Nat→Nat→Bool:=fun i j=>decide (key i < key j)
def kp (p:Array Nat) (x:Nat):Int:=key (p.getD x 0)
def Up (p:Array Nat) (m:Nat):Prop:=∀ i j,i < j→j < m→kp key p i < kp key p j
variable {key}
end
end Srt
namespace Srt
open PySem PySem.W PyProof.Rows
def Ent (n:Nat) (p:Array Nat):Prop:=∀ x,p.getD x 0 < n
section
variable {prog:Program} {w:World} {A:Around} {E:Value→Shared→Prop} {s:Shared}
end
end Srt
set_option maxHeartbeats 2000000
namespace L2
open PySem PySem.Spec PyProof.Rows
inductive EqR (K:aaa) (H:Hp):Nat→V→V→Bool→Prop
  | flat {n:Nat} {x y:V} (fx:dh x=true) (fy:dh y=true):EqR K H n x y (eqV x y)
  | lens {n:Nat} {a b:Addr} {xs ys:List V} (ha:SqL K H a xs) (hb:SqL K H b ys) (hl:xs.length≠ys.length):EqR K H (n+1) (.ref a) (.ref b) false
  | lst {n:Nat} {a b:Addr} {xs ys:List V} {e:Nat→Bool} (ha:SqL K H a xs) (hb:SqL K H b ys) (hl:xs.length=ys.length) (h:∀ (j:Nat) x y,xs[j]?=some x→ys[j]?=some y→EqR K H n x y (e j)):EqR K H (n+1) (.ref a) (.ref b) ((aaF xs.length).all e)
  | tup {n:Nat} {a b:Addr} {xs ys:List V} {e:Nat→Bool} (ha:SqT K H a xs) (hb:SqT K H b ys) (h:∀ (j:Nat) x y,xs[j]?=some x→ys[j]?=some y→EqR K H n x y (e j)) :
      EqR K H (n+1) (.ref a) (.ref b) ((aaF (min xs.length ys.length)).all e && xs.length == ys.length)
theorem l6 {x:V} (f:dh x=true):eqV x x=true:=by
  cases x <;> first|rfl|(simp [eqV];done)|exact absurd (show false=true from f) aai
section
variable {X:Cx} {pins:List (Addr × Obj)} {σ:St} {H:Hp} {s:Shared}
theorem EqR.self (I:Inv X pins σ H s) {n:Nat} {x y:V} {b:Bool} (h:EqR X.K H n x y b):x=y→b=true:=by
  induction h with
  | flat fx fy=>intro e;subst e;exact l6 fx
  | lens ha hb hl =>
    intro e;injection e with e;subst e
    exact absurd (by rw [I.list_inj ha hb]) hl
  | @lst n a b xs ys e ha hb hl h ih =>
    intro q;injection q with q;subst q
    obtain rfl:=I.list_inj ha hb;rw [aa5];intro j hj;have hj':j < xs.length:=aaK.mp hj;exact ih j _ _ (aaf hj') (aaf hj') rfl
  | @tup n a b xs ys e ha hb h ih =>
    intro q;injection q with q;subst q
    obtain rfl:=I.tuple_inj ha hb;rw [Bool.and_eq_true,aa5];refine ⟨fun j hj=>?_,beq_self_eq_true _⟩;have hj':j < xs.length:=by have:=aaK.mp hj;lia
    exact ih j _ _ (aaf hj') (aaf hj') rfl
theorem cJ {xs:List V} {its:List Value} (r:Vals xs its) {j:Nat} (h:j < its.toArray.size):∃ x,xs[j]?=some x∧RelV x its.toArray[j]:=by
  have hl:=r.length;have h':j < xs.length:=by rw [hl];simpa using h
  obtain ⟨u,hu,ru⟩:=r.get (aaf h');refine ⟨_,aaf h',?_⟩;have e:its.toArray[j]=u:=by
    have : its[j]?=some u:=hu;rw [aaf (by simpa using h)] at this;simpa using aaW this
  rw [e];exact ru
theorem EqR.at (I:Inv X pins σ H s) {n:Nat} {x y:V} {b:Bool} (h:EqR X.K H n x y b):∀ {A:Around} {u v:Value},RelV x u→RelV y v→A.units+n < cLine→SeqAt.EqAt A s u v b:=by
  induction h with
  | flat fx fy=>intro A u v rx ry hu;exact qc rx ry fx fy
  | @lens n a b xs ys ha hb hl =>
    intro A u v rx ry hu;cases rx;cases ry;obtain ⟨its,r,pl,_⟩:=I.list ha;obtain ⟨its2,r2,pl2,_⟩:=I.list hb;have ne:a≠b:=fun e=>by subst e;exact hl (by rw [I.list_inj ha hb])
    refine .of_refs ne (.lists_lengths pl.isList pl2.isList ?_ (by lia));rw [aad,aad,← r.length,← r2.length];exact bne_iff_ne.mpr hl
  | @lst n a b xs ys e ha hb hl h ih =>
    intro A u v rx ry hu;by_cases q:a=b
    · have:=(EqR.lst ha hb hl h).self I (by rw [q]);cases rx;cases ry;rw [this];subst q;exact SeqAt.EqAt.same _
    · cases rx;cases ry;obtain ⟨its,r,pl,_⟩:=I.list ha;obtain ⟨its2,r2,pl2,_⟩:=I.list hb;have e1:its.toArray.size=xs.length:=by rw [aad,r.length]
      rw [← e1];refine .of_refs q (.lists pl.isList pl2.isList (by rw [aad,aad,← r.length,← r2.length];exact hl) (by lia) fun j h1 h2=>?_);obtain ⟨x,hx,rx⟩:=cJ r h1;obtain ⟨y,hy,ry⟩:=cJ r2 h2;exact ih j x y hx hy rx ry (by show A.units+1+n < cLine;lia)
  | @tup n a b xs ys e ha hb h ih =>
    intro A u v rx ry hu;by_cases q:a=b
    · have:=(EqR.tup ha hb h).self I (by rw [q]);cases rx;cases ry;rw [this];subst q;exact SeqAt.EqAt.same _
    · cases rx;cases ry;obtain ⟨its,r,pl,_⟩:=I.tuple ha;obtain ⟨its2,r2,pl2,_⟩:=I.tuple hb;have e1:its.toArray.size=xs.length:=by rw [aad,r.length]
      have e2:its2.toArray.size=ys.length:=by rw [aad,r2.length]
      rw [← e1,← e2];refine .of_refs q (.tuples pl pl2 (by lia) fun j h1 h2=>?_);obtain ⟨x,hx,rx⟩:=cJ r h1;obtain ⟨y,hy,ry⟩:=cJ r2 h2;exact ih j x y hx hy rx ry (by show A.units+1+n < cLine;lia)
def tL (K:aaa) (neg:Bool):R2:=fun x y H Q=>∃ n a b xs ys,n≤60∧x=.ref a∧y=.ref b∧SqL K H a xs∧SqL K H b ys ∧
  ((xs.length≠ys.length∧Q (.bl neg) H)∨∃ e:Nat→Bool,xs.length=ys.length∧(∀ (j:Nat) x y,xs[j]?=some x→ys[j]?=some y→EqR K H n x y (e j))∧Q (.bl (if neg then !(aaF xs.length).all e else (aaF xs.length).all e)) H)
theorem pG (hu:X.A.units+64 < cLine):OpR X (compareOp .NotEq) (tL X.K true):=by
  intro pins s σ H x y v u Q I rx ry h;obtain ⟨n,a,b,xs,ys,hn,rfl,rfl,ha,hb,h⟩:=h;cases rx;cases ry;obtain ⟨its,r,pl,_⟩:=I.list ha;obtain ⟨its2,r2,pl2,_⟩:=I.list hb;have e1:its.toArray.size=xs.length:=by rw [aad,r.length]
  have e2:its2.toArray.size=ys.length:=by rw [aad,r2.length]
  rcases h with ⟨hl,q⟩|⟨e,hl,he,q⟩
  · exact SeqAt.RcNeAt.lists_lengths pl.isList pl2.isList (by rw [e1,e2];exact bne_iff_ne.mpr hl) (by lia) _ _ _ _ ⟨.bl true,H,I,rfl,q⟩
  · refine SeqAt.RcNeAt.lists (e:=e) pl.isList pl2.isList (by rw [e1,e2];exact hl) (by lia) (fun j h1 h2=>?_) _ _ _ _ ?_
    · obtain ⟨x,hx,rx⟩:=cJ r h1;obtain ⟨y,hy,ry⟩:=cJ r2 h2;exact (he j x y hx hy).at I rx ry (by show X.A.units+1+n < cLine;lia)
    · rw [e1];exact ⟨.bl _,H,I,rfl,q⟩
end
abbrev PairIn (H:Hp) (p:Int × Int) (v:V):Prop:=∃ a,v=.ref a∧H a=some (.tup [.int p.1,.int p.2])
abbrev PairsIn (H:Hp):List (Int × Int)→List V→Prop:=Paired (PairIn H)
open PySem PySem.Spec PyProof.Rows
section
variable {X:Cx}
end
open PySem PySem.Spec PyProof.Rows
theorem e8 {c A B:Prop} [Decidable c] (hc:c) (h:A):if decide c=true then A else B:=by
  rw [if_pos (decide_eq_true hc)];exact h
theorem dE {c A B:Prop} [Decidable c] (hc:¬ c) (h:B):if decide c=true then A else B:=by
  rw [if_neg (fun e=>hc (of_decide_eq_true e))];exact h
section
variable {X:Cx} {K:aaa}
theorem kQ {n:String} (hK:X.K=K):di X (.builtin "isinstance") (fun xs H Q=>∃ x t b,xs=[x,.ty n]∧TyOf K H x t∧PySem.W.kitOne K t (.type n)=some b∧Q (.bl b) H):=by subst hK;exact aI
theorem jH (hK:X.K=K):di X (.builtin "len") (fun xs H Q=>∃ p ys,xs=[.ref p]∧(SqL K H p ys∨SqT K H p ys)∧Q (.int ys.length) H):=by subst hK;exact az
theorem dX {es:List Expr} {k:Nat} {pos:Pos} {t:TGs} {n:Nat} (hK:X.K=K) (hc:X.calm=true) (h:PGs X es t)
    (hn:(assignEach es X.env).length=n:=by rfl) (hst:(assignEach es X.env).findIdx? (·.1)=none:=by rfl):PG X (.Tuple es k pos) (ua K n t):=by subst hK;exact bX hc h hn hst
end
def Nxt (n i:Nat) (P:Prop):Prop:=∃ m',m' < n - i∧m'=n - (i+1)∧i+1≤n∧P
theorem qY {K:aaa} {a:Addr} {xs:List V} {cap:List (Option Nat)} {g:TG} {tt:TT} {te:TE} {σ:St} {H:Hp} {Q:VK} (Pv:Nat→List V→Hp→Prop) (h0:Pv 0 [] H) (hl:∀ i ys H,i≤xs.length→Pv i ys H→SqL K H a xs∧ys.length < sizeLine)
    (hs:∀ i x ys H,xs[i]?=some x→Pv i ys H→(∀ {P:Prop},P→Nxt xs.length i P)→g x (bL cap σ) H fun σ2 H2=>tt σ2 H2 fun b H3=>if b=true then te σ2 H3 fun v H4=>Nxt xs.length i (Pv (i+1) (ys++[v]) H4) else Nxt xs.length i (Pv (i+1) ys H3)) (hd:∀ ys H,Pv xs.length ys H→∀ p,H p=none→Q (.ref p) (upd H p (.lst ys))) :
    oP cap g tt te σ Q (Itl K a) H:=by
  refine ⟨fun i m ys H=>m=xs.length - i∧i≤xs.length∧Pv i ys H,⟨xs.length,by simp,aaX _,h0⟩,?_⟩;rintro i m ys H ⟨rfl,hi,p⟩;have q:=hl i ys H hi p;by_cases hlt:i < xs.length
  · refine .inr ⟨⟨xs,xs[i],q.1,by simp [hlt]⟩,q.2,fun x H' y=>?_⟩;obtain ⟨e,y⟩:=y;subst e;exact hs i x ys _ (y xs q.1) p fun h=>⟨_,by lia,rfl,hlt,h⟩
  · have e:i=xs.length:=by lia
    subst e;exact .inl ⟨⟨xs,q.1,aac _⟩,hd ys H p⟩
theorem sD {K:aaa} {a:Addr} {xs:List V} {cap:List (Option Nat)} {g:TG} {tt:TT} {te:TE} {σ:St} {H:Hp} {Q:VK} (Pv:Nat→List V→Hp→Prop) (h0:Pv 0 [] H) (hl:∀ i ys H,i≤xs.length→Pv i ys H→SqT K H a xs∧ys.length < sizeLine)
    (hs:∀ i x ys H,xs[i]?=some x→Pv i ys H→(∀ {P:Prop},P→Nxt xs.length i P)→g x (bL cap σ) H fun σ2 H2=>tt σ2 H2 fun b H3=>if b=true then te σ2 H3 fun v H4=>Nxt xs.length i (Pv (i+1) (ys++[v]) H4) else Nxt xs.length i (Pv (i+1) ys H3)) (hd:∀ ys H,Pv xs.length ys H→∀ p,H p=none→Q (.ref p) (upd H p (.lst ys))) :
    oP cap g tt te σ Q (Itt K a) H:=by
  refine ⟨fun i m ys H=>m=xs.length - i∧i≤xs.length∧Pv i ys H,⟨xs.length,by simp,aaX _,h0⟩,?_⟩;rintro i m ys H ⟨rfl,hi,p⟩;have q:=hl i ys H hi p;by_cases hlt:i < xs.length
  · refine .inr ⟨⟨xs,xs[i],q.1,by simp [hlt]⟩,q.2,fun x H' y=>?_⟩;obtain ⟨e,y⟩:=y;subst e;exact hs i x ys _ (y xs q.1) p fun h=>⟨_,by lia,rfl,hlt,h⟩
  · have e:i=xs.length:=by lia
    subst e;exact .inl ⟨⟨xs,q.1,aac _⟩,hd ys H p⟩
theorem l4 {lo:Int} {n:Nat} {cap:List (Option Nat)} {g:TG} {tt:TT} {te:TE} {σ:St} {H:Hp} {Q:VK} (Pv:Nat→List V→Hp→Prop) (h0:Pv 0 [] H) (hl:∀ i ys H,i≤n→Pv i ys H→ys.length < sizeLine)
    (hs:∀ i ys H,i < n→Pv i ys H→(∀ {P:Prop},P→Nxt n i P)→g (.int (lo+i)) (bL cap σ) H fun σ2 H2=>tt σ2 H2 fun b H3=>if b=true then te σ2 H3 fun v H4=>Nxt n i (Pv (i+1) (ys++[v]) H4) else Nxt n i (Pv (i+1) ys H3)) (hd:∀ ys H,Pv n ys H→∀ p,H p=none→Q (.ref p) (upd H p (.lst ys))) :
    oP cap g tt te σ Q (Itr lo n) H:=by
  refine ⟨fun i m ys H=>m=n - i∧i≤n∧Pv i ys H,⟨n,by simp,aaX _,h0⟩,?_⟩;rintro i m ys H ⟨rfl,hi,p⟩;have q:=hl i ys H hi p;by_cases hlt:i < n
  · refine .inr ⟨hlt,q,fun x H' y=>?_⟩;obtain ⟨e,y⟩:=y;subst e y;exact hs i ys _ hlt p fun h=>⟨_,by lia,rfl,hlt,h⟩
  · have e:i=n:=by lia
    subst e;exact .inl ⟨aac _,hd ys H p⟩
theorem EqR.flat_same {K:aaa} {H:Hp} {n:Nat} {x:V} (f:dh x=true):EqR K H n x x true:=by
  have:=EqR.flat (K:=K) (H:=H) (n:=n) f f;rw [l6 f] at this;exact this
theorem lG {H:Hp} {ps:List (Int × Int)} {vs:List V} (p:PairsIn H ps vs):∀ {j:Nat} {x:V},vs[j]?=some x→∃ p,ps[j]?=some p∧PairIn H p x:=by
  induction p with
  | nil=>intro j x h;cases h
  | cons a b ih =>
    intro j x h;cases j with
    | zero=>cases h;exact ⟨_,rfl,a⟩
    | succ j=>exact ih (j:=j) h
open PySem PySem.Spec PyProof.Rows
def tT:Key→PyData
  | .inl i=>.int i
  | .inr x=>.str x
mutual
def Dat (H:Hp):PyData→V→Prop
  | .none,v=>v=.non
  | .bool b,v=>v=.bl b
  | .int i,v=>v=.int i
  | .str x,v=>v=.str x
  | .list ds,v=>∃ a xs,v=.ref a∧H a=some (.lst xs)∧DatAll H ds xs
  | .tuple ds,v=>∃ a xs,v=.ref a∧H a=some (.tup xs)∧DatAll H ds xs
  | .dict kvs,v=>∃ a ks,v=.ref a∧H a=some (.dK ks)∧DatKv H kvs ks
def DatAll (H:Hp):List PyData→List V→Prop
  | [],vs=>vs=[]
  | d :: ds,vs=>∃ v r,vs=v :: r∧Dat H d v∧DatAll H ds r
def DatKv (H:Hp):List (PyData × PyData)→List (Key × V)→Prop
  | [],ks=>ks=[]
  | (k,d) :: r,ks=>∃ q v t,ks=(q,v) :: t∧k=tT q∧Dat H d v∧DatKv H r t
end
mutual
theorem Dat.mono {H H':Hp} (g:Same H H'):∀ (d:PyData) (v:V),Dat H d v→Dat H' d v
  | .none,v,h=>h
  | .bool b,v,h=>h
  | .int i,v,h=>h
  | .str x,v,h=>h
  | .list ds,v,h=>by
    simp only [Dat] at h ⊢;obtain ⟨a,xs,e,h1,h2⟩:=h;exact ⟨a,xs,e,g _ _ h1,DatAll.mono g ds xs h2⟩
  | .tuple ds,v,h=>by
    simp only [Dat] at h ⊢;obtain ⟨a,xs,e,h1,h2⟩:=h;exact ⟨a,xs,e,g _ _ h1,DatAll.mono g ds xs h2⟩
  | .dict kvs,v,h=>by
    simp only [Dat] at h ⊢;obtain ⟨a,xs,e,h1,h2⟩:=h;exact ⟨a,xs,e,g _ _ h1,DatKv.mono g kvs xs h2⟩
theorem DatAll.mono {H H':Hp} (g:Same H H'):∀ (ds:List PyData) (vs:List V),DatAll H ds vs→DatAll H' ds vs
  | [],vs,h=>h
  | d :: ds,vs,h=>by
    simp only [DatAll] at h ⊢;obtain ⟨v,r,e,h1,h2⟩:=h;exact ⟨v,r,e,Dat.mono g d v h1,DatAll.mono g ds r h2⟩
theorem DatKv.mono {H H':Hp} (g:Same H H'):∀ (kvs:List (PyData × PyData)) (ks:List (Key × V)),DatKv H kvs ks→DatKv H' kvs ks
  | [],ks,h=>h
  | (k,d) :: r,ks,h=>by
    simp only [DatKv] at h ⊢;obtain ⟨q,v,t,e1,e2,h1,h2⟩:=h;exact ⟨q,v,t,e1,e2,Dat.mono g d v h1,DatKv.mono g r t h2⟩
end
theorem DatAll.len {H:Hp}:∀ {ds:List PyData} {vs:List V},DatAll H ds vs→ds.length=vs.length
  | [],vs,h=>by simp only [DatAll] at h;rw [h];rfl
  | d :: ds,vs,h=>by
    simp only [DatAll] at h;obtain ⟨v,r,rfl,_,h2⟩:=h;rw [aaL,aaL,DatAll.len h2]
theorem DatAll.app {H:Hp}:∀ {as:List PyData} {vs:List V} {bs:List PyData} {us:List V},DatAll H as vs→DatAll H bs us→DatAll H (as++bs) (vs++us)
  | [],vs,bs,us,h,k=>by simp only [DatAll] at h;subst h;exact k
  | d :: as,vs,bs,us,h,k=>by
    simp only [DatAll] at h;obtain ⟨v,r,rfl,h1,h2⟩:=h;show DatAll H (d :: (as++bs)) (v :: (r++us));simp only [DatAll];exact ⟨v,_,rfl,h1,DatAll.app h2 k⟩
theorem DatAll.one {H:Hp} {d:PyData} {v:V} (h:Dat H d v):DatAll H [d] [v]:=by simp only [DatAll];exact ⟨v,[],rfl,h,rfl⟩
section
variable {X:Cx} {pins:List (Addr × Obj)} {σ:St} {H:Hp} {s:Shared}
theorem Inv.nosys (I:Inv X pins σ H s) {a:Addr} {o:HO} (h:H a=some o):a≠sysModules:=fun e=>by
  obtain ⟨mm,ob,es,ep,g,_⟩:=I.mod.sysm;have:=(I.bs _ _ g).2;rw [← e,h] at this;cases this
theorem oE {P:Program} {w:World} {h:Heap} {q:Key} {v:Value} (e:(aD P w).is q v=true):Reads h v (tT q) []:=by
  rw [mO] at e;rcases aZ e with ⟨i,t,rfl,rfl⟩|⟨x,t,rfl,rfl⟩
  · exact .int i t
  · exact .str x t
mutual
theorem Dat.reads (I:Inv X pins σ H s):∀ (d:PyData) (v:V) (u:Value),Dat H d v→RelV v u→∃ as,Reads s.heap u d as∧sysModules∉as
  | .none,v,u,h,r=>by
    simp only [Dat] at h;subst h;cases r;exact ⟨_,.none,by simp⟩
  | .bool b,v,u,h,r=>by
    simp only [Dat] at h;subst h;cases r;exact ⟨_,.bool b,by simp⟩
  | .int i,v,u,h,r=>by
    simp only [Dat] at h;subst h;obtain ⟨t,rfl⟩:=r;exact ⟨_,.int i t,by simp⟩
  | .str x,v,u,h,r=>by
    simp only [Dat] at h;subst h;obtain ⟨t,rfl⟩:=r;exact ⟨_,.str x t,by simp⟩
  | .list ds,v,u,h,r=>by
    simp only [Dat] at h;obtain ⟨a,xs,rfl,hr,hd⟩:=h;cases r;obtain ⟨its,rv,⟨o,n,e1,e2,_,e3⟩,_⟩:=I.list (SqL.of hr);obtain ⟨as,ra,na⟩:=DatAll.reads I ds xs its hd rv;have ho:=hr;refine ⟨_,.list e1 e2 e3 (by simpa using ra),fun z=>?_⟩;rcases aaC.mp z with z|z
    · exact I.nosys ho z.symm
    · exact na z
  | .tuple ds,v,u,h,r=>by
    simp only [Dat] at h;obtain ⟨a,xs,rfl,hr,hd⟩:=h;cases r;obtain ⟨its,rv,⟨o,e1,e2,n,e3⟩,_⟩:=I.tuple (SqT.of hr);obtain ⟨as,ra,na⟩:=DatAll.reads I ds xs its hd rv;exact ⟨_,.tuple e1 e2 e3 (by simpa using ra),na⟩
  | .dict kvs,v,u,h,r=>by
    simp only [Dat] at h;obtain ⟨a,ks,rfl,hr,hd⟩:=h;cases r;obtain ⟨_,_,vs,rel,o,es,ep,e1,ex,e3,_,pr,_⟩:=rF I.hok hr;obtain ⟨as,bs,ra,rb,na,nb⟩:=DatKv.reads I kvs ks vs es.toList hd rel pr;have ho:=hr;refine ⟨_,.dict e1 ex.1 e3 ra rb,fun z=>?_⟩;rcases aat.mp z with z|z
    · rcases aaC.mp z with z|z
      · exact I.nosys ho z.symm
      · exact na z
    · exact nb z
theorem DatAll.reads (I:Inv X pins σ H s):∀ (ds:List PyData) (vs:List V) (us:List Value),DatAll H ds vs→Vals vs us→∃ as,ReadsAll s.heap us ds as∧sysModules∉as
  | [],vs,us,h,r=>by
    simp only [DatAll] at h;subst h;cases r;exact ⟨_,.nil,by simp⟩
  | d :: ds,vs,us,h,r=>by
    simp only [DatAll] at h;obtain ⟨v,t,rfl,h1,h2⟩:=h;cases r with
    | cons r1 r2 =>
      obtain ⟨as,ra,na⟩:=Dat.reads I d v _ h1 r1;obtain ⟨bs,rb,nb⟩:=DatAll.reads I ds t _ h2 r2;exact ⟨_,.cons ra rb,fun z=>(aat.mp z).elim na nb⟩
theorem DatKv.reads (I:Inv X pins σ H s):∀ (kvs:List (PyData × PyData)) (ks:List (Key × V)) (vs:List (Key × Value)) (es:List DictEntry),DatKv H kvs ks→KV ks vs→Pairs (aD X.prog X.w) es vs →
    ∃ as bs,ReadsAll s.heap (es.map (·.key)) (kvs.map (·.1)) as∧ReadsAll s.heap (es.map (·.val)) (kvs.map (·.2)) bs∧sysModules∉as∧sysModules∉bs
  | [],ks,vs,es,h,r,p=>by
    simp only [DatKv] at h;subst h;cases r;cases p;exact ⟨_,_,.nil,.nil,by simp,by simp⟩
  | (k,d) :: kr,ks,vs,es,h,r,p=>by
    simp only [DatKv] at h;obtain ⟨q,v,t,rfl,rfl,h1,h2⟩:=h;cases r with
    | cons r1 r2 =>
      cases p with
      | cons p1 p2 p3 =>
        obtain ⟨rk,rv⟩:=r1;obtain ⟨as,bs,ra,rb,na,nb⟩:=DatKv.reads I kr t _ _ h2 r2 p3;obtain ⟨cs,rc,nc⟩:=Dat.reads I d v _ h1 rv;have rk':q=_:=rk;subst rk';have kd:=oE (h:=s.heap) p1;refine ⟨[]++as,cs++bs,.cons kd ra,.cons (by dsimp only;rw [p2];exact rc) rb,by simpa using na,fun z=>(aat.mp z).elim nc nb⟩
end
theorem fh (hg:X.A.guards=some []) (hu:X.A.units+64 < cLine):di X (.builtin "repr") (fun xs H Q=>∃ x d,xs=[x]∧Dat H d x∧d.showable=true∧d.depth≤60∧d.shown.length≤sizeLine∧Q (.str d.shown) H):=by
  intro pins s σ H xs us Q I r h;obtain ⟨x,d,rfl,hd,hs,hdp,hl,q⟩:=h;obtain ⟨u,rfl,ru⟩:=ez r;have key:∀ a,u=.ref a→wpAny (model X.prog X.w) X.A (call (.builtin "repr") [u]) (EP X pins σ Q) X.xe s:=fun a e=>by
    subst e;obtain ⟨as,ra,na⟩:=Dat.reads I d x _ hd ru;refine repr_of_reads' ra hs (fun _=>na) hg (by lia) (fun _ _ e=>e) (fun h' u tk hk=>?_) hl;exact ⟨.str d.shown,H,I.kept hk,⟨u,rfl⟩,q⟩
  cases d with
  | none =>
    simp only [Dat] at hd;subst hd;cases ru;rw [PyData.shown_none] at q;exact PySem.P.repr_of_none ⟨.str "None",H,I.tok _,⟨_,rfl⟩,q⟩
  | bool b =>
    simp only [Dat] at hd;subst hd;cases ru;rw [PyData.shown_bool] at q;exact PySem.P.repr_of_bool ⟨.str _,H,I.tok _,⟨_,rfl⟩,q⟩
  | int i =>
    simp only [Dat] at hd;subst hd;obtain ⟨t,rfl⟩:=ru;rw [PyData.shown_int] at q;exact PySem.P.repr_of_int (by simpa [abD] using hs) ⟨.str _,H,I.tok _,⟨_,rfl⟩,q⟩
  | str z =>
    simp only [Dat] at hd;subst hd;obtain ⟨t,rfl⟩:=ru;rw [PyData.shown_str] at q hl;exact PySem.P.repr_of_str ⟨.str _,H,I.tok _,⟨_,rfl⟩,q⟩ hl
  | list ds =>
    have hd':=hd;simp only [Dat] at hd';obtain ⟨a,_,rfl,_⟩:=hd';exact key a ru
  | tuple ds =>
    have hd':=hd;simp only [Dat] at hd';obtain ⟨a,_,rfl,_⟩:=hd';exact key a ru
  | dict kvs =>
    have hd':=hd;simp only [Dat] at hd';obtain ⟨a,_,rfl,_⟩:=hd';exact key a ru
end
open PySem PySem.Spec PyProof.Rows
section
variable {X:Cx}
def uI (neg:Bool):R2:=fun x y H Q=>∃ d e,Dat H d x∧Dat H e y∧d.canLay0=true∧e.canLay0=true∧d.depth≤60∧Q (.bl (if neg then !PyData.eqv d e else PyData.eqv d e)) H
theorem sq (hu:X.A.units+64 < cLine):OpR X (compareOp .NotEq) (uI true):=by
  intro pins s σ H x y v u Q I rx ry h;obtain ⟨d,e,hd,he,cd,ce,dp,q⟩:=h;obtain ⟨as,ra,_⟩:=Dat.reads I d x _ hd rx;obtain ⟨bs,rb,_⟩:=Dat.reads I e y _ he ry;exact PySem.SeqAt.compareNe_reads ra rb cd ce (by lia) ⟨.bl _,H,I,rfl,q⟩
theorem oh {i:Int} (h:i.natAbs < 2 ^ 4000):Builtin.Int.intBits i≤2 ^ 20:=by
  have : Builtin.Int.intBits i≤4000:=by
    unfold Builtin.Int.intBits;by_cases c:i=0
    · simp [c]
    · rw [if_neg (by simpa using c)];have h4:i.natAbs≠0:=fun z=>c (Int.natAbs_eq_zero.mp z);exact (Nat.log2_lt h4).mpr h
  have e:(4000:Nat)≤2 ^ 20:=by decide
  lia
theorem iC:OpR X (binaryOp .Mult) (rI (fun i j=>i.natAbs < 2 ^ 4000∧j.natAbs < 2 ^ 4000) fun i j=>.int (i * j)):=opI fun _ _ _ _ _ _ _ hc q=>mul_int q (IntMulOk.of_bits (oh hc.1) (oh hc.2))
theorem kF:MtR X "str.index" (fun x vs H Q=>∃ z y i cZ,x=.str z∧vs=[.str y]∧aaU z y 0 z.length 1=i :: cZ∧Q (.int (i:Nat)) H):=by
  intro pins s σ H x vs v us Q I rx rv h;obtain ⟨z,y,i,cZ,rfl,rfl,ho,q⟩:=h;obtain ⟨t,rfl⟩:=rx;obtain ⟨u,rfl,ru⟩:=ez rv;obtain ⟨t2,rfl⟩:=ru;exact PySem.SC.index ho ⟨.int (i:Nat),H,I.tok _,⟨_,rfl⟩,q⟩
end
open PySem PySem.Spec PyProof.Rows
theorem Inv.turnedL {X:Cx} {pins:List (Addr × Obj)} {σ:St} {H:Hp} {s:Shared} {h':Heap} {t':Nat} {fp:List Addr} (I:Inv X pins σ H s) (k:∀ b o,b∉fp→s.heap.get? b=some o→h'.get? b=some o) (hf:∀ b∈fp,eh X pins H b):Inv X pins σ H { s with heap:=h',toks:=t' }:=by
  have nit:∀ b u,H b=some u→b∉fp:=fun b u e z=>by rw [(hf b z).1] at e;cases e
  refine I.step (g':=s.gens) (d':=s.drawn) (ch:=fp) (fun b hb=>⟨(hf b hb).2.2.2.1,(hf b hb).2.1,(hf b hb).2.2.2.2.1,(hf b hb).2.2.2.2.2⟩) (fun b o _ _ hc e _=>k b o hc e) (fun b o _ _ hc e _=>⟨o.slots,k b o hc e⟩) (fun _ _ _ _ n=>n)
    (fun b o hc e=>⟨o,k b o hc e⟩) (fun _ _ e=>e) (fun _ _ _ e=>e) (fun b ps e=>⟨#[],by rw [e];simp⟩) (fun m hm=>?_) (fun b u e=>?_) I.bare
  · obtain ⟨o,es,ep,ho,r⟩:=hm;exact ⟨o,es,ep,k _ o (fun z=>(hf _ z).2.1 rfl) ho,r⟩
  · refine (I.hok b u e).stay (fun c v hc q=>k c v ?_ q) (fun _ q=>q) fun _ _ q=>q;rcases hc with z|z
    · rw [z];exact nit b u e
    · exact nit c _ z
def sX (K:aaa) (a:Addr):It :=
  ⟨fun i H=>∃ xs x,SqL K H a xs∧xs[i]?=some x,fun i H x H'=>∃ p y,H p=none∧x=.ref p∧H'=upd H p (.tup [.int i,y])∧∀ xs,SqL K H a xs→xs[i]?=some y,fun i H=>∃ xs,SqL K H a xs∧xs.length≤i⟩
theorem om {P:Program} {w:World} {K:aaa} {elts:List Expr} {k:Nat} {pos:Pos} (a e it:Addr) (hei:e≠it):Turn P w K (.Tuple elts k pos) (sX K a) [e,it] e (fun i h=>(∃ old,IsEnum h e it i old)∧h.IsListIter it a i) where
  mem:=by simp
  obj:=fun i h st b hb=>by
    obtain ⟨⟨old,he⟩,o,e1,c,d⟩:=st;rcases aaC.mp hb with z|z
    · subst z;exact ⟨_,he,fun v z=>by cases z⟩
    · have z:b=it:=by simpa using z
      subst z;exact ⟨o,e1,fun v z=>by rw [d] at z;cases z⟩
  keep:=fun i h h' st kp=>⟨let ⟨old,he⟩:=st.1;⟨old,kp e (by simp) _ he⟩,st.2.at fun o x=>kp it (by simp) o x⟩
  item:=by
    intro X hP hw hK hc i pins s σ H E I hf st hg;subst hP hw hK;obtain ⟨xs,x,hq,hx⟩:=hg;obtain ⟨its,rv,p,hz⟩:=I.list hq;obtain ⟨u,hu,ru⟩:=rv.get hx;obtain ⟨⟨old,he⟩,hit⟩:=st;have helt:e < s.heap.objs.size:=aaq he;have hilt:it < s.heap.objs.size:=by obtain ⟨_,x,_⟩:=hit;exact aaq x
    refine wpAny_pyNext_enum_item he hit p.isList (x:=u) (by simpa using hu) hei fun h' ho hit' hT hsz hk=>?_;refine ⟨_,rfl,wpAny_letOwnedTupleGo_enum ho fun h'' he' hs'=>?_⟩;have hs2:abP e h' h'':=hs';have keep:∀ b o,b∉[e,it]→s.heap.get? b=some o→h''.get? b=some o:=fun b o hb q=>by
      have b1:b≠e:=fun z=>hb (by simp [z]);have b2:b≠it:=fun z=>hb (by simp [z]);exact (hs2.2 b b1).trans (hk b o b1 b2 q)
    have I1:Inv X pins σ H { s with heap:=h'',toks:=s.toks+1 }:=I.turnedL keep hf;have gT:h''.get? s.heap.objs.size=some { cls:=.type "tuple",data:=.seq #[.int i s.toks,u] }:=(hs2.2 _ (abj helt)).trans hT;have fresh:H s.heap.objs.size=none:=I.hok.fresh (aac _);have I2:=I1.adopt (a:=s.heap.objs.size) (o:=.tup [.int i,x]) fresh I.sz (abj I.lt) (fun y c e1=>by
        obtain ⟨v,q⟩:=I.cell y c e1;exact aaA q.lt) (fun q hq=>aaA (aaq (I.pin q hq).1)) ⟨by show 2≤sizeLine;decide,[.int i s.toks,u],.cons ⟨_,rfl⟩ (.cons ru .nil),⟨_,gT,rfl,_,rfl⟩⟩
    refine ⟨.ref s.heap.objs.size,_,I2,rfl,⟨_,x,fresh,rfl,rfl,fun ys hy=>by rw [I.list_inj hy hq];exact hx⟩,⟨⟨u,by simpa using he'⟩,hit'.at fun o y=>(hs2.2 it hei.symm).trans y⟩,fun b hb=>?_⟩;rw [aF]
    · exact (hf b hb).1
    · rcases aaC.mp hb with z|z
      · rw [z];exact aaA helt
      · have z:b=it:=by simpa using z
        rw [z];exact aaA hilt
  done:=by
    intro X hP hw hK hc i pins s σ H E I hf st hg;subst hP hw hK;obtain ⟨xs,hq,hx⟩:=hg;obtain ⟨its,rv,p,hz⟩:=I.list hq;obtain ⟨⟨old,he⟩,hit⟩:=st;have hl:=rv.length;refine wpAny_pyNext_enum_end (I.ok.hd hc) he hit p.isList (by simp;lia) fun h' eb=>⟨rfl,I.turnedL (t':=s.toks) (fp:=[e,it]) (fun b o hb q=>eb b o (fun z=>hb (by simp [z])) q) hf⟩
  self:=fun _ _ _ _ _ st h=>by
    obtain ⟨⟨old,he⟩,_⟩:=st;exact wpAny_pyIter_enum he h
def t8 (K:aaa) (ta:TA):TI:=fun σ H R=>ta σ H fun vs H1=>∃ a,vs=[.ref a]∧(∃ xs,SqL K H1 a xs)∧R (sX K a) H1
theorem qO {X:Cx} {elts:List Expr} {k:Nat} {tpos:Pos} {a:Expr} {ta:TA} {p pos:Pos} (hg:Gl X "enumerate") (hm:X.mg "enumerate" = none) (ha:PA X [a] ta) (hs:starEach [a] X.env=[(false,eval a X.env)]:=by rfl):PI X (.Tuple elts k tpos) (.Call (.Name "enumerate" p) [a] [] pos) (t8 X.K ta):=by
  intro pins s σ H R I h;refine Call_ (hW I hg hm boot_enumerate (abl (thn (ha pos pins s σ H _ I h) fun us s1 ⟨vs,H1,I1,r1,q1⟩=>?_) hs rfl));obtain ⟨l,e,⟨xs,hq⟩,q⟩:=q1;subst e;cases r1 with
  | cons r rr =>
    cases rr;cases r;obtain ⟨its,rv,pl,hz⟩:=I1.list hq;refine call_enumerate_list pl.isList fun h' he hit hsz hk=>?_;refine wpAny_pyIter_enum (s:={ s1 with heap:=h' }) he ?_;have I2:Inv X pins σ H1 { s1 with heap:=h' }:=I1.kept (t':=s1.toks) hk;refine ⟨s1.heap.objs.size+1,[s1.heap.objs.size+1,s1.heap.objs.size],_,_,H1,rfl,I2,om l _ _ (Nat.succ_ne_self _),⟨⟨_,he⟩,hit⟩,fun b hb=>?_,q⟩;have hb2:s1.heap.objs.size≤b:=by
      rcases aaC.mp hb with z|z
      · rw [z];exact Nat.le_succ _
      · have z:b=s1.heap.objs.size:=by simpa using z
        rw [z];exact aac _
    exact I1.fpOk hb2 (I1.hok.fresh hb2)
open PySem PySem.Spec PyProof.Rows
section
variable {prog:Program} {w:World} {κ:Type} [DecidableEq κ] {knd:HeapKind prog w κ} {A:Around} {E:Value→Shared→Prop} {s:Shared}
def bu (xs more:List (κ × Addr × Value)):List (κ × Addr × Value):=more.foldl (fun acc x=>storedH acc x.1 x.2.1 x.2.2) xs
theorem kG (xs more:List (κ × Addr × Value)) (i:Nat) (x:κ × Addr × Value) (h:more[i]?=some x):bu xs (more.take (i+1))=storedH (bu xs (more.take i)) x.1 x.2.1 x.2.2:=by
  unfold bu;rw [aaz,h,List.foldl_append];rfl
theorem la (xs:List (κ × Addr × Value)) (k:κ) (a:Addr) (v:Value):(storedH xs k a v).length≤xs.length+1:=by
  unfold storedH;split <;> simp
end
open PySem PySem.Spec PyProof.Rows
def cu (kvs more:List (List Key × V)):List (List Key × V):=more.foldl (fun acc kv=>cX acc kv.1 kv.2) kvs
theorem i_:∀ (more kvs:List (List Key × V)),(cu kvs more).length≤kvs.length+more.length
  | [],kvs=>by show kvs.length≤kvs.length+0;lia
  | p :: r,kvs=>by
    have h1:=i_ r (cX kvs p.1 p.2);have h2:=bB kvs p.1 p.2;show (cu (cX kvs p.1 p.2) r).length≤_;rw [aaL];lia
theorem KT.merge {H:Hp} {more:List (List Key × V)} {ys:List (List Key × Addr × Value)} (r:KT H more ys):∀ {kvs:List (List Key × V)} {xs:List (List Key × Addr × Value)},KT H kvs xs→KT H (cu kvs more) (bu xs ys):=by
  unfold KT at r
  induction r with
  | nil=>intro kvs xs q;exact q
  | @cons p q ps qs h t ih =>
    intro kvs xs r0;obtain ⟨h1,h2,h3⟩:=h;have z:=KT.put r0 p.1 h2 h3;have z2:=ih z;show KT H (cu (cX kvs p.1 p.2) ps) (bu (storedH xs q.1 q.2.1 q.2.2) qs);rw [← h1];exact z2
section
variable {prog:Program} {w:World} {κ:Type} [DecidableEq κ] {knd:HeapKind prog w κ} {A:Around} {E:Value→Shared→Prop} {s:Shared}
inductive HitsH (A:Around) (s:Shared) (kb:List (κ × Addr × Value)):List (κ × Addr × Value)→Bool→Prop
  | nil:HitsH A s kb [] true
  | miss {k:κ} {a:Addr} {v:Value} {r:List (κ × Addr × Value)}:atKey kb k=none→HitsH A s kb ((k,a,v) :: r) false
  | hit {k:κ} {a c:Addr} {v y:Value} {r:List (κ × Addr × Value)} {e b:Bool}:atKey kb k=some (c,y)→SeqAt.EqAt A s v y e→HitsH A s kb r b→HitsH A s kb ((k,a,v) :: r) (e && b)
end
open PySem PySem.Spec PyProof.Rows
inductive HitsV (K:aaa) (H:Hp) (n:Nat) (kb:List (List Key × V)):List (List Key × V)→Bool→Prop
  | nil:HitsV K H n kb [] true
  | miss {k:List Key} {v:V} {r:List (List Key × V)}:bD kb k=none→HitsV K H n kb ((k,v) :: r) false
  | hit {k:List Key} {v y:V} {r:List (List Key × V)} {e b:Bool}:bD kb k=some y→EqR K H n v y e→HitsV K H n kb r b→HitsV K H n kb ((k,v) :: r) (e && b)
open PySem PySem.Spec PyProof.Rows
section
variable {prog:Program} {w:World} {κ:Type} [DecidableEq κ] {knd:HeapKind prog w κ} {A:Around} {E:Value→Shared→Prop}
variable {s:Shared}
end
open PySem PySem.Spec PyProof.Rows
section
variable {prog:Program} {w:World} {A:Around} {E:Value→Shared→Prop} {s:Shared}
end
end L2
namespace L2
open PySem PySem.Spec PyProof.Rows PySem.W
section
variable {prog:Program} {w:World} {A:Around} {E:Value→Shared→Prop} {s:Shared}
end
end L2
namespace L2
theorem u1 {a:Nat} (h:a+64 < PySem.cLine):a+1 < PySem.cLine:=by lia
open PySem PySem.Spec PyProof.Rows
section
variable {prog:Program} {w:World} {A:Around} {E:Value→Shared→Prop} {s:Shared}
theorem jW {it t:Addr} {items:Array Value} (hne:t≠it):∀ (n i:Nat) (s:Shared) (Q:List Value→Shared→Prop),s.heap.IsListIter it t i→s.heap.IsList t items→i+n≤items.size →
    (∀ h',h'.IsListIter it t (i+n)→abP it s.heap h'→Q ((items.toList.drop i).take n) { s with heap:=h' })→wpAny (model prog w) A (draw (.ref it) n) Q E s
  | 0,i,s,Q,hit,_,_,hQ=>by
    show wpAny _ _ (pure []) Q E s;exact wpAny_pure (by simpa using hQ s.heap hit (Heap.SameBut.refl ..))
  | n+1,i,s,Q,hit,ht,hle,hQ=>by
    have hlt:i < items.size:=by lia
    show wpAny _ _ (pyNext (.ref it) >>= _) Q E s;refine wpAny_bind (wpAny_pyNext_list_item hit ht (x:=items[i]) (by simp [hlt]) fun h₁ hit₁ hs₁=>?_);refine wpAny_bind (wpAny_holding (jW hne n (i+1) _ _ hit₁ (ht.at fun o e=>(hs₁.2 t hne).trans e) (by lia) fun h₂ hit₂ hs₂=>wpAny_pure ?_));have hd:items.toList.drop i=items[i] :: items.toList.drop (i+1):=by simp [abL,hlt]
    have:=hQ h₂ (by rw [show i+(n+1)=i+1+n by lia];exact hit₂) (hs₁.trans hs₂);rw [hd,List.take_succ_cons] at this;exact this
theorem gB {t:Addr} {items:Array Value} {Q:List Value→Shared→Prop} (hh:A.handled=none) (ht:s.heap.IsList t items)
    (hQ:∀ h',Heap.ExtBut s.heap.objs.size s.heap h'→Q items.toList { s with heap:=h' }):wpAny (model prog w) A (unpackItems (.ref t) items.size none) Q E s:=by
  have hlt:t≠s.heap.objs.size:=by obtain ⟨o,ho,_⟩:=ht;exact aaA (aaq ho)
  unfold unpackItems;refine wpAny_bind ?_
  · unfold notIterableAtAll;refine wpAny_bind (wpAny_specialOf ht.typeIs F.slot_list_iter.lookup ?_);refine wpAny_pure ?_;simp only [Bool.false_eq_true,if_false];refine wpAny_bind (wpAny_holding (wpAny_pyIter_list ht ?_));refine wpAny_bind (wpAny_holding (jW hlt items.size 0 _ _ ⟨_,aaG _ rfl,rfl,rfl⟩ (ht.push _) (by lia) fun h₁ hit₁ hs₁=>?_));have hall:List.take items.size (List.drop 0 items.toList)=items.toList:=by
      rw [List.drop_zero];exact aaR (by simp)
    rw [hall];rw [if_neg (by simp)];have ht₁:h₁.IsList t items:=(ht.push _).at fun o e=>(hs₁.2 t hlt).trans e;refine wpAny_bind (wpAny_holding (wpAny_pyNext_list_end hh hit₁ ht₁ (by simp) fun h₂ he₂=>?_));simp only [Option.isSome_none,Bool.false_eq_true,if_false];refine wpAny_pure (hQ h₂ fun b o hb e=>he₂ b o hb (hs₁.extBut b o hb (aah _ e)))
end
def uO (K:aaa) (n:Nat) (t:TGs):TG:=fun v σ H Q=>∃ a xs,v=.ref a∧SqL K H a xs∧xs.length=n∧t xs σ H Q
theorem pA {X:Cx} {pos:Pos} {es:List Expr} {k:Nat} {t:TGs} {n:Nat} (hc:X.calm=true) (h:PGs X es t)
    (hn:(assignEach es X.env).length=n:=by rfl) (hst:(assignEach es X.env).findIdx? (·.1)=none:=by rfl):PG X (.Tuple es k pos) (uO X.K n t):=by
  intro pins s σ H v u Q I r hw;obtain ⟨a,xs,e1,hq,hl,hw⟩:=hw;subst e1;cases r;obtain ⟨its,rv,pl,hz⟩:=I.list hq;rw [PyProof.Rows.assign_Tuple];refine wpAny_bind (wpAny_standAt ?_);unfold unpack;have e:(assignEach es X.env).length=its.toArray.size:=by rw [hn,← hl,aad,rv.length]
  rw [e,hst];refine wpAny_bind (wpAny_holding (gB (I.ok.hd hc) pl.isList fun h' hx=>?_));have I1:Inv X pins σ H { s with heap:=h' }:=I.kept (t':=s.toks) fun b o e=>hx b o (aaA (aaq e)) e;exact h pins _ σ H xs _ Q I1 (by simpa using rv) hw
open PySem PySem.Spec PyProof.Rows
def KD (P:Program) (w:World) (K:aaa) (a:Addr) (kvs:List (Key × V)):Prop :=
  ∃ o es ep vs,K.lookup a=some o∧o.ExactDict∧o.data=.dict es ep∧KeysOf (aD P w) es∧Pairs (aD P w) es.toList vs∧(vs.map (·.1)).Nodup∧KV kvs vs
theorem KD.in {X:Cx} {pins:List (Addr × Obj)} {σ:St} {H:Hp} {s:Shared} {a:Addr} {kvs:List (Key × V)} (I:Inv X pins σ H s) (h:KD X.prog X.w X.K a kvs):∃ vs,KV kvs vs∧s.heap.DictOf (aD X.prog X.w) a vs:=by
  obtain ⟨o,es,ep,vs,hk,hx,hd,h1,h2,h3,h4⟩:=h;exact ⟨vs,h4,o,es,ep,I.kIn a o hk,hx,hd,h1,h2,h3⟩
def rS (kvs:List (Key × V)) (ty:TE):TE:=fun σ H Q=>ty σ H fun y H2=>∃ k v,y=kV k∧bD kvs k=some v∧Q v H2
theorem lF {X:Cx} {P:Program} {w:World} {K:aaa} {a:Addr} {kvs:List (Key × V)} {o i:Expr} {pos:Pos} {td ty:TE} (hd:KD P w K a kvs) (e1:X.prog=P) (e2:X.w=w) (e3:X.K=K) (ho:PE X o td) (et:td=fun σ H Q=>Q (.ref a) H) (hi:PE X i ty) (hs:sW i):PE X (.Subscript o i pos) (rS kvs ty):=by
  subst e1 e2 e3 et;intro pins s σ H Q I h;refine nv acj.lookup hs (thn (ho pins s σ H (fun x H1=>x=.ref a∧H1=H) I ⟨rfl,rfl⟩) fun u s1 ⟨x,H1,I1,rx,ex,eH⟩=>?_);subst ex eH;refine thn (hi pins s1 σ H1 _ I1 h) fun iv s2 ⟨y,H2,I2,ry,k,v,ey,l,q2⟩=>?_;obtain rfl:u=Value.ref a:=rx;subst ey;obtain ⟨vs,rel,dd⟩:=KD.in I2 hd;obtain ⟨w',hw,rw'⟩:=RelO.some_of (v:=v) (o:=valueAt vs k) (by rw [← l];exact rel.val k);exact ⟨dd.typeIs,wpAny_getItem_of (nU ry) dd.mapOf hw ⟨v,H2,I2.tok _,rw',q2⟩⟩
theorem KD.two {P:Program} {w:World} {K:aaa} {a:Addr} {x y x' y':Str} {t1 t2 t3 t4:Tok} {ep:Nat} (h:K.lookup a=some ⟨.type "dict",none,.dict #[⟨abt w.params x,.str x t1,.str x' t2⟩,⟨abt w.params y,.str y t3,.str y' t4⟩] ep,#[]⟩) (ne:x≠y) (hx:x.cps.isEmpty=false) (hy:y.cps.isEmpty=false) :
    KD P w K a [(.inr x,.str x'),(.inr y,.str y')]:=by
  refine ⟨_,_,_,[(.inr x,.str x' t2),(.inr y,.str y' t4)],h,⟨rfl,rfl,rfl⟩,rfl,?_,?_,?_,?_⟩
  · intro e he;simp at he;rcases he with rfl|rfl
    · exact ⟨.inr x,by simp [aD,eZ,ab0],by simp [aD,sK,hashStr,abt,hx]⟩
    · exact ⟨.inr y,by simp [aD,eZ,ab0],by simp [aD,sK,hashStr,abt,hy]⟩
  · exact .cons (by simp [aD,eZ,ab0]) rfl (.cons (by simp [aD,eZ,ab0]) rfl .nil)
  · simp [ne]
  · exact .cons ⟨rfl,⟨_,rfl⟩⟩ (.cons ⟨rfl,⟨_,rfl⟩⟩ .nil)
open PySem PySem.Spec PyProof.Rows
def Its (z:Str):It :=
  ⟨fun i _=>i < z.cps.size,fun i H x H'=>H'=H∧∃ c,z.cps[i]?=some c∧x=.str ⟨#[c]⟩,fun i _=>z.cps.size≤i⟩
theorem oR {P:Program} {w:World} {K:aaa} {tg:Expr} (it:Addr) (z:Str) (t:Tok):Turn P w K tg (Its z) [it] it (fun i h=>h.IsStrIter it "str_ascii_iterator" z t i) where
  mem:=by simp
  obj:=fun i h st b hb=>by
    have e:b=it:=by simpa using hb
    subst e;obtain ⟨o,e,c,d⟩:=st;exact ⟨o,e,fun v z=>by rw [d] at z;cases z⟩
  keep:=fun i h h' st k=>by
    obtain ⟨o,e,r⟩:=st;exact ⟨o,k it (by simp) o e,r⟩
  item:=by
    intro X hP hw hK hc i pins s σ H E I hf st hg;subst hP hw hK;have hg:i < z.cps.size:=hg;obtain ⟨f0,f1,f2,f3,f4,f5⟩:=hf it (by simp);have hx:z.cps[i]?=some z.cps[i]:=by simp [hg]
    refine wpAny_pyNext_ascii_item st (c:=z.cps[i]) hx fun h' st' sb=>?_;have I1:Inv X pins σ H { s with heap:=h',toks:=s.toks+1 }:=I.turned (t':=s.toks+1) (fun b o hb e=>(sb.2 b hb).trans e) f0 f1 f3 f4 f5;obtain ⟨o,e,c,d⟩:=id st';exact ⟨_,rfl,nX (s:={ s with heap:=h',toks:=s.toks+1 }) e c d (by decide) ⟨.str ⟨#[z.cps[i]]⟩,H,I1,⟨_,rfl⟩,⟨rfl,_,hx,rfl⟩,st',fun b hb=>(hf b hb).1⟩⟩
  done:=by
    intro X hP hw hK hc i pins s σ H E I hf st hg;subst hP hw hK;have hg:z.cps.size≤i:=hg;obtain ⟨f0,f1,f2,f3,f4,f5⟩:=hf it (by simp);exact wpAny_pyNext_ascii_end (I.ok.hd hc) st (by simp [hg]) fun h' eb=>⟨rfl,I.turned (t':=s.toks) (fun b o hb e=>eb b o hb e) f0 f1 f3 f4 f5⟩
  self:=fun _ _ _ _ _ st h=>wpAny_pyIter_striter_ascii st h
def uL (tl:TE):TI:=fun σ H R=>tl σ H fun x H1=>∃ z,x=.str z∧z.cps.all (· < 128)=true∧R (Its z) H1
theorem si {X:Cx} {tg l:Expr} {tl:TE} (hl:PE X l tl):PI X tg l (uL tl):=by
  intro pins s σ H R I h;refine thn (hl pins s σ H _ I h) fun v s1 ⟨x,H1,I1,r1,q1⟩=>?_;obtain ⟨z,e,ha,q⟩:=q1;subst e;obtain ⟨t,rfl⟩:=r1;refine wpAny_pyIter_ascii ha ?_;refine ⟨s1.heap.objs.size,[s1.heap.objs.size],_,_,H1,rfl,I1.kept (t':=s1.toks) fun b o e=>aah _ e,oR _ z t,⟨_,aaG _ rfl,rfl,rfl⟩,fun b hb=>?_,q⟩;have e:b=s1.heap.objs.size:=by simpa using hb
  subst e;exact I1.fpOk (aac _) (I1.hok.fresh (aac _))
theorem sE {z:Str} {cap:List (Option Nat)} {g:TG} {tt:TT} {te:TE} {σ:St} {H:Hp} {Q:VK} (Pv:Nat→List V→Hp→Prop) (h0:Pv 0 [] H) (hl:∀ i ys H,i≤z.cps.size→Pv i ys H→ys.length < sizeLine)
    (hs:∀ i c ys H,z.cps[i]?=some c→Pv i ys H→(∀ {P:Prop},P→Nxt z.cps.size i P)→g (.str ⟨#[c]⟩) (bL cap σ) H fun σ2 H2=>tt σ2 H2 fun b H3=>if b=true then te σ2 H3 fun v H4=>Nxt z.cps.size i (Pv (i+1) (ys++[v]) H4) else Nxt z.cps.size i (Pv (i+1) ys H3)) (hd:∀ ys H,Pv z.cps.size ys H→∀ p,H p=none→Q (.ref p) (upd H p (.lst ys))) :
    oP cap g tt te σ Q (Its z) H:=by
  refine ⟨fun i m ys H=>m=z.cps.size - i∧i≤z.cps.size∧Pv i ys H,⟨z.cps.size,by simp,aaX _,h0⟩,?_⟩;rintro i m ys H ⟨rfl,hi,p⟩;have q:=hl i ys H hi p;by_cases hlt:i < z.cps.size
  · refine .inr ⟨hlt,q,fun x H' y=>?_⟩;obtain ⟨e,c,y,ex⟩:=y;subst e ex;exact hs i c ys _ y p fun h=>⟨_,by lia,rfl,hlt,h⟩
  · have e:i=z.cps.size:=by lia
    subst e;exact .inl ⟨aac _,hd ys H p⟩
def uy (t u:TS):TS:=fun D σ H=>∃ J:St→Hp→Prop,t { D with nx:=J } σ H∧∀ σ' H',J σ' H'→u D σ' H'
theorem ko {X:Cx} {st:Stmt} {cZ:List Stmt} {t u:TS} (h1:PS X st t) (h2:PSs X cZ u):PSs X (st :: cZ) (uy t u):=by
  intro pins s σ H D I h;obtain ⟨J,h,hJ⟩:=h;refine wpAny_execs_cons (thn (h1 pins s σ H { D with nx:=J } I h) fun f s1 q=>?_);cases f with
  | next =>
    obtain ⟨σ',H',I',q⟩:=q;exact h2 pins s1 σ' H' D I' (hJ σ' H' q)
  | ret v=>exact q
  | brk=>exact q
  | cont=>exact q
end L2
namespace PySem
open Sem (wp)
namespace F
end F
section
variable {prog:Program} {w:World} {A:Around} {E:Value→Shared→Prop} {h:Heap} {g:Array GenState} {d:Drawn} {t:Nat} {os:OsState} {a:Addr} {vs:Array Value}
end
end PySem
namespace L2
open PySem PySem.Spec PyProof.Rows
section
variable {prog:Program} {w:World} {A:Around} {E:Value→Shared→Prop} {s:Shared}
theorem e_:entryFor table "dict.update.loop" = some Builtin.«dict.update.loop»:=entryFor_of_tree (by kernel_rfl)
theorem eU:plainId "dict.update.loop" = true:=by decide +kernel
end
theorem Paired.app {α β:Type} {R:α→β→Prop} {a c:List α} {b d:List β} (h:Paired R a b) (k:Paired R c d):Paired R (a++c) (b++d):=by
  induction h with
  | nil=>exact k
  | cons x _ ih=>exact .cons x ih
open PySem PySem.Spec PyProof.Rows
theorem gz {X:Cx} (hc:X.calm=true):di X (.builtin "all") (fun xs H Q=>∃ (p:Addr) (bs:List Bool),xs=[.ref p]∧SqL X.K H p (bs.map V.bl)∧Q (.bl (bs.all id)) H):=by
  intro pins s σ H xs us Q I r h;obtain ⟨p,bs,rfl,hq,q⟩:=h;obtain ⟨u,rfl,rx⟩:=ez r;cases rx;obtain ⟨its,r',pl,hz⟩:=I.list hq;have hlen:=r'.length;rw [aab] at hlen;have hps:p < s.heap.objs.size:=by obtain ⟨o,n,ho,_⟩:=pl;exact aaq ho
  refine call_all_walk (wpAny_pyIter_list pl.isList ?_);refine ⟨s.heap.objs.size,_,_,_,_,_,fun i=>bs.getD i true,rfl,Walks.list (A:=X.A.in1) (I.ok.hd hc) s.heap.objs.size p (aaA hps) its.toArray,⟨⟨_,aaG _ rfl,rfl,rfl⟩,pl.isList.at fun o x=>aah _ x⟩,?_,?_⟩
  · intro i v s' Q' E' hP hQ';have hv:its.toArray[i]?=some v:=hP;have hv2:its[i]?=some v:=by simpa using hv
    have hi:i < bs.length:=by
      have:=(aaB.mp hv2).1;lia
    have hb:(bs.map V.bl)[i]?=some (.bl bs[i]):=by rw [aam,aaf hi];rfl
    obtain ⟨u,hu,ru⟩:=r'.get hb;rw [hv2] at hu;cases hu;cases ru;have e:bs.getD i true=bs[i]:=by rw [aao,aaf hi];rfl
    have hQ2:Q' (bs.getD i true) s':=hQ';rw [e] at hQ2;exact wpAny_pure hQ2
  · intro h' tk k;have I2:Inv X pins σ H { s with heap:=h',toks:=tk }:=by
      refine I.turnedL (fp:=[s.heap.objs.size]) (t':=tk) (fun b o hb x=>k b o (by simpa using hb) (aah _ x)) fun b hb=>?_;have e:b=s.heap.objs.size:=by simpa using hb
      subst e;exact I.fpOk (aac _) (I.hok.fresh (aac _))
    have e:(aaF its.toArray.size).all (fun i=>bs.getD i true)=bs.all id:=by
      have e1:its.toArray.size=bs.length:=by simp;lia
      rw [e1];apply Bool.eq_iff_iff.mpr;rw [aa5,aa5];constructor
      · intro hh b hb;obtain ⟨i,hi,e⟩:=List.getElem_of_mem hb;have:=hh i (aaK.mpr hi);rw [aao,aaf hi] at this;rw [← e];exact this
      · intro hh i hi;have hi:=aaK.mp hi;rw [aao,aaf hi];exact hh _ (acd hi)
    rw [e];exact ⟨.bl (bs.all id),H,I2,rfl,q⟩
open PySem PySem.Spec PyProof.Rows
open PySem PySem.Spec PyProof.Rows
theorem kO {elt tg iter tg2 iter2:Expr} {ifs ifs2:List Expr} {G:List Comprehension} {k:Nat} (hk:G[k]?=some ⟨tg,iter,ifs,0⟩) (hk2:G[k+1]?=some ⟨tg2,iter2,ifs2,0⟩) {scope:Scope} {pos:Pos} {it acc:Value} {env:Env} :
    compTurn (.ListComp elt G scope pos) k it acc env=(do
      standAt iter.pos
      match ← pyNext it with
      | none=>pure (.done .next)
      | some v =>
        letOwnedTupleGo tg it v
        assign tg env v
        let mut ok:=true
        for c in ifs do
          if ok then ok ← isTrue c env (eval c env)
        if ok then do
          let x ← eval iter2 env
          standAt iter2.pos
          let x ← foldedSetIterable iter2 env x
          let i ← holding [x] (pyIter x)
          let _ ← runOwn (.compStart (.ListComp elt G scope pos) (k+1) i acc env) env
          again (.compLoop (.ListComp elt G scope pos) k it acc env)
        else again (.compLoop (.ListComp elt G scope pos) k it acc env)):=by
  unfold compTurn;simp only [hk,hk2];rfl
theorem mZ {prog:Program} {w:World} {A:Around} {R:Result→Shared→Prop} {s:Shared} {elt tg iter tg2 iter2:Expr} {ifs ifs2:List Expr} {G:List Comprehension} {k:Nat} (hk:G[k]?=some ⟨tg,iter,ifs,0⟩) (hk2:G[k+1]?=some ⟨tg2,iter2,ifs2,0⟩) {scope:Scope} {pos:Pos} {it acc:Value} {env:Env} (J:Nat→Shared→Prop) (hs2:∀ x,foldedSetIterable iter2 env x=pure x)
    (turn:∀ n s,J n s→wpAny (model prog w) A (pyNext it) (fun r s₁=>match r with
      | none=>R (.ok .next) s₁
      | some v=>wpAny (model prog w) A (letOwnedTupleGo tg it v) (fun _ s₁'=>wpAny (model prog w) A (assign tg env v) (fun _ s₂ =>
          wpAny (model prog w) A (forIn ifs true fun c r=>if r=true then do let ok ← isTrue c env (eval c env);pure (ForInStep.yield ok) else pure (ForInStep.yield r)) (fun ok s₃ =>
            if ok=true then wpAny (model prog w) A (eval iter2 env) (fun x s₄=>wpAny (model prog w) A (pyIter x) (fun it2 s₅ =>
              codeAny (model prog w) A (.compStart (.ListComp elt G scope pos) (k+1) it2 acc env) (fun r s₆=>match r with|.ok _=>∃ m,m < n∧J m s₆|.error _=>False) s₅) (fun _ _=>False) s₄) (fun _ _=>False) s₃
            else ∃ m,m < n∧J m s₃) (fun _ _=>False) s₂) (fun _ _=>False) s₁') (fun _ _=>False) s₁) (fun _ _=>False) s)
    (n:Nat) (h:J n s) :
    codeAny (model prog w) A (.compLoop (.ListComp elt G scope pos) k it acc env) R s:=by
  refine codeAny_loop rfl J (fun n s hI=>?_) n h;show wpAny _ A ((compTurn (.ListComp elt G scope pos) k it acc env).onRaise (fun x=>do noteFrame x env;theTreesLotGoes x)) _ _ s;refine wpAny_noted ?_;rw [kO hk hk2];refine wpAny_bind (wpAny_standAt (wpAny_bind (wpAny_mono (turn n s hI) (fun r s₁ h₁=>?_) fun _ _ h'=>h'.elim)));cases r with
  | none=>exact wpAny_pure h₁
  | some v =>
    refine wpAny_bind (wpAny_mono h₁ (fun _ s₁' h₁'=>?_) fun _ _ h'=>h'.elim);refine wpAny_bind (wpAny_mono h₁' (fun _ s₂ h₂=>wpAny_bind (wpAny_mono h₂ (fun ok s₃ h₃=>?_) fun _ _ h'=>h'.elim)) fun _ _ h'=>h'.elim);cases ok with
    | false=>exact wpAny_pure ⟨rfl,h₃⟩
    | true =>
      refine wpAny_bind (wpAny_mono h₃ (fun x s₄ h₄=>?_) fun _ _ h'=>h'.elim);refine wpAny_bind (wpAny_standAt (wpAny_bind (wpAny_of_eq (hs2 x) (wpAny_bind (wpAny_holding (wpAny_mono h₄ (fun it2 s₅ h₅=>?_) fun _ _ h'=>h'.elim))))));refine wpAny_bind (wpAny_runOwn (codeAny_mono h₅ fun r s₆ h₆=>?_));cases r with
      | ok f=>exact wpAny_pure ⟨rfl,h₆⟩
      | error e=>exact h₆.elim
theorem jh {prog:Program} {w:World} {A:Around} {R:Result→Shared→Prop} {s:Shared} {elt tg2 iter2:Expr} {ifs2:List Expr} {G:List Comprehension} {k:Nat} (hk:G[k]?=some ⟨tg2,iter2,ifs2,0⟩) {scope:Scope} {pos:Pos} {it acc:Value} {env:Env}
    (h0:codeAny (model prog w) A (.compLoop (.ListComp elt G scope pos) k it acc env) R s)
    (h:wpAny (model prog w) A (pyIter it) (fun it' s'=>codeAny (model prog w) A (.compLoop (.ListComp elt G scope pos) k it' acc env) R s')
      (notedBy (model prog w) A env fun x s'=>R (.error x) s') s) :
    codeAny (model prog w) A (.compStart (.ListComp elt G scope pos) k it acc env) R s:=by
  refine codeAny_of_tree ?_;show wpAny _ _ ((compStart (.ListComp elt G scope pos) k it acc env).onRaise (fun x=>do noteFrame x env;standAt theWindowsPlace)) _ _ s;refine wpAny_notedAt ?_;unfold compStart;rw [show (clausesOf (.ListComp elt G scope pos))[k]?=some ⟨tg2,iter2,ifs2,0⟩ from hk];show wpAny _ _ (ask >>= _) _ _ s;refine wpAny_bind (wpAny_askSetting (wpAny_ite ?_));split
  · first
      | exact wpAny_bind (wpAny_pure (wpAny_pure (And.intro rfl h0)))
      | exact wpAny_pure (And.intro rfl h0)
  · first
      | exact wpAny_bind (wpAny_rule (wpAny_bind (wpAny_standAt (wpAny_bind (wpAny_mono h (fun it' s' h'=>wpAny_pure (And.intro rfl h')) fun _ _ x=>x)))))
      | (refine wpAny_bind (wpAny_rule ?_);show wpAny _ _ (standAt iter2.pos >>= _) _ _ s;exact wpAny_bind (wpAny_standAt (wpAny_bind (wpAny_mono h (fun it' s' h'=>wpAny_pure (And.intro rfl h')) fun _ _ x=>x))))
structure PCl (Y:Cx) (c:Comprehension) (r:TI × TG × TT):Prop where
  as:c.is_async=0
  it:PI Y c.target c.iter r.1
  tg:PG Y c.target r.2.1
  fs:jI Y c.ifs r.2.2
  st:∀ E x,foldedSetIterable c.iter E x=pure x
abbrev qt (g2:TG) (tt2:TT) (te:TE) (ys:List V) (σ2:St) (Fin:List V→St→Hp→Prop) (J2:It) (H4:Hp):Prop:=∃ W2:Nat→Nat→List V→St→Hp→Prop,(∃ m,W2 0 m ys σ2 H4)∧∀ i m ys σ H,W2 i m ys σ H →
  (J2.stop i H∧Fin ys σ H) ∨
  (J2.go i H∧ys.length < sizeLine∧∀ x H',J2.yld i H x H'→g2 x σ H' fun σ3 H5=>tt2 σ3 H5 fun b H6=>if b=true then te σ3 H6 fun v H7=>∃ m',m' < m∧W2 (i+1) m' (ys++[v]) σ3 H7 else ∃ m',m' < m∧W2 (i+1) m' ys σ3 H6)
abbrev LcT:List (TI × TG × TT)→TG→TT→TE→List V→St→(List V→St→Hp→Prop)→It→Hp→Prop
  | [],g,tt,te,ys,σ,Fn,J,H=>qt g tt te ys σ Fn J H
  | r :: rs,g,tt,te,ys,σ2,Fn,J2,H4=>∃ W2:Nat→Nat→List V→St→Hp→Prop,(∃ m,W2 0 m ys σ2 H4)∧∀ i m ys σ H,W2 i m ys σ H →
    (J2.stop i H∧Fn ys σ H) ∨
    (J2.go i H∧∀ x H',J2.yld i H x H'→g x σ H' fun σ3 H5=>tt σ3 H5 fun b H6=>if b=true then r.1 σ3 H6 (LcT rs r.2.1 r.2.2 te ys σ3 fun ys' σ' H7=>∃ m',m' < m∧W2 (i+1) m' ys' σ' H7) else ∃ m',m' < m∧W2 (i+1) m' ys σ3 H6)
def sY (Y:Cx) (D:Addr) (P:List (Addr × Obj)) (Fin:List V→St→Hp→Prop) (s:Shared):Prop:=∃ ys its k σ H,Inv Y (Lp D its k :: P) σ H s∧Vals ys its∧ys.length≤sizeLine∧Fin ys σ H
def rK (Y:Cx) (D:Addr) (elt:Expr) (te:TE) (G:List Comprehension) (scope:Scope) (pos:Pos) (rs:List (TI × TG × TT)) (c:Comprehension) (r:TI × TG × TT) (k:Nat):Prop :=
    ∀ (P:List (Addr × Obj)),(∀ p∈P,p.1≠D)→∀ {σ:St} {H:Hp} {s:Shared} {ys:List V} {its:List Value} {kk:Nat} {Fin:List V→St→Hp→Prop},Inv Y (Lp D its kk :: P) σ H s→Vals ys its→ys.length≤sizeLine →
      r.1 σ H (LcT rs r.2.1 r.2.2 te ys σ Fin) →
      wpAny (model Y.prog Y.w) Y.A (eval c.iter Y.env) (fun x s₄=>wpAny (model Y.prog Y.w) Y.A (pyIter x) (fun it2 s₅ =>
        codeAny (model Y.prog Y.w) Y.A (.compStart (.ListComp elt G scope pos) k it2 (.ref D) Y.env) (fun r s₆=>match r with|.ok _=>sY Y D P Fin s₆|.error _=>False) s₅) (fun _ _=>False) s₄) (fun _ _=>False) s
theorem pT {Y:Cx} {τ:Type} {val:τ→St} {nx:St→τ} (hc:Y.calm=true) (hxe:Y.xe=fun _ _=>False) (hrs:∀ {pn:List (Addr × Obj)} {σ':St} {H':Hp} {s':Shared},Inv Y pn σ' H' s'→Inv Y pn (val (nx σ')) H' s')
    {D:Addr} (hDx:D∈Y.ex∨Y.s₀.heap.objs.size≤D) (hDc:∀ x c,Y.env.cells.lookup x=some c→c≠D) (hDp:∀ p∈Y.pn,p.1≠D)
    {elt tg iter tg2 iter2:Expr} {ifs ifs2:List Expr} {te:TE} {g:TG} {tt:TT} {G:List Comprehension} {scope:Scope} {pos:Pos} {k:Nat} {r2:TI × TG × TT} {rs:List (TI × TG × TT)} (hk:G[k]?=some ⟨tg,iter,ifs,0⟩) (hk2:G[k+1]?=some ⟨tg2,iter2,ifs2,0⟩) (hst:∀ x,foldedSetIterable iter2 Y.env x=pure x) (htg:PG Y tg g) (hfs:jI Y ifs tt)
    {P:List (Addr × Obj)} (hP:∀ p∈P,p.1≠D) (inn:rK Y D elt te G scope pos rs ⟨tg2,iter2,ifs2,0⟩ r2 (k+1)) {it:Addr} {fp:List Addr} {tn:Nat→Heap→Prop} {J:It} (T:Turn Y.prog Y.w Y.K tg J fp it tn) (neD:∀ b∈fp,D≠b) (fpY:∀ {H':Hp} {n:Nat} {its:List Value},(∀ b∈fp,H' b=none)→∀ b∈fp,eh Y (Lp D its n :: P) H' b)
    {R:Result→Shared→Prop} {Fin:List V→τ→Hp→Prop} (hR:∀ ys its k t H s,Inv Y (Lp D its k :: P) (val t) H s→Vals ys its→ys.length≤sizeLine→Fin ys t H→R (.ok .next) s)
    {W:Nat→Nat→List V→τ→Hp→Prop} (turn:∀ i m ys t H,W i m ys t H→(J.stop i H∧Fin ys t H) ∨
      (J.go i H∧∀ x H',J.yld i H x H'→g x (val t) H' fun σ3 H5=>tt σ3 H5 fun b H6=>if b=true then r2.1 σ3 H6 (LcT rs r2.2.1 r2.2.2 te ys σ3 fun ys' σ' H7=>∃ m',m' < m∧W (i+1) m' ys' (nx σ') H7) else ∃ m',m' < m∧W (i+1) m' ys (nx σ3) H6))
    {m0 kk:Nat} {ys:List V} {its:List Value} {t:τ} {H:Hp} {s:Shared} (I:Inv Y (Lp D its kk :: P) (val t) H s) (rv:Vals ys its) (hz:ys.length≤sizeLine) (st:tn 0 s.heap) (fr:∀ b∈fp,H b=none) (w0:W 0 m0 ys t H) :
    codeAny (model Y.prog Y.w) Y.A (.compLoop (.ListComp elt G scope pos) k (.ref it) (.ref D) Y.env) R s:=by
  have xe:∀ e s,Y.xe e s→False:=fun e s z=>by rw [hxe] at z;exact z
  refine mZ hk hk2 (fun n s'=>∃ i ys its k t H',Inv Y (Lp D its k :: P) (val t) H' s'∧Vals ys its∧ys.length≤sizeLine∧tn i s'.heap∧(∀ b∈fp,H' b=none)∧W i n ys t H') hst ?_ m0 ⟨0,ys,its,kk,t,H,I,rv,hz,st,fr,w0⟩;rintro n s3 ⟨i,ys3,its3,k3,t3,H3,I3,rv3,hz3,st3,fr3,w3⟩;rcases turn i n ys3 t3 H3 w3 with ⟨stop,qn⟩|⟨go,step⟩
  · refine wpAny_mono (T.done Y rfl rfl rfl hc i _ s3 _ H3 (fun _ _=>False) I3 (fpY fr3) st3 stop) (fun r s4 ⟨hr,I4⟩=>?_) fun _ _ z=>z;subst hr;exact hR ys3 its3 k3 t3 H3 s4 I4 rv3 hz3 qn
  · refine wpAny_mono (T.item Y rfl rfl rfl hc i _ s3 _ H3 (fun _ _=>False) I3 (fpY fr3) st3 go) (fun r s4 ⟨u,hr,h4⟩=>?_) fun _ _ z=>z;subst hr;refine wpAny_mono h4 (fun _ s5 ⟨x,H5,I5,r5,y5,st5,fr5⟩=>?_) fun _ _ z=>z;have I5':=I5.pinned (fpY fr5) (T.obj _ _ st5);refine wpAny_mono (htg _ s5 _ H5 x u _ I5' r5 (step x H5 y5)) (fun _ s6 ⟨σ6,H6,I6,q6⟩=>?_) fun e s z=>(xe e s z).elim;refine wpAny_mono (hfs _ s6 σ6 H6 _ I6 q6) (fun ok s7 ⟨H7,I7,q7⟩=>?_) fun e s z=>(xe e s z).elim;have again:∀ {ys':List V} {its':List Value} {k':Nat} {σ':St} {H':Hp} {s':Shared},Inv Y (Lp D its' k' :: (P++cF fp s5.heap)) σ' H' s'→Vals ys' its'→ys'.length≤sizeLine→(∃ m',m' < n∧W (i+1) m' ys' (nx σ') H') →
        ∃ m,m < n∧∃ i ys its k t H',Inv Y (Lp D its k :: P) (val t) H' s'∧Vals ys its∧ys.length≤sizeLine∧tn i s'.heap∧(∀ b∈fp,H' b=none)∧W i m ys t H':=fun {ys' its' k' σ' H' s'} Z rv' hz' hw=>by
      obtain ⟨m',hm,w'⟩:=hw;have pn:∀ {b:Addr} {o:Obj},b∈fp→s5.heap.get? b=some o→_:=fun {b o} hb e=>Z.pin (b,o) (aar _ (aaj _ (aar _ (d0 hb e))));refine ⟨m',hm,i+1,ys',its',k',nx σ',H',hrs (Inv.unpinned (pl:=cF fp s5.heap) Z),rv',hz',T.keep _ _ _ st5 fun b hb o e=>(pn hb e).1,fun b hb=>?_,w'⟩;obtain ⟨o,e,d⟩:=T.obj _ _ st5 b hb;exact (pn hb e).2.1
    cases ok with
    | false =>
      rw [if_neg aai] at q7 ⊢;exact again I7 rv3 hz3 q7
    | true =>
      rw [if_pos rfl] at q7 ⊢;refine wpAny_mono (inn (P++cF fp s5.heap) (fun p hp=>?_) I7 rv3 hz3 q7) (fun x s8 h8=>wpAny_mono h8 (fun it2 s9 h9=>codeAny_mono h9 fun r s10 h10=>?_) fun _ _ z=>z) fun _ _ z=>z
      · rcases aat.mp hp with z|z
        · exact hP p z
        · exact abO (neD _ (hU z).1)
      · cases r with
        | error e=>exact h10.elim
        | ok f =>
          obtain ⟨ys',its',k',σ',H',Z,rv',hz',w'⟩:=h10;exact again Z rv' hz' w'
theorem pQ {Y:Cx} (hc:Y.calm=true) (hxe:Y.xe=fun _ _=>False) {D:Addr} (hDx:D∈Y.ex∨Y.s₀.heap.objs.size≤D) (hDc:∀ x c,Y.env.cells.lookup x=some c→c≠D) (hDp:∀ p∈Y.pn,p.1≠D)
    {elt:Expr} {te:TE} {G:List Comprehension} {scope:Scope} {pos:Pos} (hbe:PE Y elt te) :
    ∀ (rs:List (TI × TG × TT)) (c:Comprehension) (r:TI × TG × TT) (k:Nat),G[k]?=some c→PCl Y c r→Paired (PCl Y) (G.drop (k+1)) rs →
    rK Y D elt te G scope pos rs c r k:=by
  intro rs;have xe:∀ e s,Y.xe e s→False:=fun e s z=>by rw [hxe] at z;exact z
  have fpx:∀ {fp:List Addr} {P:List (Addr × Obj)} {its:List Value} {kk:Nat} {H2:Hp},(∀ b∈fp,eh Y (Lp D its kk :: P) H2 b)→(∀ b∈fp,D≠b)∧∀ {H':Hp} {n:Nat} {its':List Value},(∀ b∈fp,H' b=none)→∀ b∈fp,eh Y (Lp D its' n :: P) H' b:=fun {fp P its kk H2} f2=>by
    have neD:∀ b∈fp,D≠b:=fun b hb=>(f2 b hb).2.2.2.2.2 (Lp D its kk) (aar _ aan);refine ⟨neD,fun {H' n its'} hn b hb=>⟨hn b hb,(f2 b hb).2.1,(f2 b hb).2.2.1,(f2 b hb).2.2.2.1,(f2 b hb).2.2.2.2.1,fun p hp=>?_⟩⟩;rcases aat.mp hp with z|z
    · exact (f2 b hb).2.2.2.2.2 p (aa4 _ z)
    · rcases aaC.mp z with z|z
      · rw [z];exact neD b hb
      · exact (f2 b hb).2.2.2.2.2 p (aar _ (aaj _ z))
  induction rs with
  | nil =>
    intro c r k hk hcl hG P hP σ H s ys its kk Fin I rv hz h;have hk2:G[k+1]?=none:=by
      have l:=aaH hG;rw [aaJ] at l;exact List.getElem?_eq_none (by simp at l;lia)
    obtain ⟨tg,iter,ifs,as⟩:=c;have as0:as=0:=hcl.as;subst as0;refine wpAny_mono (hcl.it _ s σ H _ I h) (fun v s1 h1=>wpAny_mono h1 (fun itv s2 h2=>?_) fun e s z=>(xe e s z).elim) fun e s z=>(xe e s z).elim;obtain ⟨it,fp,tn,J,H2,e,I2,T,st2,f2,W,⟨m0,w0⟩,turn⟩:=h2;subst e;have loop:=nY (τ:=St) (val:=fun z=>z) (nx:=fun z=>z) hc hxe (fun Z=>Z) hDx hDc hDp (scope:=scope) (pos:=pos) hbe hk hk2 hcl.tg hcl.fs hP T (fpx f2).1 (fpx f2).2 (R:=fun r s₆=>match r with|.ok _=>sY Y D P Fin s₆|.error _=>False) (fun ys its k t H s I4 rv hz fin=>⟨ys,its,k,t,H,I4,rv,hz,fin⟩) turn I2 rv hz st2 (fun b hb=>(f2 b hb).1) w0;exact jh hk loop (T.self _ 0 _ _ _ st2 loop)
  | cons r2 rs ih =>
    intro c r k hk hcl hG P hP σ H s ys its kk Fin I rv hz h;obtain ⟨c2,hk2,hcl2,hG2⟩:∃ c2,G[k+1]?=some c2∧PCl Y c2 r2∧Paired (PCl Y) (G.drop (k+1+1)) rs:=by
      cases e:G.drop (k+1) with
      | nil=>rw [e] at hG;cases hG
      | cons c2 l =>
        rw [e] at hG;have e1:G[k+1]?=some c2:=by
          have:=congrArg (·[0]?) e;simpa using this
        have e2:G.drop (k+1+1)=l:=by rw [← List.drop_drop,e];rfl
        cases hG with
        | cons a b=>exact ⟨c2,e1,a,by rw [e2];exact b⟩
    obtain ⟨tg,iter,ifs,as⟩:=c;have as0:as=0:=hcl.as;subst as0;obtain ⟨tg2,iter2,ifs2,as2⟩:=c2;have as20:as2=0:=hcl2.as;subst as20;refine wpAny_mono (hcl.it _ s σ H _ I h) (fun v s1 h1=>wpAny_mono h1 (fun itv s2 h2=>?_) fun e s z=>(xe e s z).elim) fun e s z=>(xe e s z).elim;obtain ⟨it,fp,tn,J,H2,e,I2,T,st2,f2,W,⟨m0,w0⟩,turn⟩:=h2;subst e;have loop:=pT (τ:=St) (val:=fun z=>z) (nx:=fun z=>z) hc hxe (fun Z=>Z) hDx hDc hDp (scope:=scope) (pos:=pos) hk hk2 (hcl2.st _) hcl.tg hcl.fs hP (ih _ r2 (k+1) hk2 hcl2 hG2) T (fpx f2).1 (fpx f2).2 (R:=fun r s₆=>match r with|.ok _=>sY Y D P Fin s₆|.error _=>False) (fun ys its k t H s I4 rv hz fin=>⟨ys,its,k,t,H,I4,rv,hz,fin⟩) turn I2 rv hz st2 (fun b hb=>(f2 b hb).1) w0;exact jh hk loop (T.self _ 0 _ _ _ st2 loop)
abbrev rH (cap:List (Option Nat)) (g:TG) (tt:TT) (r2:TI × TG × TT) (rs:List (TI × TG × TT)) (te:TE) (σ:St) (Q:VK) (J:It) (H1:Hp):Prop:=∃ W:Nat→Nat→List V→Hp→Prop,(∃ m,W 0 m [] H1)∧∀ i m ys H,W i m ys H →
  (J.stop i H∧∀ p,H p=none→Q (.ref p) (upd H p (.lst ys))) ∨
  (J.go i H∧∀ x H',J.yld i H x H'→g x (bL cap σ) H' fun σ2 H2=>tt σ2 H2 fun b H3=>if b=true then r2.1 σ2 H3 (LcT rs r2.2.1 r2.2.2 te ys σ2 fun ys' _ H4=>∃ m',m' < m∧W (i+1) m' ys' H4) else ∃ m',m' < m∧W (i+1) m' ys H3)
def uu (cap:List (Option Nat)) (wi:TI) (g:TG) (tt:TT) (r2:TI × TG × TT) (rs:List (TI × TG × TT)) (te:TE):TE:=fun σ H Q=>wi σ H (rH cap g tt r2 rs te σ Q)
section
variable {X:Cx}
theorem sk {elt tg iter:Expr} {ifs:List Expr} {G:List Comprehension} {r2:TI × TG × TT} {rs:List (TI × TG × TT)} {scope:Scope} {pos:Pos} {cl:List (Str × Addr)} {NY:List Str} {cap:List (Option Nat)} {wi:TI} {g:TG} {tt:TT} {te:TE} (hc:X.calm=true) (hi:PI X tg iter wi)
    (hclos:closureFor scope X.env=pure cl) (hci:CellsIn X.env cl) (hcap:CapOk X.env (relabel scope X.env) X.N NY cap)
    (hb:∀ fp s H C,PG (bq X scope cl NY fp s H C) tg g∧jI (bq X scope cl NY fp s H C) ifs tt∧Paired (PCl (bq X scope cl NY fp s H C)) G (r2 :: rs)∧PE (bq X scope cl NY fp s H C) elt te)
    (hkind:scope.kind=.function:=by rfl) (hnc:(scope.names.all fun y=>y.2 != .cell)=true:=by rfl)
    (hnames:(scope.names.all fun y=>y.2 != .local || scope.names.lookup y.1 == some .local)=true:=by rfl)
    (hhas:((relabel scope X.env).names.all fun p=>(p.2 != .cell && p.2 != .free) || (cl.lookup p.1).isSome)=true:=by rfl)
    (hs:∀ x,foldedSetIterable iter X.env x=pure x:=by intro _;rfl) :
    PE X (.ListComp elt (⟨tg,iter,ifs,0⟩ :: G) scope pos) (uu cap wi g tt r2 rs te):=by
  intro pins s σ H Q I h;rw [eval_ListComp];refine wpAny_comprehension_free (use:=none) rfl hs hclos hkind (kU hnames) (wpAny_mono (hi pins s σ H _ I h) (fun v s1 h1=>wpAny_mono h1 (fun itv s2 h2=>?_) fun _ _ e=>e) fun _ _ e=>e);obtain ⟨it,fp,tn,J,H2,e,I2,T,st2,f2,W,⟨m0,w0⟩,turn⟩:=h2;subst e;refine wpAny_newObj_type (wpAny_newFunctionEnv (m5 hnc) (by intro y hy;simp at hy) (fun h₁ hns₁ hsb₁=>?_) hkind);dsimp only at hns₁ hsb₁ ⊢;obtain ⟨hC,B,hD⟩:=I2.newC hci hkind hhas hns₁ fun b o hb e=>hsb₁.extBut b o hb (aah _ e);generalize (s2.heap.push { cls:=.type "list",dict:=none,data:=.seq ([]:List Value).toArray }).objs.size=C at hC B ⊢;obtain ⟨hbg,hbt,hbG,hbe⟩:=hb fp s2 H2 C;obtain ⟨c2,G',eG,hcl2,hG'⟩:∃ c2 G',G=c2 :: G'∧PCl (bq X scope cl NY fp s2 H2 C) c2 r2∧Paired (PCl (bq X scope cl NY fp s2 H2 C)) G' rs:=by
    cases hbG with
    | cons a b=>exact ⟨_,_,rfl,a,b⟩
  obtain ⟨tg2,iter2,ifs2,as2⟩:=c2;have as20:as2=0:=hcl2.as;subst as20;have stW:=T.keep _ _ h₁ st2 fun b _ o e=>B.old b o e;have fpl:=T.lt st2;have hDc:=B.neD I2.cellLt (aac _) hD fun v z=>by cases z
  have loop:=pT (τ:=Unit) (val:=fun _=>bL cap σ) (nx:=fun _=>()) (Y:=bq X scope cl NY fp s2 H2 C) hc rfl (fun Z=>I2.recap f2 B hcap dZ Z) (.inr (aac _)) hDc (fun p hp=>by cases hp) (elt:=elt) (te:=te) (G:=⟨tg,iter,ifs,0⟩ :: G) (scope:=scope) (pos:=pos) (k:=0) rfl (show (⟨tg,iter,ifs,0⟩ :: G:List Comprehension)[1]?=some ⟨tg2,iter2,ifs2,0⟩ by rw [eG];rfl) (hcl2.st _) hbg hbt (P:=[]) (fun p hp=>by cases hp)
    (pQ (Y:=bq X scope cl NY fp s2 H2 C) hc rfl (.inr (aac _)) hDc (fun p hp=>by cases hp) hbe rs _ r2 1 (by rw [eG];rfl) hcl2 (by rw [eG];exact hG')) T
    (fun b hb=>abj (fpl b hb)) (fun hn=>I2.fps f2 fpl B (fun p hp=>by rw [aak.mp hp];exact aac _) hn) (R:=compPost (model X.prog X.w) X.A X.xe none (EP X pins σ Q) (.ref s2.heap.objs.size) C) (fun ys its k _ H s I4 rv hz fin=>I2.lstEnd f2 (aac _) (abi hC) rfl I4 rv hz fin)
    (W:=fun i m ys _ H=>W i m ys H) (fun i m ys _ H=>turn i m ys H) (t:=()) (I2.blk f2 fpl B hcap dZ (fun p hp=>by rw [aak.mp hp];exact ⟨hD,aac _,aaA hC,fun v z=>by cases z⟩) (t':=s2.toks+([]:List (Str × Value)).length)) .nil (aaX _) stW (fun b hb=>(f2 b hb).1) w0
  exact codeAny_compStart_list loop (T.self _ 0 _ _ _ stW loop)
end
abbrev rG (g2:TG) (tt2:TT) (te:TE) (ys:List V) (σ2:St) (Fin:List V→Hp→Prop) (J2:It) (H4:Hp):Prop:=qt g2 tt2 te ys σ2 (fun ys _ H=>Fin ys H) J2 H4
abbrev rJ (cap:List (Option Nat)) (g:TG) (tt:TT) (wi2:TI) (g2:TG) (tt2:TT) (te:TE) (σ:St) (Q:VK) (J:It) (H1:Hp):Prop:=rH cap g tt (wi2,g2,tt2) [] te σ Q J H1
def uv (cap:List (Option Nat)) (wi:TI) (g:TG) (tt:TT) (wi2:TI) (g2:TG) (tt2:TT) (te:TE):TE:=fun σ H Q=>wi σ H (rJ cap g tt wi2 g2 tt2 te σ Q)
section
variable {X:Cx}
theorem sm {elt tg iter tg2 iter2:Expr} {ifs ifs2:List Expr} {scope:Scope} {pos:Pos} {cl:List (Str × Addr)} {NY:List Str} {cap:List (Option Nat)} {wi wi2:TI} {g g2:TG} {tt tt2:TT} {te:TE} (hc:X.calm=true) (hi:PI X tg iter wi)
    (hclos:closureFor scope X.env=pure cl) (hci:CellsIn X.env cl) (hcap:CapOk X.env (relabel scope X.env) X.N NY cap)
    (hb:∀ fp s H C,PG (bq X scope cl NY fp s H C) tg g∧jI (bq X scope cl NY fp s H C) ifs tt∧PI (bq X scope cl NY fp s H C) tg2 iter2 wi2∧PG (bq X scope cl NY fp s H C) tg2 g2∧jI (bq X scope cl NY fp s H C) ifs2 tt2∧PE (bq X scope cl NY fp s H C) elt te)
    (hkind:scope.kind=.function:=by rfl) (hnc:(scope.names.all fun y=>y.2 != .cell)=true:=by rfl)
    (hnames:(scope.names.all fun y=>y.2 != .local || scope.names.lookup y.1 == some .local)=true:=by rfl)
    (hhas:((relabel scope X.env).names.all fun p=>(p.2 != .cell && p.2 != .free) || (cl.lookup p.1).isSome)=true:=by rfl)
    (hs:∀ x,foldedSetIterable iter X.env x=pure x:=by intro _;rfl) (hs2:∀ E x,foldedSetIterable iter2 E x=pure x:=by intro _ _;rfl) :
    PE X (.ListComp elt [⟨tg,iter,ifs,0⟩,⟨tg2,iter2,ifs2,0⟩] scope pos) (uv cap wi g tt wi2 g2 tt2 te) :=
  sk (r2:=(wi2,g2,tt2)) (rs:=[]) hc hi hclos hci hcap (fun fp s H C=>by obtain ⟨hbg,hbt,i2,t2,f2,hbe⟩:=hb fp s H C;exact ⟨hbg,hbt,(.cons ⟨rfl,i2,t2,f2,hs2⟩ .nil),hbe⟩) hkind hnc hnames hhas hs
end
open PySem PySem.Spec PyProof.Rows
section
variable {M:Model} {A:Around} {E:Value→Shared→Prop} {s:Shared}
structure Lft (l:List Env) (e:Addr) (x:List Addr) (h h':Heap):Prop where
  keep:∀ b o,b∉l.filterMap (·.frame)→b≠e→b∉x→h.get? b=some o→h'.get? b=some o
  slot:∀ b o,b∈l.filterMap (·.frame)→h.get? b=some o→∃ sl,h'.get? b=some { o with slots:=sl }
end
section
variable {P:Program} {w:World} {K:aaa} {mg:Str→Option Value} {base:Heap} {N:List Str} {qual:Str} {scope:Scope} {f:Addr} {cd:Value} {A:Around} {outer:List Env} {s0:Shared} {H0:Hp} {E:XK}
end
structure EC (K:aaa) (C:Addr):Prop where
  ex:∃ nm q N bs bm hdct sn sub ab col dd k0 k1 k2 k3 k5 B newId initId bmB mN,ExcBaseFacts B newId initId bmB∧bm.contains (.type "BaseException")=true∧mN ("__init__":Str)=none ∧
    ∀ h,K.In h→h.get? C=some (excClassObj nm q C N bs bm hdct sn sub ab col dd k0 k1 k2 k3 k5 newId)∧h.Ns N mN∧OwnTail h bmB bm
section
variable {X:Cx} {pins0 pins:List (Addr × Obj)} {Cat:St→Addr→Hp→Prop} {σ:St} {H:Hp} {s:Shared}
end
section
variable {M:Model} {A:Around} {E:Value→Shared→Prop} {s:Shared}
end
structure Und (K:aaa) (C P:Addr):Prop where
  ex:∃ nm q N bs bm hdct sn sub ab col dd k0 k1 k2 k3 k5 newId nm' q' N' bs' bm' hdct' sn' sub' ab' col' dd' k0' k1' k2' k3' k5' newId',(Value.ref C :: bm).contains (.ref P)=true∧bm'.contains (.type "BaseException")=true ∧
    ∀ h,K.In h→h.get? C=some (excClassObj nm q C N bs bm hdct sn sub ab col dd k0 k1 k2 k3 k5 newId)∧h.get? P=some (excClassObj nm' q' P N' bs' bm' hdct' sn' sub' ab' col' dd' k0' k1' k2' k3' k5' newId')
section
variable {X:Cx} {pins:List (Addr × Obj)} {σ:St} {H:Hp} {s:Shared}
end
section
variable {M:Model} {A:Around} {E:Value→Shared→Prop} {s:Shared}
end
section
variable {X:Cx} {pins:List (Addr × Obj)} {σ:St} {H:Hp} {s:Shared}
end
open PySem PySem.Spec PyProof.Rows
structure Lkp (M:Model) (h:Heap) (C:Addr):Prop where
  ga:acg M h (typeLookup (.ref C) "__getattribute__") (some (.builtin "BaseException.__getattribute__"))
  no:acg M h (typeLookup (.ref C) "__getattr__") none
  cls:acg M h (typeLookup (.ref C) "__class__") (some (.builtin "object.__class__"))
  be:acg M h (isSubtype (.ref C) (.type "BaseException")) true
  obj:acg M h (isSubtype (.ref C) (.type (".".intercalate ("object.__class__".cutAt '.').dropLast))) true
section
variable {prog:Program} {w:World} {A:Around} {E:Value→Shared→Prop} {h:Heap} {g:Array GenState} {d:Drawn} {t:Nat} {os:OsState} {a C:Addr} {o:Obj}
end
structure ExC (K:aaa) (C:Addr):Prop where
  lk:∀ (M:Model) (h:Heap),K.In h→Lkp M h C
  cl:(PySem.W.clsIn K C).isSome=true
  sl:∃ B,Slot B "__getattribute__" "BaseException.__getattribute__"
open PySem PySem.Spec PyProof.Rows
theorem iF:∀ {ns:List Int} {its:List Value},Vals (ns.map V.int) its→∃ ts:List (Int × Tok),its=ts.map (fun p=>Value.int p.1 p.2)∧ts.map (·.1)=ns
  | [],_,.nil=>⟨[],rfl,rfl⟩
  | i :: r,_,.cons h t=>by
    obtain ⟨k,rfl⟩:=(show ∃ k,_=Value.int i k from h)
    obtain ⟨ts,e1,e2⟩:=iF t;exact ⟨(i,k) :: ts,by rw [e1];rfl,by rw [aav,e2]⟩
theorem ji {X:Cx} (hc:X.calm=true):di X (.builtin "sum") (fun xs H Q=>∃ (p:Addr) (ns:List Int),xs=[.ref p]∧SqL X.K H p (ns.map V.int)∧Q (.int ns.sum) H):=by
  intro pins s σ H xs us Q I r h;obtain ⟨p,ns,rfl,hq,q⟩:=h;obtain ⟨u,rfl,rx⟩:=ez r;cases rx;obtain ⟨its,r',pl,hz⟩:=I.list hq;obtain ⟨ts,e1,e2⟩:=iF r';subst e1;have el:(ts.map (fun p=>Value.int p.1 p.2)).toArray=intItems ts.toArray:=by unfold intItems;simp
  refine sum_intListG (xs:=ts.toArray) (I.ok.hd hc) (by rw [← el];exact pl.isList) fun h' tk t' hk=>?_;have e:preSum (numAt ts.toArray) ts.toArray.size=ns.sum:=by
    rw [preSum_eq,aaR (by simp),← e2]
  rw [e];exact ⟨.int ns.sum,H,I.kept (t':=tk) hk,⟨t',rfl⟩,q⟩
open PySem PySem.Spec PyProof.Rows
open PySem PySem.Spec PyProof.Rows
section
variable {K:aaa} {C Pa N N':Addr} {nm nm' q q':Str} {bs bs' sub sub':List Value} {hdct hdct':Bool} {sn sn':List Str} {ab ab':Bool} {col col':Option Bool} {dd dd':Option Addr} {k0 k1 k2 k3 k5 k0' k1' k2' k3' k5' oc oc':Option Value}
  {c1 c2:Value} {od od':Option Addr} {es es':Array DictEntry} {n n':Nat} {sl sl':Array (Option Value)}
end
end L2
namespace L2
open PySem
open PySem PySem.Spec PyProof.Rows
open PySem PySem.Spec PyProof.Rows
section
variable {X:Cx}
theorem Inv.useEnd {pins:List (Addr × Obj)} {σ:St} {H2 H3:Hp} {s2 s4:Shared} {C Dd:Addr} {i₀:Nat} {x:Str} {px:Pos} (I2:Inv X pins σ H2 s2) (hC:s2.heap.objs.size≤C) (hN:X.N.Nodup) (hiN:X.N[i₀]?=some x) (hx:Loc X.env.scope x) (hf:X.fn x=true∨X.env.scope.names.lookup x=some .local)
    (I7:Inv X pins σ H3 s4) (cC:H3 C=none) (hnC:∃ m,s4.heap.Ns C m) {Nx:St→Hp→Prop} (qn:Nx (σ.set i₀ (some (.ref Dd))) H3) :
    compPost (model X.prog X.w) X.A X.xe (some (assign (.Name x px) X.env)) (fun _ s'=>∃ σ' H',Inv X pins σ' H' s'∧Nx σ' H') (.ref Dd) C (.ok .next) s4:=by
  obtain ⟨m,oC,es,ep,hoC,hdC,rC⟩:=hnC;have nL:C≠X.env.locals:=abj (aap I2.lt hC);have I8:Inv X ((C,oC) :: pins) σ H3 s4:=I7.pins_of fun p hp=>by
    rcases aaC.mp hp with z|z
    · rw [z];exact ⟨hoC,cC,nL,fun hz=>I2.nofs hC hz,fun v z=>by rw [hdC] at z;cases z⟩
    · exact I7.pin p (aar _ z)
  show wpAny _ X.A (assign (.Name x px) X.env (.ref Dd)) _ _ s4;refine wpAny_assign_Name (fW (v:=.ref Dd) I8 hN hiN hx rfl (fun s5 I9=>?_) hf);have pC:=I9.pin (C,oC) (aar _ aan);exact ⟨m,⟨oC,es,ep,pC.1,hdC,rC⟩,fun h' hsb=>⟨_,_,I2.offC hC (I9.pins_of fun p hp=>I9.pin p (aar _ (aaj _ hp))) cC fun b o hb e=>hsb.extBut b o hb e,qn⟩⟩
theorem qM {i₀:Nat} {x:Str} {px spos:Pos} {elt tg iter:Expr} {ifs:List Expr} {scope:Scope} {pos:Pos} {cl:List (Str × Addr)} {NY:List Str} {cap:List (Option Nat)} {wi:TI} {g:TG} {tt:TT} {te:TE} (hN:X.N.Nodup) (hiN:X.N[i₀]?=some x) (hx:Loc X.env.scope x) (hc:X.calm=true) (hi:PI X tg iter wi)
    (hclos:closureFor scope X.env=pure cl) (hci:CellsIn X.env cl) (hcap:CapOk X.env (relabel scope X.env) X.N NY cap)
    (hb:∀ fp s H C,PG (bq X scope cl NY fp s H C) tg g∧jI (bq X scope cl NY fp s H C) ifs tt∧PE (bq X scope cl NY fp s H C) elt te)
    (hkind:scope.kind=.function:=by rfl) (hnc:(scope.names.all fun y=>y.2 != .cell)=true:=by rfl)
    (hnames:(scope.names.all fun y=>y.2 != .local || scope.names.lookup y.1 == some .local)=true:=by rfl)
    (hhas:((relabel scope X.env).names.all fun p=>(p.2 != .cell && p.2 != .free) || (cl.lookup p.1).isSome)=true:=by rfl)
    (hs:∀ x,foldedSetIterable iter X.env x=pure x:=by intro _;rfl) (hsw:swapsWith (.ListComp elt [⟨tg,iter,ifs,0⟩] scope pos) (some (.Name x px)) spos.line X.env=pure true:=by rfl)
    (hf:X.fn x=true∨X.env.scope.names.lookup x=some .local:=by first|exact .inl rfl|exact .inr rfl|assumption) :
    PS X (.Assign [.Name x px] (.ListComp elt [⟨tg,iter,ifs,0⟩] scope pos) spos) (rU (tLc cap wi g tt te) (pU i₀)):=by
  intro pins s σ H D I h;rw [exec_Assign_Name_used _ _ _ _ hsw];refine wpAny_bind (wpAny_standAt (wpAny_bind ?_));show wpAny _ X.A (do let _ ← comprehension (.ListComp elt [⟨tg,iter,ifs,0⟩] scope pos) scope X.env _ (newList []) false (eval iter X.env) (some (assign (.Name x px) X.env))) _ _ s;refine wpAny_bind (wpAny_mono (wpAny_comprehension_free (use:=some (assign (.Name x px) X.env)) (Q:=fun _ s'=>∃ σ' H',Inv X pins σ' H' s'∧D.nx σ' H') rfl hs hclos hkind (kU hnames) (wpAny_mono (hi pins s σ H _ I h) (fun v s1 h1=>wpAny_mono h1 (fun itv s2 h2=>?_) fun _ _ e=>e) fun _ _ e=>e)) (fun _ s' hq=>wpAny_pure (wpAny_pure hq)) fun _ _ e=>e);obtain ⟨it,fp,tn,J,H2,e,I2,T,st2,f2,W,⟨m0,w0⟩,turn⟩:=h2;subst e;refine wpAny_newObj_type (wpAny_newFunctionEnv (m5 hnc) (by intro y hy;simp at hy) (fun h₁ hns₁ hsb₁=>?_) hkind);dsimp only at hns₁ hsb₁ ⊢;obtain ⟨hC,B,hD⟩:=I2.newC hci hkind hhas hns₁ fun b o hb e=>hsb₁.extBut b o hb (aah _ e);generalize (s2.heap.push { cls:=.type "list",dict:=none,data:=.seq ([]:List Value).toArray }).objs.size=C at hC B ⊢;obtain ⟨hbg,hbt,hbe⟩:=hb fp s2 H2 C;have stW:=T.keep _ _ h₁ st2 fun b _ o e=>B.old b o e;have loop:=I2.goLast f2 (T.lt st2) B hcap dZ hc hC rfl hD T stW hbe hbg hbt (G:=[⟨tg,iter,ifs,0⟩]) rfl rfl (scope:=scope) (pos:=pos) (iter:=iter) (t':=s2.toks+([]:List (Str × Value)).length) turn w0 (R:=compPost (model X.prog X.w) X.A X.xe (some (assign (.Name x px) X.env)) (fun _ s'=>∃ σ' H',Inv X pins σ' H' s'∧D.nx σ' H') (.ref s2.heap.objs.size) C) fun ys its k H s I4 rv hz fin=>by
    obtain ⟨I5,hD3,hC3,hn⟩:=I2.lstDone f2 (aac _) (abi hC) rfl I4 rv hz;exact I2.useEnd (abi hC) hN hiN hx hf I5 hC3 hn (fin _ hD3)
  exact codeAny_compStart_list loop (T.self _ 0 _ _ _ stW loop)
end
open PySem PySem.Spec PyProof.Rows
section
variable {X:Cx}
end
open PySem PySem.Spec PyProof.Rows
section
variable {prog:Program} {w:World} {A:Around} {E:Value→Shared→Prop} {s:Shared} {I:Addr} {fp wr:List Addr} {G:Array GenState→Array GenState→Prop} {n:Nat} {P:Nat→Value→Prop} {St:Nat→Shared→Prop}
end
end L2
set_option maxHeartbeats 1000000
namespace L2
open PySem PySem.Spec PyProof.Rows
theorem gR {M:Model} {Γ:PySem.Ctx} {p:Pos} {t:Sem Fin} {fs:List Frame} {s:Shared} {e:End} {s':Shared} (h:Runs M Γ p t fs s e s'):s.toks≤s'.toks:=by
  induction h <;> (try simp only [Shared.setGen] at *) <;> lia
theorem mf {M:Model} {Γ:PySem.Ctx} {p:Pos} {g:Nat} {r:Resume} {s:Shared} {res:GenResult} {s':Shared} (h:Wakes M Γ p g r s res s'):s.toks≤s'.toks:=by
  unfold Wakes at h;split at h
  · exact h.elim
  · split at h
    · obtain ⟨e1,s1,hr,_,_,rfl⟩:=h;have:=gR hr;simpa only [Shared.setGen] using this
    · rw [h.2];exact aac _
    · rw [h.2];exact aac _
  · obtain ⟨e1,s1,hr,_,_,rfl⟩:=h;have:=gR hr;simpa only [Shared.setGen] using this
  · rw [h.2];exact aac _
  · rw [h.2];exact aac _
theorem m8 {α:Type} {M:Model} {Γ:PySem.Ctx} (n:Nat) (t:Sem α) {Q:α→Pos→Shared→Prop} {E:Value→Pos→Shared→Prop}:∀ (p:Pos) (s:Shared),n≤s.toks→abp M Γ t Q E p s →
    abp M Γ t (fun a p' s'=>n≤s'.toks∧Q a p' s') E p s:=by
  induction t with
  | pure a=>intro p s hn h;simp only [abp] at h ⊢;exact ⟨hn,h⟩
  | raise e=>intro p s hn h;simpa only [abp] using h
  | unsupported w=>intro p s hn h;simp only [abp] at h
  | finish e=>intro p s hn h;simp only [abp] at h
  | rule tag k ih=>intro p s hn h;simp only [abp] at h ⊢;exact ih _ _ _ hn h
  | «at» p' k ih=>intro p s hn h;simp only [abp] at h ⊢;exact ih _ _ _ hn h
  | load a part k ih=>intro p s hn h;simp only [abp] at h ⊢;obtain ⟨o,ho,h⟩:=h;exact ⟨o,ho,ih _ _ _ hn h⟩
  | update a part f k ih=>intro p s hn h;simp only [abp] at h ⊢;exact ⟨h.1,ih _ _ _ (by exact hn) h.2⟩
  | loadIfAlive a k ih=>intro p s hn h;simp only [abp] at h ⊢;exact ih _ _ _ hn h
  | point l k ih=>intro p s hn h;simp only [abp] at h ⊢;exact ih _ _ _ hn h
  | register a k ih=>intro p s hn h;simp only [abp] at h
  | alloc o k ih=>intro p s hn h;simp only [abp] at h ⊢;exact ih _ _ _ (by exact hn) h
  | fresh k ih=>intro p s hn h;simp only [abp] at h ⊢;exact ih _ _ _ (Nat.le_succ_of_le hn) h
  | ask k ih=>intro p s hn h;simp only [abp] at h ⊢;exact ih _ _ _ hn h
  | choose src n k ih=>intro p s hn h;simp only [abp] at h ⊢;exact ⟨h.1,ih _ _ _ (by exact hn) h.2⟩
  | os q l k ih=>intro p s hn h;simp only [abp] at h ⊢;exact ih _ _ _ (by exact hn) h
  | call c hd g l k ih =>
    intro p s hn h;simp only [abp] at h ⊢;obtain ⟨r,s',hr,h⟩:=h;exact ⟨r,s',hr,ih _ _ _ (aaN hn (gR hr)) h⟩
  | handled own k ih=>intro p s hn h;simp only [abp] at h ⊢;exact ih _ _ _ hn h
  | genState g k ih=>intro p s hn h;simp only [abp] at h ⊢;obtain ⟨o,ho,h⟩:=h;exact ⟨o,ho,ih _ _ _ hn h⟩
  | newGen c k ih=>intro p s hn h;simp only [abp] at h ⊢;exact ih _ _ _ (by exact hn) h
  | resume g r l k ih =>
    intro p s hn h;simp only [abp] at h ⊢;obtain ⟨res,s',hw,h⟩:=h;exact ⟨res,s',hw,ih _ _ _ (aaN hn (mf hw)) h⟩
  | yield v g l k ih=>intro p s hn h;simp only [abp] at h
  | stack k ih=>intro p s hn h;simp only [abp] at h ⊢;exact ih _ _ _ hn h
  | fork c k ih=>intro p s hn h;simp only [abp] at h
  | thread k ih=>intro p s hn h;simp only [abp] at h ⊢;exact ih _ _ _ hn h
  | await a f d l k ih=>intro p s hn h;simp only [abp] at h
theorem me {α:Type} {M:Model} {A:Around} {t:Sem α} {Q:α→Shared→Prop} {E:Value→Shared→Prop} {s:Shared} (hn:s.toks≠0) (h:wpAny M A t Q E s):wpAny M A t (fun a s'=>s'.toks≠0∧Q a s') E s :=
  fun Γ p hΓ=>Sem.wp_mono M Γ t (fun a _ s' q=>⟨Nat.pos_iff_ne_zero.mp q.1,q.2⟩) (fun _ _ _ q=>q) p s (m8 1 t p s (Nat.pos_of_ne_zero hn) (h Γ p hΓ))
def Tk {α:Type} (t:Sem α):Prop:=∀ (M:Model) (Γ:PySem.Ctx) (p:Pos) (s:Shared) (Q:α→Pos→Shared→Prop) (E:Value→Pos→Shared→Prop),abp M Γ t Q E p s→abp M Γ t (fun a p' s'=>1≤s'.toks∧Q a p' s') E p s
theorem Tk.bindR {α β:Type} {m:Sem α} {f:α→Sem β} (h:∀ a,Tk (f a)):Tk (m >>= f):=by
  intro M Γ p s Q E q;rw [Sem.wp_bind'] at q ⊢;exact Sem.wp_mono M Γ m (fun a p' s' z=>h a M Γ p' s' Q E z) (fun _ _ _ z=>z) p s q
theorem Tk.bindL {α β:Type} {m:Sem α} {f:α→Sem β} (h:Tk m):Tk (m >>= f):=by
  intro M Γ p s Q E q;rw [Sem.wp_bind'] at q ⊢;exact Sem.wp_mono M Γ m (fun a p' s' z=>m8 1 (f a) p' s' z.1 z.2) (fun _ _ _ z=>z) p s (h M Γ p s _ E q)
theorem Tk.hold {α:Type} {vs:List Value} {t:Sem α} (h:Tk t):Tk (holding vs t):=by
  intro M Γ p s Q E q;rw [Sem.wp_holding] at q ⊢;exact h M Γ p s Q E q
theorem Tk.constI {i:Int} {k:Nat} {pos:Pos} {env:Env}:Tk (eval (.Constant (.int i) k pos) env):=by
  intro M Γ p s Q E q;exact ⟨Nat.le_add_left 1 _,q⟩
theorem Tk.cmp {l r:Expr} {op:CmpOp} {pos:Pos} {env:Env} {whole:Sem Value} (h:Tk (eval r env)) (hm:behindInMarks op r=false):Tk (isTrue (.Compare l [op] [r] pos) env whole):=by
  rw [isTrue_Compare1,markedBehindIn_of_false hm];exact .bindR fun a=>.bindL (.hold h)
theorem Tk.or {a:Expr} {cZ:List Expr} {pos:Pos} {env:Env} {whole:Sem Value} (h:Tk (isTrue a env (eval a env))):Tk (isTrue (.BoolOp .Or (a :: cZ) pos) env whole):=by
  rw [arm_isTrue_BoolOp,arm_allTrue_cons];exact .bindL h
theorem oQ {α:Type} {M:Model} {A:Around} {t:Sem α} {Q:α→Shared→Prop} {E:Value→Shared→Prop} {s:Shared} (ht:Tk t) (h:wpAny M A t Q E s):wpAny M A t (fun a s'=>s'.toks≠0∧Q a s') E s :=
  fun Γ p hΓ=>Sem.wp_mono M Γ t (fun a _ s' q=>⟨Nat.pos_iff_ne_zero.mp q.1,q.2⟩) (fun _ _ _ q=>q) p s (ht M Γ p s _ _ (h Γ p hΓ))
def PEK (X:Cx) (e:Expr) (t:TE):Prop :=
  ∀ (pins:List (Addr × Obj)) (s:Shared) (σ:St) (H:Hp) (Q:VK),Inv X pins σ H s→s.toks≠0→t σ H Q→wpAny (model X.prog X.w) X.A (eval e X.env) (EP X pins σ Q) X.xe s
def uh (X:Cx) (st:List Stmt) (t:TS):Prop :=
  ∀ (pins:List (Addr × Obj)) (s:Shared) (σ:St) (H:Hp) (D:Ends),Inv X pins σ H s→s.toks≠0→t D σ H→wpAny (model X.prog X.w) X.A (execs st X.env) (SP X pins D) X.xe s
section
variable {X:Cx} {pos:Pos} {t u:TS}
theorem pi {e:Expr} {te:TE} (he:PEK X e te):uh X [.Return (some e) pos] (tj te):=by
  intro pins s σ H D I hk h;refine wpAny_execs_cons (thn (Q:=SP X pins D) (wpAny_Return_some (thn (he pins s σ H _ I hk h) fun v s1 ⟨x,H1,I1,r1,q1⟩=>⟨x,σ,H1,I1,r1,q1⟩)) fun f s1 q=>?_);cases f with
  | next=>exact wpAny_execs_nil q
  | ret v=>exact q
  | brk=>exact q
  | cont=>exact q
theorem sh {c:Expr} {a b:List Stmt} {tc:TT} (hk:Tk (isTrue c X.env (eval c X.env))) (hc:PT X c tc) (ha:uh X a t) (hb:PSs X b u):PS X (.If c a b pos) (tw tc t u):=by
  intro pins s σ H D I h;refine wpAny_If (thn (oQ hk (hc pins s σ H _ I h)) fun d s1 ⟨hn,H1,I1,q1⟩=>?_);cases d with
  | true=>exact ha pins s1 σ H1 D I1 hn q1
  | false=>exact hb pins s1 σ H1 D I1 q1
def tm (K:aaa) (y z:Str) (to:TE):TE:=fun σ H Q=>to σ H fun x H1=>∃ w,x=.str w∧w.length≤1000∧Q (.str (Txt.replace w y z)) H1
theorem pB {o:Expr} {to:TE} {y z:Str} {k1 k2:Nat} {p1 p2 apos cpos:Pos} (ho:PE X o to) (hyz:(y == z)=false) (hz:z.length≤14)
    (hbase:attributeBase o "replace" X.env (eval o X.env)=eval o X.env:=by rfl)
    (hline:(apos.endLine == cpos.line)=true:=by rfl) :
    PEK X (.Call (.Attribute o "replace" apos) [.Constant (.str y) k1 p1,.Constant (.str z) k2 p2] [] cpos) (tm X.K y z to):=by
  intro pins s σ H Q I hk h;refine wpAny_Call_method_late hbase rfl hline rfl (thn (me hk (ho pins s σ H _ I h)) fun v s1 ⟨hn,x,H1,I1,r1,q1⟩=>?_);obtain ⟨w,rfl,hw,q1⟩:=q1;obtain ⟨h1,h2⟩:=mh (T:="str") I1 r1 (by first|exact rfl|exact True.intro);refine ⟨"str","str.replace",PySem.F.plainAttrs_str,PySem.F.slot_str_replace,PySem.F.type_str_replace,h1,h2,?_⟩;refine ab2 rfl (Calls.evalArgs_plain ?_);show wpAny _ _ (spliced ((false,eval (.Constant (.str y) k1 p1) X.env) :: backTo cpos (starEach [.Constant (.str z) k2 p2] X.env))) _ _ s1;refine Calls.spliced_cons (Calls.Constant_str ?_);show wpAny _ _ (spliced ((false,eval (.Constant (.str z) k2 p2) X.env) :: backTo cpos (starEach [] X.env))) _ _ _;refine Calls.spliced_cons (Calls.Constant_str ?_);refine Calls.spliced_nil ?_;obtain ⟨t0,rfl⟩:=r1;refine PySem.SC.replaceW hn (Nat.succ_ne_zero _) (aaA (Nat.lt_succ_self _)) hyz (by lia) hz fun t' k=>?_;exact ⟨.str _,H1,(I1.tok k),⟨_,rfl⟩,q1⟩
end
open PySem PySem.Spec PyProof.Rows
section
variable {X:Cx}
end
open PySem PySem.Spec PyProof.Rows
section
variable {X:Cx}
end
end L2
namespace PySem
open Builtin Builtin.Str Builtin.Int
section
variable {prog:Program} {w:World} {A:Around} {E:Value→Shared→Prop} {s:Shared} {x:Str} {t:Tok} {Q:Value→Shared→Prop}
  {I:Addr} {fp wr:List Addr} {G:Array GenState→Array GenState→Prop} {n:Nat} {P:Nat→Value→Prop} {St:Nat→Shared→Prop}
end
end PySem
namespace L2
open PySem PySem.Spec PyProof.Rows
section
variable {X:Cx}
end
open PySem PySem.Spec PyProof.Rows
section
variable {X:Cx}
end
open PySem PySem.Spec PyProof.Rows
section
variable {X:Cx} {pins:List (Addr × Obj)} {σ:St} {H:Hp} {s:Shared} {A:Around} {Q:Value→Shared→Prop} {E:Value→Shared→Prop} {b:Bool}
end
section
variable {X:Cx} {a b c d:Expr} {ta tb tc td:TE} {pos:Pos}
end
section
variable {X:Cx}
end
open PySem PySem.Spec PyProof.Rows
section
variable {X:Cx} {o e:Expr} {es:List Expr} {to:TE} {t:TA} {name:Str} {apos cpos:Pos} {T id:String} {r:V→List V→Hp→VK→Prop} {K:aaa}
end
open PySem PySem.Spec PyProof.Rows
structure Trn (J:It) (n:Nat) (Kp:Hp→Prop) (item:Nat→V→Hp→Hp→Prop):Prop where
  go:∀ i H,i < n→Kp H→J.go i H
  stop:∀ H,Kp H→J.stop n H
  yld:∀ i H x H',i < n→Kp H→J.yld i H x H'→item i x H H'
theorem Trn.list {K:aaa} {a:Addr} {xs:List V}:Trn (Itl K a) xs.length (fun H=>SqL K H a xs) (fun i x H H'=>H'=H∧xs[i]?=some x) :=
  ⟨fun i H hi q=>⟨xs,xs[i],q,by simp [hi]⟩,fun H q=>⟨xs,q,aac _⟩,fun i H x H' hi q y=>⟨y.1,y.2 xs q⟩⟩
theorem Trn.tup {K:aaa} {a:Addr} {xs:List V}:Trn (Itt K a) xs.length (fun H=>SqT K H a xs) (fun i x H H'=>H'=H∧xs[i]?=some x) :=
  ⟨fun i H hi q=>⟨xs,xs[i],q,by simp [hi]⟩,fun H q=>⟨xs,q,aac _⟩,fun i H x H' hi q y=>⟨y.1,y.2 xs q⟩⟩
theorem Trn.range {lo:Int} {n:Nat}:Trn (Itr lo n) n (fun _=>True) (fun i x H H'=>H'=H∧x=.int (lo+i)) :=
  ⟨fun i H hi _=>hi,fun H _=>aac _,fun i H x H' hi _ y=>y⟩
theorem fz {J:It} {n:Nat} {Kp:Hp→Prop} {item:Nat→V→Hp→Hp→Prop} (T:Trn J n Kp item) {cap:List (Option Nat)} {g:TG} {tt:TT} {te:TE} {σ:St} {H:Hp} {Q:VK} (Pv:Nat→List V→Hp→Prop) (h0:Pv 0 [] H) (hk:∀ i ys H,i≤n→Pv i ys H→Kp H∧ys.length < sizeLine)
    (hs:∀ i x ys H H',i < n→item i x H H'→Pv i ys H→∀ Nx:List V→Hp→Prop,(∀ ys' H2,Pv (i+1) ys' H2→Nx ys' H2)→g x (bL cap σ) H' fun σ2 H2=>tt σ2 H2 fun b H3=>if b=true then te σ2 H3 fun v H4=>Nx (ys++[v]) H4 else Nx ys H3)
    (hd:∀ ys H,Pv n ys H→∀ p,H p=none→Q (.ref p) (upd H p (.lst ys))):oP cap g tt te σ Q J H:=by
  refine ⟨fun i m ys H=>m=n - i∧i≤n∧Pv i ys H,⟨n,by simp,aaX _,h0⟩,?_⟩;rintro i m ys H ⟨rfl,hi,p⟩;by_cases hlt:i < n
  · refine .inr ⟨T.go i H hlt (hk i ys H hi p).1,(hk i ys H hi p).2,fun x H' y=>?_⟩;exact hs i x ys H H' hlt (T.yld i H x H' hlt (hk i ys H hi p).1 y) p (fun ys' H4=>∃ m',m' < n - i∧m'=n - (i+1)∧i+1≤n∧Pv (i+1) ys' H4) fun ys' H2 h=>⟨_,by lia,rfl,hlt,h⟩
  · have e:i=n:=by lia
    subst e;exact .inl ⟨T.stop H (hk _ ys H hi p).1,hd ys H p⟩
theorem sF {J:It} {n:Nat} {Kp:Hp→Prop} {item:Nat→V→Hp→Hp→Prop} (T:Trn J n Kp item) {cap:List (Option Nat)} {g:TG} {tt:TT} {wi2:TI} {g2:TG} {tt2:TT} {te:TE} {σ:St} {H:Hp} {Q:VK} (Pv:Nat→List V→Hp→Prop) (h0:Pv 0 [] H) (hk:∀ i ys H,i≤n→Pv i ys H→Kp H)
    (hs:∀ i x ys H H',i < n→item i x H H'→Pv i ys H→∀ Nx:List V→Hp→Prop,(∀ ys' H2,Pv (i+1) ys' H2→Nx ys' H2)→g x (bL cap σ) H' fun σ2 H2=>tt σ2 H2 fun b H3=>if b=true then wi2 σ2 H3 (rG g2 tt2 te ys σ2 Nx) else Nx ys H3)
    (hd:∀ ys H,Pv n ys H→∀ p,H p=none→Q (.ref p) (upd H p (.lst ys))):rJ cap g tt wi2 g2 tt2 te σ Q J H:=by
  refine ⟨fun i m ys H=>m=n - i∧i≤n∧Pv i ys H,⟨n,by simp,aaX _,h0⟩,?_⟩;rintro i m ys H ⟨rfl,hi,p⟩;by_cases hlt:i < n
  · refine .inr ⟨T.go i H hlt (hk i ys H hi p),fun x H' y=>?_⟩;exact hs i x ys H H' hlt (T.yld i H x H' hlt (hk i ys H hi p) y) p (fun ys' H4=>∃ m',m' < n - i∧m'=n - (i+1)∧i+1≤n∧Pv (i+1) ys' H4) fun ys' H2 h=>⟨_,by lia,rfl,hlt,h⟩
  · have e:i=n:=by lia
    subst e;exact .inl ⟨T.stop H (hk _ ys H hi p),hd ys H p⟩
theorem sB {J:It} {n:Nat} {Kp:Hp→Prop} {item:Nat→V→Hp→Hp→Prop} (T:Trn J n Kp item) {g2:TG} {tt2:TT} {te:TE} {ys:List V} {σ:St} {H:Hp} {Fin:List V→Hp→Prop} (Pv:Nat→List V→St→Hp→Prop) (h0:Pv 0 ys σ H) (hk:∀ i ys σ H,i≤n→Pv i ys σ H→Kp H∧ys.length < sizeLine)
    (hs:∀ i x ys σ H H',i < n→item i x H H'→Pv i ys σ H→∀ Nx:List V→St→Hp→Prop,(∀ ys' σ' H2,Pv (i+1) ys' σ' H2→Nx ys' σ' H2)→g2 x σ H' fun σ3 H5=>tt2 σ3 H5 fun b H6=>if b=true then te σ3 H6 fun v H7=>Nx (ys++[v]) σ3 H7 else Nx ys σ3 H6)
    (hd:∀ ys σ H,Pv n ys σ H→Fin ys H):rG g2 tt2 te ys σ Fin J H:=by
  refine ⟨fun i m ys σ H=>m=n - i∧i≤n∧Pv i ys σ H,⟨n,by simp,aaX _,h0⟩,?_⟩;rintro i m ys σ H ⟨rfl,hi,p⟩;by_cases hlt:i < n
  · refine .inr ⟨T.go i H hlt (hk i ys σ H hi p).1,(hk i ys σ H hi p).2,fun x H' y=>?_⟩;exact hs i x ys σ H H' hlt (T.yld i H x H' hlt (hk i ys σ H hi p).1 y) p (fun ys' σ' H4=>∃ m',m' < n - i∧m'=n - (i+1)∧i+1≤n∧Pv (i+1) ys' σ' H4) fun ys' σ' H2 h=>⟨_,by lia,rfl,hlt,h⟩
  · have e:i=n:=by lia
    subst e;exact .inl ⟨T.stop H (hk _ ys σ H hi p).1,hd ys σ H p⟩
open PySem PySem.Spec PyProof.Rows
open PySem PySem.Spec PyProof.Rows
section
variable {X:Cx}
end
open PySem PySem.Spec PyProof.Rows
section
variable {X:Cx} {a b c d e:Expr} {ta tb tc td te:TE} {pos:Pos}
end
end L2
namespace L2
open PySem PySem.Spec PyProof.Rows PySem.W
def cdO (c:Addr) (qual:Str):HO:=.ext fun h=>h.CodeRec (.ref c) qual
structure LTab (P:Addr) (qual:Str) (H:Hp) (ps:Array Value):Prop where
  tab:H P=some (.tbl ps)
  tri:TriplesOk ps.toList
  cds:∀ pos cv,codeAmong pos ps.toList=some cv→∃ c',cv=.ref c'∧H c'=some (cdO c' qual)
section
variable {X:Cx} {pins:List (Addr × Obj)} {σ:St} {H:Hp} {s:Shared}
end
section
variable {CX:CXT} {P:Program} {w:World} {K:aaa} {mg:Str→Option Value} {base:Heap} {k:Nat}
end
section
variable {X:Cx} {pins pl:List (Addr × Obj)} {σ:St} {H:Hp} {s:Shared}
end
section
variable {X:Cx}
end
end L2
namespace L2
open PySem PySem.Spec PyProof.Rows PySem.W
section
variable {X:Cx} {pins pl:List (Addr × Obj)} {σ:St} {H:Hp} {s:Shared}
end
section
variable {X:Cx}
end
end L2
namespace L2
open PySem PySem.Spec PyProof.Rows PySem.W
structure FunC (K:aaa) (x qual:Str) (st:Stmt) (f:Addr) (fd:FuncData) (c:Addr):Prop where
  ex:∃ (oc:Value) (od:Option Addr) (kV doc pm:Value) (an:Option Addr) (ct:Value) (osl:Array (Option Value)),
    fd=abc x qual (cA st) (bZ st) (ai st) .none kV doc pm an (.ref c) ct∧K.lookup f=some ⟨oc,od,.func fd,osl⟩∧abz K (.ref c) qual=true
  kp:aa9 K (.ref f)=true
section
variable {P:Program} {w:World} {K:aaa} {mg:Str→Option Value} {base:Heap}
end
open PySem PySem.Spec PyProof.Rows
open PySem PySem.Spec PyProof.Rows
open PySem PySem.Spec PyProof.Rows
open PySem PySem.Spec PyProof.Rows
section
variable {prog:Program} {w:World} {A:Around} {E:Value→Shared→Prop} {s:Shared}
end
def Ent (P:Program) (w:World) (d:Addr) (o:Obj) (u:HO) (n:Nat) (rw:Nat→V→V→Hp→Prop) (es:Array DictEntry) (ep:Nat):Prop :=
  o.data=.dict es ep∧es.size=n∧∀ H h,HOk P w H h→H d=some (.frz o u)→h.get? d=some o∧∀ i e,es[i]?=some e→∃ k y,RelV k e.key∧RelV y e.val∧rw i k y H
theorem dv {J:It} {n:Nat} {Kp:Hp→Prop} {item:Nat→V→Hp→Hp→Prop} (T:Trn J n Kp item) {g:TG} {tb:TS} {D:Ends} {σ:St} {H:Hp} (Pv:Nat→St→Hp→Prop) (h0:Pv 0 σ H) (hk:∀ i σ H,i≤n→Pv i σ H→Kp H)
    (hs:∀ i x σ H H',i < n→item i x H H'→Pv i σ H→g x σ H' fun σ2 H2=>tb { D with nx:=Pv (i+1),ct:=Pv (i+1),bk:=D.nx } σ2 H2) (hd:∀ σ H,Pv n σ H→D.nx σ H) :
    ∃ W:Nat→Nat→St→Hp→Prop,(∃ m,W 0 m σ H)∧∀ i m σ H,W i m σ H →
      (J.stop i H∧D.nx σ H)∨(J.go i H∧∃ N:St→Hp→Prop,(∀ σ' H',N σ' H'→∃ m',m' < m∧W (i+1) m' σ' H')∧∀ x H',J.yld i H x H'→g x σ H' fun σ2 H2=>tb { D with nx:=N,ct:=N,bk:=D.nx } σ2 H2):=by
  refine ⟨fun i m σ H=>m=n - i∧i≤n∧Pv i σ H,⟨n,by simp,aaX _,h0⟩,?_⟩;rintro i m σ H ⟨rfl,hi,p⟩;have q:=hk i σ H hi p;by_cases hlt:i < n
  · exact .inr ⟨T.go i H hlt q,Pv (i+1),fun σ' H' p'=>⟨n - (i+1),by lia,rfl,hlt,p'⟩,fun x H' y=>hs i x σ H H' hlt (T.yld i H x H' hlt q y) p⟩
  · have e:i=n:=by lia
    subst e;exact .inl ⟨T.stop H q,hd σ H p⟩
def sV (H:Hp) (d:Addr):Prop:=∀ o v,H d≠some (.frz o v)
end L2
namespace PySem
open Sem (wp)
namespace F
theorem lk_list_keys:typeLookup (.type "list") "keys" = pure none:=by rw [typeLookup_type,builtinLookup_eq_fast];kernel_rfl
end F
section
variable {prog:Program} {w:World} {A:Around} {E:Value→Shared→Prop} {h:Heap} {g:Array GenState} {d:Drawn} {t:Nat} {os:OsState} {a:Addr} {xs:Array Value} {k:Nat}
theorem jd {Q:Option Value→Shared→Prop} (hh:A.handled=none) (hx:h.get? a=some { cls:=.type "list",dict:=none,data:=.seq xs k,slots:=#[] })
    (hQ:∀ h' t',(∀ b o,h.get? b=some o→h'.get? b=some o)→Q none ⟨h',g,d,t',os⟩) :
    wpAny (model prog w) A (getAttr? (.ref a) "keys") Q E ⟨h,g,d,t,os⟩:=by
  have hT:∀ tk',(⟨h,g,d,tk',os⟩:Shared).TypeIs (.ref a) "list":=fun _=>⟨_,hx,rfl⟩
  have f1:=sub_AttributeError;have f3:=F.slot_list_getattribute.lookup;have f4:=F.slot_list_getattribute.bind (.ref a);have f5:=am_list_getattr_none;unfold getAttr? getAttrBy?
  repeat (any_goals (first|assumption|exact hT _|((with_reducible show wpAny _ _ (call (Value.builtin "list.__getattribute__") _ _) _ _ _);refine call_meets F.slot_list_getattribute (hT _) am_entry_list_getattribute (F.args_list_getattribute_2 _ _) (meets_getattribute_miss_list a xs k #[] "keys" _ F.lk_list_keys (by decide +kernel)) ⟨hx,hh,fun h' tk' e hx'=>?_⟩)|wp_step))
  obtain ⟨t',u',he⟩:=hx'.there;show wpAny _ _ (getattributeRaised _ _ _ _ _ _ _) _ _ _;unfold getattributeRaised
  repeat (any_goals (first|assumption|wp_step))
  exact hQ h' tk' hx'.of.1
end
end PySem
namespace L2
open PySem PySem.Spec PyProof.Rows
section
variable {prog:Program} {w:World} {A:Around} {E:Value→Shared→Prop} {s:Shared}
theorem oi {it l d:Addr} {items:List Value} {Q:Value→Shared→Prop} (hh:A.handled=none) (hu:A.units+1 < cLine) (hdi:d≠it) (hli:l≠it) (hld:l≠d) (h₀:Heap) (xs:List (Addr × List Key × Addr × Value)) (hx:items=xs.map fun x=>.ref x.1) (hsz:xs.length≤1000)
    (hT:∀ x∈xs,x.1≠it∧x.1≠d∧x.2.2.1≠it∧x.2.2.1≠d∧IsTup h₀ x.1 #[.ref x.2.2.1,x.2.2.2]∧(tupleKind (aD prog w)).is h₀ x.2.1 x.2.2.1)
    (hQ:∀ h' t',h'.DictOfH (tupleKind (aD prog w)) d (bu [] (xs.map (·.2)))→(∀ b o,b≠it→b≠d→h₀.get? b=some o→h'.get? b=some o)→Q .none { s with heap:=h',toks:=t' }) :
    ∀ (k i:Nat) (h:Heap) (t:Nat),k+i=xs.length→h.IsListIter it l i→h.IsList l items.toArray→h.DictOfH (tupleKind (aD prog w)) d (bu [] ((xs.map (·.2)).take i))→(∀ b o,b≠it→b≠d→h₀.get? b=some o→h.get? b=some o) →
      codeAny (model prog w) A (.builtin "dict.update.loop" ⟨[.ref d,.ref it,rawInt i,.none],[]⟩) (wants Q E) { s with heap:=h,toks:=t }:=by
  have hlen:items.length=xs.length:=by rw [hx,aab]
  have kis:∀ {h h':Heap} {ks:List Key} {a:Addr},(tupleKind (aD prog w)).is h ks a→(∀ o,h.get? a=some o→h'.get? a=some o)→(tupleKind (aD prog w)).is h' ks a:=fun {h h' ks a} z kp=>by
    obtain ⟨o,its,n,h1,h2⟩:=z;exact ⟨o,its,n,kp _ h1,h2⟩
  intro k
  induction k with
  | zero =>
    intro i h t hk hit hl hd kp;have hi:i=xs.length:=by lia
    refine codeAny_builtin e_ ?_;rw [Around.under_plainId eU];unfold Builtin.«dict.update.loop»;show wpAny _ _ (pyNext (.ref it) >>= _) _ _ _;refine wpAny_bind (wpAny_pyNext_list_end (A:=A.in1) (s:={ s with heap:=h,toks:=t }) hh hit hl (by simp;lia) fun h' eb=>wpAny_bind (wpAny_pure (wpAny_pure (hQ h' t ?_ fun b o b2 b3 z=>eb b o b2 (kp b o b2 b3 z)))));rw [aaR (by simp;lia)] at hd;obtain ⟨o,es,ep,ho,h1,h2,h3,h4,h5⟩:=hd;have eb':∀ b o,b≠it→h.get? b=some o→h'.get? b=some o:=fun b o hb e=>eb b o hb e;refine ⟨o,es,ep,eb' _ _ hdi ho,h1,h2,h3,fun x hx'=>?_,h5⟩;have hm:∀ y∈bu [] (xs.map (·.2)),∃ z∈xs,z.2.2.1=y.2.1:=by
      have key:∀ (more acc:List (List Key × Addr × Value)),(∀ y∈acc,∃ z∈xs,z.2.2.1=y.2.1)→(∀ y∈more,∃ z∈xs,z.2.2.1=y.2.1)→∀ y∈bu acc more,∃ z∈xs,z.2.2.1=y.2.1:=by
        intro more
        induction more with
        | nil=>intro acc h1 _;exact h1
        | cons m r ih =>
          intro acc h1 h2;refine ih (storedH acc m.1 m.2.1 m.2.2) (fun y hy=>?_) fun y hy=>h2 y (aaj _ hy);unfold storedH at hy;split at hy
          · obtain ⟨z,hz,rfl⟩:=aaQ.mp hy;obtain ⟨z',hz',e⟩:=h1 z hz;refine ⟨z',hz',?_⟩;unfold putAt;split <;> exact e
          · rcases aat.mp hy with hy|hy
            · exact h1 y hy
            · rw [aak.mp hy];exact h2 m aan
      refine key _ _ (fun y hy=>by simp at hy) fun y hy=>?_;obtain ⟨z,hz,rfl⟩:=aaQ.mp hy;exact ⟨z,hz,rfl⟩
    obtain ⟨z,hz,e⟩:=hm x hx';refine kis (h4 x hx') fun o e2=>eb' _ _ ?_ e2;rw [← e];exact (hT z hz).2.2.1
  | succ k ih =>
    intro i h t hk hit hl hd kp;have hlt:i < xs.length:=by lia
    have hxi:xs[i]?=some xs[i]:=aaf hlt;have hii:items.toArray[i]?=some (.ref xs[i].1):=by rw [hx];simp [hlt]
    obtain ⟨n1,n2,n3,n4,hP,hK⟩:=hT xs[i] (acd hlt);refine codeAny_builtin e_ ?_;rw [Around.under_plainId eU];unfold Builtin.«dict.update.loop»;show wpAny _ _ (pyNext (.ref it) >>= _) _ _ _;refine wpAny_bind (wpAny_pyNext_list_item (A:=A.in1) (s:={ s with heap:=h,toks:=t }) hit hl hii fun h' hit' sb=>?_);have sb:abP it h h':=sb;refine wpAny_bind (wpAny_holding ?_);refine wpAny_bind (wpAny_tryCatch ?_);obtain ⟨oT,hoT,hcT,kT,hdT⟩:=hP;have hT':h'.get? xs[i].1=some oT:=(sb.2 _ n1).trans (kp _ _ n1 n2 hoT);unfold Builtin.Dict.pairItems;refine wpAny_bind (wpAny_typeOf (T:="tuple") ⟨_,hT',hcT⟩ ?_);rw [if_pos (by decide +kernel)];unfold seqItems?;refine wpAny_bind (wpAny_bind (wpAny_load hT' ?_));rw [hdT];refine wpAny_pure (wpAny_pure ?_);have hd':h'.DictOfH (tupleKind (aD prog w)) d (bu [] ((xs.map (·.2)).take i)):=by
      obtain ⟨o,es,ep,ho,h1,h2,h3,h4,h5⟩:=hd;refine ⟨o,es,ep,(sb.2 d hdi).trans ho,h1,h2,h3,fun x hx'=>?_,h5⟩;obtain ⟨o1,i1,n1,g1,g2⟩:=h4 x hx';by_cases c:x.2.1=it
      · obtain ⟨ol,hol,hcl,_⟩:=hit;rw [c,hol] at g1;cases g1;rw [g2.1] at hcl;exact absurd hcl (by decide)
      · exact ⟨o1,i1,n1,(sb.2 _ c).trans g1,g2⟩
    have hK':(tupleKind (aD prog w)).is h' xs[i].2.1 xs[i].2.2.1:=kis hK fun o e=>(sb.2 _ n3).trans (kp _ _ n3 n4 e);refine wpAny_holding (wpAny_dictSet_heap (knd:=tupleKind (aD prog w)) (s:={ s with heap:=h',toks:=t }) (k:=xs[i].2.1) (by show A.units+1 < cLine;lia) hK' hd' (fun h2 hd2 hs2=>wpAny_pure ⟨Code.quiet_builtin _ (by decide +kernel),?_⟩) ?_)
    · have hs2:abP d h' h2:=hs2;have e2:(xs.map (·.2))[i]?=some xs[i].2:=by rw [aam,hxi];rfl
      rw [← kG [] (xs.map (·.2)) i _ e2] at hd2;refine ih (i+1) h2 _ (by lia) ?_ ?_ hd2 ?_
      · exact hit'.at fun o x=>(hs2.2 it (abO hdi)).trans x
      · exact hl.at fun o x=>(hs2.2 l hld).trans ((sb.2 l hli).trans x)
      · exact fun b o b2 b3 z=>(hs2.2 b b3).trans ((sb.2 b b2).trans (kp b o b2 b3 z))
    · have mlen:∀ (more acc:List (List Key × Addr × Value)),(bu acc more).length≤acc.length+more.length:=by
        intro more
        induction more with
        | nil=>intro acc;exact aac _
        | cons m r ih =>
          intro acc;have a1:=ih (storedH acc m.1 m.2.1 m.2.2);have a2:=la acc m.1 m.2.1 m.2.2;show (bu (storedH acc m.1 m.2.1 m.2.2) r).length≤_;rw [aaL];lia
      have:=mlen ((xs.map (·.2)).take i) [];rw [aas,aab,aa1] at this;have:=aA hsz;lia
theorem im {l:Addr} {n:Nat} (xs:List (Addr × List Key × Addr × Value)) {Q:Value→Shared→Prop} (hh:A.handled=none) (hu:A.units+3 < cLine) (hl:s.heap.get? l=some { cls:=.type "list",dict:=none,data:=.seq (xs.map fun x=>Value.ref x.1).toArray n,slots:=#[] }) (hsz:xs.length≤1000)
    (hT:∀ x∈xs,IsTup s.heap x.1 #[.ref x.2.2.1,x.2.2.2]∧(tupleKind (aD prog w)).is s.heap x.2.1 x.2.2.1)
    (h:∀ h' t',h'.DictOfH (tupleKind (aD prog w)) s.heap.objs.size (bu [] (xs.map (·.2)))→(∀ b o,s.heap.get? b=some o→h'.get? b=some o)→Q (.ref s.heap.objs.size) { s with heap:=h',toks:=t' }) :
    wpAny (model prog w) A (call (.type "dict") [.ref l]) Q E s:=by
  refine callType_codes (Q₁:=fun obj s₁=>obj=.ref s.heap.objs.size∧s₁={ s with heap:=s.heap.push { cls:=.type "dict",data:=.dict #[] } }) F.kt_called_dict (F.kt_typeCall_dict_1 _) F.entry_dict_init (kt_code_dict_new _ ⟨rfl,rfl⟩) ?_;rintro obj s₁ ⟨rfl,rfl⟩;have hnew:(s.heap.push { cls:=.type "dict",data:=.dict #[] }).DictOf (aD prog w) s.heap.objs.size []:=Heap.DictOf.new s.heap;have kp:∀ b o,s.heap.get? b=some o→(s.heap.push { cls:=.type "dict",data:=.dict #[] }).get? b=some o:=fun b o q=>aah _ q;have hll:l < s.heap.objs.size:=aaq hl;have hl':=kp _ _ hl;refine ⟨hnew.typeIs,F.args_dict_init_2 _ _,?_⟩;unfold Builtin.«dict.__init__»;refine wpAny_bind ?_;unfold Builtin.Dict.selfAndRest;refine wpAny_bind (wpAny_notOrdered_dict hnew.typeIs ?_);show wpAny _ _ (pure (s.heap.objs.size,[Value.ref l])) _ _ _;refine wpAny_pure ?_;show wpAny _ _ (Builtin.Dict.updateFrom "dict.__init__" s.heap.objs.size (.ref l) [] .none) _ _ _;unfold Builtin.Dict.updateFrom;refine wpAny_bind (wpAny_typeOf (T:="list") ⟨_,hl',rfl⟩ ?_);rw [if_pos (by decide +kernel)];refine wpAny_bind (jd (A:=A.in1.in1) hh hl' fun h1 t1 k1=>?_);rw [if_pos (by rfl)];refine wpAny_bind (wpAny_rule ?_);have hl1:=k1 _ _ hl';have iL:h1.IsList l (xs.map fun x=>Value.ref x.1).toArray:=⟨_,hl1,rfl,_,rfl⟩
  refine wpAny_bind (wpAny_pyIter_list (s:={ s with heap:=h1,toks:=t1 }) iL (wpAny_pure ⟨Code.quiet_builtin _ (by decide +kernel),?_⟩));have k2:∀ b o,s.heap.get? b=some o→h1.get? b=some o:=fun b o q=>k1 _ _ (kp _ _ q);have dlt:s.heap.objs.size < h1.objs.size:=aaq (k1 _ _ (aaG _ rfl));have lt1:∀ b,b < s.heap.objs.size→b≠h1.objs.size∧b≠s.heap.objs.size:=fun b hb=>⟨aaA (Nat.lt_trans hb dlt),aaA hb⟩
  refine oi (A:=A.in1) (s:={ s with heap:=h1,toks:=t1 }) (l:=l) (items:=xs.map fun x=>Value.ref x.1) (Q:=fun r s₂=>r=.none∧Q (.ref s.heap.objs.size) s₂) hh (by show A.units+1+1 < cLine;lia) (aaA dlt) (lt1 l hll).1 (lt1 l hll).2 s.heap xs rfl hsz (fun x hx=>?_) (fun h2 t2 hd2 kk=>⟨rfl,h h2 t2 hd2 fun b o q=>kk b o (lt1 b (aaq q)).1 (lt1 b (aaq q)).2 q⟩) xs.length 0 _ t1 (by lia) ⟨_,aaG _ rfl,rfl,rfl⟩ (iL.at fun o x=>aah _ x) ?_ fun b o _ _ q=>aah _ (k2 _ _ q)
  · obtain ⟨hP,hK⟩:=hT x hx;have p1:x.1 < s.heap.objs.size:=by obtain ⟨o,e,_⟩:=hP;exact aaq e
    have p2:x.2.2.1 < s.heap.objs.size:=by obtain ⟨o,_,_,e,_⟩:=hK;exact aaq e
    exact ⟨(lt1 _ p1).1,(lt1 _ p1).2,(lt1 _ p2).1,(lt1 _ p2).2,hP,hK⟩
  · rw [ab5];refine ⟨_,#[],0,aah _ (k1 _ _ (aaG _ rfl)),⟨rfl,rfl,rfl⟩,rfl,rfl,fun x hx=>by simp [bu] at hx,by simp [bu]⟩
end
abbrev PrT:=Addr × Addr × List Key × V
def qu (H:Hp) (b:PrT):Prop:=H b.1=some (.tup [.ref b.2.1,b.2.2.2])∧H b.2.1=some (.tup (b.2.2.1.map kV))
theorem qo {P:Program} {w:World} {H:Hp} {h:Heap} (ok:HOk P w H h):∀ {bs:List PrT} {ws:List Value},Vals (bs.map fun b=>V.ref b.1) ws→(∀ b∈bs,qu H b)→∃ xs:List (Addr × List Key × Addr × Value),ws=xs.map (fun x=>Value.ref x.1)∧KT H (bs.map (·.2.2)) (xs.map (·.2))∧∀ x∈xs,IsTup h x.1 #[.ref x.2.2.1,x.2.2.2]∧(tupleKind (aD P w)).is h x.2.1 x.2.2.1
  | [],_,r,_=>by rw [abh] at r;cases r;exact ⟨[],rfl,.nil,fun x hx=>nomatch hx⟩
  | b :: bs,_,r,hk=>by
    rw [aav] at r;cases r with
    | @cons x y as cs h1 t =>
      obtain ⟨xs,e,q,al⟩:=qo ok t (fun b hb=>hk b (aaj _ hb));obtain ⟨k1,k2⟩:=hk b aan;have e1:y=Value.ref b.1:=h1;subst e1;obtain ⟨_,its,rv,pt⟩:=(show ObjOk P w H h b.1 (.tup [.ref b.2.1,b.2.2.2]) from ok _ _ k1)
      obtain ⟨u1,u2,rfl,r1,r2⟩:=rn rv;have r1:u1=Value.ref b.2.1:=r1;subst r1;refine ⟨(b.1,b.2.2.1,b.2.1,u2) :: xs,by rw [e];rfl,.cons ⟨rfl,k2,r2⟩ q,fun x hx=>?_⟩;rcases aaC.mp hx with rfl|hx
      · exact ⟨pt,kI ok k2⟩
      · exact al x hx
theorem m4 {X:Cx} (hc:X.calm=true) (hu:X.A.units+64 < cLine):di X (.type "dict") (fun xs H Q=>∃ (l:Addr) (bs:List PrT),xs=[.ref l]∧H l=some (.lst (bs.map fun b=>V.ref b.1))∧(∀ b∈bs,qu H b)∧bs.length≤1000∧∀ d,H d=none→Q (.ref d) (upd H d (.dT (cu [] (bs.map (·.2.2)))))):=by
  intro pins s σ H xs us Q I r h;obtain ⟨l,bs,rfl,hl,hb,hz,q⟩:=h;obtain ⟨u,rfl,rx⟩:=ez r;cases rx;obtain ⟨z,its,n,rv,gl⟩:=(show ObjOk X.prog X.w H s.heap l (.lst _) from I.hok l _ hl)
  obtain ⟨ys,rfl,rk,al⟩:=qo I.hok rv hb;have ly:=aaH rk;rw [aab,aab] at ly;refine im ys (I.ok.hd hc) (by lia) gl (by lia) al fun h' t' dd hk=>?_;refine ⟨.ref s.heap.objs.size,_,I.laid (a:=s.heap.objs.size) (o:=.dT (cu [] (bs.map (·.2.2)))) (t':=t') hk (aac _) ?_,rfl,q _ (I.hok.fresh (aac _))⟩;have h1:=i_ (bs.map (·.2.2)) [];rw [aa1,aab] at h1;have:=aA hz;obtain ⟨o,es,ep,ho,g1,g2,g3,_,g5⟩:=dd;have hb':sysModules < s.heap.objs.size:=I.big;refine ⟨by lia,by simpa using abj hb',_,(KT.merge rk .nil).keeps fun c ys ec=>?_,o,es,ep,ho,g1,g2,g3,g5⟩;rw [aF (fun e=>?_)]
  · exact ec
  · rw [e,I.hok.fresh (aac _)] at ec;cases ec
open PySem PySem.Spec PyProof.Rows
section
variable {X:Cx}
end
structure FunD (K:aaa) (x qual:Str) (st:Stmt) (f:Addr) (fd:FuncData) (tD:Addr):Prop where
  ex:∃ (oc:Value) (od:Option Addr) (kV doc pm:Value) (an:Option Addr) (cdv ct:Value) (osl:Array (Option Value)),
    fd=abc x qual (cA st) (bZ st) (ai st) (.ref tD) kV doc pm an cdv ct∧K.lookup f=some ⟨oc,od,.func fd,osl⟩∧abz K cdv qual=true
  kp:aa9 K (.ref f)=true
section
variable {P:Program} {w:World} {K:aaa} {mg:Str→Option Value} {base:Heap}
end
open PySem PySem.Spec PyProof.Rows
section
variable {X:Cx} {tg:Expr}
end
open PySem PySem.Spec PyProof.Rows
end L2
namespace L2
open PySem PySem.Spec PyProof.Rows PySem.W
section
variable {prog:Program} {w:World} {A:Around} {E:Value→Shared→Prop} {s:Shared}
end
open PySem PySem.Spec PyProof.Rows
def sC (e l:Nat→Bool) (n m:Nat):Nat→Nat→Bool
  | _,0=>decide (n < m)
  | j,k+1=>if e j=true then sC e l n m (j+1) k else l j
section
open PySem.SeqAt
open PySem.AutoSeq1 (wpAny_loadPart')
open PySem.MeetsSeq PySem.MeetsSeq2 PySem.MeetsSeq3
end
inductive LtR (K:aaa) (H:Hp):Nat→V→V→Bool→Prop
  | int {n:Nat} {a b:Int}:LtR K H n (.int a) (.int b) (decide (a < b))
  | tup {n:Nat} {a b:Addr} {xs ys:List V} {e l:Nat→Bool} (ha:SqT K H a xs) (hb:SqT K H b ys) (h:∀ (j:Nat) x y,xs[j]?=some x→ys[j]?=some y→EqR K H n x y (e j)) (hl:∀ (j:Nat) x y,xs[j]?=some x→ys[j]?=some y→e j=false→LtR K H n x y (l j)) :
      LtR K H (n+1) (.ref a) (.ref b) (sC e l xs.length ys.length 0 (min xs.length ys.length))
section
variable {X:Cx} {pins:List (Addr × Obj)} {σ:St} {H:Hp} {s:Shared}
end
section
variable {X:Cx}
end
open PySem PySem.Spec PyProof.Rows
def Fq (K:aaa) (x:Str) (s:Stmt) (f:Addr):Prop:=aay K mainGlobals x=some (some (.ref f))∧∃ fd,Fun K x x s f fd
theorem Fq.mk4 {K:aaa} {x:Str} {st:Stmt} {f:Addr} {oc:Value} {od an:Option Addr} {osl:Array (Option Value)} {kV doc pm cdv ct:Value} (a:aay K mainGlobals x=some (some (.ref f))) (l:K.lookup f=some ⟨oc,od,.func (abc x x (cA st) (bZ st) (ai st) .none kV doc pm an cdv ct),osl⟩)
    (c:abz K cdv x=true) (k:aa9 K (.ref f)=true):Fq K x st f:=⟨a,_,pX l c k⟩
theorem Fq.use {K:aaa} {x:Str} {st:Stmt} {f:Addr} {h:Heap} {mg:Str→Option Value} (q:Fq K x st f) (X:K.In h) (G:h.Ns mainGlobals mg) {ps:List Str}
    (hb:∀ (kV doc pm:Value) (an:Option Addr) (cdv ct:Value) (us:List Value),us.length=ps.length→bindArgs (abc x x (cA st) (bZ st) (ai st) .none kV doc pm an cdv ct) ⟨us,[]⟩=pure (ps.zip us)):∃ fd,Fun K x x st f fd∧Binds K fd ps []∧mg x=some (.ref f):=by
  obtain ⟨a,fd,F⟩:=q;exact ⟨fd,F,F.binds hb,abo X G a⟩
open PySem PySem.Spec PyProof.Rows
end L2
namespace Tim
open PySem PyProof.Rows
structure Ord (M:Model) (A:Around) (E:Value→Shared→Prop) (s:Shared) (κ:SortKind) (P:Keyed→Prop) (lt:Keyed→Keyed→Bool):Prop where
  ask:∀ {x y:Keyed} {st:SortSt} {Q:Option Bool→SortSt→Prop},P x→P y→kindOf st=κ→Q (some (lt x y)) st→wpS M A E s (lt' x y) Q st
  asym:∀ {x y:Keyed},P x→P y→lt x y=true→lt y x=false
  trans:∀ {x y z:Keyed},P x→P y→P z→lt y x=false→lt z y=false→lt z x=false
section
variable {M:Model} {A:Around} {E:Value→Shared→Prop} {s:Shared} {κ:SortKind} {P:Keyed→Prop} {lt:Keyed→Keyed→Bool}
structure Bnd (B:Nat→Bool) (n k:Nat):Prop where
  le:k≤n
  lo:∀ i,i < k→B i=true
  hi:∀ i,k≤i→i < n→B i=false
end
end Tim
namespace Tim
open PySem PyProof.Rows
def Le (lt:Keyed→Keyed→Bool) (x y:Keyed):Prop:=lt y x=false
structure Mg (lt:Keyed→Keyed→Bool) (a b out:List Keyed) (ia ib:Nat):Prop where
  ha:ia≤a.length
  hb:ib≤b.length
  perm:out.Perm (a.take ia++b.take ib)
  srt:out.Pairwise (Le lt)
  le:∀ x∈out,∀ y,(y∈a.drop ia∨y∈b.drop ib)→Le lt x y
section
variable {lt:Keyed→Keyed→Bool} {a b out:List Keyed} {ia ib:Nat}
end
structure SameS (st st':SortSt):Prop where
  arr:arrOf st'=arrOf st
  pend:pendingOf st'=pendingOf st
  kind:kindOf st'=kindOf st
  fail:failedOf st'=failedOf st
section
variable {M:Model} {A:Around} {E:Value→Shared→Prop} {s:Shared} {κ:SortKind} {P:Keyed→Prop} {lt:Keyed→Keyed→Bool}
end
end Tim
namespace Tim
open PySem PyProof.Rows
structure Mh (lt:Keyed→Keyed→Bool) (a b out:List Keyed) (na nb:Nat):Prop where
  ha:na≤a.length
  hb:nb≤b.length
  perm:out.Perm (a.drop na++b.drop nb)
  srt:out.Pairwise fun x y=>Le lt y x
  le:∀ x∈out,∀ y,(y∈a.take na∨y∈b.take nb)→Le lt y x
section
variable {lt:Keyed→Keyed→Bool} {a b out:List Keyed} {na nb:Nat}
end
section
variable {M:Model} {A:Around} {E:Value→Shared→Prop} {s:Shared} {κ:SortKind} {P:Keyed→Prop} {lt:Keyed→Keyed→Bool}
end
end Tim
namespace Tim
open PySem PyProof.Rows
def seg (L:List Keyed) (s n:Nat):List Keyed:=(L.drop s).take n
structure Mrgd (lt:Keyed→Keyed→Bool) (L L':List Keyed) (s n:Nat):Prop where
  ex:∃ R,R.Perm (seg L s n)∧R.Pairwise (Le lt)∧L'=L.take s++R++L.drop (s+n)
section
variable {M:Model} {A:Around} {E:Value→Shared→Prop} {s:Shared} {κ:SortKind} {P:Keyed→Prop} {lt:Keyed→Keyed→Bool}
end
end Tim
namespace Tim
open PySem PyProof.Rows
def vx (a:Array Keyed) (i:Nat):Keyed:=(a[i]?).getD (Value.none,Value.none)
section
variable (lt:Keyed→Keyed→Bool)
def Up (a:Array Keyed) (lo n:Nat):Prop:=∀ i j,i < j→j < n→Le lt (vx a (lo+i)) (vx a (lo+j))
end
structure Kp (a a':Array Keyed) (lo:Nat):Prop where
  perm:a'.Perm a
  low:∀ k,k < lo→a'[k]?=a[k]?
structure SameA (st st':SortSt):Prop where
  pend:pendingOf st'=pendingOf st
  kind:kindOf st'=kindOf st
  fail:failedOf st'=failedOf st
section
variable {M:Model} {A:Around} {E:Value→Shared→Prop} {s:Shared} {κ:SortKind} {P:Keyed→Prop} {lt:Keyed→Keyed→Bool}
end
end Tim
namespace Tim
open PySem PyProof.Rows
section
variable {M:Model} {A:Around} {E:Value→Shared→Prop} {s:Shared} {κ:SortKind} {P:Keyed→Prop} {lt:Keyed→Keyed→Bool}
end
def Runs (lt:Keyed→Keyed→Bool) (a:Array Keyed):List (Nat × Nat × Nat)→Nat→Nat→Prop
  | [],f,t=>f=t
  | (s,n,_) :: r,f,t=>s=f∧1≤n∧Up lt a s n∧Runs lt a r (s+n) t
section
variable {lt:Keyed→Keyed→Bool} {a a':Array Keyed}
end
end Tim
namespace Tim
open PySem PyProof.Rows
structure SI (κ:SortKind) (lt:Keyed→Keyed→Bool) (a₀:Array Keyed) (st:SortSt) (lo:Nat):Prop where
  kind:kindOf st=κ
  fail:failedOf st=none
  perm:(arrOf st).Perm a₀
  runs:Runs lt (arrOf st) (pendingOf st).toList 0 lo
  le:lo≤a₀.size
section
variable {M:Model} {A:Around} {E:Value→Shared→Prop} {s:Shared} {κ:SortKind} {P:Keyed→Prop} {lt:Keyed→Keyed→Bool} {a₀:Array Keyed}
end
end Tim
namespace Tim
open PySem PyProof.Rows
section
variable {prog:Program} {w:World} {A:Around} {E:Value→Shared→Prop} {s:Shared}
end
end Tim
namespace L2
open PySem PySem.Spec PyProof.Rows
open PySem PySem.Spec PyProof.Rows
open PySem PySem.Spec PyProof.Rows
section
variable {prog:Program} {w:World} {A:Around} {E:Value→Shared→Prop} {s:Shared}
end
end L2
namespace L2
open PySem
def ug (xs:Array Nat):Prop:=xs.toList.Pairwise (· < ·)
def Okm (m:Nat):Prop:=m=7∨m=15∨m=31∨m=63∨m=127∨m=255∨m=511∨m=1023
def lp (m:Nat):Nat→Nat→Nat→Nat × Nat
  | 0,i,p=>(i,p)
  | L+1,i,p=>lp m L ((i * 5+1+p / 32) % (m+1)) (p / 32)
end L2
namespace L2
open PySem
end L2
namespace L2
open PySem
structure GT (n:Nat) (b:Bool) (t:SetTable):Prop where
  okm:Okm t.mask
  dum:t.dummies=#[]
  pl:t.plain=true
  rise:ug t.place
  size:t.place.size=n
  led:t.led=b
  room:n * 5 < t.mask * 3
structure GT1 (n:Nat) (b:Bool) (t:SetTable):Prop where
  okm:Okm t.mask
  dum:t.dummies=#[]
  pl:t.plain=true
  rise:ug t.place
  size:t.place.size=n
  led:t.led=b
  room:(n - 1) * 5 < t.mask * 3
open PySem PySem.Spec PyProof.Rows
section
variable {prog:Program} {w:World} {A:Around} {E:Value→Shared→Prop} {s:Shared}
end
end L2
set_option maxHeartbeats 3200000
namespace L2
open PySem PySem.Spec PyProof.Rows
section
variable {prog:Program} {w:World} {A:Around} {E:Value→Shared→Prop} {s:Shared}
variable {R:Result→Shared→Prop} {I:Addr} {fp wr:List Addr} {G:Array GenState→Array GenState→Prop} {n:Nat} {P:Nat→Value→Prop} {St:Nat→Shared→Prop}
end
section
variable {prog:Program} {w:World} {A:Around} {E:Value→Shared→Prop} {s:Shared}
end
open PySem PySem.Spec PyProof.Rows
section
variable {prog:Program} {w:World} {A:Around} {E:Value→Shared→Prop} {s:Shared}
end
end L2
namespace PySem.F
end PySem.F
namespace L2
open PySem PySem.Spec PyProof.Rows
section
variable {prog:Program} {w:World} {A:Around} {E:Value→Shared→Prop} {s:Shared}
end
open PySem PySem.Spec PyProof.Rows
section
variable {prog:Program} {w:World} {A:Around} {E:Value→Shared→Prop} {s:Shared}
end
open PySem PySem.Spec PyProof.Rows
end L2
namespace PySem.F
end PySem.F
namespace L2
open PySem PySem.Spec PyProof.Rows
structure SI (prog:Program) (w:World) (h:Heap) (a:Addr) (o:Obj) (es:Array (Int × Value)) (ep:Nat) (t:SetTable):Prop where
  at':h.get? a=some o
  ex:o.ExactSet
  dat:o.data=.set es ep t
  fit:t.fits es.size=true
  els:ElemsOf (intKind prog w) es.toList
  few:es.size < scanBound
section
variable {prog:Program} {w:World} {A:Around} {E:Value→Shared→Prop} {s:Shared}
end
open PySem PySem.Spec PyProof.Rows
section
variable {prog:Program} {w:World} {A:Around} {E:Value→Shared→Prop} {s:Shared}
end
open PySem PySem.Spec PyProof.Rows
section
variable {prog:Program} {w:World} {A:Around} {E:Value→Shared→Prop} {s:Shared}
end
open PySem PySem.Spec PyProof.Rows
section
variable {prog:Program} {w:World} {A:Around} {E:Value→Shared→Prop} {s:Shared}
end
open PySem PySem.Spec PyProof.Rows
section
variable {prog:Program} {w:World} {A:Around} {E:Value→Shared→Prop} {s:Shared}
end
open PySem PySem.Spec PyProof.Rows
section
variable {prog:Program} {w:World} {A:Around} {E:Value→Shared→Prop} {s:Shared}
end
open PySem PySem.Spec PyProof.Rows
open PySem PySem.Spec PyProof.Rows
open PySem PySem.Spec PyProof.Rows
open PySem PySem.Spec PyProof.Rows
open PySem PySem.Spec PyProof.Rows
section
variable {X:Cx}
end
open PySem PySem.Spec PyProof.Rows
open PySem PySem.Spec PyProof.Rows
section
open PySem.SeqAt
open PySem.AutoSeq1 (wpAny_loadPart')
open PySem.MeetsSeq PySem.MeetsSeq2 PySem.MeetsSeq3
end
inductive LtQ (K:aaa) (H:Hp):Nat→V→V→Bool→Prop
  | int {n:Nat} {a b:Int}:LtQ K H n (.int a) (.int b) (decide (a < b))
  | lst {n:Nat} {a b:Addr} {xs ys:List V} {e l:Nat→Bool} (ha:SqL K H a xs) (hb:SqL K H b ys) (h:∀ (j:Nat) x y,xs[j]?=some x→ys[j]?=some y→EqR K H n x y (e j)) (hl:∀ (j:Nat) x y,xs[j]?=some x→ys[j]?=some y→e j=false→LtQ K H n x y (l j)) :
      LtQ K H (n+1) (.ref a) (.ref b) (sC e l xs.length ys.length 0 (min xs.length ys.length))
section
variable {X:Cx} {pins:List (Addr × Obj)} {σ:St} {H:Hp} {s:Shared}
end
end L2
namespace Tim
open PySem PyProof.Rows
section
variable {prog:Program} {w:World} {A:Around} {E:Value→Shared→Prop} {s:Shared}
end
end Tim
namespace L2
open PySem PySem.Spec PyProof.Rows
section
variable {prog:Program} {w:World} {A:Around} {E:Value→Shared→Prop} {s:Shared}
end
structure Rnk (K:aaa) (H:Hp) (n:Nat) (us:List V) (kf:V→Int):Prop where
  two:∀ x∈us,∃ t k wv ks,x=.ref t∧H t=some (.tup [.ref k,wv])∧H k=some (.lst ks)
  cmp:∀ t t' k k' wv wv',V.ref t∈us→V.ref t'∈us→H t=some (.tup [.ref k,wv])→H t'=some (.tup [.ref k',wv']) →
    EqR K H n (.ref k) (.ref k') (decide (kf (.ref t)=kf (.ref t')))∧(kf (.ref t)≠kf (.ref t')→LtQ K H n (.ref k) (.ref k') (decide (kf (.ref t) < kf (.ref t'))))∧(kf (.ref t)=kf (.ref t')→EqR K H n wv wv' true)
open PySem PySem.Spec PyProof.Rows
section
variable {X:Cx} {tg:Expr}
end
section
variable {X:Cx}
end
open PySem PySem.Spec PyProof.Rows
open PySem PySem.Spec PyProof.Rows
section
variable {X:Cx} {pos:Pos}
end
end L2
namespace L2
open PySem PySem.Spec PyProof.Rows PySem.W
section
variable {X:Cx} {pins pl:List (Addr × Obj)} {σ:St} {H:Hp} {s:Shared}
end
section
variable {X:Cx}
end
end L2
namespace L2
open PySem PySem.Spec PyProof.Rows PySem.W
section
variable {X:Cx} {pins pl:List (Addr × Obj)} {σ:St} {H:Hp} {s:Shared}
end
section
variable {X:Cx}
end
open PySem PySem.Spec PyProof.Rows
inductive Thw (H:Hp):Hp→Hp→Prop
  | refl (H1:Hp):Thw H H1 H1
  | step {H1 H2:Hp} {d:Addr} {o:Obj} {u:HO} (h:Thw H H1 H2) (nf:sV H d) (e:H2 d=some (.frz o u)):Thw H H1 (upd H2 d u)
open PySem PySem.Spec PyProof.Rows
open PySem PySem.Spec PyProof.Rows
section
variable {X:Cx} {tg:Expr}
end
open PySem PySem.Spec PyProof.Rows
section
variable {prog:Program} {w:World} {A:Around} {E:Value→Shared→Prop} {R:Result→Shared→Prop} {s:Shared}
end
section
variable {prog:Program} {w:World}
end
section
variable {X:Cx}
end
open PySem PySem.Spec PyProof.Rows
theorem ot:seqSlot? (.type "list") (dunderI "add")=pure (some (.builtin "list.__iadd__")):=PySem.seqSlot_of F.slot_list_iadd.lookup (by decide +kernel)
section
variable {M:Model} {A:Around} {E:Value→Shared→Prop} {s:Shared}
theorem kK {a b:Value} {Q:Value→Shared→Prop} (ha:s.TypeIs a "list") (hb:s.TypeIs b "list") (hc:wpAny M A (call (.builtin "list.__iadd__") [a,b]) Q E s):wpAny M A (inplaceOp .Add a b) Q E s:=by
  unfold inplaceOp;refine wpAny_holding ?_;have hfi:fillsInplaceSlot (.type "list") "add" (Operator.Add == .Add)=pure false:=by
    unfold fillsInplaceSlot;show (typeLookup (.type "list") (dunderI "add") >>= fun fi=>pure (fi.isSome && !isSeqSlot fi))=pure false;rw [F.slot_list_iadd.lookup];rfl
  refine wpAny_bind (wpAny_typeOf ha (wpAny_bind (wpAny_of_eq hfi ?_)));show wpAny M A (if false=true then _ else _) Q E s;rw [if_neg aai];refine wpAny_bind (wpAny_binaryOp1_none (nm:="add") ha hb noFill_list_add ?_);refine wpAny_bind (wpAny_of_eq ot ?_);exact wpAny_bind (wpAny_rule hc)
end
section
variable {X:Cx}
def tX:TIp:=fun x y H Q=>∃ l b xs zs,x=.ref l∧y=.ref b∧H l=some (.lst xs)∧H b=some (.lst zs)∧xs.length+zs.length≤sizeLine∧Q (.ref l) (upd H l (.lst (xs++zs)))
theorem sN:PIp X .Add tX:=by
  intro pins s σ H x y v u Q I rx ry h;obtain ⟨l,b,xs,zs,rfl,rfl,hH,hB,hz,q⟩:=h;cases rx;cases ry;obtain ⟨z,its,n,r,hl,e⟩:=I.lstM hH;obtain ⟨z2,its2,n2,r2,hl2,e2⟩:=I.lstM hB;have hsz:its.toArray.size+its2.toArray.size≤sizeLine:=by rw [aad,aad];lia
  have hlong:¬ (!its.toArray.isEmpty && abv (its.toArray.size+its2.toArray.size))=true:=by
    rw [lR hsz,Bool.and_false];exact aai
  refine kK ⟨_,e,rfl⟩ ⟨_,e2,rfl⟩ ?_;refine call_meets F.slot_list_iadd ⟨_,e,rfl⟩ F.entry_list_iadd (F.args_list_iadd_2 _ _)
    (AutoSeq1.list___iadd___list_list_0 l its.toArray n b its2.toArray n2 hlong (by rw [aad];lia) (by lia)) ⟨e,e2,?_⟩
  refine ⟨.ref l,_,I.lset (its':=its++its2) hH e (by simp) (r.append r2) ?_,rfl,q⟩;rw [aag];lia
end
open PySem PySem.Spec PyProof.Rows
open PySem PySem.Spec PyProof.Rows
section
variable {X:Cx} {pins:List (Addr × Obj)} {σ:St} {H:Hp} {s:Shared}
end
end L2
namespace L2
open PySem
variable {X:Cx}
end L2
namespace L2
open PySem PyProof.Rows PySem.W
open PySem PySem.Spec PyProof.Rows
theorem qP {X:Cx} {a:Expr} {ta:TE} {pos:Pos} (ha:PE X a ta):PE X (.UnaryOp .Not a pos) (fun σ H Q=>ta σ H fun x H'=>∃ k,sS X.K x H' k∧Q (.bl (!k)) H'):=by
  intro pins s σ H Q I h;refine UnaryOp_ (thn (ha pins s σ H _ I h) fun v s1 ⟨x,H1,I1,r1,k,tr,q1⟩=>?_);exact not_of (thn (oS pins s1 σ H1 x v _ I1 r1 ⟨k,tr,q1⟩) fun b s2 ⟨H2,I2,q2⟩=>⟨.bl (!b),H2,I2,rfl,q2⟩)
theorem Same.upd {H H1:Hp} {p:Addr} {o:HO} (a:Same H H1) (h:H p=none):Same H (L2.upd H1 p o):=fun b u q=>by
  rw [aF (aH q h)];exact a b u q
end L2
namespace Put
open PySem L2
def top (i:Nat):Stmt:=PySem.Challenge.pw_putsigns_k32_first_ways_and_twins_of_lon.main.body.getD i (.Pass ⟨0,0,0,0⟩)
inductive Sg where
  | plus|minus|times
  deriving DecidableEq
def Sg.str:Sg→Str
  | .plus=>"+"
  | .minus=>"-"
  | .times=>"*"
inductive Wy where
  | num (i:Int)
  | node (g:Sg) (l r:Wy)
  deriving DecidableEq
def Wy.size:Wy→Nat
  | .num _=>1
  | .node _ l r=>l.size+r.size
def Wy.knots:Wy→Nat
  | .num _=>1
  | .node _ l r=>l.knots+r.knots+1
theorem Wy.size_pos:∀ w:Wy,1≤w.size
  | .num _=>aac _
  | .node _ l r=>by have:=l.size_pos;show 1≤l.size+r.size;lia
theorem Wy.knots_eq:∀ w:Wy,w.knots+1=2 * w.size
  | .num _=>rfl
  | .node _ l r=>by have a:=l.knots_eq;have b:=r.knots_eq;show l.knots+r.knots+1+1=2 * (l.size+r.size);lia
def WyIn (H:Hp):Wy→V→Prop
  | .num i,v=>v=.int i
  | .node g l r,v=>∃ a vl vr,v=.ref a∧H a=some (.tup [.str g.str,vl,vr])∧WyIn H l vl∧WyIn H r vr
def Tups (H H':Hp):Prop:=∀ b xs,H b=some (.tup xs)→H' b=some (.tup xs)
theorem Tups.of {H H':Hp} (a:Same H H'):Tups H H':=fun b xs h=>a b _ h
theorem Tups.but {H H':Hp} {w:Addr} {xs:List V} (a:But w H H') (h:H w=some (.lst xs)):Tups H H':=fun b ys q=>a b _ (fun e=>by rw [e,h] at q;cases q) q
theorem Tups.trans {H H1 H2:Hp} (a:Tups H H1) (b:Tups H1 H2):Tups H H2:=fun c xs h=>b c xs (a c xs h)
theorem WyIn.mono {H H':Hp} (t:Tups H H'):∀ {w:Wy} {v:V},WyIn H w v→WyIn H' w v
  | .num _,_,h=>h
  | .node g l r,v,h=>by
    obtain ⟨a,vl,vr,e,h1,h2,h3⟩:=h;exact ⟨a,vl,vr,e,t _ _ h1,WyIn.mono t h2,WyIn.mono t h3⟩
def WyAll (H:Hp) (ws:List Wy) (vs:List V):Prop:=Paired (fun w v=>WyIn H w v) ws vs
theorem WyAll.mono {H H':Hp} (t:Tups H H') {ws:List Wy} {vs:List V} (p:WyAll H ws vs):WyAll H' ws vs:=by
  induction p with
  | nil=>exact .nil
  | cons a _ ih=>exact .cons (a.mono t) ih
theorem WyAll.snoc {H:Hp} {w:Wy} {v:V} (h:WyIn H w v):∀ {ws:List Wy} {vs:List V},WyAll H ws vs→WyAll H (ws++[w]) (vs++[v])
  | _,_,.nil=>.cons h .nil
  | _,_,.cons a b=>.cons a (WyAll.snoc h b)
theorem WyAll.length {H:Hp}:∀ {ws:List Wy} {vs:List V},WyAll H ws vs→ws.length=vs.length
  | _,_,.nil=>rfl
  | _,_,.cons _ b=>congrArg (·+1) (WyAll.length b)
def fY (ws:List Wy):Nat:=(ws.map Wy.size).sum
def d_ (ws:List Wy):Nat:=(ws.map Wy.knots).sum
theorem fD (ws:List Wy) (w:Wy):fY (ws++[w])=fY ws+w.size:=by simp [fY]
theorem eY (ws:List Wy) (w:Wy):d_ (ws++[w])=d_ ws+w.knots:=by simp [d_]
theorem cG:∀ ws:List Wy,ws.length≤fY ws
  | []=>aac _
  | w :: r=>by
    have a:=cG r;have b:=w.size_pos;show r.length+1≤(w.size :: r.map Wy.size).sum;rw [aaS];have : fY r=(r.map Wy.size).sum:=rfl;lia
theorem WyAll.last {H:Hp} {ws:List Wy} {vs:List V} (h:WyAll H ws vs) (ne:vs≠[]):∃ ws' w vs' v,ws=ws'++[w]∧vs=vs'++[v]∧WyAll H ws' vs'∧WyIn H w v:=by
  induction h with
  | nil=>exact absurd rfl ne
  | @cons w v ws vs a b ih =>
    cases b with
    | nil=>exact ⟨[],w,[],v,rfl,rfl,.nil,a⟩
    | cons a' b' =>
      obtain ⟨ws',w',vs',v',e1,e2,h1,h2⟩:=ih (by simp);exact ⟨w :: ws',w',v :: vs',v',by rw [e1];rfl,by rw [e2];rfl,.cons a h1,h2⟩
structure Bu (K:aaa) (mg:Str→Option Value):Prop where
  ilen:mg "len" = none
  iisinstance : mg "isinstance" = none
  iint:mg "int" = none
  ibool:mg "bool" = none
  istr:mg "str" = none
  ituple:mg "tuple" = none
  ilist:mg "list" = none
  isorted:mg "sorted" = none
  irange:mg "range" = none
  irepr:mg "repr" = none
  ienumerate:mg "enumerate" = none
  isum:mg "sum" = none
  iall:mg "all" = none
  imin:mg "min" = none
  imax:mg "max" = none
  iabs:mg "abs" = none
  idivmod:mg "divmod" = none
  idict:mg "dict" = none
  iset:mg "set" = none
  ireversed:mg "reversed" = none
  iany:mg "any" = none
  izip:mg "zip" = none
structure Co (K:aaa) (mg:Str→Option Value) (tk:Tok) (aS:Addr):Prop where
  gMOST_NUMBERS:mg "MOST_NUMBERS" = some (.int 9 tk)
  gSIGNS:mg "SIGNS" = some (.ref aS)
  sSIGNS:∀ H,SqT K H aS [.str "+",.str "-",.str "*"]
section
variable {P:Program} {w:World} {K:aaa} {mg:Str→Option Value} {base:Heap} {f:Addr} {fd:FuncData}
def bE (K:aaa):Sp:=fun vs H Q _=>∃ x n,vs=[x]∧TyOf K H x (.type n)∧Q (.bl (decide (n = "int"))) H
abbrev fL:Stmt:=top 11
theorem lq:FnScope ["thing"] ["thing"] (ai fL):=⟨rfl,rfl,rfl,by decide +kernel,rfl,by decide +kernel,by decide +kernel⟩
theorem lN (F:Fun K "is_whole" "is_whole" fL f fd) (B:Bu K mg):FnOk P w K mg base CX0 1 f fd ["thing"] (bE K):=by
  refine F.ok lq (fun vs H Q E h=>?_) (fun cdv A outer s H vs Q E hr h=>?_)
  · obtain ⟨x,n,rfl,_⟩:=h;rfl
  obtain ⟨x,n,rfl,ty,q⟩:=h;refine ⟨_,(@af _ _ _ (@aq _ _ _ _ (@fQ _ _ _ _ _ _ _ (@ao _ _ _ _ _ _ _ _ _ (@aI _ ("int")) rfl B.iisinstance aal (@aa _ _ _ _ _ (pv 0) (@aa _ _ _ _ _ (@bh _ _ (.ty "int") _ _ rfl B.iint abn rfl (by decide) (by decide)) ac (by rfl)) (by rfl)) (by decide) (by decide) (by rfl) (by rfl)) (@gX _ _ _ _ _ (@pE _ _ _ _ (@ao _ _ _ _ _ _ _ _ _ (@aI _ ("bool")) rfl B.iisinstance aal (@aa _ _ _ _ _ (pv 0) (@aa _ _ _ _ _ (@bh _ _ (.ty "bool") _ _ rfl B.ibool PyProof.Rows.boot_bool rfl (by decide) (by decide)) ac (by rfl)) (by rfl)) (by decide) (by decide) (by rfl) (by rfl))))))),?_⟩;cases ty with
  | non=>exact ⟨_,rfl,_,_,false,rfl,.non,rfl,false,rfl,aR q⟩
  | bl y=>exact ⟨_,rfl,_,_,true,rfl,.bl y,rfl,true,rfl,bj ⟨_,rfl,_,_,true,rfl,.bl y,rfl,true,rfl,q⟩⟩
  | int i=>exact ⟨_,rfl,_,_,true,rfl,.int i,rfl,true,rfl,bj ⟨_,rfl,_,_,false,rfl,.int i,rfl,false,rfl,q⟩⟩
  | str y=>exact ⟨_,rfl,_,_,false,rfl,.str y,rfl,false,rfl,aR q⟩
  | flt y=>exact ⟨_,rfl,_,_,false,rfl,.flt y,rfl,false,rfl,aR q⟩
  | lst e=>exact ⟨_,rfl,_,_,false,rfl,.lst e,rfl,false,rfl,aR q⟩
  | frz e=>exact ⟨_,rfl,_,_,false,rfl,.frz e,rfl,false,rfl,aR q⟩
  | tup e=>exact ⟨_,rfl,_,_,false,rfl,.tup e,rfl,false,rfl,aR q⟩
  | dK e=>exact ⟨_,rfl,_,_,false,rfl,.dK e,rfl,false,rfl,aR q⟩
  | dT e=>exact ⟨_,rfl,_,_,false,rfl,.dT e,rfl,false,rfl,aR q⟩
def sM (z:Str):Bool:=inV (.str z) [.str "+",.str "-",.str "*"]
theorem pP (g:Sg):sM g.str=true:=by cases g <;> decide +kernel
def j4:Sp:=fun vs H Q _=>∃ z,vs=[.str z]∧Q (.bl (sM z)) H
abbrev gJ:Stmt:=top 14
theorem mC:FnScope ["thing"] ["thing"] (ai gJ):=⟨rfl,rfl,rfl,by decide +kernel,rfl,by decide +kernel,by decide +kernel⟩
theorem mH {tk:Tok} {aS:Addr} (F:Fun K "is_sign" "is_sign" gJ f fd) (B:Bu K mg) (B':Co K mg tk aS):FnOk P w K mg base CX0 1 f fd ["thing"] j4:=by
  refine F.ok mC (fun vs H Q E h=>?_) (fun cdv A outer s H vs Q E hr h=>?_)
  · obtain ⟨x,rfl,_⟩:=h;rfl
  obtain ⟨z,rfl,q⟩:=h;refine ⟨_,(af (aq (fQ (ao (aI (n:="str")) rfl B.iisinstance aal (aa (pv 0) (aa (bh (v:=.ty "str") rfl B.istr aca rfl) ac))) (gX (bY jS (pv 0) (dY (v:=.ref aS) rfl B'.gSIGNS rfl) (by with_unfolding_all rfl)))))),?_⟩;exact ⟨_,rfl,_,_,true,rfl,.str z,rfl,true,rfl,bj ⟨_,rfl,aS,_,rfl,.inr (B'.sSIGNS H),rfl,rfl,q⟩⟩
open PySem L2
theorem nR {α:Type} (xs:List α) (x:α):(xs++[x])[(xs++[x]).length - 1]?=some x:=by simp
theorem rp (xs:List V) (x:V):(xs++[x]).dropLast=xs:=by simp
theorem bx {n:Nat} (h:n≤1000):n≤sizeLine:=abi (aA h)
def j7:Sp:=fun vs H Q _=>∃ w v,vs=[v]∧WyIn H w v∧w.size≤9∧∀ H',Same H H'→Q (.bl true) H'
abbrev iR:Stmt:=top 15
theorem dC:FnScope ["thing","waiting","numbers","part"] ["thing"] (ai iR):=⟨rfl,rfl,rfl,by decide +kernel,rfl,by decide +kernel,by decide +kernel⟩
theorem oA {tk:Tok} {aS:Addr} (F:Fun K "is_way" "is_way" iR f fd) (B:Bu K mg) (B':Co K mg tk aS) (C_is_whole:Cal P w K mg base "is_whole" 1 ["thing"] (bE K)) (C_is_sign:Cal P w K mg base "is_sign" 1 ["thing"] j4) :
    FnOk P w K mg base CX0 2 f fd ["thing"] j7:=by
  refine F.ok dC (fun vs H Q E h=>?_) (fun cdv A outer s H vs Q E hr h=>?_)
  · obtain ⟨x,v,rfl,_⟩:=h;rfl
  obtain ⟨wy,v,rfl,hw,h9,q⟩:=h;refine ⟨_,(@ae _ _ _ _ _ (@aC _ _ (1) _ _ _ _ (dC).nd rfl (Or.inl rfl) (@aY _ _ _ _ (@aa _ _ _ _ _ (pv 0) ac (by rfl))) (by rfl) (by first|exact .inl rfl|exact .inr rfl|assumption)) (@ae _ _ _ _ _ (@aC _ _ (2) _ _ _ _ (dC).nd rfl (Or.inl rfl) ag (by rfl) (by first|exact .inl rfl|exact .inr rfl|assumption)) (@ae _ _ _ _ _ (@lC _ _ _ _ _ _ aaM (@PW.pt _ _ _ (@cV _ _ _ _ _ _ _ (@ph _ _ _ (pv 1) (fun _=>rfl)) (@df _ _ _ _ (@av _ _ _ _ _ _ _ _ lH (@au _ _ _ _ _ _ _ _ a_ (pv 2) (@ao _ _ _ _ _ _ _ _ _ az rfl B.ilen aaD (@aa _ _ _ _ _ (pv 1) ac (by rfl)) (by decide) (by decide) (by rfl) (by rfl))) (@dY _ _ (.int 9) _ _ rfl B'.gMOST_NUMBERS ⟨_,rfl⟩ (by decide)) (aE _))))) (@ae _ _ _ _ _ (@aC _ _ (3) _ _ _ _ (dC).nd rfl (Or.inl rfl) (@pF _ _ _ _ _ _ _ _ _ aaZ PySem.F.slot_list_pop PySem.F.type_list_pop pL (pv 1) (by rfl) (by rfl)) (by rfl) (by first|exact .inl rfl|exact .inr rfl|assumption)) (@af _ _ _ (@aL _ _ _ _ _ _ _ _ (@aQ _ _ _ (@ah _ _ _ _ _ _ _ _ _ _ _ C_is_whole hr (by lia) rfl (@aa _ _ _ _ _ (pv 3) ac (by rfl)) (by decide) (by rfl) (by rfl)) (by intro _;rfl)) (@af _ _ _ (@pk _ _ (2) _ _ _ _ _ _ (dC).nd rfl (Or.inl rfl) ag sO (by first|exact .inl rfl|exact .inr rfl|assumption))) (@af _ _ _ (@aL _ _ _ _ _ _ _ _ (@PW.pt _ _ _ (@cV _ _ _ _ _ _ _ (@aQ _ _ _ (@ao _ _ _ _ _ _ _ _ _ (@aI _ ("tuple")) rfl B.iisinstance aal (@aa _ _ _ _ _ (pv 3) (@aa _ _ _ _ _ (@bh _ _ (.ty "tuple") _ _ rfl B.ituple aaI rfl (by decide) (by decide)) ac (by rfl)) (by rfl)) (by decide) (by decide) (by rfl) (by rfl)) (by intro _;rfl)) (@cV _ _ _ _ _ _ _ (@av _ _ _ _ _ _ _ _ bn (@ao _ _ _ _ _ _ _ _ _ az rfl B.ilen aaD (@aa _ _ _ _ _ (pv 3) ac (by rfl)) (by decide) (by decide) (by rfl) (by rfl)) ag (aE _)) (@df _ _ _ _ (@aQ _ _ _ (@ah _ _ _ _ _ _ _ _ _ _ _ C_is_sign hr (by lia) rfl (@aa _ _ _ _ _ (@aG _ _ _ _ _ _ _ aX (pv 3) ag (fun _ _=>rfl)) ac (by rfl)) (by decide) (by rfl) (by rfl)) (by intro _;rfl)))))) (@ae _ _ _ _ _ (@bR _ _ _ _ (@jR _ _ _ _ _ _ _ _ _ _ _ _ aaZ abd abe dD (pv 1) (@aa _ _ _ _ _ (@aG _ _ _ _ _ _ _ aX (pv 3) ag (fun _ _=>rfl)) ac (by rfl)) (by rfl) (by rfl) (by rfl) (by rfl) (by rfl)) (by rfl)) (@af _ _ _ (@bR _ _ _ _ (@jR _ _ _ _ _ _ _ _ _ _ _ _ aaZ abd abe dD (pv 1) (@aa _ _ _ _ _ (@aG _ _ _ _ _ _ _ aX (pv 3) ag (fun _ _=>rfl)) ac (by rfl)) (by rfl) (by rfl) (by rfl) (by rfl) (by rfl)) (by rfl)))) (@af _ _ _ (@aq _ _ _ _ fq)))))))) (@af _ _ _ (@aq _ _ _ _ (qP (pv 1))))))),?_⟩;refine ⟨_,rfl,(by show 1≤sizeLine;decide),fun p hp=>?_⟩;refine ⟨fun m σ H'=>∃ (n:Nat) (ws:List Wy) (vs:List V) (part:Option V),σ=[some v,some (.ref p),some (.int n),part]∧H' p=some (.lst vs)∧WyAll H' ws vs∧Same H H'∧n+fY ws≤9∧m=d_ ws,?_,?_⟩
  · exact ⟨_,0,[wy],[v],_,rfl,ad,.cons (hw.mono (Tups.of (Same.new hp _))) .nil,Same.new hp _,by simpa [fY] using h9,rfl⟩
  rintro m σ H' ⟨n,ws,vs,part,rfl,hH,hall,hS,hn,rfl⟩;by_cases ne:vs=[]
  · subst ne;refine ⟨_,rfl,false,.inl ⟨[],SqL.of hH,rfl⟩,aR (aR ?_)⟩;exact ⟨_,rfl,false,.inl ⟨[],SqL.of hH,rfl⟩,q H' hS⟩
  obtain ⟨ws',w',vs',v',rfl,rfl,hall',hw'⟩:=hall.last ne;have hl:=hall.length;have hle:=cG (ws'++[w']);rw [fD] at hn hle;have hlen:((n:Int)+((vs'++[v']).length:Nat)≤9):=by lia
  refine ⟨_,rfl,true,.inl ⟨_,SqL.of hH,by simp⟩,bj ⟨_,rfl,_,rfl,p,_,rfl,.inl (SqL.of hH),_,_,rfl,rfl,_,_,rfl,rfl,true,congrArg V.bl (decide_eq_true hlen),bj ⟨fun σ' H'=>∃ m',m' < d_ (ws'++[w'])∧_,fun _ _ h=>h,?_⟩⟩⟩;refine ⟨_,rfl,.inl ⟨rfl,_,SqL.of hH⟩,p,_,v',rfl,rfl,hH,nR _ _,?_⟩;rw [rp];have hT:Tups H' (upd H' p (.lst vs')):=fun b xs z=>by rw [aF (fun e=>by rw [e,hH] at z;cases z)];exact z
  have hp0:H p=none:=hp;have hS2:Same H (upd H' p (.lst vs')):=hS.upd hp0;rw [eY];cases w' with
  | num i =>
    cases hw';refine ⟨_,rfl,_,"int",rfl,.int i,true,rfl,bj ⟨_,rfl,_,_,rfl,rfl,?_⟩⟩;refine ⟨d_ ws',Nat.lt_succ_self _,n+1,ws',vs',_,rfl,ad,hall'.mono hT,hS2,?_,rfl⟩;have : n+(fY ws'+1)≤9:=hn;lia
  | node g l r =>
    obtain ⟨a,vl,vr,rfl,ha,hl',hr'⟩:=hw';have ha2:upd H' p (.lst vs') a=some (.tup [.str g.str,vl,vr]):=hT _ _ ha;refine ⟨_,rfl,_,"tuple",rfl,.tup ha2,false,rfl,aR ?_⟩;refine ⟨_,rfl,_,_,true,rfl,.tup ha2,rfl,true,rfl,bj ⟨_,rfl,a,_,rfl,.inr (SqT.of ha2),rfl,_,rfl,bj ?_⟩⟩;refine ⟨_,rfl,a,_,_,_,rfl,rfl,SqT.of ha2,rfl,_,rfl,true,congrArg V.bl (pP g),bj ?_⟩;have hsz:vs'.length≤9:=by
      have:=hall'.length;have z:=cG ws';lia
    refine ⟨_,rfl,.inl ⟨rfl,_,SqL.of ad⟩,_,rfl,a,_,_,_,rfl,rfl,SqT.of ha2,rfl,p,_,_,rfl,rfl,ad,(aA (by lia)),?_⟩;have hT2:Tups (upd H' p (.lst vs')) (upd (upd H' p (.lst vs')) p (.lst (vs'++[vl]))):=fun b xs z=>by rw [aF (fun e=>by rw [e,ad] at z;cases z)];exact z
    refine ⟨_,rfl,.inl ⟨rfl,_,SqL.of ad⟩,_,rfl,a,_,_,_,rfl,rfl,SqT.of (hT2 _ _ ha2),rfl,p,_,_,rfl,rfl,ad,(aA (by rw [aag,abC];lia)),?_⟩;have hT3:Tups (upd (upd H' p (.lst vs')) p (.lst (vs'++[vl]))) (upd (upd (upd H' p (.lst vs')) p (.lst (vs'++[vl]))) p (.lst (vs'++[vl]++[vr]))):=fun b xs z=>by rw [aF (fun e=>by rw [e,ad] at z;cases z)];exact z
    have hTT:=(hT.trans hT2).trans hT3;refine ⟨d_ (ws'++[l]++[r]),?_,n,ws'++[l]++[r],vs'++[vl]++[vr],_,rfl,ad,((hall'.mono hTT).snoc (hl'.mono hTT)).snoc (hr'.mono hTT),(hS2.upd hp0).upd hp0,?_,rfl⟩
    · rw [eY,eY];show d_ ws'+l.knots+r.knots < d_ ws'+(l.knots+r.knots+1);lia
    · rw [fD,fD];have : n+(fY ws'+(l.size+r.size))≤9:=hn;lia
def fb:Sp:=fun vs H Q _=>∃ w v,vs=[v]∧WyIn H w v∧w.size≤9∧∀ H',Same H H'→Q .non H'
abbrev fJ:Stmt:=top 18
theorem lm:FnScope ["thing"] ["thing"] (ai fJ):=⟨rfl,rfl,rfl,by decide +kernel,rfl,by decide +kernel,by decide +kernel⟩
theorem lL (F:Fun K "need_way" "need_way" fJ f fd) (C_is_way:Cal P w K mg base "is_way" 2 ["thing"] j7):FnOk P w K mg base CX0 3 f fd ["thing"] fb:=by
  refine F.ok lm (fun vs H Q E h=>?_) (fun cdv A outer s H vs Q E hr h=>?_)
  · obtain ⟨x,v,rfl,_⟩:=h;rfl
  obtain ⟨wy,v,rfl,hw,h9,q⟩:=h;refine ⟨_,(@af _ _ _ (@aL _ _ _ _ _ _ _ _ (@bM _ _ _ _ (@aQ _ _ _ (@ah _ _ _ _ _ _ _ _ _ _ _ C_is_way hr (by lia) rfl (@aa _ _ _ _ _ (pv 0) ac (by rfl)) (by decide) (by rfl) (by rfl)) (by intro _;rfl))) (@af _ _ _ eS) aB)),?_⟩;exact ⟨_,rfl,wy,v,rfl,hw,h9,fun H' hS=>⟨true,rfl,aR (q H' hS)⟩⟩
def Wy.nums:Wy→List Int
  | .num i=>[i]
  | .node _ l r=>l.nums++r.nums
theorem Wy.nums_len:∀ w:Wy,w.nums.length=w.size
  | .num _=>rfl
  | .node _ l r=>by show (l.nums++r.nums).length=l.size+r.size;rw [aag,l.nums_len,r.nums_len]
def Wy.deep:Wy→Nat
  | .num _=>1
  | .node _ l r=>max l.deep r.deep+1
theorem Wy.deep_le:∀ w:Wy,w.deep≤w.size
  | .num _=>aac _
  | .node _ l r=>by have a:=l.deep_le;have b:=r.deep_le;have c:=l.size_pos;have d:=r.size_pos;show max l.deep r.deep+1≤l.size+r.size;lia
def iJ (n:Nat):Sp:=fun vs H Q _=>∃ w v,vs=[v]∧WyIn H w v∧w.size≤20∧w.deep≤n∧∀ p H',Same H H'→H p=none→H' p=some (.lst (w.nums.map V.int))→Q (.ref p) H'
abbrev cR:Stmt:=top 21
theorem bP:FnScope ["way","sign","left","right"] ["way"] (ai cR):=⟨rfl,rfl,rfl,by decide +kernel,rfl,by decide +kernel,by decide +kernel⟩
theorem ig (F:Fun K "list_numbers" "list_numbers" cR f fd) (bF:Binds K fd ["way"] []) (mF:mg "list_numbers" = some (.ref f)) (C_is_whole:Cal P w K mg base "is_whole" 1 ["thing"] (bE K)) :
    ∀ n,FnOk P w K mg base CX0 (n+1) f fd ["way"] (iJ n):=by
  intro n
  induction n with
  | zero =>
    refine ⟨fun vs H Q E h=>?_,fun A outer s H args us vs Q E _ _ _ _ h=>?_⟩
    · obtain ⟨x,v,rfl,_⟩:=h;rfl
    · obtain ⟨wy,v,_,_,_,hd,_⟩:=h;cases wy <;> exact absurd hd (by simp [Wy.deep])
  | succ n ih =>
    have C_list_numbers:Cal P w K mg base "list_numbers" (n+1) ["way"] (iJ n):=⟨f,fd,ih,bF,F.kp,mF⟩
    refine F.ok bP (fun vs H Q E h=>?_) (fun cdv A outer s H vs Q E hr h=>?_)
    · obtain ⟨x,v,rfl,_⟩:=h;rfl
    obtain ⟨wy,v,rfl,hw,h20,hd,q⟩:=h;refine ⟨_,(@ae _ _ _ _ _ (@aL _ _ _ _ _ _ _ _ (@aQ _ _ _ (@ah _ _ _ _ _ _ _ _ _ _ _ C_is_whole hr (by lia) rfl (@aa _ _ _ _ _ (pv 0) ac (by rfl)) (by decide) (by rfl) (by rfl)) (by intro _;rfl)) (@af _ _ _ (@aq _ _ _ _ (@aY _ _ _ _ (@aa _ _ _ _ _ (pv 0) ac (by rfl))))) aB) (@ae _ _ _ _ _ (@bW _ _ _ _ _ _ (pv 0) (@bX _ _ _ _ _ _ rfl (@ap _ _ _ _ _ (@aj _ _ (1) _ (bP).nd rfl (Or.inl rfl) (.inl rfl)) (@ap _ _ _ _ _ (@aj _ _ (2) _ (bP).nd rfl (Or.inl rfl) (.inl rfl)) (@ap _ _ _ _ _ (@aj _ _ (3) _ (bP).nd rfl (Or.inl rfl) (.inl rfl)) aU (by rfl)) (by rfl)) (by rfl)) (by rfl) (by rfl)) (by rfl) (by rfl) (by rfl)) (@af _ _ _ (@aq _ _ _ _ (@au _ _ _ _ _ _ _ _ iY (@ah _ _ _ _ _ _ _ _ _ _ _ C_list_numbers hr (by lia) rfl (@aa _ _ _ _ _ (pv 2) ac (by rfl)) (by decide) (by rfl) (by rfl)) (@ah _ _ _ _ _ _ _ _ _ _ _ C_list_numbers hr (by lia) rfl (@aa _ _ _ _ _ (pv 3) ac (by rfl)) (by decide) (by rfl) (by rfl))))))),?_⟩;cases wy with
    | num i =>
      cases hw;refine ⟨_,rfl,_,"int",rfl,.int i,true,rfl,bj ⟨_,rfl,(by show 1≤sizeLine;decide),fun p hp=>?_⟩⟩;exact q p _ (Same.new hp _) hp ad
    | node g l r =>
      obtain ⟨a,vl,vr,rfl,ha,hl,hr'⟩:=hw;refine ⟨_,rfl,_,"tuple",rfl,.tup ha,false,rfl,aR ?_⟩;have d:max l.deep r.deep+1≤n+1:=hd;have z:l.size+r.size≤20:=h20;have zl:=l.size_pos;have zr:=r.size_pos;refine ⟨_,rfl,a,_,rfl,SqT.of ha,rfl,_,_,rfl,_,_,rfl,_,_,rfl,rfl,?_⟩;refine ⟨_,rfl,l,vl,rfl,hl,by lia,by lia,fun p H1 g1 n1 e1=>?_⟩;refine ⟨_,rfl,r,vr,rfl,hr'.mono (Tups.of g1),by lia,by lia,fun p2 H2 g2 n2 e2=>?_⟩;refine ⟨p,p2,_,_,rfl,rfl,g2 _ _ e1,e2,bx (by rw [aab,aab,l.nums_len,r.nums_len];lia),fun p3 n3=>?_⟩;refine q p3 _ ((g1.trans g2).trans (Same.new n3 _)) ((g1.trans g2).free n3) ?_;rw [ad];show some (HO.lst (l.nums.map V.int++r.nums.map V.int))=some (HO.lst ((l.nums++r.nums).map V.int));rw [aae]
def Wy.sgs:Wy→List Sg
  | .num _=>[]
  | .node g l r=>l.sgs++g :: r.sgs
def am:List Sg→Str
  | []=>""
  | g :: r=>g.str++am r
theorem k_ (x:Str):("":Str)++x=x:=by
  cases x with|mk c=>show Str.mk (#[]++c)=_;simp
theorem jN (x y z:Str):x++y++z=x++(y++z):=by
  obtain ⟨a⟩:=x;obtain ⟨b⟩:=y;obtain ⟨c⟩:=z;show Str.mk ((a++b)++c)=Str.mk (a++(b++c));rw [Array.append_assoc]
theorem iN:∀ xs ys:List Sg,am (xs++ys)=am xs++am ys
  | [],ys=>(k_ _).symm
  | g :: r,ys=>by show g.str++am (r++ys)=g.str++am r++am ys;rw [iN r ys,jN]
theorem mz (g:Sg):g.str.length=1:=by cases g <;> rfl
theorem nz (x y:Str):(x++y).length=x.length+y.length:=by
  cases x;cases y;show (_++_:Array Nat).size=_;rw [Array.size_append];rfl
theorem cf:∀ xs:List Sg,(am xs).length=xs.length
  | []=>rfl
  | g :: r=>by show (g.str++am r).length=r.length+1;rw [nz,mz,cf r];lia
theorem Wy.sgs_len:∀ w:Wy,w.sgs.length+1=w.size
  | .num _=>rfl
  | .node g l r=>by have a:=l.sgs_len;have b:=r.sgs_len;show (l.sgs++g :: r.sgs).length+1=l.size+r.size;rw [aag,aaL];lia
def nC (n:Nat):Sp:=fun vs H Q _=>∃ w v,vs=[v]∧WyIn H w v∧w.size≤20∧w.deep≤n∧∀ H',Same H H'→Q (.str (am w.sgs)) H'
abbrev dM:Stmt:=top 22
theorem cx:FnScope ["way","sign","left","right"] ["way"] (ai dM):=⟨rfl,rfl,rfl,by decide +kernel,rfl,by decide +kernel,by decide +kernel⟩
theorem jv (F:Fun K "join_signs" "join_signs" dM f fd) (bF:Binds K fd ["way"] []) (mF:mg "join_signs" = some (.ref f)) (C_is_whole:Cal P w K mg base "is_whole" 1 ["thing"] (bE K)) :
    ∀ n,FnOk P w K mg base CX0 (n+1) f fd ["way"] (nC n):=by
  intro n
  induction n with
  | zero =>
    refine ⟨fun vs H Q E h=>?_,fun A outer s H args us vs Q E _ _ _ _ h=>?_⟩
    · obtain ⟨x,v,rfl,_⟩:=h;rfl
    · obtain ⟨wy,v,_,_,_,hd,_⟩:=h;cases wy <;> exact absurd hd (by simp [Wy.deep])
  | succ n ih =>
    have C_join_signs:Cal P w K mg base "join_signs" (n+1) ["way"] (nC n):=⟨f,fd,ih,bF,F.kp,mF⟩
    refine F.ok cx (fun vs H Q E h=>?_) (fun cdv A outer s H vs Q E hr h=>?_)
    · obtain ⟨x,v,rfl,_⟩:=h;rfl
    obtain ⟨wy,v,rfl,hw,h20,hd,q⟩:=h;refine ⟨_,(@ae _ _ _ _ _ (@aL _ _ _ _ _ _ _ _ (@aQ _ _ _ (@ah _ _ _ _ _ _ _ _ _ _ _ C_is_whole hr (by lia) rfl (@aa _ _ _ _ _ (pv 0) ac (by rfl)) (by decide) (by rfl) (by rfl)) (by intro _;rfl)) (@af _ _ _ (@aq _ _ _ _ ay)) aB) (@ae _ _ _ _ _ (@bW _ _ _ _ _ _ (pv 0) (@bX _ _ _ _ _ _ rfl (@ap _ _ _ _ _ (@aj _ _ (1) _ (cx).nd rfl (Or.inl rfl) (.inl rfl)) (@ap _ _ _ _ _ (@aj _ _ (2) _ (cx).nd rfl (Or.inl rfl) (.inl rfl)) (@ap _ _ _ _ _ (@aj _ _ (3) _ (cx).nd rfl (Or.inl rfl) (.inl rfl)) aU (by rfl)) (by rfl)) (by rfl)) (by rfl) (by rfl)) (by rfl) (by rfl) (by rfl)) (@af _ _ _ (@aq _ _ _ _ (@au _ _ _ _ _ _ _ _ iZ (@au _ _ _ _ _ _ _ _ iZ (@ah _ _ _ _ _ _ _ _ _ _ _ C_join_signs hr (by lia) rfl (@aa _ _ _ _ _ (pv 2) ac (by rfl)) (by decide) (by rfl) (by rfl)) (pv 1)) (@ah _ _ _ _ _ _ _ _ _ _ _ C_join_signs hr (by lia) rfl (@aa _ _ _ _ _ (pv 3) ac (by rfl)) (by decide) (by rfl) (by rfl))))))),?_⟩;cases wy with
    | num i =>
      cases hw;exact ⟨_,rfl,_,"int",rfl,.int i,true,rfl,bj (q H (Same.refl H))⟩
    | node g l r =>
      obtain ⟨a,vl,vr,rfl,ha,hl,hr'⟩:=hw;refine ⟨_,rfl,_,"tuple",rfl,.tup ha,false,rfl,aR ?_⟩;have d:max l.deep r.deep+1≤n+1:=hd;have z:l.size+r.size≤20:=h20;have zl:=l.size_pos;have zr:=r.size_pos;have sl:=l.sgs_len;have sr:=r.sgs_len;refine ⟨_,rfl,a,_,rfl,SqT.of ha,rfl,_,_,rfl,_,_,rfl,_,_,rfl,rfl,?_⟩;refine ⟨_,rfl,l,vl,rfl,hl,by lia,by lia,fun H1 g1=>?_⟩;refine ⟨_,rfl,_,_,rfl,rfl,bx (by rw [cf,mz];lia),?_⟩;refine ⟨_,rfl,r,vr,rfl,hr'.mono (Tups.of g1),by lia,by lia,fun H2 g2=>?_⟩;refine ⟨_,_,rfl,rfl,bx (by rw [nz,cf,mz,cf];lia),?_⟩;have e:am (l.sgs++g :: r.sgs)=am l.sgs++g.str++am r.sgs:=by rw [iN,jN];rfl
      have q':=q H2 (g1.trans g2);show Q (.str (am l.sgs++g.str++am r.sgs)) H2;rw [← e];exact q'
end
open PySem L2
def Wel (H:Hp) (w:Addr) (M:Int):Prop:=∃ a b c,H w=some (.lst [.int a,.int b,.int c])∧0≤c∧c≤M
theorem Wel.keep {H H':Hp} {w:Addr} {M M':Int} (h:Wel H w M) (s:Same H H') (m:M≤M'):Wel H' w M':=by
  obtain ⟨a,b,c,e,h0,h1⟩:=h;exact ⟨a,b,c,s _ _ e,h0,by lia⟩
theorem Wel.more {H:Hp} {w:Addr} {M M':Int} (h:Wel H w M) (m:M≤M'):Wel H w M':=h.keep (Same.refl H) m
theorem But.free {w p:Addr} {H H':Hp} {M:Int} (b:But w H H') (h:Wel H' w M) (n:H' p=none):H p=none:=by
  cases q:H p with
  | none=>rfl
  | some o =>
    by_cases e:p=w
    · subst e;obtain ⟨_,_,_,z,_⟩:=h;rw [z] at n;cases n
    · rw [b p o e q] at n;cases n
theorem Wel.ne {w p:Addr} {H:Hp} {M:Int} (h:Wel H w M) (n:H p=none):p≠w:=fun e=>by
  subst e;obtain ⟨_,_,_,z,_⟩:=h;rw [z] at n;cases n
theorem Wel.tups {w:Addr} {H H':Hp} {M:Int} (h:Wel H w M) (b:But w H H'):Tups H H':=by
  obtain ⟨_,_,_,z,_⟩:=h;exact Tups.but b z
section
variable {P:Program} {w:World} {K:aaa} {mg:Str→Option Value} {base:Heap} {f:Addr} {fd:FuncData}
theorem lV (x m:Int) (h:0 < m):0≤x % m∧x % m < m:=⟨Int.emod_nonneg x (by lia),Int.emod_lt_of_pos x h⟩
def j5:Sp:=fun vs H Q _=>∃ cell k,vs=[.int cell,.int k]∧0≤k∧k≤1000000000∧∀ r,0≤r→Q (.int r) H
abbrev dW:Stmt:=top 52
theorem dj:FnScope ["cell","k","number"] ["cell","k"] (ai dW):=⟨rfl,rfl,rfl,by decide +kernel,rfl,by decide +kernel,by decide +kernel⟩
theorem pI (F:Fun K "_law_mixed" "_law_mixed" dW f fd):FnOk P w K mg base CX0 1 f fd ["cell","k"] j5:=by
  refine F.ok dj (fun vs H Q E h=>?_) (fun cdv A outer s H vs Q E hr h=>?_)
  · obtain ⟨x,v,rfl,_⟩:=h;rfl
  obtain ⟨cell,k,rfl,h0,h1,q⟩:=h;refine ⟨_,(@ae _ _ _ _ _ (@aC _ _ (2) _ _ _ _ (dj).nd rfl (Or.inl rfl) (@au _ _ _ _ _ _ _ _ gY (@au _ _ _ _ _ _ _ _ a_ (@au _ _ _ _ _ _ _ _ a_ (@au _ _ _ _ _ _ _ _ gY (pv 0) ag) (@au _ _ _ _ _ _ _ _ dt (@au _ _ _ _ _ _ _ _ dt ag (pv 1)) (pv 1))) (@au _ _ _ _ _ _ _ _ dt ag (pv 1))) ag) (by rfl) (by first|exact .inl rfl|exact .inr rfl|assumption)) (@ae _ _ _ _ _ (@aC _ _ (2) _ _ _ _ (dj).nd rfl (Or.inl rfl) (@au _ _ _ _ _ _ _ _ gY (@au _ _ _ _ _ _ _ _ dt (pv 2) (pv 2)) ag) (by rfl) (by first|exact .inl rfl|exact .inr rfl|assumption)) (@af _ _ _ (@aq _ _ _ _ (@au _ _ _ _ _ _ _ _ iX (@au _ _ _ _ _ _ _ _ gY (@au _ _ _ _ _ _ _ _ dt (pv 2) (@au _ _ _ _ _ _ _ _ a_ (pv 2) ag)) ag) ag))))),?_⟩;refine ⟨_,rfl,_,_,rfl,rfl,(show (0:Int) < 2147483629 by decide),_,rfl,_,_,rfl,rfl,.inl ⟨by decide,by decide⟩,_,rfl,_,_,rfl,rfl,.inr ⟨by lia,by lia⟩,_,_,rfl,rfl,_,rfl,_,_,rfl,rfl,.inl ⟨by decide,by decide⟩,
    _,_,rfl,rfl,_,_,rfl,rfl,(show (0:Int) < 2147483629 by decide),?_⟩
  have hb:=lV (cell % 2147483629+1000003 * k * k+7919 * k) 2147483629 (by decide);revert hb;generalize (cell % 2147483629+1000003 * k * k+7919 * k) % 2147483629=n1;intro hb;refine ⟨_,rfl,_,rfl,_,_,rfl,rfl,.inl ⟨by lia,by lia⟩,_,_,rfl,rfl,(show (0:Int) < 2147483587 by decide),?_⟩;have hc:=lV (n1 * n1) 2147483587 (by decide);revert hc;generalize n1 * n1 % 2147483587=n2;intro hc;refine ⟨_,rfl,_,rfl,_,_,rfl,rfl,_,_,rfl,rfl,.inl ⟨by lia,by lia⟩,_,_,rfl,rfl,(show (0:Int) < 2147483563 by decide),_,_,rfl,rfl,⟨by decide,by decide⟩,?_⟩;have hd:=lV (n2 * (n2+40961)) 2147483563 (by decide);exact q _ (by lia)
def mw:Sp:=fun vs H Q _=>∃ cell,vs=[.int cell]∧∀ p a b H',Same H H'→H p=none→H' p=some (.lst [.int a,.int b,.int 0])→Q (.ref p) H'
abbrev eN:Stmt:=top 53
theorem kn:FnScope ["cell"] ["cell"] (ai eN):=⟨rfl,rfl,rfl,by decide +kernel,rfl,by decide +kernel,by decide +kernel⟩
theorem qR (F:Fun K "_law_well" "_law_well" eN f fd) (B:Bu K mg):FnOk P w K mg base CX0 1 f fd ["cell"] mw:=by
  refine F.ok kn (fun vs H Q E h=>?_) (fun cdv A outer s H vs Q E hr h=>?_)
  · obtain ⟨x,rfl,_⟩:=h;rfl
  obtain ⟨cell,rfl,q⟩:=h;refine ⟨_,(@af _ _ _ (@aq _ _ _ _ (@aY _ _ _ _ (@aa _ _ _ _ _ (@au _ _ _ _ _ _ _ _ dt (pv 0) (@bH _ _ _ _ _ _ _ _ _ h6 rfl B.iint abn (@aa _ _ _ _ _ (@bY _ _ _ _ _ _ _ _ tP (pv 0) (@au _ _ _ _ _ _ _ _ mG ag ag) (aE _)) ac (by rfl)) (by decide) (by decide) (by rfl) (by rfl))) (@aa _ _ _ _ _ (pv 0) (@aa _ _ _ _ _ ag ac (by rfl)) (by rfl)) (by rfl))))),?_⟩;refine ⟨_,rfl,_,rfl,_,_,rfl,rfl,⟨by decide,by decide,by decide⟩,_,_,rfl,rfl,.inr ⟨_,rfl,_,_,rfl,rfl,.inr ?_,_,rfl,(by show 3≤sizeLine;decide),fun p hp=>q p _ _ _ (Same.new hp _) hp ad⟩⟩;constructor <;> split <;> decide
def fC:Sp:=fun vs H Q _=>∃ w m M,vs=[.ref w,.int m]∧0 < m∧m < 2 ^ 63∧Wel H w M∧M < 1000000000∧∀ r H',0≤r→r < m→But w H H'→Wel H' w (M+1)→Q (.int r) H'
abbrev eP:Stmt:=top 54
theorem f_:FnScope ["well","many","got"] ["well","many"] (ai eP):=⟨rfl,rfl,rfl,by decide +kernel,rfl,by decide +kernel,by decide +kernel⟩
theorem qS (F:Fun K "_law_draw" "_law_draw" eP f fd) (C__law_mixed:Cal P w K mg base "_law_mixed" 1 ["cell","k"] j5):FnOk P w K mg base CX0 2 f fd ["well","many"] fC:=by
  refine F.ok f_ (fun vs H Q E h=>?_) (fun cdv A outer s H vs Q E hr h=>?_)
  · obtain ⟨x,m,M,rfl,_⟩:=h;rfl
  obtain ⟨wl,m,M,rfl,h0,h1,⟨a,b,c,e,c0,c1⟩,hM,q⟩:=h;refine ⟨_,(@ae _ _ _ _ _ (@aL _ _ _ _ _ _ _ _ (@av _ _ _ _ _ _ _ _ pH (@aG _ _ _ _ _ _ _ aJ (pv 0) ag (fun _ _=>rfl)) ag (aE _)) (@ae _ _ _ _ _ (@aC _ _ (2) _ _ _ _ (f_).nd rfl (Or.inl rfl) (@au _ _ _ _ _ _ _ _ gY (@aG _ _ _ _ _ _ _ aJ (pv 0) ag (fun _ _=>rfl)) (pv 1)) (by rfl) (by first|exact .inl rfl|exact .inr rfl|assumption)) (@ae _ _ _ _ _ (@bW _ _ _ _ _ _ (@au _ _ _ _ _ _ _ _ iX (@aG _ _ _ _ _ _ _ aJ (pv 0) ag (fun _ _=>rfl)) (pv 1)) (@pz _ _ _ _ _ _ _ (pv 0) ag lg (by intro _;rfl)) (by rfl) (by rfl) (by rfl)) (@af _ _ _ (@aq _ _ _ _ (pv 2))))) aB) (@ae _ _ _ _ _ (@bW _ _ _ _ _ _ (@au _ _ _ _ _ _ _ _ a_ (@aG _ _ _ _ _ _ _ aJ (pv 0) ag (fun _ _=>rfl)) ag) (@pz _ _ _ _ _ _ _ (pv 0) ag lg (by intro _;rfl)) (by rfl) (by rfl) (by rfl)) (@af _ _ _ (@aq _ _ _ _ (@au _ _ _ _ _ _ _ _ gY (@ah _ _ _ _ _ _ _ _ _ _ _ C__law_mixed hr (by lia) rfl (@aa _ _ _ _ _ (@aG _ _ _ _ _ _ _ aJ (pv 0) ag (fun _ _=>rfl)) (@aa _ _ _ _ _ (@aG _ _ _ _ _ _ _ aJ (pv 0) ag (fun _ _=>rfl)) ac (by rfl)) (by rfl)) (by decide) (by rfl) (by rfl)) (pv 1)))))),?_⟩;refine ⟨_,rfl,wl,_,_,_,rfl,rfl,SqL.of e,rfl,_,_,rfl,rfl,_,rfl,oH (fun _=>?_) (fun _=>?_)⟩
  · refine ⟨_,rfl,wl,_,_,_,rfl,rfl,SqL.of e,rfl,_,rfl,_,_,rfl,rfl,h0,?_⟩;refine ⟨_,rfl,wl,_,_,_,rfl,rfl,SqL.of e,rfl,_,rfl,_,_,rfl,rfl,⟨h0,by lia⟩,_,rfl,wl,_,_,0,rfl,rfl,e,rfl,?_⟩;refine ⟨_,rfl,?_⟩;have z:=lV a m h0;exact q _ _ z.1 z.2 But.put ⟨_,_,_,ad,c0,by lia⟩
  · refine ⟨_,rfl,wl,_,_,_,rfl,rfl,SqL.of e,rfl,_,_,rfl,rfl,_,rfl,wl,_,_,2,rfl,rfl,e,rfl,?_⟩;refine ⟨_,rfl,wl,_,_,_,rfl,rfl,SqL.of ad,rfl,_,rfl,wl,_,_,_,rfl,rfl,SqL.of ad,rfl,_,_,rfl,by lia,by lia,fun r hr0=>?_⟩;refine ⟨_,rfl,_,_,rfl,rfl,h0,?_⟩;have z:=lV r m h0;exact q _ _ z.1 z.2 But.put ⟨_,_,_,ad,by lia,by lia⟩
def iK:Sp:=fun vs H Q _=>∃ w M,vs=[.ref w]∧Wel H w M∧M < 999999000∧∀ i H',-1000000000000 < i→i < 1000000000000→But w H H'→Wel H' w (M+7)→Q (.int i) H'
theorem at6 {a b c d e f':Int} {k:Int} (h0:0≤k) (h1:k < 6) (P:Int→Prop) (pa:P a) (pb:P b) (pc:P c) (pd:P d) (pe:P e) (pf:P f'):∃ z,atI [V.int a,.int b,.int c,.int d,.int e,.int f'] k=some (.int z)∧P z:=by
  have : k=0∨k=1∨k=2∨k=3∨k=4∨k=5:=by lia
  rcases this with rfl|rfl|rfl|rfl|rfl|rfl
  · exact ⟨a,rfl,pa⟩
  · exact ⟨b,rfl,pb⟩
  · exact ⟨c,rfl,pc⟩
  · exact ⟨d,rfl,pd⟩
  · exact ⟨e,rfl,pe⟩
  · exact ⟨f',rfl,pf⟩
theorem uP {k:Int} (h0:0≤k) (h1:k < 10):∃ z:Int,atI [V.int 0,.int 0,.int 0,.int 1,.int 1,.int 2,.int 2,.int 3,.int 4,.int 5] k=some (.int z)∧0≤z∧z < 6:=by
  have : k=0∨k=1∨k=2∨k=3∨k=4∨k=5∨k=6∨k=7∨k=8∨k=9:=by lia
  rcases this with rfl|rfl|rfl|rfl|rfl|rfl|rfl|rfl|rfl|rfl <;> exact ⟨_,rfl,by decide,by decide⟩
abbrev dq:Stmt:=top 55
theorem cQ:FnScope ["well","some"] ["well"] (ai dq):=⟨rfl,rfl,rfl,by decide +kernel,rfl,by decide +kernel,by decide +kernel⟩
theorem oz (F:Fun K "_law_number" "_law_number" dq f fd) (C__law_draw:Cal P w K mg base "_law_draw" 2 ["well","many"] fC):FnOk P w K mg base CX0 3 f fd ["well"] iK:=by
  refine F.ok cQ (fun vs H Q E h=>?_) (fun cdv A outer s H vs Q E hr h=>?_)
  · obtain ⟨x,M,rfl,_⟩:=h;rfl
  obtain ⟨wl,M,rfl,hw,hM,q⟩:=h;refine ⟨_,(@ae _ _ _ _ _ (@aC _ _ (1) _ _ _ _ (cQ).nd rfl (Or.inl rfl) (@aY _ _ _ _ (@aa _ _ _ _ _ (@ah _ _ _ _ _ _ _ _ _ _ _ C__law_draw hr (by lia) rfl (@aa _ _ _ _ _ (pv 0) (@aa _ _ _ _ _ ag ac (by rfl)) (by rfl)) (by decide) (by rfl) (by rfl)) (@aa _ _ _ _ _ (@ah _ _ _ _ _ _ _ _ _ _ _ C__law_draw hr (by lia) rfl (@aa _ _ _ _ _ (pv 0) (@aa _ _ _ _ _ ag ac (by rfl)) (by rfl)) (by decide) (by rfl) (by rfl)) (@aa _ _ _ _ _ (@au _ _ _ _ _ _ _ _ bN ag (@ah _ _ _ _ _ _ _ _ _ _ _ C__law_draw hr (by lia) rfl (@aa _ _ _ _ _ (pv 0) (@aa _ _ _ _ _ ag ac (by rfl)) (by rfl)) (by decide) (by rfl) (by rfl))) (@aa _ _ _ _ _ (@ah _ _ _ _ _ _ _ _ _ _ _ C__law_draw hr (by lia) rfl (@aa _ _ _ _ _ (pv 0) (@aa _ _ _ _ _ (@au _ _ _ _ _ _ _ _ mG ag ag) ac (by rfl)) (by rfl)) (by decide) (by rfl) (by rfl)) ac (by rfl)) (by rfl)) (by rfl)) (by rfl))) (by rfl) (by first|exact .inl rfl|exact .inr rfl|assumption)) (@ae _ _ _ _ _ (@aC _ _ (1) _ _ _ _ (cQ).nd rfl (Or.inl rfl) (@au _ _ _ _ _ _ _ _ iY (pv 1) (@aY _ _ _ _ (@aa _ _ _ _ _ (@au _ _ _ _ _ _ _ _ bN ag (@ah _ _ _ _ _ _ _ _ _ _ _ C__law_draw hr (by lia) rfl (@aa _ _ _ _ _ (pv 0) (@aa _ _ _ _ _ (@au _ _ _ _ _ _ _ _ mG ag ag) ac (by rfl)) (by rfl)) (by decide) (by rfl) (by rfl))) (@aa _ _ _ _ _ (@ah _ _ _ _ _ _ _ _ _ _ _ C__law_draw hr (by lia) rfl (@aa _ _ _ _ _ (pv 0) (@aa _ _ _ _ _ ag ac (by rfl)) (by rfl)) (by decide) (by rfl) (by rfl)) ac (by rfl)) (by rfl)))) (by rfl) (by first|exact .inl rfl|exact .inr rfl|assumption)) (@af _ _ _ (@aq _ _ _ _ (@aG _ _ _ _ _ _ _ aJ (pv 1) (@aG _ _ _ _ _ _ _ aJ (@aY _ _ _ _ (@aa _ _ _ _ _ ag (@aa _ _ _ _ _ ag (@aa _ _ _ _ _ ag (@aa _ _ _ _ _ ag (@aa _ _ _ _ _ ag (@aa _ _ _ _ _ ag (@aa _ _ _ _ _ ag (@aa _ _ _ _ _ ag (@aa _ _ _ _ _ ag (@aa _ _ _ _ _ ag ac (by rfl)) (by rfl)) (by rfl)) (by rfl)) (by rfl)) (by rfl)) (by rfl)) (by rfl)) (by rfl)) (by rfl))) (@ah _ _ _ _ _ _ _ _ _ _ _ C__law_draw hr (by lia) rfl (@aa _ _ _ _ _ (pv 0) (@aa _ _ _ _ _ ag ac (by rfl)) (by rfl)) (by decide) (by rfl) (by rfl)) (fun _ _=>rfl)) (fun _ _=>rfl)))))),?_⟩;refine ⟨_,rfl,wl,10,M,rfl,by decide,by decide,hw,by lia,fun r1 H1 a1 b1 g1 w1=>?_⟩;refine ⟨_,rfl,wl,4,_,rfl,by decide,by decide,w1,by lia,fun r2 H2 a2 b2 g2 w2=>?_⟩;refine ⟨_,rfl,wl,10,_,rfl,by decide,by decide,w2,by lia,fun r3 H3 a3 b3 g3 w3=>⟨_,_,rfl,rfl,?_⟩⟩;refine ⟨_,rfl,_,_,rfl,rfl,⟨by decide,by decide,by decide⟩,wl,1000000000000,_,rfl,by decide,by decide,w3,by lia,fun r4 H4 a4 b4 g4 w4=>?_⟩;refine ⟨(by show 4≤sizeLine;decide),fun p1 n1=>?_⟩;have w4':Wel (upd H4 p1 (.lst [.int r1,.int r2,.int (0 - r3),.int r4])) wl _:=w4.keep (Same.new n1 _) (aa0 _);refine ⟨_,rfl,_,rfl,_,_,rfl,rfl,⟨by decide,by decide,by decide⟩,wl,1000000000000,_,rfl,by decide,by decide,w4',by lia,fun r5 H5 a5 b5 g5 w5=>⟨_,_,rfl,rfl,?_⟩⟩;refine ⟨_,rfl,wl,100,_,rfl,by decide,by decide,w5,by lia,fun r6 H6 a6 b6 g6 w6=>?_⟩;refine ⟨(by show 2≤sizeLine;decide),fun p2 n2=>?_⟩;have ne1:p1≠wl:=w4.ne n1;have e1:H6 p1=some (.lst [.int r1,.int r2,.int (0 - r3),.int r4]):=g6 _ _ ne1 (g5 _ _ ne1 ad);have w6':Wel (upd H6 p2 (.lst [.int (0 - r5),.int r6])) wl _:=w6.keep (Same.new n2 _) (aa0 _);refine ⟨p1,p2,_,_,rfl,rfl,Same.new n2 _ _ _ e1,ad,(by show 6≤sizeLine;decide),fun p3 n3=>?_⟩;have w7:=w6'.keep (Same.new n3 (.lst ([.int r1,.int r2,.int (0 - r3),.int r4]++[.int (0 - r5),.int r6]))) (aa0 _);refine ⟨_,rfl,(by show 10≤sizeLine;decide),fun p4 n4=>?_⟩;have w8:=w7.keep (Same.new n4 (.lst [.int 0,.int 0,.int 0,.int 1,.int 1,.int 2,.int 2,.int 3,.int 4,.int 5])) (aa0 _);refine ⟨_,rfl,wl,10,_,rfl,by decide,by decide,w8,by lia,fun r7 H7 a7 b7 g7 w9=>?_⟩;have ne3:p3≠wl:=w6'.ne n3;have ne4:p4≠wl:=w7.ne n4;obtain ⟨z,hz,z0,z1⟩:=uP a7 b7;refine ⟨p4,_,_,_,rfl,rfl,SqL.of (g7 _ _ ne4 ad),hz,?_⟩;obtain ⟨y,hy,y0,y1⟩:=at6 (a:=r1) (b:=r2) (c:=0 - r3) (d:=r4) (e:=0 - r5) (f':=r6) z0 z1 (fun i=>-1000000000000 < i∧i < 1000000000000) (by lia) (by lia) (by lia) (by lia) (by lia) (by lia);refine ⟨p3,_,_,_,rfl,rfl,SqL.of (g7 _ _ ne3 (Same.new n4 _ _ _ ad)),hy,?_⟩;refine q y H7 y0 y1 ?_ (w9.more (by lia));exact ((((((((((g1.trans g2).trans g3).trans g4).trans (But.new n1 _)).trans g5).trans g6).trans (But.new n2 _)).trans (But.new n3 _)).trans (But.new n4 _)).trans g7)
open PySem L2
def qr (ns:List Int):Prop:=∀ i∈ns,-1000000000000 < i∧i < 1000000000000
def o0:Sp:=fun vs H Q _=>∃ w n M,vs=[.ref w,.int n]∧0≤n∧n≤20∧Wel H w M∧M < 999990000 ∧
  ∀ p ns H',But w H H'→Wel H' w (M+200)→H p=none→H' p=some (.lst (ns.map V.int))→(ns.length:Int)=n→qr ns→Q (.ref p) H'
abbrev fP:Stmt:=top 56
theorem lz:FnScope ["well","many"] ["well","many"] (ai fP):=⟨rfl,rfl,rfl,by decide +kernel,rfl,by decide +kernel,by decide +kernel⟩
theorem qK (i:Int) (k:Nat):(aax k [V.int i]).flatten=(aax k i).map V.int:=by
  induction k with
  | zero=>rfl
  | succ k ih=>rw [abk,aa6,ih];rfl
theorem sy (F:Fun K "_law_row" "_law_row" fP f fd) (B:Bu K mg) (C__law_draw:Cal P w K mg base "_law_draw" 2 ["well","many"] fC) (C__law_number:Cal P w K mg base "_law_number" 3 ["well"] iK) :
    FnOk P w K mg base CX0 4 f fd ["well","many"] o0:=by
  refine F.ok lz (fun vs H Q E h=>?_) (fun cdv A outer s H vs Q E hr h=>?_)
  · obtain ⟨x,m,M,rfl,_⟩:=h;rfl
  obtain ⟨wl,n,M,rfl,h0,h1,hw,hM,q⟩:=h;refine ⟨_,(@ae _ _ _ _ _ (@aL _ _ _ _ _ _ _ _ (@av _ _ _ _ _ _ _ _ bn (@ah _ _ _ _ _ _ _ _ _ _ _ C__law_draw hr (by lia) rfl (@aa _ _ _ _ _ (pv 0) (@aa _ _ _ _ _ ag ac (by rfl)) (by rfl)) (by decide) (by rfl) (by rfl)) ag (aE _)) (@af _ _ _ (@aq _ _ _ _ (@au _ _ _ _ _ _ _ _ so (@aY _ _ _ _ (@aa _ _ _ _ _ (@ah _ _ _ _ _ _ _ _ _ _ _ C__law_number hr (by lia) rfl (@aa _ _ _ _ _ (pv 0) ac (by rfl)) (by decide) (by rfl) (by rfl)) ac (by rfl))) (pv 1)))) aB) (@af _ _ _ (@aq _ _ _ _ (@cY _ _ _ _ _ _ _ _ (["k","well"]) ([none,some 0]) _ _ _ _ rfl (@cr _ _ _ _ _ _ rfl B.irange (@aa _ _ _ _ _ (pv 1) ac (by rfl)) (by rfl)) rfl ⟨rfl,trivial⟩ ⟨⟨rfl,Or.inl rfl,Or.inl rfl⟩,trivial⟩ (fun _ _ _ _=>⟨(@aj _ _ (0) _ (show aaO (["k","well"]:List Str) by decide +kernel) rfl (Or.inl rfl) (.inr rfl)),aV,(@ah _ _ _ _ _ _ _ _ _ _ _ C__law_number hr (by lia) rfl (@aa _ _ _ _ _ (pv 1) ac (by rfl)) (by decide) (by rfl) (by rfl))⟩) (by rfl) (by rfl) (by rfl) (by rfl) (by intro _;rfl))))),?_⟩;refine ⟨_,rfl,wl,8,M,rfl,by decide,by decide,hw,by lia,fun r1 H1 a1 b1 g1 w1=>⟨rfl,_,rfl,oH (fun _=>?_) (fun _=>?_)⟩⟩
  · refine ⟨_,rfl,wl,_,rfl,w1,by lia,fun i H2 i0 i1 g2 w2=>⟨(by show 1≤sizeLine;decide),fun p1 n1=>?_⟩⟩;refine ⟨_,rfl,p1,n,_,rfl,rfl,ad,by lia,by lia,bx (by show 1 * n.toNat≤1000;lia),fun p2 n2=>?_⟩;have w3:=w2.keep (Same.new n1 (.lst [.int i])) (aa0 _);have w4:=w3.keep (Same.new n2 (.lst (aax n.toNat [V.int i]).flatten)) (aa0 _);refine q p2 (aax n.toNat i) _ (((g1.trans g2).trans (But.new n1 _)).trans (But.new n2 _)) (w4.more (by lia)) (But.free ((g1.trans g2).trans (But.new n1 (.lst [.int i]))) w3 n2) ?_ (by rw [List.length_replicate];lia) ?_
    · rw [ad,qK]
    · intro z hz;rw [List.eq_of_mem_replicate hz];exact ⟨i0,i1⟩
  · refine ⟨_,rfl,n,rfl,by lia,by lia,?_⟩;refine ⟨fun i m ys H'=>i≤n.toNat∧m=n.toNat - i∧∃ ns:List Int,ys=ns.map V.int∧ns.length=i∧qr ns∧But wl H H'∧Wel H' wl (M+1+7 * i),⟨_,aaX _,rfl,[],rfl,rfl,(fun _ z=>nomatch z),g1,w1.more (by lia)⟩,?_⟩;rintro i m ys H' ⟨hi,rfl,ns,rfl,hl,hs,hb,hw'⟩;by_cases hlt:i < n.toNat
    · refine .inr ⟨hlt,aA (by rw [aab];lia),fun x H2 y=>?_⟩;obtain ⟨rfl,rfl⟩:=y;refine ⟨_,rfl,wl,_,rfl,hw',by lia,fun z H3 z0 z1 g3 w3=>?_⟩;refine ⟨n.toNat - (i+1),by lia,hlt,rfl,ns++[z],by rw [aae];rfl,by rw [aag,abC,hl],?_,hb.trans g3,w3.more (by lia)⟩;intro u hu;rcases aat.mp hu with hu|hu
      · exact hs u hu
      · rw [aak.mp hu];exact ⟨z0,z1⟩
    · refine .inl ⟨Nat.not_lt.mp hlt,fun p hp=>?_⟩;refine q p ns _ (hb.trans (But.new hp _)) ((hw'.keep (Same.new hp _) (aa0 _)).more (by lia)) (But.free hb hw' hp) ad (by lia) hs
def kh:List V:=[.str "+",.str "-",.str "*",.str "+-",.str "+*",.str "-*",.str "+-*"]
def bC (gs:List Sg):Prop:=inV (.str (am gs)) kh=true
def fA:Sp:=fun vs H Q _=>∃ w M,vs=[.ref w]∧Wel H w M∧M < 999990000∧∀ gs H',1≤gs.length→gs.length≤3→bC gs→But w H H'→Wel H' w (M+1)→Q (.str (am gs)) H'
theorem at9 {k:Int} (h0:0≤k) (h1:k < 9):∃ gs:List Sg,atI [V.str "+-*",.str "+-*",.str "+-*",.str "+",.str "-",.str "*",.str "+-",.str "+*",.str "-*"] k=some (.str (am gs))∧1≤gs.length∧gs.length≤3∧bC gs:=by
  have : k=0∨k=1∨k=2∨k=3∨k=4∨k=5∨k=6∨k=7∨k=8:=by lia
  rcases this with rfl|rfl|rfl|rfl|rfl|rfl|rfl|rfl|rfl
  · exact ⟨[.plus,.minus,.times],by rfl,by decide,by decide,by unfold bC;decide +kernel⟩
  · exact ⟨[.plus,.minus,.times],by rfl,by decide,by decide,by unfold bC;decide +kernel⟩
  · exact ⟨[.plus,.minus,.times],by rfl,by decide,by decide,by unfold bC;decide +kernel⟩
  · exact ⟨[.plus],by rfl,by decide,by decide,by unfold bC;decide +kernel⟩
  · exact ⟨[.minus],by rfl,by decide,by decide,by unfold bC;decide +kernel⟩
  · exact ⟨[.times],by rfl,by decide,by decide,by unfold bC;decide +kernel⟩
  · exact ⟨[.plus,.minus],by rfl,by decide,by decide,by unfold bC;decide +kernel⟩
  · exact ⟨[.plus,.times],by rfl,by decide,by decide,by unfold bC;decide +kernel⟩
  · exact ⟨[.minus,.times],by rfl,by decide,by decide,by unfold bC;decide +kernel⟩
abbrev dS:Stmt:=top 57
theorem jp:FnScope ["well"] ["well"] (ai dS):=⟨rfl,rfl,rfl,by decide +kernel,rfl,by decide +kernel,by decide +kernel⟩
theorem kB (F:Fun K "_law_signs" "_law_signs" dS f fd) (C__law_draw:Cal P w K mg base "_law_draw" 2 ["well","many"] fC):FnOk P w K mg base CX0 3 f fd ["well"] fA:=by
  refine F.ok jp (fun vs H Q E h=>?_) (fun cdv A outer s H vs Q E hr h=>?_)
  · obtain ⟨x,M,rfl,_⟩:=h;rfl
  obtain ⟨wl,M,rfl,hw,hM,q⟩:=h;refine ⟨_,(@af _ _ _ (@aq _ _ _ _ (@aG _ _ _ _ _ _ _ aJ (@aY _ _ _ _ (@aa _ _ _ _ _ ay (@aa _ _ _ _ _ ay (@aa _ _ _ _ _ ay (@aa _ _ _ _ _ ay (@aa _ _ _ _ _ ay (@aa _ _ _ _ _ ay (@aa _ _ _ _ _ ay (@aa _ _ _ _ _ ay (@aa _ _ _ _ _ ay ac (by rfl)) (by rfl)) (by rfl)) (by rfl)) (by rfl)) (by rfl)) (by rfl)) (by rfl)) (by rfl))) (@ah _ _ _ _ _ _ _ _ _ _ _ C__law_draw hr (by lia) rfl (@aa _ _ _ _ _ (pv 0) (@aa _ _ _ _ _ ag ac (by rfl)) (by rfl)) (by decide) (by rfl) (by rfl)) (fun _ _=>rfl)))),?_⟩;refine ⟨(by show 9≤sizeLine;decide),fun p1 n1=>?_⟩;have w1:=hw.keep (Same.new n1 (.lst [.str "+-*",.str "+-*",.str "+-*",.str "+",.str "-",.str "*",.str "+-",.str "+*",.str "-*"])) (aa0 _);refine ⟨_,rfl,wl,9,_,rfl,by decide,by decide,w1,by lia,fun r1 H1 a1 b1 g1 w2=>?_⟩;obtain ⟨gs,hg,l1,l2,l3⟩:=at9 a1 b1;exact ⟨p1,_,_,_,rfl,rfl,SqL.of (g1 _ _ (hw.ne n1) ad),hg,q gs H1 l1 l2 l3 ((But.new n1 _).trans g1) w2⟩
theorem mv (x y:Str):(x++y).cps.toList=x.cps.toList++y.cps.toList:=by
  obtain ⟨a⟩:=x;obtain ⟨b⟩:=y;show (a++b).toList=_;rw [Array.toList_append]
def Sg.code:Sg→Nat
  | .plus=>43
  | .minus=>45
  | .times=>42
theorem eD (g:Sg):g.str=⟨#[g.code]⟩:=by cases g <;> rfl
theorem bS:∀ gs:List Sg,(am gs).cps.toList=gs.map Sg.code
  | []=>rfl
  | g :: r=>by
    show (g.str++am r).cps.toList=g.code :: r.map Sg.code;rw [mv,bS r,eD];rfl
theorem uf {gs:List Sg} {k:Int} (h0:0≤k) (h1:k < (gs.length:Nat)):∃ g:Sg,atI (am gs).cps.toList k=some g.code∧g∈gs:=by
  obtain ⟨j,rfl⟩:=abg h0;have hj:j < gs.length:=by lia
  refine ⟨gs[j],fj ?_,acd hj⟩;rw [bS,aam,aaf hj];rfl
def Wy.within (gs:List Sg):Wy→Prop
  | .num _=>True
  | .node g l r=>g∈gs∧l.within gs∧r.within gs
def nB (n:Nat):Sp:=fun vs H Q _=>∃ w r gs ns M,vs=[.ref w,.ref r,.str (am gs)]∧H r=some (.lst (ns.map V.int))∧r≠w∧1≤ns.length∧ns.length≤n∧n≤20∧1≤gs.length∧gs.length≤3∧Wel H w M∧M+4 * ns.length - 4 < 999999000 ∧
  ∀ v wy H',WyIn H' wy v→wy.nums=ns→wy.within gs→But w H H'→Wel H' w (M+4 * ns.length - 4)→Q v H'
theorem at3 {a b c:Int} {k:Int} (h0:0≤k) (h1:k < 3) (P:Int→Prop) (pa:P a) (pb:P b) (pc:P c):∃ z,atI [V.int a,.int b,.int c] k=some (.int z)∧P z:=by
  have : k=0∨k=1∨k=2:=by lia
  rcases this with rfl|rfl|rfl
  · exact ⟨a,rfl,pa⟩
  · exact ⟨b,rfl,pb⟩
  · exact ⟨c,rfl,pc⟩
theorem qh (ns:List Int) (c:Nat) (h:c≤ns.length):jF (ns.map V.int) none (some (c:Int))=(ns.take c).map V.int:=by
  have hl:(ns.map V.int).length=ns.length:=aab _;have e0:HT.sIx ns.length 0 none=0:=by simp [HT.sIx]
  have e1:HT.sIx ns.length ns.length (some (c:Int))=c:=by
    simp only [HT.sIx];split <;> lia
  unfold jF;rw [hl,e0,e1,List.drop_zero,abH];rfl
theorem qj (ns:List Int) (c:Nat) (h:c≤ns.length):jF (ns.map V.int) (some (c:Int)) none=(ns.drop c).map V.int:=by
  have hl:(ns.map V.int).length=ns.length:=aab _;have e0:HT.sIx ns.length ns.length none=ns.length:=by simp [HT.sIx]
  have e1:HT.sIx ns.length 0 (some (c:Int))=c:=by
    simp only [HT.sIx];split <;> lia
  unfold jF;rw [hl,e0,e1,abG,aaR (by rw [aaJ,hl];exact aac _)]
abbrev fO:Stmt:=top 58
theorem eI:FnScope ["well","row","signs","cut","sign"] ["well","row","signs"] (ai fO):=⟨rfl,rfl,rfl,by decide +kernel,rfl,by decide +kernel,by decide +kernel⟩
theorem sx (F:Fun K "_law_way" "_law_way" fO f fd) (bF:Binds K fd ["well","row","signs"] []) (mF:mg "_law_way" = some (.ref f)) (B:Bu K mg) (C__law_draw:Cal P w K mg base "_law_draw" 2 ["well","many"] fC) :
    ∀ n,FnOk P w K mg base CX0 (n+2) f fd ["well","row","signs"] (nB n):=by
  intro n
  induction n with
  | zero =>
    refine ⟨fun vs H Q E h=>?_,fun A outer s H args us vs Q E _ _ _ _ h=>?_⟩
    · obtain ⟨x,r,gs,ns,M,rfl,_⟩:=h;rfl
    · obtain ⟨x,r,gs,ns,M,_,_,_,h1,h2,_⟩:=h;lia
  | succ n ih =>
    have C__law_way:Cal P w K mg base "_law_way" (n+2) ["well","row","signs"] (nB n):=⟨f,fd,ih,bF,F.kp,mF⟩
    refine F.ok eI (fun vs H Q E h=>?_) (fun cdv A outer s H vs Q E hr h=>?_)
    · obtain ⟨x,r,gs,ns,M,rfl,_⟩:=h;rfl
    obtain ⟨wl,r,gs,ns,M,rfl,er,nr,h1,h2,h20,g1,g3,hw,hM,q⟩:=h;refine ⟨_,(@ae _ _ _ _ _ (@aL _ _ _ _ _ _ _ _ (@av _ _ _ _ _ _ _ _ bn (@ao _ _ _ _ _ _ _ _ _ az rfl B.ilen aaD (@aa _ _ _ _ _ (pv 1) ac (by rfl)) (by decide) (by decide) (by rfl) (by rfl)) ag (aE _)) (@af _ _ _ (@aq _ _ _ _ (@aG _ _ _ _ _ _ _ aJ (pv 1) ag (fun _ _=>rfl)))) aB) (@ae _ _ _ _ _ (@aC _ _ (3) _ _ _ _ (eI).nd rfl (Or.inl rfl) (@aG _ _ _ _ _ _ _ aJ (@aY _ _ _ _ (@aa _ _ _ _ _ (@au _ _ _ _ _ _ _ _ a_ ag (@ah _ _ _ _ _ _ _ _ _ _ _ C__law_draw hr (by lia) rfl (@aa _ _ _ _ _ (pv 0) (@aa _ _ _ _ _ (@au _ _ _ _ _ _ _ _ bN (@ao _ _ _ _ _ _ _ _ _ az rfl B.ilen aaD (@aa _ _ _ _ _ (pv 1) ac (by rfl)) (by decide) (by decide) (by rfl) (by rfl)) ag) ac (by rfl)) (by rfl)) (by decide) (by rfl) (by rfl))) (@aa _ _ _ _ _ ag (@aa _ _ _ _ _ (@au _ _ _ _ _ _ _ _ bN (@ao _ _ _ _ _ _ _ _ _ az rfl B.ilen aaD (@aa _ _ _ _ _ (pv 1) ac (by rfl)) (by decide) (by decide) (by rfl) (by rfl)) ag) ac (by rfl)) (by rfl)) (by rfl))) (@au _ _ _ _ _ _ _ _ iX (@ah _ _ _ _ _ _ _ _ _ _ _ C__law_draw hr (by lia) rfl (@aa _ _ _ _ _ (pv 0) (@aa _ _ _ _ _ ag ac (by rfl)) (by rfl)) (by decide) (by rfl) (by rfl)) ag) (fun _ _=>rfl)) (by rfl) (by first|exact .inl rfl|exact .inr rfl|assumption)) (@ae _ _ _ _ _ (@aC _ _ (4) _ _ _ _ (eI).nd rfl (Or.inl rfl) (@aG _ _ _ _ _ _ _ sL (pv 2) (@ah _ _ _ _ _ _ _ _ _ _ _ C__law_draw hr (by lia) rfl (@aa _ _ _ _ _ (pv 0) (@aa _ _ _ _ _ (@ao _ _ _ _ _ _ _ _ _ gy rfl B.ilen aaD (@aa _ _ _ _ _ (pv 2) ac (by rfl)) (by decide) (by decide) (by rfl) (by rfl)) ac (by rfl)) (by rfl)) (by decide) (by rfl) (by rfl)) (fun _ _=>rfl)) (by rfl) (by first|exact .inl rfl|exact .inr rfl|assumption)) (@af _ _ _ (@aq _ _ _ _ (@aM _ _ _ _ _ (@aa _ _ _ _ _ (pv 4) (@aa _ _ _ _ _ (@ah _ _ _ _ _ _ _ _ _ _ _ C__law_way hr (by lia) rfl (@aa _ _ _ _ _ (pv 0) (@aa _ _ _ _ _ (@iU _ _ _ _ _ _ _ _ _ _ ka (pv 1) kt (@kq _ _ _ (pv 3))) (@aa _ _ _ _ _ (pv 2) ac (by rfl)) (by rfl)) (by rfl)) (by decide) (by rfl) (by rfl)) (@aa _ _ _ _ _ (@ah _ _ _ _ _ _ _ _ _ _ _ C__law_way hr (by lia) rfl (@aa _ _ _ _ _ (pv 0) (@aa _ _ _ _ _ (@iU _ _ _ _ _ _ _ _ _ _ ka (pv 1) (@kq _ _ _ (pv 3)) kt) (@aa _ _ _ _ _ (pv 2) ac (by rfl)) (by rfl)) (by rfl)) (by decide) (by rfl) (by rfl)) ac (by rfl)) (by rfl)) (by rfl)))))))),?_⟩;have hl:(ns.map V.int).length=ns.length:=aab _;refine ⟨_,rfl,r,_,rfl,.inl (SqL.of er),rfl,_,rfl,oH (fun c=>?_) (fun c=>?_)⟩
    · have c':V.int (((ns.map V.int).length:Nat):Int)=V.int 1:=of_decide_eq_true c;have c2:(((ns.map V.int).length:Nat):Int)=1:=by injection c'
      rw [hl] at c2
      match ns,c2,er,q with
      | [i],_,er,q =>
        exact ⟨_,rfl,r,_,_,_,rfl,rfl,SqL.of er,rfl,q _ (.num i) H rfl rfl trivial But.refl (hw.more (by show M≤M+4 * ((1:Nat):Int) - 4;lia))⟩
    have c2:ns.length≠1:=fun e=>c (by rw [hl,e];rfl);refine ⟨_,rfl,_,rfl,r,_,rfl,.inl (SqL.of er),_,_,rfl,rfl,wl,((ns.map V.int).length:Int) - 1,M,rfl,by rw [hl];lia,by rw [hl];lia,hw,by lia,fun r1 H1 a1 b1 k1 w1=>?_⟩;rw [hl] at b1;have er1:=k1 _ _ nr er;refine ⟨_,_,rfl,rfl,_,rfl,r,_,rfl,.inl (SqL.of er1),_,_,rfl,rfl,(by show 3≤sizeLine;decide),fun p1 n1=>?_⟩;have w1':=w1.keep (Same.new n1 (.lst [.int (1+r1),.int 1,.int (((ns.map V.int).length:Int) - 1)])) (aa0 _);refine ⟨_,rfl,wl,5,_,rfl,by decide,by decide,w1',by lia,fun r2 H2 a2 b2 k2 w2=>?_⟩;have z2:0≤r2 / 2∧r2 / 2 < 3:=by lia
    obtain ⟨cut,hc,c0,c1⟩:=at3 (a:=1+r1) (b:=1) (c:=((ns.map V.int).length:Int) - 1) z2.1 z2.2 (fun i=>1≤i∧i < (ns.length:Int)) (by lia) (by lia) (by rw [hl];lia);have ne1:p1≠wl:=w1.ne n1;refine ⟨_,_,rfl,rfl,⟨by decide,by decide⟩,p1,_,_,_,rfl,rfl,SqL.of (k2 _ _ ne1 ad),hc,?_⟩;have hgl:=cf gs;refine ⟨_,rfl,_,rfl,_,rfl,_,rfl,bx (by lia),wl,((am gs).length:Int),_,rfl,by lia,by lia,w2,by lia,fun r3 H3 a3 b3 k3 w3=>?_⟩;obtain ⟨g,hg,gm⟩:=uf (gs:=gs) a3 (by lia);refine ⟨_,_,_,rfl,rfl,bx (by lia),hg,?_⟩;obtain ⟨cn,rfl⟩:=abg (show 0≤cut by lia);have hcl:cn≤ns.length:=by lia
    have kk:But wl H H3:=((k1.trans (But.new n1 _)).trans k2).trans k3;have er3:=kk _ _ nr er;refine ⟨_,rfl,_,rfl,_,rfl,_,rfl,cn,rfl,r,_,rfl,SqL.of er3,fun p2 n2=>?_⟩;rw [qh ns cn hcl];have lt:(ns.take cn).length=cn:=by rw [aas];lia
    have ld:(ns.drop cn).length=ns.length - cn:=by rw [aaJ]
    have w4:=w3.keep (Same.new n2 (.lst ((ns.take cn).map V.int))) (aa0 _);refine ⟨_,rfl,wl,p2,gs,ns.take cn,_,rfl,ad,w3.ne n2,by lia,by lia,by lia,g1,g3,w4,by lia,fun vl wyl H4 i4 e4 t4 k4 w5=>?_⟩;have kk4:But wl H H4:=(kk.trans (But.new n2 _)).trans k4;have er4:=kk4 _ _ nr er;refine ⟨_,rfl,_,rfl,_,rfl,cn,rfl,r,_,rfl,SqL.of er4,fun p3 n3=>?_⟩;rw [qj ns cn hcl];have w6:=w5.keep (Same.new n3 (.lst ((ns.drop cn).map V.int))) (aa0 _);refine ⟨_,rfl,wl,p3,gs,ns.drop cn,_,rfl,ad,w5.ne n3,by lia,by lia,by lia,g1,g3,w6,by lia,fun vr wyr H5 i5 e5 t5 k5 w7=>?_⟩;refine ⟨(by show 3≤sizeLine;decide),fun p4 n4=>?_⟩;have T45:Tups H4 H5:=(Tups.of (Same.new n3 _)).trans (w6.tups k5);have T5:Tups H5 (upd H5 p4 (.tup [.str ⟨#[g.code]⟩,vl,vr])):=Tups.of (Same.new n4 _);refine q _ (.node g wyl wyr) _ ⟨p4,vl,vr,rfl,?_,i4.mono (T45.trans T5),i5.mono T5⟩ ?_ ⟨gm,t4,t5⟩ (((kk4.trans (But.new n3 _)).trans k5).trans (But.new n4 _)) ?_
    · rw [ad,eD]
    · show wyl.nums++wyr.nums=ns;rw [e4,e5,aaT]
    · refine (w7.keep (Same.new n4 _) (aa0 _)).more ?_;lia
end
open PySem L2
inductive Fm where
  | num (i:Int)
  | sum (ts:List (Bool × PyData))
  | times (fs:List PyData)
def sgB:Bool→Str
  | true=>"+"
  | false=>"-"
def tmD (t:Bool × PyData):PyData:=.tuple [.str (sgB t.1),t.2]
def Fm.data:Fm→PyData
  | .num i=>.int i
  | .sum ts=>.tuple [.str "sum",.tuple (ts.map tmD)]
  | .times fs=>.tuple [.str "times",.tuple fs]
def Fm.terms:Fm→List (Bool × PyData)
  | .sum ts=>ts
  | .num i=>[(true,.int i)]
  | .times fs=>[(true,.tuple [.str "times",.tuple fs])]
def Fm.factors:Fm→List PyData
  | .times fs=>fs
  | .num i=>[.int i]
  | .sum ts=>[.tuple [.str "sum",.tuple (ts.map tmD)]]
def turn (ts:List (Bool × PyData)):List (Bool × PyData):=ts.map fun t=>(!t.1,t.2)
def Wy.fm:Wy→Fm
  | .num i=>.num i
  | .node .times l r=>.times (l.fm.factors++r.fm.factors)
  | .node .plus l r=>.sum (l.fm.terms++r.fm.terms)
  | .node .minus l r=>.sum (l.fm.terms++turn r.fm.terms)
theorem dz (ts:List (Bool × PyData)):(turn ts).length=ts.length:=aab _
theorem jL (ts:List (Bool × PyData)):turn (turn ts)=ts:=by
  induction ts with
  | nil=>rfl
  | cons t r ih=>show ((!(!t.1),t.2) :: turn (turn r))=_;rw [ih,Bool.not_not]
theorem eB (a b:List (Bool × PyData)):turn (a++b)=turn a++turn b:=aae
theorem Wy.fm_len:∀ w:Wy,w.fm.terms.length≤w.size∧w.fm.factors.length≤w.size∧1≤w.fm.terms.length∧1≤w.fm.factors.length
  | .num i=>⟨aac _,aac _,aac _,aac _⟩
  | .node .times l r=>by
    have a:=l.fm_len;have b:=r.fm_len;have zl:=l.size_pos;have zr:=r.size_pos;have e:(Wy.node .times l r).size=l.size+r.size:=rfl;have e2:(Wy.node .times l r).fm.factors.length=l.fm.factors.length+r.fm.factors.length:=aag;have e3:(Wy.node .times l r).fm.terms.length=1:=rfl;lia
  | .node .plus l r=>by
    have a:=l.fm_len;have b:=r.fm_len;have zl:=l.size_pos;have zr:=r.size_pos;have e:(Wy.node .plus l r).size=l.size+r.size:=rfl;have e2:(Wy.node .plus l r).fm.terms.length=l.fm.terms.length+r.fm.terms.length:=aag;have e3:(Wy.node .plus l r).fm.factors.length=1:=rfl;lia
  | .node .minus l r=>by
    have a:=l.fm_len;have b:=r.fm_len;have zl:=l.size_pos;have zr:=r.size_pos;have e:(Wy.node .minus l r).size=l.size+r.size:=rfl;have e2:(Wy.node .minus l r).fm.terms.length=l.fm.terms.length+r.fm.terms.length:=List.length_append.trans (by rw [dz]);have e3:(Wy.node .minus l r).fm.factors.length=1:=rfl;lia
theorem jg {H:Hp}:∀ {ds:List PyData} {vs:List V},DatAll H ds vs→∀ {i:Nat} {x:V},vs[i]?=some x→∃ d,ds[i]?=some d∧Dat H d x
  | [],vs,h,i,x,e=>by simp only [DatAll] at h;subst h;simp at e
  | d :: ds,vs,h,i,x,e=>by
    simp only [DatAll] at h;obtain ⟨v,r,rfl,h1,h2⟩:=h;cases i with
    | zero=>simp at e;subst e;exact ⟨d,rfl,h1⟩
    | succ i=>exact jg h2 (by simpa using e)
theorem b_ {H:Hp} {p:Addr} {z:Str} {d:PyData} {u:V} (e:H p=some (.tup [.str z,u])) (h:Dat H d u):Dat H (.tuple [.str z,d]) (.ref p):=by
  simp only [Dat,DatAll];exact ⟨p,_,rfl,e,_,_,rfl,rfl,_,_,rfl,h,rfl⟩
theorem b8 {H:Hp} {z:Str} {d:PyData} {v:V} (h:Dat H (.tuple [.str z,d]) v):∃ p u,v=.ref p∧H p=some (.tup [.str z,u])∧Dat H d u:=by
  simp only [Dat,DatAll] at h;obtain ⟨a,xs,rfl,e,v1,r1,rfl,rfl,v2,r2,rfl,h2,rfl⟩:=h;exact ⟨a,v2,rfl,e,h2⟩
theorem fg {H:Hp} {p:Addr} {ds:List PyData} {us:List V} (e:H p=some (.tup us)) (h:DatAll H ds us):Dat H (.tuple ds) (.ref p):=by
  simp only [Dat];exact ⟨p,_,rfl,e,h⟩
theorem gv {H:Hp} {ds:List PyData} {v:V} (h:Dat H (.tuple ds) v):∃ p us,v=.ref p∧H p=some (.tup us)∧DatAll H ds us:=by
  simp only [Dat] at h;exact h
structure Ct (P:Program) (w:World) (K:aaa) (mg:Str→Option Value) (aT:Addr):Prop where
  gTURNED:mg "TURNED" = some (.ref aT)
  dTURNED:KD P w K aT [(.inr "+",.str "-"),(.inr "-",.str "+")]
section
variable {P:Program} {w:World} {K:aaa} {mg:Str→Option Value} {base:Heap} {f:Addr} {fd:FuncData}
def Fm.isK:Fm→Str→Bool
  | .num _,_=>false
  | .sum _,k=>decide (V.str "sum" = V.str k)
  | .times _,k=>decide (V.str "times" = V.str k)
def j6:Sp:=fun vs H Q _=>∃ f v k,vs=[v,.str k]∧Dat H (Fm.data f) v∧Q (.bl (f.isK k)) H
abbrev gL:Stmt:=top 27
theorem mD:FnScope ["form","kind"] ["form","kind"] (ai gL):=⟨rfl,rfl,rfl,by decide +kernel,rfl,by decide +kernel,by decide +kernel⟩
theorem mI (F:Fun K "is_kind" "is_kind" gL f fd) (C_is_whole:Cal P w K mg base "is_whole" 1 ["thing"] (bE K)):FnOk P w K mg base CX0 2 f fd ["form","kind"] j6:=by
  refine F.ok mD (fun vs H Q E h=>?_) (fun cdv A outer s H vs Q E hr h=>?_)
  · obtain ⟨x,v,k,rfl,_⟩:=h;rfl
  obtain ⟨x,v,k,rfl,hv,q⟩:=h;refine ⟨_,(@af _ _ _ (@aq _ _ _ _ (@fQ _ _ _ _ _ _ _ (@pE _ _ _ _ (@ah _ _ _ _ _ _ _ _ _ _ _ C_is_whole hr (by lia) rfl (@aa _ _ _ _ _ (pv 0) ac (by rfl)) (by decide) (by rfl) (by rfl))) (@gX _ _ _ _ _ (@bY _ _ _ _ _ _ _ _ bn (@aG _ _ _ _ _ _ _ aX (pv 0) ag (fun _ _=>rfl)) (pv 1) (aE _)))))),?_⟩;cases x with
  | num i =>
    have e:v=.int i:=by simpa only [Fm.data,Dat] using hv
    subst e;exact ⟨_,rfl,_,"int",rfl,.int i,true,rfl,false,rfl,aR q⟩
  | sum ts =>
    obtain ⟨p,u,rfl,e,_⟩:=b8 hv;exact ⟨_,rfl,_,"tuple",rfl,.tup e,false,rfl,true,rfl,bj ⟨_,rfl,p,_,_,_,rfl,rfl,SqT.of e,rfl,_,rfl,rfl,q⟩⟩
  | times ts =>
    obtain ⟨p,u,rfl,e,_⟩:=b8 hv;exact ⟨_,rfl,_,"tuple",rfl,.tup e,false,rfl,true,rfl,bj ⟨_,rfl,p,_,_,_,rfl,rfl,SqT.of e,rfl,_,rfl,rfl,q⟩⟩
def j3:Sp:=fun vs H Q _=>∃ f v,vs=[v]∧Dat H (Fm.data f) v∧∀ a us H',Same H H'→H' a=some (.tup us)→DatAll H' (f.terms.map tmD) us→Q (.ref a) H'
abbrev fH:Stmt:=top 28
theorem li:FnScope ["form"] ["form"] (ai fH):=⟨rfl,rfl,rfl,by decide +kernel,rfl,by decide +kernel,by decide +kernel⟩
theorem lI (F:Fun K "terms_in" "terms_in" fH f fd) (C_is_kind:Cal P w K mg base "is_kind" 2 ["form","kind"] j6):FnOk P w K mg base CX0 3 f fd ["form"] j3:=by
  refine F.ok li (fun vs H Q E h=>?_) (fun cdv A outer s H vs Q E hr h=>?_)
  · obtain ⟨x,v,rfl,_⟩:=h;rfl
  obtain ⟨x,v,rfl,hv,q⟩:=h;refine ⟨_,(@af _ _ _ (@aq _ _ _ _ (@eV _ _ _ _ _ _ _ _ (@aQ _ _ _ (@ah _ _ _ _ _ _ _ _ _ _ _ C_is_kind hr (by lia) rfl (@aa _ _ _ _ _ (pv 0) (@aa _ _ _ _ _ ay ac (by rfl)) (by rfl)) (by decide) (by rfl) (by rfl)) (by intro _;rfl)) (@aG _ _ _ _ _ _ _ aX (pv 0) ag (fun _ _=>rfl)) (@aM _ _ _ _ _ (@aa _ _ _ _ _ (@aM _ _ _ _ _ (@aa _ _ _ _ _ ay (@aa _ _ _ _ _ (pv 0) ac (by rfl)) (by rfl))) ac (by rfl)))))),?_⟩;have alt:(x.isK "sum" = false∧x.terms=[(true,x.data)])∨∃ ts,x=.sum ts:=by
    cases x with
    | sum ts=>exact .inr ⟨ts,rfl⟩
    | num i=>exact .inl ⟨rfl,rfl⟩
    | times fs=>exact .inl ⟨(by decide +kernel:decide (V.str "times" = V.str "sum")=false),rfl⟩
  rcases alt with ⟨k1,k2⟩|⟨ts,rfl⟩
  · refine ⟨_,rfl,x,_,"sum",rfl,hv,false,congrArg V.bl k1,aR ⟨_,rfl,(by show 2≤sizeLine;decide),fun a1 n1=>⟨(by show 1≤sizeLine;decide),fun a2 n2=>?_⟩⟩⟩;have g1:=Same.new n1 (.tup [.str "+",v]);have g2:=Same.new n2 (.tup [.ref a1]);refine q a2 _ _ (g1.trans g2) ad ?_;rw [k2];exact DatAll.one (b_ (g2 _ _ ad) (Dat.mono (g1.trans g2) _ _ hv))
  · obtain ⟨p,u,rfl,e,hu⟩:=b8 hv;obtain ⟨p2,us,rfl,e2,hus⟩:=gv hu;exact ⟨_,rfl,.sum ts,_,"sum",rfl,hv,true,rfl,bj ⟨_,rfl,p,_,_,_,rfl,rfl,SqT.of e,rfl,q p2 us H (Same.refl _) e2 hus⟩⟩
def gH:Sp:=fun vs H Q _=>∃ f v,vs=[v]∧Dat H (Fm.data f) v∧∀ a us H',Same H H'→H' a=some (.tup us)→DatAll H' f.factors us→Q (.ref a) H'
abbrev dP:Stmt:=top 29
theorem jo:FnScope ["form"] ["form"] (ai dP):=⟨rfl,rfl,rfl,by decide +kernel,rfl,by decide +kernel,by decide +kernel⟩
theorem jz (F:Fun K "factors_in" "factors_in" dP f fd) (C_is_kind:Cal P w K mg base "is_kind" 2 ["form","kind"] j6):FnOk P w K mg base CX0 3 f fd ["form"] gH:=by
  refine F.ok jo (fun vs H Q E h=>?_) (fun cdv A outer s H vs Q E hr h=>?_)
  · obtain ⟨x,v,rfl,_⟩:=h;rfl
  obtain ⟨x,v,rfl,hv,q⟩:=h;refine ⟨_,(@af _ _ _ (@aq _ _ _ _ (@eV _ _ _ _ _ _ _ _ (@aQ _ _ _ (@ah _ _ _ _ _ _ _ _ _ _ _ C_is_kind hr (by lia) rfl (@aa _ _ _ _ _ (pv 0) (@aa _ _ _ _ _ ay ac (by rfl)) (by rfl)) (by decide) (by rfl) (by rfl)) (by intro _;rfl)) (@aG _ _ _ _ _ _ _ aX (pv 0) ag (fun _ _=>rfl)) (@aM _ _ _ _ _ (@aa _ _ _ _ _ (pv 0) ac (by rfl)))))),?_⟩;have alt:(x.isK "times" = false∧x.factors=[x.data])∨∃ ts,x=.times ts:=by
    cases x with
    | times ts=>exact .inr ⟨ts,rfl⟩
    | num i=>exact .inl ⟨rfl,rfl⟩
    | sum fs=>exact .inl ⟨(by decide +kernel:decide (V.str "sum" = V.str "times")=false),rfl⟩
  rcases alt with ⟨k1,k2⟩|⟨ts,rfl⟩
  · refine ⟨_,rfl,x,_,"times",rfl,hv,false,congrArg V.bl k1,aR ⟨_,rfl,(by show 1≤sizeLine;decide),fun a2 n2=>?_⟩⟩;have g2:=Same.new n2 (.tup [v]);refine q a2 _ _ g2 ad ?_;rw [k2];exact DatAll.one (Dat.mono g2 _ _ hv)
  · obtain ⟨p,u,rfl,e,hu⟩:=b8 hv;obtain ⟨p2,us,rfl,e2,hus⟩:=gv hu;exact ⟨_,rfl,.times ts,_,"times",rfl,hv,true,rfl,bj ⟨_,rfl,p,_,_,_,rfl,rfl,SqT.of e,rfl,q p2 us H (Same.refl _) e2 hus⟩⟩
def j9 (n:Nat):Sp:=fun vs H Q _=>∃ w v,vs=[v]∧WyIn H w v∧w.size≤20∧w.deep≤n∧∀ u H',Same H H'→Dat H' w.fm.data u→Q u H'
abbrev eM:Stmt:=top 26
theorem bg:FnScope ["way","sign","left","right","left_form","right_form","behind"] ["way"] (ai eM):=⟨rfl,rfl,rfl,by decide +kernel,rfl,by decide +kernel,by decide +kernel⟩
theorem kE {aT:Addr} (F:Fun K "find_form" "find_form" eM f fd) (bF:Binds K fd ["way"] []) (mF:mg "find_form" = some (.ref f)) (B:Bu K mg) (B2:Ct P w K mg aT) (C_is_whole:Cal P w K mg base "is_whole" 1 ["thing"] (bE K)) (C_factors_in:Cal P w K mg base "factors_in" 3 ["form"] gH) (C_terms_in:Cal P w K mg base "terms_in" 3 ["form"] j3) :
    ∀ n,FnOk P w K mg base CX0 (n+4) f fd ["way"] (j9 n):=by
  intro n
  induction n with
  | zero =>
    refine ⟨fun vs H Q E h=>?_,fun A outer s H args us vs Q E _ _ _ _ h=>?_⟩
    · obtain ⟨x,v,rfl,_⟩:=h;rfl
    · obtain ⟨wy,v,_,_,_,hd,_⟩:=h;cases wy <;> exact absurd hd (by simp [Wy.deep])
  | succ n ih =>
    have C_find_form:Cal P w K mg base "find_form" (n+4) ["way"] (j9 n):=⟨f,fd,ih,bF,F.kp,mF⟩
    refine F.ok bg (fun vs H Q E h=>?_) (fun cdv A outer s H vs Q E hr h=>?_)
    · obtain ⟨x,v,rfl,_⟩:=h;rfl
    obtain ⟨wy,v,rfl,hw,h20,hd,q⟩:=h;refine ⟨_,(@ae _ _ _ _ _ (@aL _ _ _ _ _ _ _ _ (@aQ _ _ _ (@ah _ _ _ _ _ _ _ _ _ _ _ C_is_whole hr (by lia) rfl (@aa _ _ _ _ _ (pv 0) ac (by rfl)) (by decide) (by rfl) (by rfl)) (by intro _;rfl)) (@af _ _ _ (@aq _ _ _ _ (pv 0))) aB) (@ae _ _ _ _ _ (@bW _ _ _ _ _ _ (pv 0) (@bX _ _ _ _ _ _ rfl (@ap _ _ _ _ _ (@aj _ _ (1) _ (bg).nd rfl (Or.inl rfl) (.inl rfl)) (@ap _ _ _ _ _ (@aj _ _ (2) _ (bg).nd rfl (Or.inl rfl) (.inl rfl)) (@ap _ _ _ _ _ (@aj _ _ (3) _ (bg).nd rfl (Or.inl rfl) (.inl rfl)) aU (by rfl)) (by rfl)) (by rfl)) (by rfl) (by rfl)) (by rfl) (by rfl) (by rfl)) (@ae _ _ _ _ _ (@aC _ _ (4) _ _ _ _ (bg).nd rfl (Or.inl rfl) (@ah _ _ _ _ _ _ _ _ _ _ _ C_find_form hr (by lia) rfl (@aa _ _ _ _ _ (pv 2) ac (by rfl)) (by decide) (by rfl) (by rfl)) (by rfl) (by first|exact .inl rfl|exact .inr rfl|assumption)) (@ae _ _ _ _ _ (@aC _ _ (5) _ _ _ _ (bg).nd rfl (Or.inl rfl) (@ah _ _ _ _ _ _ _ _ _ _ _ C_find_form hr (by lia) rfl (@aa _ _ _ _ _ (pv 3) ac (by rfl)) (by decide) (by rfl) (by rfl)) (by rfl) (by first|exact .inl rfl|exact .inr rfl|assumption)) (@ae _ _ _ _ _ (@aL _ _ _ _ _ _ _ _ (@av _ _ _ _ _ _ _ _ bn (pv 1) ay (aE _)) (@af _ _ _ (@aq _ _ _ _ (@aM _ _ _ _ _ (@aa _ _ _ _ _ ay (@aa _ _ _ _ _ (@au _ _ _ _ _ _ _ _ nM (@ah _ _ _ _ _ _ _ _ _ _ _ C_factors_in hr (by lia) rfl (@aa _ _ _ _ _ (pv 4) ac (by rfl)) (by decide) (by rfl) (by rfl)) (@ah _ _ _ _ _ _ _ _ _ _ _ C_factors_in hr (by lia) rfl (@aa _ _ _ _ _ (pv 5) ac (by rfl)) (by decide) (by rfl) (by rfl))) ac (by rfl)) (by rfl))))) aB) (@ae _ _ _ _ _ (@aC _ _ (6) _ _ _ _ (bg).nd rfl (Or.inl rfl) (@ah _ _ _ _ _ _ _ _ _ _ _ C_terms_in hr (by lia) rfl (@aa _ _ _ _ _ (pv 5) ac (by rfl)) (by decide) (by rfl) (by rfl)) (by rfl) (by first|exact .inl rfl|exact .inr rfl|assumption)) (@ae _ _ _ _ _ (@aL _ _ _ _ _ _ _ _ (@av _ _ _ _ _ _ _ _ bn (pv 1) ay (aE _)) (@af _ _ _ (@aC _ _ (6) _ _ _ _ (bg).nd rfl (Or.inl rfl) (@bH _ _ _ _ _ _ _ _ _ dy rfl B.ituple aaI (@aa _ _ _ _ _ (@cY _ _ _ _ _ _ _ _ (["head","part"]) ([none,none]) _ _ _ _ rfl (@gU _ _ _ _ (pv 6)) rfl trivial trivial (fun _ _ _ _=>⟨(@dX _ _ _ _ _ _ (2) rfl rfl (@ap _ _ _ _ _ (@aj _ _ (0) _ (show aaO (["head","part"]:List Str) by decide +kernel) rfl (Or.inl rfl) (.inr rfl)) (@ap _ _ _ _ _ (@aj _ _ (1) _ (show aaO (["head","part"]:List Str) by decide +kernel) rfl (Or.inl rfl) (.inr rfl)) aU (by rfl)) (by rfl)) (by rfl) (by rfl)),aV,(@aM _ _ _ _ _ (@aa _ _ _ _ _ (@lF _ _ _ _ _ _ _ _ _ _ _ B2.dTURNED rfl rfl rfl (@dY _ _ (.ref aT) _ _ rfl B2.gTURNED rfl (by decide)) rfl (pv 0) (fun _ _=>rfl)) (@aa _ _ _ _ _ (pv 1) ac (by rfl)) (by rfl)))⟩) (by rfl) (by rfl) (by rfl) (by rfl) (by intro _;rfl)) ac (by rfl)) (by decide) (by decide) (by rfl) (by rfl)) (by rfl) (by first|exact .inl rfl|exact .inr rfl|assumption))) aB) (@af _ _ _ (@aq _ _ _ _ (@aM _ _ _ _ _ (@aa _ _ _ _ _ ay (@aa _ _ _ _ _ (@au _ _ _ _ _ _ _ _ nM (@ah _ _ _ _ _ _ _ _ _ _ _ C_terms_in hr (by lia) rfl (@aa _ _ _ _ _ (pv 4) ac (by rfl)) (by decide) (by rfl) (by rfl)) (pv 6)) ac (by rfl)) (by rfl)))))))))))),?_⟩;cases wy with
    | num i =>
      cases hw;exact ⟨_,rfl,_,"int",rfl,.int i,true,rfl,bj ⟨_,rfl,q _ H (Same.refl _) (by simp only [Wy.fm,Fm.data,Dat])⟩⟩
    | node g l r =>
      obtain ⟨a,vl,vr,rfl,ha,hl,hr'⟩:=hw;refine ⟨_,rfl,_,"tuple",rfl,.tup ha,false,rfl,aR ?_⟩;have d:max l.deep r.deep+1≤n+1:=hd;have z:l.size+r.size≤20:=h20;have zl:=l.size_pos;have zr:=r.size_pos;have fl:=l.fm_len;have fr:=r.fm_len;refine ⟨_,rfl,a,_,rfl,SqT.of ha,rfl,_,_,rfl,_,_,rfl,_,_,rfl,rfl,?_⟩;refine ⟨_,rfl,l,vl,rfl,hl,by lia,by lia,fun ul H1 g1 i1=>?_⟩;refine ⟨_,rfl,r,vr,rfl,hr'.mono (Tups.of g1),by lia,by lia,fun ur H2 g2 i2=>?_⟩;have i1':=Dat.mono g2 _ _ i1;cases g with
      | times =>
        refine ⟨_,rfl,rfl,_,rfl,e8 rfl ?_⟩;refine ⟨_,rfl,l.fm,ul,rfl,i1',fun a3 us3 H3 g3 e3 d3=>?_⟩;refine ⟨_,rfl,r.fm,ur,rfl,Dat.mono g3 _ _ i2,fun a4 us4 H4 g4 e4 d4=>?_⟩;have e3':=g4 _ _ e3;have d3':=DatAll.mono g4 _ _ d3;have n3:=d3.len;have n4:=d4.len;refine ⟨a3,a4,us3,us4,rfl,rfl,SqT.of e3',SqT.of e4,(fun z=>by rw [z,aa1] at n3;lia),bx (by lia),(fun z=>by rw [z,aa1] at n4;lia),fun _ p5 n5=>⟨(by show 2≤sizeLine;decide),fun p6 n6=>?_⟩⟩;have g5:=Same.new n5 (.tup (us3++us4));have g6:=Same.new n6 (.tup [.str "times",.ref p5]);refine q _ _ (((((g1.trans g2).trans g3).trans g4).trans g5).trans g6) ?_;exact b_ ad (fg (g6 _ _ ad) (DatAll.mono (g5.trans g6) _ _ (DatAll.app d3' d4)))
      | plus =>
        refine ⟨_,rfl,rfl,_,rfl,dE (by decide +kernel) ?_⟩;refine ⟨_,rfl,r.fm,ur,rfl,i2,fun a4 us4 H4 g4 e4 d4=>?_⟩;refine ⟨_,rfl,rfl,_,rfl,dE (by decide +kernel) ?_⟩;refine ⟨_,rfl,l.fm,ul,rfl,Dat.mono g4 _ _ i1',fun a3 us3 H3 g3 e3 d3=>?_⟩;have e4':=g3 _ _ e4;have d4':=DatAll.mono g3 _ _ d4;have n3:=d3.len;have n4:=d4.len;rw [aab] at n3 n4;refine ⟨_,rfl,a3,a4,us3,us4,rfl,rfl,SqT.of e3,SqT.of e4',(fun z=>by rw [z,aa1] at n3;lia),bx (by lia),(fun z=>by rw [z,aa1] at n4;lia),fun _ p5 n5=>⟨(by show 2≤sizeLine;decide),fun p6 n6=>?_⟩⟩;have g5:=Same.new n5 (.tup (us3++us4));have g6:=Same.new n6 (.tup [.str "sum",.ref p5]);refine q _ _ (((((g1.trans g2).trans g4).trans g3).trans g5).trans g6) ?_;refine b_ ad (fg (g6 _ _ ad) ?_);rw [aae];exact DatAll.mono (g5.trans g6) _ _ (DatAll.app d3 d4')
      | minus =>
        refine ⟨_,rfl,rfl,_,rfl,dE (by decide +kernel) ?_⟩;refine ⟨_,rfl,r.fm,ur,rfl,i2,fun a4 us4 H4 g4 e4 d4=>?_⟩;have n4:=d4.len;rw [aab] at n4;refine ⟨_,rfl,rfl,_,rfl,e8 rfl ?_⟩;refine ⟨_,rfl,a4,rfl,⟨_,SqT.of e4⟩,?_⟩;refine sD (xs:=us4) (fun i ys H'=>Same H4 H'∧ys.length=i∧DatAll H' ((turn (r.fm.terms.take i)).map tmD) ys) ⟨Same.refl _,rfl,by simp only [ab5,turn,abh,DatAll]⟩ (fun i ys H' hi p=>⟨SqT.of (p.1 _ _ e4),aA (by lia)⟩) (fun i x ys H' hx p nx=>?_) (fun ys H5 p p5 n5=>?_)
        · obtain ⟨gp,lp,dp⟩:=p;obtain ⟨dd,hd1,hd2⟩:=jg d4 hx;rw [aam] at hd1;obtain ⟨t,ht,rfl⟩:=aaE.mp hd1;obtain ⟨pc,u,rfl,ec,hu⟩:=b8 hd2;have ec':=gp _ _ ec;have hu':=Dat.mono gp _ _ hu;refine ⟨pc,_,rfl,SqT.of ec',rfl,_,_,rfl,_,_,rfl,rfl,?_⟩;have key:bD [((.inr "+":Key),V.str "-"),(.inr "-",.str "+")] (.inr (sgB t.1))=some (.str (sgB (!t.1))):=by
            cases t.1 <;> decide +kernel
          refine ⟨_,rfl,.inr (sgB t.1),_,rfl,key,_,rfl,(by show 2≤sizeLine;decide),fun p5 n5=>nx ?_⟩;have g5:=Same.new n5 (.tup [.str (sgB (!t.1)),u]);refine ⟨gp.trans g5,by rw [aag,lp];rfl,?_⟩;have et:(r.fm.terms.take (i+1))=r.fm.terms.take i++[t]:=by
            rw [aaz,ht];rfl
          rw [et,eB,aae];exact DatAll.app (DatAll.mono g5 _ _ dp) (DatAll.one (b_ ad (Dat.mono g5 _ _ hu')))
        obtain ⟨gp,lp,dp⟩:=p;rw [aaR (by lia)] at dp;have g5:=Same.new n5 (.lst ys);refine ⟨p5,ys,rfl,.inl ⟨SqL.of ad,fun p6 n6=>?_⟩⟩;have g6:=Same.new n6 (.tup ys);have G6:=(gp.trans g5).trans g6;refine ⟨_,rfl,l.fm,ul,rfl,Dat.mono (g4.trans G6) _ _ i1',fun a3 us3 H3 g3 e3 d3=>?_⟩;have n3:=d3.len;rw [aab] at n3;have ny:=dp.len;rw [aab,dz] at ny;have e6:=g3 _ _ (ad (H:=upd H5 p5 (.lst ys)) (a:=p6) (o:=.tup ys));refine ⟨_,rfl,a3,p6,us3,ys,rfl,rfl,SqT.of e3,SqT.of e6,(fun z=>by rw [z,aa1] at n3;lia),bx (by lia),(fun z=>by rw [z,aa1] at ny;lia),fun _ p7 n7=>⟨(by show 2≤sizeLine;decide),fun p8 n8=>?_⟩⟩;have g7:=Same.new n7 (.tup (us3++ys));have g8:=Same.new n8 (.tup [.str "sum",.ref p7]);refine q _ _ (((((g1.trans g2).trans g4).trans G6).trans g3).trans (g7.trans g8)) ?_;refine b_ ad (fg (g8 _ _ ad) ?_);rw [aae];exact DatAll.app (DatAll.mono (g7.trans g8) _ _ d3) (DatAll.mono ((g5.trans g6).trans (g3.trans (g7.trans g8))) _ _ dp)
def iM:Sp:=fun vs H Q _=>∃ w v,vs=[v]∧WyIn H w v∧w.size≤9∧∀ u H',Same H H'→Dat H' w.fm.data u→Q u H'
abbrev gO:Stmt:=top 25
theorem mE:FnScope ["way"] ["way"] (ai gO):=⟨rfl,rfl,rfl,by decide +kernel,rfl,by decide +kernel,by decide +kernel⟩
theorem mK (F:Fun K "form_of" "form_of" gO f fd) (C_need_way:Cal P w K mg base "need_way" 3 ["thing"] fb) (C_find_form:Cal P w K mg base "find_form" 24 ["way"] (j9 20)):FnOk P w K mg base CX0 25 f fd ["way"] iM:=by
  refine F.ok mE (fun vs H Q E h=>?_) (fun cdv A outer s H vs Q E hr h=>?_)
  · obtain ⟨x,v,rfl,_⟩:=h;rfl
  obtain ⟨wy,v,rfl,hw,h9,q⟩:=h;refine ⟨_,(@ae _ _ _ _ _ (@bR _ _ _ _ (@ah _ _ _ _ _ _ _ _ _ _ _ C_need_way hr (by lia) rfl (@aa _ _ _ _ _ (pv 0) ac (by rfl)) (by decide) (by rfl) (by rfl)) (by rfl)) (@af _ _ _ (@aq _ _ _ _ (@ah _ _ _ _ _ _ _ _ _ _ _ C_find_form hr (by lia) rfl (@aa _ _ _ _ _ (pv 0) ac (by rfl)) (by decide) (by rfl) (by rfl))))),?_⟩;refine ⟨_,rfl,wy,v,rfl,hw,h9,fun H1 g1=>?_⟩;have dl:=wy.deep_le;exact ⟨_,rfl,wy,v,rfl,hw.mono (Tups.of g1),by lia,by lia,fun u H2 g2 i2=>q u H2 (g1.trans g2) i2⟩
end
open PySem L2
mutual
def szD:PyData→Nat
  | .tuple ds=>szAll ds+1
  | .list _=>1
  | .none=>1
  | .bool _=>1
  | .int _=>1
  | .str _=>1
  | .dict _=>1
def szAll:List PyData→Nat
  | []=>0
  | d :: ds=>szD d+szAll ds
end
mutual
def TOk:PyData→Prop
  | .int i=>i.natAbs < 2 ^ 131
  | .str x=>(reprText x).length≤20
  | .tuple ds=>TOkA ds
  | .none=>False
  | .bool _=>False
  | .list _=>False
  | .dict _=>False
def TOkA:List PyData→Prop
  | []=>True
  | d :: ds=>TOk d∧TOkA ds
end
theorem iD {i:Int} {k:Nat} (h:i.natAbs < 2 ^ k) (hk:0 < k):i.natAbs.log2 < k:=by
  by_cases c:i.natAbs=0
  · rw [c];exact hk
  · exact (Nat.log2_lt c).mpr h
mutual
theorem iG : ∀ d:PyData,TOk d→d.showable=true
  | .int i,h=>by
    simp only [TOk] at h;have:=iD h (by decide);simp only [abD];exact decide_eq_true (by lia)
  | .str _,h=>by simp [abD]
  | .tuple ds,h=>by simp only [TOk] at h;simp only [abD];exact tok_showAll ds h
  | .none,h=>by simp [TOk] at h
  | .bool _,h=>by simp [TOk] at h
  | .list _,h=>by simp [TOk] at h
  | .dict _,h=>by simp [TOk] at h
theorem tok_showAll:∀ ds:List PyData,TOkA ds→abY ds=true
  | [],h=>by simp [abY]
  | d :: ds,h=>by
    simp only [TOkA] at h;simp only [abY,iG d h.1,tok_showAll ds h.2,Bool.and_self]
end
mutual
theorem m9:∀ d:PyData,TOk d→d.shown.length+5≤150 * szD d
  | .int i,h=>by
    simp only [TOk] at h;have e:=int_text_length_le (a:=i) (k:=132) (by decide) (by have:=iD h (by decide);lia);simp only [szD];show (Str.ofString (toString i)).length+5≤150;rw [ofString_length];lia
  | .str x,h=>by
    simp only [TOk] at h;simp only [szD,PyData.shown];lia
  | .tuple ds,h=>by
    simp only [TOk] at h;have a:=tok_lenAll ds h;have b:=tupleText_len_le (abZ ds);have c:=PyData.shownAll_length ds;simp only [szD,PyData.shown];lia
  | .none,h=>by simp [TOk] at h
  | .bool _,h=>by simp [TOk] at h
  | .list _,h=>by simp [TOk] at h
  | .dict _,h=>by simp [TOk] at h
theorem tok_lenAll:∀ ds:List PyData,TOkA ds→((abZ ds).map (·.length)).sum+5 * ds.length≤150 * szAll ds
  | [],h=>by simp [abZ,szAll]
  | d :: ds,h=>by
    simp only [TOkA] at h;have a:=m9 d h.1;have b:=tok_lenAll ds h.2;simp only [abZ,szAll,aav,aaS,aaL];lia
end
theorem kX {d:PyData} (h:TOk d) (hs:szD d≤1000):d.shown.length≤sizeLine:=by
  have:=m9 d h;exact aaN (show _≤400000 by lia) (by rw [sizeLine_eq];decide)
mutual
theorem dA {H H':Hp} (t:Tups H H'):∀ (d:PyData) (v:V),TOk d→Dat H d v→Dat H' d v
  | .int i,v,_,h=>by simp only [Dat] at h ⊢;exact h
  | .str x,v,_,h=>by simp only [Dat] at h ⊢;exact h
  | .tuple ds,v,k,h=>by
    simp only [TOk] at k;simp only [Dat] at h ⊢;obtain ⟨a,xs,e,h1,h2⟩:=h;exact ⟨a,xs,e,t _ _ h1,tokA_mono t ds xs k h2⟩
  | .none,v,k,h=>by simp [TOk] at k
  | .bool _,v,k,h=>by simp [TOk] at k
  | .list _,v,k,h=>by simp [TOk] at k
  | .dict _,v,k,h=>by simp [TOk] at k
theorem tokA_mono {H H':Hp} (t:Tups H H'):∀ (ds:List PyData) (vs:List V),TOkA ds→DatAll H ds vs→DatAll H' ds vs
  | [],vs,_,h=>by simp only [DatAll] at h ⊢;exact h
  | d :: ds,vs,k,h=>by
    simp only [TOkA] at k;simp only [DatAll] at h ⊢;obtain ⟨v,r,e,h1,h2⟩:=h;exact ⟨v,r,e,dA t d v k.1 h1,tokA_mono t ds r k.2 h2⟩
end
theorem ip:∀ {ds:List PyData},(∀ d∈ds,TOk d)→TOkA ds
  | [],_=>by simp [TOkA]
  | d :: ds,h=>by simp only [TOkA];exact ⟨h d aan,ip fun x hx=>h x (aaj _ hx)⟩
theorem gE:∀ a b:List PyData,szAll (a++b)=szAll a+szAll b
  | [],b=>by simp [szAll]
  | d :: a,b=>by show szD d+szAll (a++b)=szD d+szAll a+szAll b;rw [gE a b];lia
theorem hZ {k:Nat}:∀ {ds:List PyData},(∀ d∈ds,d.depth≤k)→abb ds≤k
  | [],_=>by simp [abb]
  | d :: ds,h=>by
    have a:=h d aan;have b:=hZ (k:=k) (ds:=ds) fun x hx=>h x (aaj _ hx);simp only [abb];lia
def Wy.Bd (w:Wy):Prop:=∀ i∈w.nums,i.natAbs < 2 ^ 131
theorem Wy.Bd.l {g:Sg} {l r:Wy} (h:(Wy.node g l r).Bd):l.Bd:=fun i hi=>h i (aa4 _ hi)
theorem Wy.Bd.r {g:Sg} {l r:Wy} (h:(Wy.node g l r).Bd):r.Bd:=fun i hi=>h i (aar _ hi)
theorem r_ (b:Bool):(reprText (sgB b)).length≤20:=by cases b <;> decide +kernel
theorem iH {t:Bool × PyData} (h:TOk t.2):TOk (tmD t):=by
  simp only [tmD,TOk,TOkA];exact ⟨r_ _,h,trivial⟩
theorem rX {ts:List (Bool × PyData)} (h:∀ t∈ts,TOk t.2):TOk (.tuple [.str "sum",.tuple (ts.map tmD)]):=by
  simp only [TOk,TOkA];refine ⟨by decide +kernel,ip fun d hd=>?_,trivial⟩;obtain ⟨t,ht,rfl⟩:=aaQ.mp hd;exact iH (h t ht)
theorem oV {fs:List PyData} (h:∀ d∈fs,TOk d):TOk (.tuple [.str "times",.tuple fs]):=by
  simp only [TOk,TOkA];exact ⟨by decide +kernel,ip h,trivial⟩
theorem ja {ts:List (Bool × PyData)} {t:Bool × PyData} (h:t∈turn ts):∃ u∈ts,t.2=u.2:=by
  obtain ⟨u,hu,rfl⟩:=aaQ.mp h;exact ⟨u,hu,rfl⟩
theorem qC {ts:List (Bool × PyData)} {k:Nat} (h:∀ t∈ts,t.2.depth≤k):(PyData.tuple [.str "sum",.tuple (ts.map tmD)]).depth≤k+3:=by
  have a:abb (ts.map tmD)≤k+1:=hZ fun d hd=>by
    obtain ⟨t,ht,rfl⟩:=aaQ.mp hd;have:=h t ht;simp only [tmD,ab9,abb];lia
  simp only [ab9,abb];lia
theorem oo {fs:List PyData} {k:Nat} (h:∀ d∈fs,d.depth≤k):(PyData.tuple [.str "times",.tuple fs]).depth≤k+3:=by
  have a:abb fs≤k:=hZ h;simp only [ab9,abb];lia
def szT (ts:List (Bool × PyData)):Nat:=szAll (ts.map tmD)
theorem ng (a b:List (Bool × PyData)):szT (a++b)=szT a+szT b:=by simp only [szT,aae,gE]
theorem k9:∀ ts:List (Bool × PyData),szT (turn ts)=szT ts
  | []=>rfl
  | t :: r=>by
    have ih:=k9 r;have e:szT (turn (t :: r))=szD (tmD (!t.1,t.2))+szT (turn r):=rfl;have e2:szT (t :: r)=szD (tmD t)+szT r:=rfl;rw [e,e2,ih];simp only [tmD,szD,szAll]
theorem m_ (b:Bool) (d:PyData):szT [(b,d)]=szD d+2:=by simp only [szT,aav,abh,tmD,szAll,szD];lia
theorem rW (ts:List (Bool × PyData)):szD (.tuple [.str "sum",.tuple (ts.map tmD)])=szT ts+3:=by simp only [szD,szAll,szT];lia
theorem oU (fs:List PyData):szD (.tuple [.str "times",.tuple fs])=szAll fs+3:=by simp only [szD,szAll];lia
structure FmOk (w:Wy):Prop where
  t:∀ t∈w.fm.terms,TOk t.2∧t.2.depth+3≤3 * w.deep
  f:∀ d∈w.fm.factors,TOk d∧d.depth+3≤3 * w.deep
  d:TOk w.fm.data
  dd:w.fm.data.depth+3≤3 * w.deep
  st:szT w.fm.terms+5≤8 * w.size
  sf:szAll w.fm.factors+5≤8 * w.size
  sd:szD w.fm.data+2≤8 * w.size
theorem rA {w l r:Wy} {ts:List (Bool × PyData)} (e:w.fm=.sum ts) (hd:w.deep=max l.deep r.deep+1) (hs:w.size=l.size+r.size) (h:∀ t∈ts,TOk t.2∧(t.2.depth+3≤3 * l.deep∨t.2.depth+3≤3 * r.deep)) (z:szT ts+10≤8 * (l.size+r.size)):FmOk w:=by
  have et:w.fm.terms=ts:=by rw [e];rfl
  have ef:w.fm.factors=[.tuple [.str "sum",.tuple (ts.map tmD)]]:=by rw [e];rfl
  have ed:w.fm.data=.tuple [.str "sum",.tuple (ts.map tmD)]:=by rw [e];rfl
  have k1:=rX (ts:=ts) fun t ht=>(h t ht).1;have k2:=qC (ts:=ts) (k:=3 * (max l.deep r.deep) - 3) fun t ht=>by have:=(h t ht).2;lia
  have k3:=rW ts;have hp:1≤max l.deep r.deep:=by
    have : 1≤l.deep:=by cases l <;> simp [Wy.deep]
    lia
  refine ⟨fun t ht=>?_,fun d hd'=>?_,by rw [ed];exact k1,by rw [ed];lia,by rw [et];lia,by rw [ef];simp only [szAll];lia,by rw [ed];lia⟩
  · rw [et] at ht;have:=h t ht;exact ⟨this.1,by lia⟩
  · rw [ef] at hd';cases aak.mp hd';exact ⟨k1,by lia⟩
theorem qz {w l r:Wy} {fs:List PyData} (e:w.fm=.times fs) (hd:w.deep=max l.deep r.deep+1) (hs:w.size=l.size+r.size) (h:∀ d∈fs,TOk d∧(d.depth+3≤3 * l.deep∨d.depth+3≤3 * r.deep)) (z:szAll fs+10≤8 * (l.size+r.size)):FmOk w:=by
  have et:w.fm.terms=[(true,.tuple [.str "times",.tuple fs])]:=by rw [e];rfl
  have ef:w.fm.factors=fs:=by rw [e];rfl
  have ed:w.fm.data=.tuple [.str "times",.tuple fs]:=by rw [e];rfl
  have k1:=oV (fs:=fs) fun t ht=>(h t ht).1;have k2:=oo (fs:=fs) (k:=3 * (max l.deep r.deep) - 3) fun t ht=>by have:=(h t ht).2;lia
  have k3:=oU fs;have hp:1≤max l.deep r.deep:=by
    have : 1≤l.deep:=by cases l <;> simp [Wy.deep]
    lia
  refine ⟨fun t ht=>?_,fun d hd'=>?_,by rw [ed];exact k1,by rw [ed];lia,by rw [et,m_];lia,by rw [ef];lia,by rw [ed];lia⟩
  · rw [et] at ht;cases aak.mp ht;exact ⟨k1,by show (PyData.tuple [.str "times",.tuple fs]).depth+3≤_;lia⟩
  · rw [ef] at hd';have:=h d hd';exact ⟨this.1,by lia⟩
theorem Wy.fm_ok:∀ w:Wy,w.Bd→FmOk w
  | .num i,h=>by
    have hi:=h i aan;have k:TOk (.int i):=by simp only [TOk];exact hi
    have z:(PyData.int i).depth=0:=by simp [ab9]
    have y:(Wy.num i).deep=1:=rfl;refine ⟨fun t ht=>?_,fun d hd=>?_,k,?_,?_,?_,?_⟩
    · cases aak.mp (show t∈[(true,PyData.int i)] from ht);exact ⟨k,by show (PyData.int i).depth+3≤_;lia⟩
    · cases aak.mp (show d∈[PyData.int i] from hd);exact ⟨k,by lia⟩
    · show (PyData.int i).depth+3≤_;lia
    · show szT [(true,.int i)]+5≤8 * 1;rw [m_];simp [szD]
    · show szAll [.int i]+5≤8 * 1;simp [szAll,szD]
    · show szD (.int i)+2≤8 * 1;simp [szD]
  | .node .times l r,h=>by
    have a:=l.fm_ok h.l;have b:=r.fm_ok h.r;refine qz (l:=l) (r:=r) rfl rfl rfl (fun d hd=>?_) ?_
    · rcases aat.mp hd with z|z
      · exact ⟨(a.f d z).1,.inl (a.f d z).2⟩
      · exact ⟨(b.f d z).1,.inr (b.f d z).2⟩
    · have:=a.sf;have:=b.sf;rw [gE];lia
  | .node .plus l r,h=>by
    have a:=l.fm_ok h.l;have b:=r.fm_ok h.r;refine rA (l:=l) (r:=r) rfl rfl rfl (fun d hd=>?_) ?_
    · rcases aat.mp hd with z|z
      · exact ⟨(a.t d z).1,.inl (a.t d z).2⟩
      · exact ⟨(b.t d z).1,.inr (b.t d z).2⟩
    · have:=a.st;have:=b.st;rw [ng];lia
  | .node .minus l r,h=>by
    have a:=l.fm_ok h.l;have b:=r.fm_ok h.r;refine rA (l:=l) (r:=r) rfl rfl rfl (fun d hd=>?_) ?_
    · rcases aat.mp hd with z|z
      · exact ⟨(a.t d z).1,.inl (a.t d z).2⟩
      · obtain ⟨u,hu,e⟩:=ja z;rw [e];exact ⟨(b.t u hu).1,.inr (b.t u hu).2⟩
    · have:=a.st;have:=b.st;rw [ng,k9];lia
open PySem L2
def tmC (g:Sg) (b:Bool) (w:Wy):List (Bool × PyData):=match g with
  | .times=>w.fm.factors.map fun d=>(true,d)
  | _=>if b then w.fm.terms else turn w.fm.terms
abbrev Wp:=Bool × Wy
def WpIn (H:Hp) (p:Wp) (v:V):Prop:=∃ a u,v=.ref a∧H a=some (.tup [.str (sgB p.1),u])∧WyIn H p.2 u
theorem WpIn.mono {H H':Hp} (t:Tups H H') {p:Wp} {v:V} (h:WpIn H p v):WpIn H' p v:=by
  obtain ⟨a,u,e,h1,h2⟩:=h;exact ⟨a,u,e,t _ _ h1,h2.mono t⟩
abbrev WpAll (H:Hp):List Wp→List V→Prop:=Paired (WpIn H)
theorem WpAll.mono {H H':Hp} (t:Tups H H'):∀ {ws:List Wp} {vs:List V},WpAll H ws vs→WpAll H' ws vs
  | _,_,.nil=>.nil
  | _,_,.cons a b=>.cons (WpIn.mono t a) (WpAll.mono t b)
theorem WpAll.app {H:Hp} {ws us:List Wp} {vs zs:List V} (a:WpAll H ws vs) (b:WpAll H us zs):WpAll H (ws++us) (vs++zs):=by
  induction a with
  | nil=>exact b
  | cons x _ ih=>exact .cons x ih
theorem WpAll.last {H:Hp} {ws:List Wp} {vs:List V} (h:WpAll H ws vs) (ne:vs≠[]):∃ ws' w vs' v,ws=ws'++[w]∧vs=vs'++[v]∧WpAll H ws' vs'∧WpIn H w v:=by
  induction h with
  | nil=>exact absurd rfl ne
  | @cons w v ws vs a b ih =>
    cases b with
    | nil=>exact ⟨[],w,[],v,rfl,rfl,.nil,a⟩
    | cons a' b' =>
      obtain ⟨ws',w',vs',v',e1,e2,h1,h2⟩:=ih (by simp);exact ⟨w :: ws',w',v :: vs',v',by rw [e1];rfl,by rw [e2];rfl,.cons a h1,h2⟩
def ic (g:Sg) (ws:List Wp):List (Bool × PyData):=(ws.reverse.map fun p=>tmC g p.1 p.2).flatten
theorem ck (g:Sg) (ws:List Wp) (p:Wp):ic g (ws++[p])=tmC g p.1 p.2++ic g ws:=by simp [ic]
def c_ (ws:List Wp):Nat:=(ws.map fun p=>p.2.knots).sum
theorem cM (ws:List Wp) (p:Wp):c_ (ws++[p])=c_ ws+p.2.knots:=by simp [c_]
theorem qw (g:Sg) (b:Bool) (w:Wy):1≤(tmC g b w).length:=by
  have:=w.fm_len;cases g with
  | times=>show 1≤(w.fm.factors.map _).length;rw [aab];lia
  | plus=>cases b <;> (simp only [tmC];try (show 1≤(turn _).length;rw [dz])) <;> first|lia|(simp;lia)
  | minus=>cases b <;> (simp only [tmC];try (show 1≤(turn _).length;rw [dz])) <;> first|lia|(simp;lia)
theorem jQ (g:Sg):∀ ws:List Wp,ws.length≤(ic g ws).length:=by
  intro ws;rw [← List.reverse_reverse ws];generalize ws.reverse=us
  induction us with
  | nil=>exact aaX _
  | cons p r ih =>
    rw [List.reverse_cons,ck,aag,aag];have:=qw g p.1 p.2;show r.reverse.length+1≤_;lia
theorem qy (g:Sg) (b:Bool) (w:Wy):(tmC g b w).length≤w.size:=by
  have:=w.fm_len;cases g with
  | times=>show (w.fm.factors.map _).length≤_;rw [aab];lia
  | plus=>cases b <;> (simp only [tmC];try (show (turn _).length≤_;rw [dz])) <;> first|lia|(simp;lia)
  | minus=>cases b <;> (simp only [tmC];try (show (turn _).length≤_;rw [dz])) <;> first|lia|(simp;lia)
theorem on (l r:Wy):tmC .times true (.node .times l r)=tmC .times true l++tmC .times true r:=aae
def sgT:Sg→Bool
  | .minus=>false
  | _=>true
theorem qv {g h:Sg} (hg:g≠.times) (hh:h≠.times) (b:Bool) (l r:Wy):tmC g b (.node h l r)=tmC g b l++tmC g (decide (sgT h=b)) r:=by
  have e:∀ b w,tmC g b w=if b then w.fm.terms else turn w.fm.terms:=fun b w=>by cases g <;> first|rfl|exact absurd rfl hg
  rw [e,e,e];cases h with
  | times=>exact absurd rfl hh
  | plus =>
    cases b
    · show turn (l.fm.terms++r.fm.terms)=turn l.fm.terms++turn r.fm.terms;exact eB _ _
    · rfl
  | minus =>
    cases b
    · show turn (l.fm.terms++turn r.fm.terms)=turn l.fm.terms++r.fm.terms;rw [eB,jL]
    · rfl
theorem qx (g:Sg) (b:Bool) (i:Int) (h:g=.times→b=true):tmC g b (.num i)=[(b,(Wy.num i).fm.data)]:=by
  cases g with
  | times=>rw [h rfl];rfl
  | plus=>cases b <;> rfl
  | minus=>cases b <;> rfl
theorem kY (g h:Sg) (b:Bool) (l r:Wy) (hb:g=.times→b=true) (hk:decide (g=.times)≠decide (h=.times)):tmC g b (.node h l r)=[(b,(Wy.node h l r).fm.data)]:=by
  cases g with
  | times =>
    rw [hb rfl];cases h with
    | times=>exact absurd rfl hk
    | plus=>rfl
    | minus=>rfl
  | plus =>
    cases h with
    | times=>cases b <;> rfl
    | plus=>exact absurd rfl hk
    | minus=>exact absurd rfl hk
  | minus =>
    cases h with
    | times=>cases b <;> rfl
    | plus=>exact absurd rfl hk
    | minus=>exact absurd rfl hk
theorem rO {g:Sg} {b:Bool} {w:Wy} (h:w.Bd):∀ t∈tmC g b w,TOk t.2:=by
  have k:=w.fm_ok h;intro t ht;have e:(∃ d∈w.fm.factors,t.2=d)∨∃ u∈w.fm.terms,t.2=u.2:=by
    cases g with
    | times=>obtain ⟨d,hd,rfl⟩:=aaQ.mp (show t∈w.fm.factors.map _ from ht);exact .inl ⟨d,hd,rfl⟩
    | plus=>cases b with
      | true=>exact .inr ⟨t,ht,rfl⟩
      | false=>obtain ⟨u,hu,e⟩:=ja (show t∈turn w.fm.terms from ht);exact .inr ⟨u,hu,e⟩
    | minus=>cases b with
      | true=>exact .inr ⟨t,ht,rfl⟩
      | false=>obtain ⟨u,hu,e⟩:=ja (show t∈turn w.fm.terms from ht);exact .inr ⟨u,hu,e⟩
  rcases e with ⟨d,hd,e⟩|⟨u,hu,e⟩
  · rw [e];exact (k.f d hd).1
  · rw [e];exact (k.t u hu).1
theorem fc {g:Sg} (e:V.str g.str=V.str "*"):g=.times:=by cases g <;> first|rfl|exact absurd e (by decide +kernel)
theorem qI (h:Sg) (ch:h≠.times) (b:Bool):atI [V.str "-",V.str "+"] (if decide (V.bl (decide (V.str h.str=V.str "+"))=V.bl (decide (V.str (sgB b)=V.str "+")))=true then 1 else 0)=some (.str (sgB (decide (sgT h=b)))):=by
  cases h with
  | times=>exact absurd rfl ch
  | plus=>clear ch;cases b <;> decide +kernel
  | minus=>clear ch;cases b <;> decide +kernel
theorem cN {H:Hp} {p:Addr} {xs:List V} {o:HO} (h:H p=some (.lst xs)):Tups H (upd H p o):=fun b ys z=>by rw [aF (fun e=>by rw [e,h] at z;cases z)];exact z
section
variable {P:Program} {w:World} {K:aaa} {mg:Str→Option Value} {base:Heap} {f:Addr} {fd:FuncData}
def iA (n:Nat):Sp:=fun vs H Q _=>∃ w v,vs=[v]∧WyIn H w v∧w.size≤20∧w.deep≤n∧w.Bd∧∀ u H',Same H H'→Dat H' w.fm.data u→Q u H'
def rL (H:Hp) (g:Sg) (wy:Wy) (v:V) (pf:Addr) (m:Nat) (σ:St) (H':Hp):Prop:=∃ (ds:List (Bool × PyData)) (us:List V) (ws:List Wp) (vs:List V) (pw:Addr) (sg one:Option V),σ=[some v,some (.ref pf),some (.ref pw),sg,one]∧pf≠pw∧H pw=none∧H' pf=some (.lst us)∧H' pw=some (.lst vs)∧DatAll H' (ds.map tmD) us∧WpAll H' ws vs∧Same H H' ∧
  ds++ic g ws=tmC g true wy∧(∀ p∈ws,(p.2=wy∨p.2.deep < wy.deep)∧p.2.size≤wy.size∧p.2.Bd)∧(g=.times→∀ p∈ws,p.1=true)∧m=c_ ws
abbrev eO:Stmt:=top 59
theorem bt:FnScope ["way","found","waiting","sign","one"] ["way"] (ai eO):=⟨rfl,rfl,rfl,by decide +kernel,rfl,by decide +kernel,by decide +kernel⟩
theorem pJ (F:Fun K "_law_form" "_law_form" eO f fd) (bF:Binds K fd ["way"] []) (mF:mg "_law_form" = some (.ref f)) (B:Bu K mg) :
    ∀ n,FnOk P w K mg base CX0 (n+1) f fd ["way"] (iA n):=by
  intro n
  induction n with
  | zero =>
    refine ⟨fun vs H Q E h=>?_,fun A outer s H args us vs Q E _ _ _ _ h=>?_⟩
    · obtain ⟨x,v,rfl,_⟩:=h;rfl
    · obtain ⟨wy,v,_,_,_,hd,_⟩:=h;cases wy <;> exact absurd hd (by simp [Wy.deep])
  | succ n ih =>
    have C__law_form:Cal P w K mg base "_law_form" (n+1) ["way"] (iA n):=⟨f,fd,ih,bF,F.kp,mF⟩
    refine F.ok bt (fun vs H Q E h=>?_) (fun cdv A outer s H vs Q E hr h=>?_)
    · obtain ⟨x,v,rfl,_⟩:=h;rfl
    obtain ⟨wy,v,rfl,hw,h20,hdp,hB,q⟩:=h;refine ⟨_,(@ae _ _ _ _ _ (@aL _ _ _ _ _ _ _ _ (@bM _ _ _ _ (@aQ _ _ _ (@ao _ _ _ _ _ _ _ _ _ (@aI _ ("tuple")) rfl B.iisinstance aal (@aa _ _ _ _ _ (pv 0) (@aa _ _ _ _ _ (@bh _ _ (.ty "tuple") _ _ rfl B.ituple aaI rfl (by decide) (by decide)) ac (by rfl)) (by rfl)) (by decide) (by decide) (by rfl) (by rfl)) (by intro _;rfl))) (@af _ _ _ (@aq _ _ _ _ (pv 0))) aB) (@ae _ _ _ _ _ (@aC _ _ (1) _ _ _ _ (bt).nd rfl (Or.inl rfl) (@aY _ _ _ _ ac) (by rfl) (by first|exact .inl rfl|exact .inr rfl|assumption)) (@ae _ _ _ _ _ (@aC _ _ (2) _ _ _ _ (bt).nd rfl (Or.inl rfl) (@aY _ _ _ _ (@aa _ _ _ _ _ (@aM _ _ _ _ _ (@aa _ _ _ _ _ ay (@aa _ _ _ _ _ (pv 0) ac (by rfl)) (by rfl))) ac (by rfl))) (by rfl) (by first|exact .inl rfl|exact .inr rfl|assumption)) (@ae _ _ _ _ _ (@lC _ _ _ _ _ _ aaM (@av _ _ _ _ _ _ _ _ (@pG _ hr.units) (pv 2) (@aY _ _ _ _ ac) (aE _)) (@ae _ _ _ _ _ (@bW _ _ _ _ _ _ (@pF _ _ _ _ _ _ _ _ _ aaZ PySem.F.slot_list_pop PySem.F.type_list_pop pL (pv 2) (by rfl) (by rfl)) (@bX _ _ _ _ _ _ rfl (@ap _ _ _ _ _ (@aj _ _ (3) _ (bt).nd rfl (Or.inl rfl) (.inl rfl)) (@ap _ _ _ _ _ (@aj _ _ (4) _ (bt).nd rfl (Or.inl rfl) (.inl rfl)) aU (by rfl)) (by rfl)) (by rfl) (by rfl)) (by rfl) (by rfl) (by rfl)) (@af _ _ _ (@aL _ _ _ _ _ _ _ _ (@PW.pt _ _ _ (@cV _ _ _ _ _ _ _ (@aQ _ _ _ (@ao _ _ _ _ _ _ _ _ _ (@aI _ ("tuple")) rfl B.iisinstance aal (@aa _ _ _ _ _ (pv 4) (@aa _ _ _ _ _ (@bh _ _ (.ty "tuple") _ _ rfl B.ituple aaI rfl (by decide) (by decide)) ac (by rfl)) (by rfl)) (by decide) (by decide) (by rfl) (by rfl)) (by intro _;rfl)) (@cV _ _ _ _ _ _ _ (@av _ _ _ _ _ _ _ _ bn (@aG _ _ _ _ _ _ _ aX (pv 4) ag (fun _ _=>rfl)) ay (aE _)) (@df _ _ _ _ (@av _ _ _ _ _ _ _ _ bn (@aG _ _ _ _ _ _ _ aX (pv 0) ag (fun _ _=>rfl)) ay (aE _)))))) (@af _ _ _ (@aC _ _ (2) _ _ _ _ (bt).nd rfl (Or.inl rfl) (@au _ _ _ _ _ _ _ _ iY (pv 2) (@aY _ _ _ _ (@aa _ _ _ _ _ (@aM _ _ _ _ _ (@aa _ _ _ _ _ ay (@aa _ _ _ _ _ (@aG _ _ _ _ _ _ _ aX (pv 4) ag (fun _ _=>rfl)) ac (by rfl)) (by rfl))) (@aa _ _ _ _ _ (@aM _ _ _ _ _ (@aa _ _ _ _ _ ay (@aa _ _ _ _ _ (@aG _ _ _ _ _ _ _ aX (pv 4) ag (fun _ _=>rfl)) ac (by rfl)) (by rfl))) ac (by rfl)) (by rfl)))) (by rfl) (by first|exact .inl rfl|exact .inr rfl|assumption))) (@af _ _ _ (@aL _ _ _ _ _ _ _ _ (@PW.pt _ _ _ (@cV _ _ _ _ _ _ _ (@aQ _ _ _ (@ao _ _ _ _ _ _ _ _ _ (@aI _ ("tuple")) rfl B.iisinstance aal (@aa _ _ _ _ _ (pv 4) (@aa _ _ _ _ _ (@bh _ _ (.ty "tuple") _ _ rfl B.ituple aaI rfl (by decide) (by decide)) ac (by rfl)) (by rfl)) (by decide) (by decide) (by rfl) (by rfl)) (by intro _;rfl)) (@cV _ _ _ _ _ _ _ (@av _ _ _ _ _ _ _ _ iW (@aG _ _ _ _ _ _ _ aX (pv 4) ag (fun _ _=>rfl)) ay (aE _)) (@df _ _ _ _ (@av _ _ _ _ _ _ _ _ iW (@aG _ _ _ _ _ _ _ aX (pv 0) ag (fun _ _=>rfl)) ay (aE _)))))) (@af _ _ _ (@aC _ _ (2) _ _ _ _ (bt).nd rfl (Or.inl rfl) (@au _ _ _ _ _ _ _ _ iY (pv 2) (@aY _ _ _ _ (@aa _ _ _ _ _ (@aM _ _ _ _ _ (@aa _ _ _ _ _ (@aG _ _ _ _ _ _ _ aJ (@aY _ _ _ _ (@aa _ _ _ _ _ ay (@aa _ _ _ _ _ ay ac (by rfl)) (by rfl))) (@bH _ _ _ _ _ _ _ _ _ h6 rfl B.iint abn (@aa _ _ _ _ _ (@bY _ _ _ _ _ _ _ _ bn (@bY _ _ _ _ _ _ _ _ bn (@aG _ _ _ _ _ _ _ aX (pv 4) ag (fun _ _=>rfl)) ay (aE _)) (@bY _ _ _ _ _ _ _ _ bn (pv 3) ay (aE _)) (aE _)) ac (by rfl)) (by decide) (by decide) (by rfl) (by rfl)) (fun _ _=>rfl)) (@aa _ _ _ _ _ (@aG _ _ _ _ _ _ _ aX (pv 4) ag (fun _ _=>rfl)) ac (by rfl)) (by rfl))) (@aa _ _ _ _ _ (@aM _ _ _ _ _ (@aa _ _ _ _ _ (pv 3) (@aa _ _ _ _ _ (@aG _ _ _ _ _ _ _ aX (pv 4) ag (fun _ _=>rfl)) ac (by rfl)) (by rfl))) ac (by rfl)) (by rfl)))) (by rfl) (by first|exact .inl rfl|exact .inr rfl|assumption))) (@af _ _ _ (@bR _ _ _ _ (@jR _ _ _ _ _ _ _ _ _ _ _ _ aaZ abd abe dD (pv 1) (@aa _ _ _ _ _ (@aM _ _ _ _ _ (@aa _ _ _ _ _ (pv 3) (@aa _ _ _ _ _ (@ah _ _ _ _ _ _ _ _ _ _ _ C__law_form hr (by lia) rfl (@aa _ _ _ _ _ (pv 4) ac (by rfl)) (by decide) (by rfl) (by rfl)) ac (by rfl)) (by rfl))) ac (by rfl)) (by rfl) (by rfl) (by rfl) (by rfl) (by rfl)) (by rfl))))))))) (@ae _ _ _ _ _ (@aL _ _ _ _ _ _ _ _ (@av _ _ _ _ _ _ _ _ bn (@aG _ _ _ _ _ _ _ aX (pv 0) ag (fun _ _=>rfl)) ay (aE _)) (@af _ _ _ (@aq _ _ _ _ (@aM _ _ _ _ _ (@aa _ _ _ _ _ ay (@aa _ _ _ _ _ (@bH _ _ _ _ _ _ _ _ _ dy rfl B.ituple aaI (@aa _ _ _ _ _ (@cY _ _ _ _ _ _ _ _ (["sign","form"]) ([none,none]) _ _ _ _ rfl (@cz _ _ _ _ (pv 1)) rfl trivial trivial (fun _ _ _ _=>⟨(@dX _ _ _ _ _ _ (2) rfl rfl (@ap _ _ _ _ _ (@aj _ _ (0) _ (show aaO (["sign","form"]:List Str) by decide +kernel) rfl (Or.inl rfl) (.inr rfl)) (@ap _ _ _ _ _ (@aj _ _ (1) _ (show aaO (["sign","form"]:List Str) by decide +kernel) rfl (Or.inl rfl) (.inr rfl)) aU (by rfl)) (by rfl)) (by rfl) (by rfl)),aV,(pv 1)⟩) (by rfl) (by rfl) (by rfl) (by rfl) (by intro _;rfl)) ac (by rfl)) (by decide) (by decide) (by rfl) (by rfl)) ac (by rfl)) (by rfl))))) aB) (@af _ _ _ (@aq _ _ _ _ (@aM _ _ _ _ _ (@aa _ _ _ _ _ ay (@aa _ _ _ _ _ (@bH _ _ _ _ _ _ _ _ _ dy rfl B.ituple aaI (@aa _ _ _ _ _ (pv 1) ac (by rfl)) (by decide) (by decide) (by rfl) (by rfl)) ac (by rfl)) (by rfl)))))))))),?_⟩;cases wy with
    | num i =>
      cases hw;exact ⟨_,rfl,_,_,false,rfl,.int i,rfl,false,rfl,bj ⟨_,rfl,q _ H (Same.refl _) (by simp only [Wy.fm,Fm.data,Dat])⟩⟩
    | node g l r =>
    have hw0:=hw;obtain ⟨a,vl,vr,rfl,ha,hl,hr'⟩:=hw;refine ⟨_,rfl,_,_,true,rfl,.tup ha,rfl,true,rfl,aR ?_⟩;refine ⟨(by show 0≤sizeLine;decide),fun pf nf=>⟨_,rfl,(by show 2≤sizeLine;decide),fun p1 n1=>⟨(by show 1≤sizeLine;decide),fun pw nw=>?_⟩⟩⟩;have gf:=Same.new nf (.lst []);have g1:=Same.new n1 (.tup [.str "+",.ref a]);have gw:=Same.new nw (.lst [.ref p1]);have nw0:H pw=none:=(gf.trans g1).free nw;have fw:pf≠pw:=aH (H:=upd (upd H pf (.lst [])) p1 (.tup [.str "+",.ref a])) (g1 _ _ ad) nw;refine ⟨rL H g (.node g l r) (.ref a) pf,?_,?_⟩
    · refine ⟨_,[],[],[(true,.node g l r)],[.ref p1],pw,_,_,rfl,fw,nw0,(g1.trans gw) _ _ ad,ad,by simp only [abh,DatAll],.cons ⟨p1,.ref a,rfl,gw _ _ ad,hw0.mono (Tups.of ((gf.trans g1).trans gw))⟩ .nil,(gf.trans g1).trans gw,by simp [ic],fun p hp=>?_,fun _ p hp=>?_,rfl⟩
      · cases aak.mp hp;exact ⟨.inl rfl,aac _,hB⟩
      · cases aak.mp hp;rfl
    rintro m σ H' ⟨ds,us,ws,vs,pw,sg,one,rfl,fw,nw0,ef,ew,hda,hall,hS,hd,hws,htr,rfl⟩;refine ⟨_,rfl,(by show 0≤sizeLine;decide),fun p0 n0=>?_⟩;have g0:=Same.new n0 (.lst []);refine ⟨0,pw,p0,vs,[],by decide,rfl,rfl,SqL.of (g0 _ _ ew),SqL.of ad,?_⟩;have hdok:TOkA (ds.map tmD):=ip fun d hd'=>by
      obtain ⟨t,ht,rfl⟩:=aaQ.mp hd';exact iH (rO hB t (by rw [← hd];exact aa4 _ ht))
    have hlen:ds.length+(ic g ws).length≤20:=by
      have:=qy g true (.node g l r);rw [← hd,aag] at this;lia
    have hlw:=jQ g ws;by_cases ne:vs=[]
    · subst ne;refine .inr ⟨fun _=>true,rfl,(fun j x y h=>by simp at h),false,rfl,aR ?_⟩;have e:ws=[]:=by cases hall;rfl
      subst e;have e2:ds=tmC g true (.node g l r):=by rw [← hd];simp [ic]
      have hS0:=hS.trans g0;have ha0:=hS0 _ _ ha;have ef0:=g0 _ _ ef;have hda0:=DatAll.mono g0 _ _ hda;have hul:=hda.len;rw [aab] at hul;cases g with
      | times =>
        refine ⟨_,rfl,a,_,_,_,rfl,rfl,SqT.of ha0,rfl,rfl,_,rfl,e8 rfl ?_⟩;have e3:ds=((Wy.node .times l r).fm.factors).map fun d=>(true,d):=e2;refine ⟨_,rfl,pf,rfl,⟨_,SqL.of ef0⟩,?_⟩;refine qY (xs:=us) (fun i ys H5=>Same (upd H' p0 (.lst [])) H5∧ys.length=i∧DatAll H5 ((ds.take i).map (·.2)) ys) ⟨Same.refl _,rfl,by simp only [ab5,abh,DatAll]⟩ (fun i ys H5 hi p=>⟨SqL.of (p.1 _ _ ef0),aA (by lia)⟩) (fun i x ys H5 hx p nx=>?_) (fun ys H5 p p5 n5=>?_)
        · obtain ⟨gp,lp,dp⟩:=p;obtain ⟨dd,hd1,hd2⟩:=jg hda0 hx;rw [aam] at hd1;obtain ⟨t,ht,rfl⟩:=aaE.mp hd1;obtain ⟨pc,u,rfl,ec,hu⟩:=b8 hd2;refine ⟨pc,_,rfl,SqT.of (gp _ _ ec),rfl,_,_,rfl,_,_,rfl,rfl,_,rfl,nx ?_⟩;refine ⟨gp,by rw [aag,lp];rfl,?_⟩;rw [aaz,ht,aae];exact DatAll.app dp (DatAll.one (Dat.mono gp _ _ hu))
        obtain ⟨gp,lp,dp⟩:=p;rw [aaR (by lia)] at dp;have g5:=Same.new n5 (.lst ys);refine ⟨p5,ys,rfl,.inl ⟨SqL.of ad,fun pt nt=>⟨(by show 2≤sizeLine;decide),fun p6 n6=>?_⟩⟩⟩;have gt:=Same.new nt (.tup ys);have g6:=Same.new n6 (.tup [.str "times",.ref pt]);refine q _ _ (hS0.trans (gp.trans (g5.trans (gt.trans g6)))) (b_ ad (fg (g6 _ _ ad) ?_));have e4:=DatAll.mono (g5.trans (gt.trans g6)) _ _ dp;rw [e3,aba,show ((·.2) ∘ fun d:PyData=>((true:Bool),d))=id from rfl,List.map_id] at e4;exact e4
      | plus =>
        refine ⟨_,rfl,a,_,_,_,rfl,rfl,SqT.of ha0,rfl,rfl,_,rfl,dE (by decide +kernel) ?_⟩;refine ⟨_,rfl,pf,us,rfl,.inl ⟨SqL.of ef0,fun pt nt=>⟨(by show 2≤sizeLine;decide),fun p5 n5=>?_⟩⟩⟩;have gt:=Same.new nt (.tup us);have g5:=Same.new n5 (.tup [.str "sum",.ref pt]);refine q _ _ (hS0.trans (gt.trans g5)) (b_ ad (fg (g5 _ _ ad) ?_));have e4:=DatAll.mono (gt.trans g5) _ _ hda0;rw [e2] at e4;exact e4
      | minus =>
        refine ⟨_,rfl,a,_,_,_,rfl,rfl,SqT.of ha0,rfl,rfl,_,rfl,dE (by decide +kernel) ?_⟩;refine ⟨_,rfl,pf,us,rfl,.inl ⟨SqL.of ef0,fun pt nt=>⟨(by show 2≤sizeLine;decide),fun p5 n5=>?_⟩⟩⟩;have gt:=Same.new nt (.tup us);have g5:=Same.new n5 (.tup [.str "sum",.ref pt]);refine q _ _ (hS0.trans (gt.trans g5)) (b_ ad (fg (g5 _ _ ad) ?_));have e4:=DatAll.mono (gt.trans g5) _ _ hda0;rw [e2] at e4;exact e4
    refine .inl ⟨by simpa using ne,true,rfl,bj ⟨fun σ' H'=>∃ m',m' < c_ ws∧rL H g (.node g l r) (.ref a) pf m' σ' H',fun _ _ h=>h,?_⟩⟩;obtain ⟨ws',w',vs',v',rfl,rfl,hall',hw'⟩:=WpAll.last hall ne;have ew0:=g0 _ _ ew;have ef0:=g0 _ _ ef;have hS0:=hS.trans g0;rw [ck] at hd hlen;rw [aag] at hlen;have hwl:=jQ g ws';have hvl:ws'.length=vs'.length:=aaH hall';rw [cM];obtain ⟨hws1,hws2,hws3⟩:=hws w' (by simp);have hws':∀ p∈ws',(p.2=.node g l r∨p.2.deep < (Wy.node g l r).deep)∧p.2.size≤(Wy.node g l r).size∧p.2.Bd:=fun p hp=>hws p (aa4 _ hp);have htr':g=.times→∀ p∈ws',p.1=true:=fun e p hp=>htr e p (aa4 _ hp);have htrw:g=.times→w'.1=true:=fun e=>htr e w' (by simp);refine ⟨_,rfl,.inl ⟨rfl,_,SqL.of ew0⟩,pw,_,v',rfl,rfl,ew0,nR _ _,?_⟩;rw [rp];have t1:Tups (upd H' p0 (.lst [])) (upd (upd H' p0 (.lst [])) pw (.lst vs')):=cN ew0;have T1:=(Tups.of g0).trans t1;have ef1:upd (upd H' p0 (.lst [])) pw (.lst vs') pf=some (.lst us):=by rw [aF fw];exact ef0
    have hS1:Same H (upd (upd H' p0 (.lst [])) pw (.lst vs')):=hS0.upd nw0;generalize upd (upd H' p0 (.lst [])) pw (.lst vs')=H1,ad (H:=upd H' p0 (.lst [])) (a:=pw) (o:=.lst vs')=ew1 at t1 T1 ef1 hS1 ⊢;obtain ⟨aw,uw,rfl,eaw,hwy⟩:=hw';have eaw1:=T1 _ _ eaw;have hwy1:=hwy.mono T1;have hda1:=tokA_mono T1 _ _ hdok hda;have hall1:=hall'.mono T1;have ha1:=hS1 _ _ ha;refine ⟨aw,_,rfl,SqT.of eaw1,rfl,_,_,rfl,_,_,rfl,rfl,?_⟩;obtain ⟨b,wz⟩:=w';have hk0:=wz.knots_eq;have hz0:=wz.size_pos;have hcase:(∃ l2 r2,wz=.node .times l2 r2∧g=.times)∨(∃ h l2 r2,wz=.node h l2 r2∧h≠.times∧g≠.times)∨(tmC g b wz=[(b,wz.fm.data)]∧wz.deep < (Wy.node g l r).deep∧((∃ i,wz=.num i)∨∃ h l2 r2,wz=.node h l2 r2∧((h=.times∧g≠.times)∨(h≠.times∧g=.times)))):=by
      cases wz with
      | num i =>
        refine .inr (.inr ⟨qx g b i htrw,?_,.inl ⟨i,rfl⟩⟩);have a:=l.size_pos;have : 1≤l.deep:=by cases l <;> simp [Wy.deep]
        show 1 < max l.deep r.deep+1;lia
      | node h l2 r2 =>
        by_cases c1:h=.times
        · by_cases c2:g=.times
          · subst c1;exact .inl ⟨l2,r2,rfl,c2⟩
          · refine .inr (.inr ⟨kY g h b l2 r2 htrw (by simp [c1,c2]),?_,.inr ⟨h,l2,r2,rfl,.inl ⟨c1,c2⟩⟩⟩);rcases hws1 with e|e
            · injection e with e1 _ _;exact absurd (e1.symm.trans c1) c2
            · exact e
        · by_cases c2:g=.times
          · refine .inr (.inr ⟨kY g h b l2 r2 htrw (by simp [c1,c2]),?_,.inr ⟨h,l2,r2,rfl,.inr ⟨c1,c2⟩⟩⟩);rcases hws1 with e|e
            · injection e with e1 _ _;exact absurd (e1.trans c2) c1
            · exact e
          · exact .inr (.inl ⟨h,l2,r2,rfl,c1,c2⟩)
    rcases hcase with ⟨l2,r2,rfl,rfl⟩|⟨h,l2,r2,rfl,ch,cg⟩|⟨etm,hdeep,hk⟩
    · obtain ⟨a2,vl2,vr2,rfl,ha2,hl2,hr2⟩:=hwy1;have hb:b=true:=htrw rfl;subst hb;refine ⟨_,rfl,_,_,true,rfl,.tup ha2,rfl,true,rfl,bj ⟨_,rfl,a2,_,_,_,rfl,rfl,SqT.of ha2,rfl,rfl,_,rfl,e8 rfl ⟨_,rfl,a,_,_,_,rfl,rfl,SqT.of ha1,rfl,rfl,_,rfl,e8 rfl ?_⟩⟩⟩;refine ⟨_,rfl,_,rfl,a2,_,_,_,rfl,rfl,SqT.of ha2,rfl,(by show 2≤sizeLine;decide),fun p2 n2=>?_⟩;have g2:=Same.new n2 (.tup [.str "+",vr2]);refine ⟨_,rfl,a2,_,_,_,rfl,rfl,SqT.of (g2 _ _ ha2),rfl,(by show 2≤sizeLine;decide),fun p3 n3=>⟨(by show 2≤sizeLine;decide),fun p4 n4=>?_⟩⟩;have g3:=Same.new n3 (.tup [.str "+",vl2]);have g4:=Same.new n4 (.lst [.ref p2,.ref p3]);refine ⟨pw,p4,vs',_,rfl,rfl,(g2.trans (g3.trans g4)) _ _ ew1,ad,bx (by show vs'.length+2≤1000;lia),fun p5 n5=>?_⟩;have g5:=Same.new n5 (.lst (vs'++[.ref p2,.ref p3]));have G5:=g2.trans (g3.trans (g4.trans g5));refine ⟨c_ (ws'++[(true,r2)]++[(true,l2)]),?_,ds,us,ws'++[(true,r2)]++[(true,l2)],_,p5,_,_,rfl,aH ((g2.trans (g3.trans g4)) _ _ ef1) n5,?_,G5 _ _ ef1,ad,DatAll.mono G5 _ _ hda1,?_,hS1.trans G5,?_,?_,?_,rfl⟩
      · rw [cM,cM];show c_ ws'+r2.knots+l2.knots < c_ ws'+(l2.knots+r2.knots+1);lia
      · exact (hS1.trans (g2.trans (g3.trans g4))).free n5
      · rw [aa3];exact WpAll.app (hall1.mono (Tups.of G5)) (.cons ⟨p2,vr2,rfl,(g3.trans (g4.trans g5)) _ _ ad,hr2.mono (Tups.of G5)⟩ (.cons ⟨p3,vl2,rfl,(g4.trans g5) _ _ ad,hl2.mono (Tups.of G5)⟩ .nil))
      · rw [ck,ck,← aa3 (tmC _ _ l2),← on];exact hd
      · intro p hp;have hs2:l2.size+r2.size≤(Wy.node .times l r).size:=hws2;have zl:=l2.size_pos;have zr:=r2.size_pos;have hdd:max l2.deep r2.deep+1≤(Wy.node .times l r).deep:=by
          rcases hws1 with e|e
          · rw [← e];exact aac _
          · exact abi e
        rcases aat.mp hp with hp|hp
        · rcases aat.mp hp with hp|hp
          · exact hws' p hp
          · cases aak.mp hp;exact ⟨.inr (by show r2.deep < _;lia),by show r2.size≤_;lia,hws3.r⟩
        · cases aak.mp hp;exact ⟨.inr (by show l2.deep < _;lia),by show l2.size≤_;lia,hws3.l⟩
      · intro e p hp;rcases aat.mp hp with hp|hp
        · rcases aat.mp hp with hp|hp
          · exact htr' e p hp
          · cases aak.mp hp;rfl
        · cases aak.mp hp;rfl
    · obtain ⟨a2,vl2,vr2,rfl,ha2,hl2,hr2⟩:=hwy1;refine ⟨_,rfl,_,_,true,rfl,.tup ha2,rfl,true,rfl,bj ⟨_,rfl,a2,_,_,_,rfl,rfl,SqT.of ha2,rfl,rfl,_,rfl,dE (fun e=>ch (fc e)) ?_⟩⟩;refine ⟨_,rfl,_,_,true,rfl,.tup ha2,rfl,true,rfl,bj ⟨_,rfl,a2,_,_,_,rfl,rfl,SqT.of ha2,rfl,rfl,true,?_,bj ⟨_,rfl,a,_,_,_,rfl,rfl,SqT.of ha1,rfl,rfl,true,?_,bj ?_⟩⟩⟩
      · exact congrArg V.bl (by simp only [Bool.not_eq_true'];exact decide_eq_false fun e=>ch (fc e))
      · exact congrArg V.bl (by simp only [Bool.not_eq_true'];exact decide_eq_false fun e=>cg (fc e))
      refine ⟨_,rfl,(by show 2≤sizeLine;decide),fun pl nl=>?_⟩;have gl:=Same.new nl (.lst [.str "-",.str "+"]);refine ⟨_,rfl,a2,_,_,_,rfl,rfl,SqT.of (gl _ _ ha2),rfl,rfl,_,rfl,rfl,rfl,.inr ⟨_,rfl,pl,_,_,.str (sgB (decide (sgT h=b))),rfl,rfl,SqL.of ad,?_,?_⟩⟩
      · exact qI h ch b
      refine ⟨_,rfl,a2,_,_,_,rfl,rfl,SqT.of (gl _ _ ha2),rfl,(by show 2≤sizeLine;decide),fun p2 n2=>?_⟩;have g2:=gl.trans (Same.new n2 (.tup [.str (sgB (decide (sgT h=b))),vr2]));refine ⟨_,rfl,_,rfl,a2,_,_,_,rfl,rfl,SqT.of (g2 _ _ ha2),rfl,(by show 2≤sizeLine;decide),fun p3 n3=>⟨(by show 2≤sizeLine;decide),fun p4 n4=>?_⟩⟩;have g3:=Same.new n3 (.tup [.str (sgB b),vl2]);have g4:=Same.new n4 (.lst [.ref p2,.ref p3]);refine ⟨pw,p4,vs',_,rfl,rfl,(g2.trans (g3.trans g4)) _ _ ew1,ad,bx (by show vs'.length+2≤1000;lia),fun p5 n5=>?_⟩;have g5:=Same.new n5 (.lst (vs'++[.ref p2,.ref p3]));have G5:=g2.trans (g3.trans (g4.trans g5));refine ⟨c_ (ws'++[(decide (sgT h=b),r2)]++[(b,l2)]),?_,ds,us,ws'++[(decide (sgT h=b),r2)]++[(b,l2)],_,p5,_,_,rfl,aH ((g2.trans (g3.trans g4)) _ _ ef1) n5,?_,G5 _ _ ef1,ad,DatAll.mono G5 _ _ hda1,?_,hS1.trans G5,?_,?_,fun e=>absurd e cg,rfl⟩
      · rw [cM,cM];show c_ ws'+r2.knots+l2.knots < c_ ws'+(l2.knots+r2.knots+1);lia
      · exact (hS1.trans (g2.trans (g3.trans g4))).free n5
      · rw [aa3];exact WpAll.app (hall1.mono (Tups.of G5)) (.cons ⟨p2,vr2,rfl,(g3.trans (g4.trans g5)) _ _ ad,hr2.mono (Tups.of G5)⟩ (.cons ⟨p3,vl2,rfl,(g4.trans g5) _ _ ad,hl2.mono (Tups.of G5)⟩ .nil))
      · rw [ck,ck,← aa3 (tmC _ _ l2),← qv cg ch];exact hd
      · intro p hp;have hs2:l2.size+r2.size≤(Wy.node g l r).size:=hws2;have zl:=l2.size_pos;have zr:=r2.size_pos;have hdd:max l2.deep r2.deep+1≤(Wy.node g l r).deep:=by
          rcases hws1 with e|e
          · rw [← e];exact aac _
          · exact abi e
        rcases aat.mp hp with hp|hp
        · rcases aat.mp hp with hp|hp
          · exact hws' p hp
          · cases aak.mp hp;exact ⟨.inr (by show r2.deep < _;lia),by show r2.size≤_;lia,hws3.r⟩
        · cases aak.mp hp;exact ⟨.inr (by show l2.deep < _;lia),by show l2.size≤_;lia,hws3.l⟩
    · have hwy2:=hwy1;have k2:TOk wz.fm.data:=(wz.fm_ok hws3).d;have hk1:0 < wz.knots:=by lia
      have hd20:wz.deep≤n:=by have : wz.deep < (Wy.node g l r).deep:=hdeep;lia
      have hs20:wz.size≤20:=by have : wz.size≤(Wy.node g l r).size:=hws2;lia
      have hul:=hda.len;rw [aab] at hul;rcases hk with ⟨i,rfl⟩|⟨h,l2,r2,rfl,hh⟩
      · cases hwy1;refine ⟨_,rfl,_,_,false,rfl,.int i,rfl,false,rfl,aR ⟨_,rfl,_,_,false,rfl,.int i,rfl,false,rfl,aR ?_⟩⟩;refine ⟨_,rfl,.inl ⟨rfl,_,SqL.of ef1⟩,_,rfl,_,rfl,_,_,rfl,hwy2,hs20,hd20,hws3,fun u2 H2 g2 i2=>⟨(by show 2≤sizeLine;decide),fun p2 n2=>?_⟩⟩;have g3:=g2.trans (Same.new n2 (.tup [.str (sgB b),u2]));refine ⟨pf,_,_,rfl,rfl,g3 _ _ ef1,aA (by lia),?_⟩;have t3:=(Tups.of g3).trans (cN (o:=.lst (us++[.ref p2])) (g3 _ _ ef1));have i3:=Dat.mono (Same.new n2 (.tup [.str (sgB b),u2])) _ _ i2;have d3:=dA (cN (o:=.lst (us++[.ref p2])) (g3 _ _ ef1)) _ _ (iH (t:=(b,_)) k2) (b_ (ad (H:=H2) (a:=p2)) i3);refine ⟨c_ ws',abV hk1,ds++[(b,(Wy.num i).fm.data)],us++[.ref p2],ws',vs',pw,_,_,rfl,fw,nw0,ad,(aF (abO fw)).trans (g3 _ _ ew1),?_,hall1.mono t3,(hS1.trans g3).upd nf,?_,hws',htr',rfl⟩
        · rw [aae];exact DatAll.app (tokA_mono t3 _ _ hdok hda1) (DatAll.one d3)
        · rw [aa3,ab7];rw [etm] at hd;exact hd
      · obtain ⟨a2,vl2,vr2,rfl,ha2,hl2,hr2⟩:=hwy1;rcases hh with ⟨rfl,cg⟩|⟨ch,rfl⟩
        · refine ⟨_,rfl,_,_,true,rfl,.tup ha2,rfl,true,rfl,bj ⟨_,rfl,a2,_,_,_,rfl,rfl,SqT.of ha2,rfl,rfl,_,rfl,e8 rfl ⟨_,rfl,a,_,_,_,rfl,rfl,SqT.of ha1,rfl,rfl,_,rfl,dE (fun e=>cg (fc e)) ?_⟩⟩⟩;refine ⟨_,rfl,_,_,true,rfl,.tup ha2,rfl,true,rfl,bj ⟨_,rfl,a2,_,_,_,rfl,rfl,SqT.of ha2,rfl,rfl,false,rfl,aR ?_⟩⟩;refine ⟨_,rfl,.inl ⟨rfl,_,SqL.of ef1⟩,_,rfl,_,rfl,_,_,rfl,hwy2,hs20,hd20,hws3,fun u2 H2 g2 i2=>⟨(by show 2≤sizeLine;decide),fun p2 n2=>?_⟩⟩;have g3:=g2.trans (Same.new n2 (.tup [.str (sgB b),u2]));refine ⟨pf,_,_,rfl,rfl,g3 _ _ ef1,aA (by lia),?_⟩;have t3:=(Tups.of g3).trans (cN (o:=.lst (us++[.ref p2])) (g3 _ _ ef1));have i3:=Dat.mono (Same.new n2 (.tup [.str (sgB b),u2])) _ _ i2;have d3:=dA (cN (o:=.lst (us++[.ref p2])) (g3 _ _ ef1)) _ _ (iH (t:=(b,_)) k2) (b_ (ad (H:=H2) (a:=p2)) i3);refine ⟨c_ ws',abV hk1,ds++[(b,(Wy.node .times l2 r2).fm.data)],us++[.ref p2],ws',vs',pw,_,_,rfl,fw,nw0,ad,(aF (abO fw)).trans (g3 _ _ ew1),?_,hall1.mono t3,(hS1.trans g3).upd nf,?_,hws',htr',rfl⟩
          · rw [aae];exact DatAll.app (tokA_mono t3 _ _ hdok hda1) (DatAll.one d3)
          · rw [aa3,ab7];rw [etm] at hd;exact hd
        · refine ⟨_,rfl,_,_,true,rfl,.tup ha2,rfl,true,rfl,bj ⟨_,rfl,a2,_,_,_,rfl,rfl,SqT.of ha2,rfl,rfl,_,rfl,dE (fun e=>ch (fc e)) ?_⟩⟩;refine ⟨_,rfl,_,_,true,rfl,.tup ha2,rfl,true,rfl,bj ⟨_,rfl,a2,_,_,_,rfl,rfl,SqT.of ha2,rfl,rfl,true,?_,bj ⟨_,rfl,a,_,_,_,rfl,rfl,SqT.of ha1,rfl,rfl,false,rfl,aR ?_⟩⟩⟩
          · exact congrArg V.bl (by simp only [Bool.not_eq_true'];exact decide_eq_false fun e=>ch (fc e))
          refine ⟨_,rfl,.inl ⟨rfl,_,SqL.of ef1⟩,_,rfl,_,rfl,_,_,rfl,hwy2,hs20,hd20,hws3,fun u2 H2 g2 i2=>⟨(by show 2≤sizeLine;decide),fun p2 n2=>?_⟩⟩;have g3:=g2.trans (Same.new n2 (.tup [.str (sgB b),u2]));refine ⟨pf,_,_,rfl,rfl,g3 _ _ ef1,aA (by lia),?_⟩;have t3:=(Tups.of g3).trans (cN (o:=.lst (us++[.ref p2])) (g3 _ _ ef1));have i3:=Dat.mono (Same.new n2 (.tup [.str (sgB b),u2])) _ _ i2;have d3:=dA (cN (o:=.lst (us++[.ref p2])) (g3 _ _ ef1)) _ _ (iH (t:=(b,_)) k2) (b_ (ad (H:=H2) (a:=p2)) i3);refine ⟨c_ ws',abV hk1,ds++[(b,(Wy.node h l2 r2).fm.data)],us++[.ref p2],ws',vs',pw,_,_,rfl,fw,nw0,ad,(aF (abO fw)).trans (g3 _ _ ew1),?_,hall1.mono t3,(hS1.trans g3).upd nf,?_,hws',htr',rfl⟩
          · rw [aae];exact DatAll.app (tokA_mono t3 _ _ hdok hda1) (DatAll.one d3)
          · rw [aa3,ab7];rw [etm] at hd;exact hd
end
open PySem L2
structure Cp (K:aaa) (mg:Str→Option Value) (tk:Tok) (aP:Addr):Prop where
  gMOST_NUMBERS:mg "MOST_NUMBERS" = some (.int 9 tk)
  gSIGNS_TO_PUT:mg "SIGNS_TO_PUT" = some (.ref aP)
  sSIGNS_TO_PUT:∀ H,SqT K H aP kh
section
variable {P:Program} {w:World} {K:aaa} {mg:Str→Option Value} {base:Heap} {f:Addr} {fd:FuncData}
def j8:Sp:=fun vs H Q _=>∃ (a:Addr) (ns:List Int),vs=[.ref a]∧H a=some (.lst (ns.map V.int))∧1≤ns.length∧ns.length≤9∧∀ H',Same H H'→Q (.bl true) H'
abbrev iS:Stmt:=top 12
theorem ox:FnScope ["thing"] ["thing"] (ai iS):=⟨rfl,rfl,rfl,by decide +kernel,rfl,by decide +kernel,by decide +kernel⟩
theorem oB {tk:Tok} {aP:Addr} (F:Fun K "is_row" "is_row" iS f fd) (B:Bu K mg) (B3:Cp K mg tk aP) (C_is_whole:Cal P w K mg base "is_whole" 1 ["thing"] (bE K)):FnOk P w K mg base CX0 2 f fd ["thing"] j8:=by
  refine F.ok ox (fun vs H Q E h=>?_) (fun cdv A outer s H vs Q E hr h=>?_)
  · obtain ⟨x,v,rfl,_⟩:=h;rfl
  obtain ⟨a,ns,rfl,ea,h1,h2,q⟩:=h;refine ⟨_,(@ae _ _ _ _ _ (@aL _ _ _ _ _ _ _ _ (@PW.pt _ _ _ (@eR _ _ _ _ _ _ _ (@bM _ _ _ _ (@aQ _ _ _ (@ao _ _ _ _ _ _ _ _ _ (@aI _ ("list")) rfl B.iisinstance aal (@aa _ _ _ _ _ (pv 0) (@aa _ _ _ _ _ (@bh _ _ (.ty "list") _ _ rfl B.ilist ab3 rfl (by decide) (by decide)) ac (by rfl)) (by rfl)) (by decide) (by decide) (by rfl) (by rfl)) (by intro _;rfl))) (@eQ _ _ _ _ (@bM _ _ _ _ (@lB _ _ _ _ _ _ _ _ _ _ _ _ lH lH ag (@ao _ _ _ _ _ _ _ _ _ az rfl B.ilen aaD (@aa _ _ _ _ _ (pv 0) ac (by rfl)) (by decide) (by decide) (by rfl) (by rfl)) (@dY _ _ (.int 9) _ _ rfl B3.gMOST_NUMBERS ⟨_,rfl⟩ (by decide)) (by with_unfolding_all rfl)))))) (@af _ _ _ (@aq _ _ _ _ fq)) aB) (@af _ _ _ (@aq _ _ _ _ (@ao _ _ _ _ _ _ _ _ _ (@gz _ rfl) rfl B.iall abE (@aa _ _ _ _ _ (@cY _ _ _ _ _ _ _ _ (["number"]) ([none]) _ _ _ _ rfl (@cz _ _ _ _ (pv 0)) rfl trivial trivial (fun _ _ _ _=>⟨(@aj _ _ (0) _ (show aaO (["number"]:List Str) by decide +kernel) rfl (Or.inl rfl) (.inr rfl)),aV,(@ah _ _ _ _ _ _ _ _ _ _ _ C_is_whole hr (by lia) rfl (@aa _ _ _ _ _ (pv 0) ac (by rfl)) (by decide) (by rfl) (by rfl))⟩) (by rfl) (by rfl) (by rfl) (by rfl) (by intro _;rfl)) ac (by rfl)) (by decide) (by decide) (by rfl) (by rfl))))),?_⟩;have hl:(ns.map V.int).length=ns.length:=aab _;refine ⟨_,rfl,_,_,true,rfl,.lst ea,rfl,true,rfl,aR ?_⟩;refine ⟨_,rfl,a,_,rfl,.inl (SqL.of ea),_,_,rfl,rfl,true,congrArg V.bl (decide_eq_true (by lia)),bj ?_⟩;refine ⟨_,_,rfl,rfl,true,congrArg V.bl (decide_eq_true (by lia)),aR ?_⟩;refine ⟨_,rfl,a,rfl,⟨_,SqL.of ea⟩,?_⟩;refine fz (Trn.list (xs:=ns.map V.int)) (fun i ys H'=>H'=H∧ys=(aax i true).map V.bl) ⟨rfl,rfl⟩ (fun i ys H' hi p=>by rw [p.1,p.2];exact ⟨SqL.of ea,aA (by simp;lia)⟩) (fun i x ys H1 H' hi hx p Nx nx=>?_) (fun ys H' p p5 n5=>?_)
  · obtain ⟨rfl,rfl⟩:=p;obtain ⟨rfl,hx⟩:=hx;rw [aam] at hx;obtain ⟨c,_,rfl⟩:=aaE.mp hx;refine ⟨_,rfl,_,_,rfl,.int c,nx _ _ ⟨rfl,?_⟩⟩;rw [List.replicate_succ',aae];rfl
  obtain ⟨rfl,rfl⟩:=p;refine ⟨p5,_,rfl,SqL.of ad,?_⟩;have e:((aax (ns.map V.int).length true).all id)=true:=by simp
  rw [e];exact q _ (Same.new n5 _)
def gF:Sp:=fun vs H Q _=>∃ (a:Addr) (ns:List Int),vs=[.ref a]∧H a=some (.lst (ns.map V.int))∧1≤ns.length∧ns.length≤9∧∀ H',Same H H'→Q .non H'
abbrev fK:Stmt:=top 16
theorem ln:FnScope ["thing"] ["thing"] (ai fK):=⟨rfl,rfl,rfl,by decide +kernel,rfl,by decide +kernel,by decide +kernel⟩
theorem lM (F:Fun K "need_row" "need_row" fK f fd) (C_is_row:Cal P w K mg base "is_row" 2 ["thing"] j8):FnOk P w K mg base CX0 3 f fd ["thing"] gF:=by
  refine F.ok ln (fun vs H Q E h=>?_) (fun cdv A outer s H vs Q E hr h=>?_)
  · obtain ⟨x,v,rfl,_⟩:=h;rfl
  obtain ⟨a,ns,rfl,ea,h1,h2,q⟩:=h;refine ⟨_,(@af _ _ _ (@aL _ _ _ _ _ _ _ _ (@bM _ _ _ _ (@aQ _ _ _ (@ah _ _ _ _ _ _ _ _ _ _ _ C_is_row hr (by lia) rfl (@aa _ _ _ _ _ (pv 0) ac (by rfl)) (by decide) (by rfl) (by rfl)) (by intro _;rfl))) (@af _ _ _ eS) aB)),?_⟩;exact ⟨_,rfl,a,ns,rfl,ea,h1,h2,fun H' hS=>⟨true,rfl,aR (q H' hS)⟩⟩
def gG:Sp:=fun vs H Q _=>∃ gs,vs=[.str (am gs)]∧bC gs∧Q (.bl true) H
abbrev fM:Stmt:=top 13
theorem lr:FnScope ["thing"] ["thing"] (ai fM):=⟨rfl,rfl,rfl,by decide +kernel,rfl,by decide +kernel,by decide +kernel⟩
theorem lO {tk:Tok} {aP:Addr} (F:Fun K "is_signs" "is_signs" fM f fd) (B:Bu K mg) (B3:Cp K mg tk aP):FnOk P w K mg base CX0 1 f fd ["thing"] gG:=by
  refine F.ok lr (fun vs H Q E h=>?_) (fun cdv A outer s H vs Q E hr h=>?_)
  · obtain ⟨x,rfl,_⟩:=h;rfl
  obtain ⟨gs,rfl,hs,q⟩:=h;refine ⟨_,(@af _ _ _ (@aq _ _ _ _ (@fQ _ _ _ _ _ _ _ (@ao _ _ _ _ _ _ _ _ _ (@aI _ ("str")) rfl B.iisinstance aal (@aa _ _ _ _ _ (pv 0) (@aa _ _ _ _ _ (@bh _ _ (.ty "str") _ _ rfl B.istr aca rfl (by decide) (by decide)) ac (by rfl)) (by rfl)) (by decide) (by decide) (by rfl) (by rfl)) (@gX _ _ _ _ _ (@bY _ _ _ _ _ _ _ _ jS (pv 0) (@dY _ _ (.ref aP) _ _ rfl B3.gSIGNS_TO_PUT rfl (by decide)) (by with_unfolding_all rfl)))))),?_⟩;refine ⟨_,rfl,_,_,true,rfl,.str _,rfl,true,rfl,bj ⟨_,rfl,aP,_,rfl,.inr (B3.sSIGNS_TO_PUT H),rfl,rfl,?_⟩⟩;show Q (.bl (inV (.str (am gs)) kh)) H;rw [show inV (.str (am gs)) kh=true from hs];exact q
def dc:Sp:=fun vs H Q _=>∃ gs,vs=[.str (am gs)]∧bC gs∧Q .non H
abbrev dJ:Stmt:=top 17
theorem jl:FnScope ["thing"] ["thing"] (ai dJ):=⟨rfl,rfl,rfl,by decide +kernel,rfl,by decide +kernel,by decide +kernel⟩
theorem jt (F:Fun K "need_signs" "need_signs" dJ f fd) (C_is_signs:Cal P w K mg base "is_signs" 1 ["thing"] gG):FnOk P w K mg base CX0 2 f fd ["thing"] dc:=by
  refine F.ok jl (fun vs H Q E h=>?_) (fun cdv A outer s H vs Q E hr h=>?_)
  · obtain ⟨x,rfl,_⟩:=h;rfl
  obtain ⟨gs,rfl,hs,q⟩:=h;refine ⟨_,(@af _ _ _ (@aL _ _ _ _ _ _ _ _ (@bM _ _ _ _ (@aQ _ _ _ (@ah _ _ _ _ _ _ _ _ _ _ _ C_is_signs hr (by lia) rfl (@aa _ _ _ _ _ (pv 0) ac (by rfl)) (by decide) (by rfl) (by rfl)) (by intro _;rfl))) (@af _ _ _ eS) aB)),?_⟩;exact ⟨_,rfl,gs,rfl,hs,true,rfl,aR q⟩
end
open PySem L2
def wl (s:Nat) (L:List Int) (n l:Nat):Int:=(s:Int) * L.getD l 0 * L.getD (n - l) 0
def cl (s:Nat):Nat→List Int
  | 0=>[0,1]
  | k+1=>cl s k++[((aaF (k+1)).map fun j=>wl s (cl s k) (k+2) (1+j)).sum]
theorem kP (s:Nat):∀ k,(cl s k).length=k+2
  | 0=>rfl
  | k+1=>by
    show (cl s k++[_]).length=_;rw [aag,kP s k];rfl
def cn (s n:Nat):Int:=(cl s 8).getD n 0
theorem ql (s:Nat):∀ (k d n:Nat),n < k+2→(cl s (k+d)).getD n 0=(cl s k).getD n 0
  | k,0,n,h=>rfl
  | k,d+1,n,h=>by
    show (cl s (k+d)++[_]).getD n 0=_;rw [← ql s k d n h];have hl:=kP s (k+d);simp only [aao];rw [abq (by lia)]
theorem qm {s k n:Nat} (hk:k≤8) (h:n < k+2):(cl s k).getD n 0=cn s n:=by
  have:=ql s k (8 - k) n h;unfold cn;rw [show 8=k+(8 - k) by lia];exact this.symm
theorem l9:∀ s≤3,∀ n≤9,0≤cn s n∧cn s n < 1000000000:=by decide +kernel
theorem jY {s k n:Nat} (hk:k≤8) (h:n < k+2):atI ((cl s k).map V.int) (n:Int)=some (.int (cn s n)):=by
  have hl:=kP s k;have e:(cl s k)[n]?=some (cn s n):=by
    have:=qm (s:=s) hk h;rw [aao] at this;cases z:(cl s k)[n]? with
    | none=>rw [List.getElem?_eq_none_iff] at z;lia
    | some x=>rw [z] at this;exact congrArg some this
  refine fj ?_;rw [aam,e];rfl
section
variable {P:Program} {w:World} {K:aaa} {mg:Str→Option Value} {base:Heap} {f:Addr} {fd:FuncData}
def nA:Sp:=fun vs H Q _=>∃ (z:Str) (pc:Addr) (xs:List V) (l r a b:Int),vs=[.str z,.ref pc,.int l,.int r]∧z.length≤3∧H pc=some (.lst xs)∧atI xs l=some (.int a)∧atI xs r=some (.int b)∧0≤b∧b < 1000000000∧Q (.int ((z.length:Int) * a * b)) H
abbrev dm:Stmt:=top 49
theorem iQ:FnScope ["signs","counts","left","right"] ["signs","counts","left","right"] (ai dm):=⟨rfl,rfl,rfl,by decide +kernel,rfl,by decide +kernel,by decide +kernel⟩
theorem i6 (F:Fun K "ways_by_cut" "ways_by_cut" dm f fd) (B:Bu K mg):FnOk P w K mg base CX0 1 f fd ["signs","counts","left","right"] nA:=by
  refine F.ok iQ (fun vs H Q E h=>?_) (fun cdv A outer s H vs Q E hr h=>?_)
  · obtain ⟨z,pc,xs,l,r,a,b,rfl,_⟩:=h;rfl
  obtain ⟨z,pc,xs,l,r,a,b,rfl,hz,hc,ha,hb,b0,b1,q⟩:=h;refine ⟨_,(@af _ _ _ (@aq _ _ _ _ (@au _ _ _ _ _ _ _ _ dt (@au _ _ _ _ _ _ _ _ dt (@ao _ _ _ _ _ _ _ _ _ gy rfl B.ilen aaD (@aa _ _ _ _ _ (pv 0) ac (by rfl)) (by decide) (by decide) (by rfl) (by rfl)) (@aG _ _ _ _ _ _ _ aJ (pv 1) (pv 2) (fun _ _=>rfl))) (@aG _ _ _ _ _ _ _ aJ (pv 1) (pv 3) (fun _ _=>rfl))))),?_⟩;exact ⟨_,rfl,z,rfl,bx (by lia),_,rfl,_,rfl,pc,_,_,_,rfl,rfl,SqL.of hc,ha,_,_,rfl,rfl,.inl ⟨by lia,by lia⟩,_,rfl,_,rfl,pc,_,_,_,rfl,rfl,SqL.of hc,hb,_,_,rfl,rfl,.inr ⟨by lia,by lia⟩,q⟩
def o7:Sp:=fun vs H Q _=>∃ (z:Str) (m:Int),vs=[.str z,.int m]∧z.length≤3∧1≤m∧m≤9∧∀ p H',Same H H'→H p=none→H' p=some (.lst ((cl z.length (m - 1).toNat).map V.int))→Q (.ref p) H'
abbrev cU:Stmt:=top 48
theorem bQ:FnScope ["signs","many","counts","length","by_left"] ["signs","many"] (ai cU):=⟨rfl,rfl,rfl,by decide +kernel,rfl,by decide +kernel,by decide +kernel⟩
theorem ii (F:Fun K "counts_up_to" "counts_up_to" cU f fd) (B:Bu K mg) (C_ways_by_cut:Cal P w K mg base "ways_by_cut" 1 ["signs","counts","left","right"] nA):FnOk P w K mg base CX0 2 f fd ["signs","many"] o7:=by
  refine F.ok bQ (fun vs H Q E h=>?_) (fun cdv A outer s H vs Q E hr h=>?_)
  · obtain ⟨z,m,rfl,_⟩:=h;rfl
  obtain ⟨z,m,rfl,hz,h1,h9,q⟩:=h;refine ⟨_,(@ae _ _ _ _ _ (@aC _ _ (2) _ _ _ _ (bQ).nd rfl (Or.inr rfl) (@aY _ _ _ _ (@aa _ _ _ _ _ ag (@aa _ _ _ _ _ ag ac (by rfl)) (by rfl))) (by rfl) (by first|exact .inl rfl|exact .inr rfl|assumption)) (@ae _ _ _ _ _ (@bV _ _ _ _ _ _ _ _ aaM rfl (@cq _ _ _ _ _ _ _ rfl B.irange (@aa _ _ _ _ _ ag (@aa _ _ _ _ _ (@au _ _ _ _ _ _ _ _ a_ (pv 1) ag) ac (by rfl)) (by rfl)) (by rfl) (by rfl)) (@aj _ _ (3) _ (bQ).nd rfl (Or.inr rfl) (.inl rfl)) (@ae _ _ _ _ _ (@qM _ (4) _ _ _ _ _ _ _ _ _ _ (["left","signs","counts","length"]) ([none,some 0,some 2,some 3]) _ _ _ _ (bQ).nd rfl (Or.inl rfl) rfl (@cq _ _ _ _ _ _ _ rfl B.irange (@aa _ _ _ _ _ ag (@aa _ _ _ _ _ (pv 3) ac (by rfl)) (by rfl)) (by rfl) (by rfl)) rfl ⟨rfl,⟨rfl,⟨rfl,trivial⟩⟩⟩ ⟨⟨rfl,Or.inl rfl,Or.inl rfl⟩,⟨⟨rfl,Or.inl rfl,Or.inl rfl⟩,⟨⟨rfl,Or.inl rfl,Or.inl rfl⟩,trivial⟩⟩⟩ (fun _ _ _ _=>⟨(@aj _ _ (0) _ (show aaO (["left","signs","counts","length"]:List Str) by decide +kernel) rfl (Or.inl rfl) (.inr rfl)),aV,(@ah _ _ _ _ _ _ _ _ _ _ _ C_ways_by_cut hr (by lia) rfl (@aa _ _ _ _ _ (pv 1) (@aa _ _ _ _ _ (pv 2) (@aa _ _ _ _ _ (pv 0) (@aa _ _ _ _ _ (@au _ _ _ _ _ _ _ _ bN (pv 3) (pv 0)) ac (by rfl)) (by rfl)) (by rfl)) (by rfl)) (by decide) (by rfl) (by rfl))⟩) (by rfl) (by rfl) (by rfl) (by rfl) (by intro _;rfl) (by rfl) (by first|exact .inl rfl|exact .inr rfl|assumption)) (@af _ _ _ (@bR _ _ _ _ (@jR _ _ _ _ _ _ _ _ _ _ _ _ aaZ abd abe dD (pv 2) (@aa _ _ _ _ _ (@ao _ _ _ _ _ _ _ _ _ (@ji _ rfl) rfl B.isum acb (@aa _ _ _ _ _ (pv 4) ac (by rfl)) (by decide) (by decide) (by rfl) (by rfl)) ac (by rfl)) (by rfl) (by rfl) (by rfl) (by rfl) (by rfl)) (by rfl)))) (by intro _;rfl)) (@af _ _ _ (@aq _ _ _ _ (pv 2))))),?_⟩;refine ⟨(by show 2≤sizeLine;decide),fun p np=>?_⟩;refine ⟨_,rfl,_,_,rfl,rfl,2,m+1,rfl,⟨by decide,by decide,by lia,by lia⟩,hX (n:=(m+1 - 2).toNat) (fun i σ H'=>∃ len by',σ=[some (.str z),some (.int m),some (.ref p),len,by']∧H' p=some (.lst ((cl z.length i).map V.int))∧Same H H') ⟨_,_,rfl,ad,Same.new np _⟩ ?_ ?_⟩
  · rintro i σ H1 hi ⟨len,by',rfl,e1,S1⟩;have i8:i≤7:=by lia
    have hl:=kP z.length i;refine ⟨_,rfl,1,_,rfl,⟨by decide,by decide,by lia,by lia⟩,l4 (n:=(2+(i:Int) - 1).toNat) (fun j ys H'=>ys=((aaF j).map fun j=>wl z.length (cl z.length i) (i+2) (1+j)).map V.int∧H'=H1) ⟨rfl,rfl⟩ ?_ ?_ ?_⟩
    · rintro j ys H' hj ⟨rfl,rfl⟩;rw [aab,aab,aa7];exact aA (by lia)
    · rintro j ys H' hj ⟨rfl,rfl⟩ nx;have bd:=l9 z.length hz;have e2:2+(i:Int) - (1+(j:Int))=((i+2 - (1+j):Nat):Int):=by lia
      have e3:(1+(j:Int))=((1+j:Nat):Int):=by lia
      refine ⟨_,rfl,_,rfl,_,rfl,_,rfl,_,rfl,_,_,rfl,rfl,z,p,_,_,_,cn z.length (1+j),cn z.length (i+2 - (1+j)),rfl,hz,e1,?_,?_,(bd _ (by lia)).1,(bd _ (by lia)).2,nx ⟨?_,rfl⟩⟩
      · rw [e3];exact jY (by lia) (by lia)
      · rw [e2];exact jY (by lia) (by lia)
      · rw [abU,aae,aae];show _=_++[V.int (wl z.length (cl z.length i) (i+2) (1+j))];unfold wl;rw [qm (by lia) (by lia),qm (by lia) (by lia)]
    · rintro ys H' ⟨rfl,rfl⟩ p2 n2;have g2:=Same.new n2 (.lst (((aaF (2+(i:Int) - 1).toNat).map fun j=>wl z.length (cl z.length i) (i+2) (1+j)).map V.int));refine ⟨_,rfl,.inl ⟨rfl,_,SqL.of (g2 _ _ e1)⟩,_,rfl,p2,_,rfl,SqL.of ad,p,_,_,rfl,rfl,g2 _ _ e1,aA (by rw [aab];lia),_,_,rfl,?_,?_⟩
      · rw [ad,← List.map_singleton,← aae];have e4:(2+(i:Int) - 1).toNat=i+1:=by lia
        rw [e4];rfl
      · exact (S1.trans g2).upd np
  · rintro σ H1 ⟨len,by',rfl,e1,S1⟩;have e4:(m+1 - 2).toNat=(m - 1).toNat:=by lia
    rw [e4] at e1;exact ⟨_,rfl,q p H1 S1 np e1⟩
end
open PySem L2
def ky (p:Int × Int):List Key:=[Sum.inl p.1,Sum.inl p.2]
theorem mR {p q:Int × Int} (h:ky p=ky q):p=q:=by
  obtain ⟨a,b⟩:=p;obtain ⟨c,d⟩:=q;simp [ky] at h;rw [h.1,h.2]
theorem PairIn.key {H:Hp} {p:Int × Int} {v:V} (h:PairIn H p v):∃ b,v=.ref b∧H b=some (.tup ((ky p).map kV)):=h
def CutIn (H:Hp) (p:Int × Int) (c:Int) (v:V):Prop:=∃ a x y,v=.ref a∧H a=some (.tup [x,y])∧PairIn H (p.1,c) x∧PairIn H (c+1,p.2) y
theorem PairIn.mono {H H':Hp} {p:Int × Int} {v:V} (t:Tups H H') (h:PairIn H p v):PairIn H' p v:=by
  obtain ⟨a,e,h⟩:=h;exact ⟨a,e,t _ _ h⟩
theorem CutIn.mono {H H':Hp} {p:Int × Int} {c:Int} {v:V} (t:Tups H H') (h:CutIn H p c v):CutIn H' p c v:=by
  obtain ⟨a,x,y,e,h1,h2,h3⟩:=h;exact ⟨a,x,y,e,t _ _ h1,PairIn.mono t h2,PairIn.mono t h3⟩
def a8 (p:Int × Int):List Int:=(aaF (p.2 - p.1).toNat).map fun (k:Nat)=>p.1+(k:Int)
theorem Paired.snoc {α β:Type} {F:α→β→Prop} {as:List α} {us:List β} {a:α} {u:β} (h:Paired F as us) (x:F a u):Paired F (as++[a]) (us++[u]):=by
  induction h with
  | nil=>exact .cons x .nil
  | cons y _ ih=>exact .cons y ih
theorem Paired.at {α β:Type} {F:α→β→Prop} {as:List α} {us:List β} (p:Paired F as us):∀ {j:Nat} {x:β},us[j]?=some x→∃ a,as[j]?=some a∧F a x:=by
  induction p with
  | nil=>intro j x h;cases h
  | cons a b ih =>
    intro j x h;cases j with
    | zero=>cases h;exact ⟨_,rfl,a⟩
    | succ j=>exact ih (j:=j) h
def Sg.op:Sg→Int→Int→Int
  | .plus,a,b=>a+b
  | .minus,a,b=>a - b
  | .times,a,b=>a * b
theorem mB (gs:List Sg):(am gs).cps.all (· < 128)=true:=by
  rw [← Array.all_toList,bS,aa5];intro c hc;obtain ⟨g,_,rfl⟩:=aaQ.mp hc;cases g <;> decide
theorem tH {gs:List Sg} {i c:Nat} (h:(am gs).cps[i]?=some c):∃ g,gs[i]?=some g∧c=g.code:=by
  have h2:(am gs).cps.toList[i]?=some c:=by simpa using h
  rw [bS,aam] at h2;obtain ⟨g,hg,e⟩:=aaE.mp h2;exact ⟨g,hg,e.symm⟩
theorem kc (gs:List Sg):(am gs).cps.size=gs.length:=by
  have:=congrArg List.length (bS gs);simpa using this
section
variable {P:Program} {w:World} {K:aaa} {mg:Str→Option Value} {base:Heap} {f:Addr} {fd:FuncData}
def mx:Sp:=fun vs H Q _=>∃ p v,vs=[v]∧PairIn H p v∧0≤p.1∧p.1≤p.2∧p.2 < 100∧∀ a us H',Same H H'→H a=none→H' a=some (.lst us)→Paired (CutIn H' p) (a8 p) us→Q (.ref a) H'
abbrev gQ:Stmt:=top 20
theorem fG:FnScope ["stretch","first","last"] ["stretch"] (ai gQ):=⟨rfl,rfl,rfl,by decide +kernel,rfl,by decide +kernel,by decide +kernel⟩
theorem mL (F:Fun K "cuts_of" "cuts_of" gQ f fd) (B:Bu K mg):FnOk P w K mg base CX0 1 f fd ["stretch"] mx:=by
  refine F.ok fG (fun vs H Q E h=>?_) (fun cdv A outer s H vs Q E hr h=>?_)
  · obtain ⟨p,v,rfl,_⟩:=h;rfl
  obtain ⟨p,v,rfl,⟨a,rfl,ha⟩,h1,h2,h3,q⟩:=h;refine ⟨_,(@ae _ _ _ _ _ (@bW _ _ _ _ _ _ (pv 0) (@bX _ _ _ _ _ _ rfl (@ap _ _ _ _ _ (@aj _ _ (1) _ (fG).nd rfl (Or.inr rfl) (.inl rfl)) (@ap _ _ _ _ _ (@aj _ _ (2) _ (fG).nd rfl (Or.inr rfl) (.inl rfl)) aU (by rfl)) (by rfl)) (by rfl) (by rfl)) (by rfl) (by rfl) (by rfl)) (@af _ _ _ (@aq _ _ _ _ (@cY _ _ _ _ _ _ _ _ (["cut","first","last"]) ([none,some 1,some 2]) _ _ _ _ rfl (@cq _ _ _ _ _ _ _ rfl B.irange (@aa _ _ _ _ _ (pv 1) (@aa _ _ _ _ _ (pv 2) ac (by rfl)) (by rfl)) (by rfl) (by rfl)) rfl ⟨rfl,⟨rfl,trivial⟩⟩ ⟨⟨rfl,Or.inl rfl,Or.inl rfl⟩,⟨⟨rfl,Or.inl rfl,Or.inl rfl⟩,trivial⟩⟩ (fun _ _ _ _=>⟨(@aj _ _ (0) _ (show aaO (["cut","first","last"]:List Str) by decide +kernel) rfl (Or.inl rfl) (.inr rfl)),aV,(@aM _ _ _ _ _ (@aa _ _ _ _ _ (@aM _ _ _ _ _ (@aa _ _ _ _ _ (pv 1) (@aa _ _ _ _ _ (pv 0) ac (by rfl)) (by rfl))) (@aa _ _ _ _ _ (@aM _ _ _ _ _ (@aa _ _ _ _ _ (@au _ _ _ _ _ _ _ _ a_ (pv 0) ag) (@aa _ _ _ _ _ (pv 2) ac (by rfl)) (by rfl))) ac (by rfl)) (by rfl)))⟩) (by rfl) (by rfl) (by rfl) (by rfl) (by intro _;rfl))))),?_⟩;refine ⟨_,rfl,a,_,rfl,SqT.of ha,rfl,_,_,rfl,_,_,rfl,rfl,?_⟩;refine ⟨_,rfl,_,rfl,p.1,p.2,rfl,⟨by lia,by lia,by lia,by lia⟩,?_⟩;refine fz (Trn.range (lo:=p.1) (n:=(p.2 - p.1).toNat)) (fun i ys H'=>Same H H'∧Paired (CutIn H' p) ((a8 p).take i) ys) ⟨Same.refl _,.nil⟩ (fun i ys H' hi z=>⟨trivial,aA (by have:=z.2.length;rw [← this,aas];lia)⟩) (fun i x ys H0 H' hi hx z Nx nx=>?_) (fun ys H' z p5 n5=>?_)
  · obtain ⟨rfl,rfl⟩:=hx;obtain ⟨S,hp⟩:=z;have t2:(2:Nat)≤sizeLine:=by decide
    refine ⟨_,rfl,_,rfl,t2,fun t ht=>?_⟩;have st:=Same.new ht (.tup [.int p.1,.int (p.1+(i:Int))]);refine ⟨_,rfl,_,_,rfl,rfl,_,rfl,t2,fun u hu=>⟨t2,fun v hv=>nx _ _ ?_⟩⟩;have su:=Same.new hu (.tup [.int (p.1+(i:Int)+1),.int p.2]);have sv:=Same.new hv (.tup [.ref t,.ref u]);have S3:=(st.trans su).trans sv;refine ⟨S.trans S3,?_⟩;have e:(a8 p).take (i+1)=(a8 p).take i++[p.1+(i:Int)]:=by
      rw [aaz];have : (a8 p)[i]?=some (p.1+(i:Int)):=by
        unfold a8;rw [aam,aaV hi];rfl
      rw [this];rfl
    rw [e];exact Paired.snoc (Paired.mapP hp fun _ _ h=>CutIn.mono (Tups.of S3) h) ⟨v,_,_,rfl,ad,⟨t,rfl,sv _ _ (su _ _ ad)⟩,⟨u,rfl,sv _ _ ad⟩⟩
  · obtain ⟨S,hp⟩:=z;rw [aaR (by simp [a8])] at hp;have s5:=Same.new n5 (.lst ys);exact q p5 ys _ (S.trans s5) (S.free n5) ad (Paired.mapP hp fun _ _ h=>CutIn.mono (Tups.of s5) h)
end
def prs (s n:Nat):Nat→Int
  | 0=>0
  | j+1=>prs s n j+(s:Int) * cn s (1+j) * cn s (n - (1+j))
theorem qN:∀ s≤3,∀ n≤9,2≤n→prs s n (n - 1)=cn s n:=by decide +kernel
theorem sQ:∀ s≤3,cn s 1=1:=by decide +kernel
theorem py {s n:Nat} (hs:s≤3) (hn:n≤9) {j:Nat} (hj:j+1≤n - 1):prs s n j≤prs s n (j+1):=by
  show _≤prs s n j+(s:Int) * cn s (1+j) * cn s (n - (1+j));have a:=(l9 s hs (1+j) (by lia)).1;have b:=(l9 s hs (n - (1+j)) (by lia)).1;have c:=ab4 (ab4 (Int.natCast_nonneg s) a) b;lia
theorem gg {s n:Nat} (hs:s≤3) (hn:n≤9) {i:Nat}:∀ {j:Nat},i≤j→j≤n - 1→prs s n i≤prs s n j
  | 0,h,_=>by rw [show i=0 by lia];exact aa0 _
  | j+1,h,hj=>by
    by_cases e:i=j+1
    · rw [e];exact aa0 _
    · exact Int.le_trans (gg hs hn (j:=j) (by lia) (by lia)) (py hs hn hj)
def Wy.nr (gs:List Sg):Wy→Int
  | .num _=>0
  | .node g l r=>prs gs.length (l.size+r.size) (l.size - 1)+((((gs.idxOf g:Nat):Int) * cn gs.length l.size+l.nr gs) * cn gs.length r.size+r.nr gs)
theorem mM {i s A C a c:Int} (i0:0≤i) (i1:i+1≤s) (a0:0≤a) (a1:a < A) (c0:0≤c) (c1:c < C) :
    0≤(i * A+a) * C+c∧(i * A+a) * C+c < s * A * C∧((i * A+a) * C+c) / C=i * A+a∧((i * A+a) * C+c) % C=c∧(i * A+a) / A=i∧(i * A+a) % A=a:=by
  have A0:0 < A:=by lia
  have C0:0 < C:=by lia
  have m0:0≤i * A+a:=Int.add_nonneg (ab4 i0 (Int.le_of_lt A0)) a0;have m1:i * A+a+1≤s * A:=by
    have:=abw i1 (Int.le_of_lt A0);rw [Int.add_mul,Int.one_mul] at this;lia
  have m2:=abw m1 (Int.le_of_lt C0);rw [Int.add_mul,Int.one_mul] at m2;have u1:=(Int.ediv_emod_unique C0 (a:=(i * A+a) * C+c) (q:=i * A+a) (r:=c)).mpr ⟨by rw [Int.mul_comm C,Int.add_comm],c0,c1⟩;have u2:=(Int.ediv_emod_unique A0 (a:=i * A+a) (q:=i) (r:=a)).mpr ⟨by rw [Int.mul_comm A,Int.add_comm],a0,a1⟩;exact ⟨Int.add_nonneg (ab4 m0 (Int.le_of_lt C0)) c0,by lia,u1.1,u1.2,u2.1,u2.2⟩
theorem mT {gs:List Sg} {g:Sg} (h:g∈gs):gs.idxOf g < gs.length∧gs[gs.idxOf g]?=some g:=by
  have h1:=List.idxOf_lt_length_of_mem h;exact ⟨h1,by rw [aaf h1,List.getElem_idxOf h1]⟩
theorem Wy.nr_bd {gs:List Sg} (hs:gs.length≤3):∀ w:Wy,w.within gs→w.size≤9→0≤w.nr gs∧w.nr gs < cn gs.length w.size
  | .num i,_,_=>by
    show (0:Int)≤0∧(0:Int) < cn gs.length 1;rw [sQ _ hs];decide
  | .node g l r,h,h9=>by
    have h9:l.size+r.size≤9:=h9;have l1:=l.size_pos;have r1:=r.size_pos;obtain ⟨a0,a1⟩:=Wy.nr_bd hs l h.2.1 (by lia);obtain ⟨c0,c1⟩:=Wy.nr_bd hs r h.2.2 (by lia);obtain ⟨i1,_⟩:=mT h.1;obtain ⟨e0,e1,_⟩:=mM (i:=((gs.idxOf g:Nat):Int)) (s:=gs.length) (by lia) (by lia) a0 a1 c0 c1;have p0:=gg hs h9 (i:=0) (j:=l.size - 1) (aaX _) (by lia);have p0:0≤prs gs.length (l.size+r.size) (l.size - 1):=p0;have p1:=gg hs h9 (i:=l.size - 1+1) (j:=l.size+r.size - 1) (by lia) (by lia);rw [qN _ hs _ h9 (by lia)] at p1;have p1:prs gs.length (l.size+r.size) (l.size - 1)+(gs.length:Int) * cn gs.length (1+(l.size - 1)) * cn gs.length (l.size+r.size - (1+(l.size - 1)))≤cn gs.length (l.size+r.size):=p1;rw [show 1+(l.size - 1)=l.size by lia,show l.size+r.size - l.size=r.size by lia] at p1;show 0≤prs _ _ _+_∧prs _ _ _+_ < cn gs.length (l.size+r.size);lia
def cw (z:Str) (y:Str):Bool:=!(aaU z y 0 z.length 1).isEmpty
theorem ni (s n:Nat):∀ j:Nat,((aaF j).map fun (i:Nat)=>(s:Int) * cn s (1+i) * cn s (n - (1+i))).sum=prs s n j
  | 0=>rfl
  | j+1=>by rw [abU,aae,List.sum_append,ni s n j];simp [prs]
theorem pK:∀ gs:List Sg,gs.length≤3→bC gs→∀ g∈gs,(aaU (am gs) g.str 0 (am gs).length 1).head?=some (gs.idxOf g)∧cw (am gs) g.str=true
  | [],_,_=>fun g h=>nomatch h
  | [a],_,_=>by
    cases a <;> (intro g;cases g <;> intro h <;> first|exact ⟨by decide +kernel,by decide +kernel⟩|exact absurd h (by decide))
  | [a,b],_,h=>by
    cases a <;> cases b <;> first
      | exact absurd h (by unfold bC;decide +kernel)
      | (intro g;cases g <;> intro h <;> first|exact ⟨by decide +kernel,by decide +kernel⟩|exact absurd h (by decide))
  | [a,b,c],_,h=>by
    cases a <;> cases b <;> cases c <;> first
      | exact absurd h (by unfold bC;decide +kernel)
      | (intro g;cases g <;> intro h <;> first|exact ⟨by decide +kernel,by decide +kernel⟩|exact absurd h (by decide))
  | _ :: _ :: _ :: _ :: _,h,_=>by simp at h
theorem nN (gs:List Sg) (h3:gs.length≤3) (sp:bC gs) (g:Sg) (hg:g∈gs):(∃ cZ,aaU (am gs) g.str 0 (am gs).length 1=gs.idxOf g :: cZ)∧cw (am gs) g.str=true:=by
  obtain ⟨h1,h2⟩:=pK gs h3 sp g hg;refine ⟨?_,h2⟩;cases e:aaU (am gs) g.str 0 (am gs).length 1 with
  | nil=>rw [e] at h1;cases h1
  | cons x y =>
    rw [e] at h1;have : x=gs.idxOf g:=by simpa using h1
    exact ⟨y,by rw [this]⟩
theorem fE {gs:List Sg}:∀ {w:Wy},w.within gs→∀ g∈w.sgs,g∈gs
  | .num _,_,g,h=>by simp [Wy.sgs] at h
  | .node s l r,hw,g,h=>by
    have h:g∈l.sgs++s :: r.sgs:=h;rcases aat.mp h with h|h
    · exact fE hw.2.1 g h
    · rcases aaC.mp h with rfl|h
      · exact hw.1
      · exact fE hw.2.2 g h
section
variable {P:Program} {w:World} {K:aaa} {mg:Str→Option Value} {base:Heap} {f:Addr} {fd:FuncData}
def o6:Sp:=fun vs H Q _=>∃ (wy:Wy) (v:V) (z:Str),vs=[v,.str z]∧WyIn H wy v∧wy.size≤20∧∀ H',Same H H'→Q (.bl (wy.sgs.all fun g=>cw z g.str)) H'
abbrev bU:Stmt:=top 47
theorem fF:FnScope ["way","signs"] ["way","signs"] (ai bU):=⟨rfl,rfl,rfl,by decide +kernel,rfl,by decide +kernel,by decide +kernel⟩
theorem kC (F:Fun K "has_signs_among" "has_signs_among" bU f fd) (B:Bu K mg) (C_join_signs:Cal P w K mg base "join_signs" 21 ["way"] (nC 20)):FnOk P w K mg base CX0 22 f fd ["way","signs"] o6:=by
  refine F.ok fF (fun vs H Q E h=>?_) (fun cdv A outer s H vs Q E hr h=>?_)
  · obtain ⟨wy,v,z,rfl,_⟩:=h;rfl
  obtain ⟨wy,v,z,rfl,hw,h20,q⟩:=h;refine ⟨_,(@af _ _ _ (@aq _ _ _ _ (@ao _ _ _ _ _ _ _ _ _ (@gz _ rfl) rfl B.iall abE (@aa _ _ _ _ _ (@cY _ _ _ _ _ _ _ _ (["sign","signs"]) ([none,some 1]) _ _ _ _ rfl (@si _ _ _ _ (@ah _ _ _ _ _ _ _ _ _ _ _ C_join_signs hr (by lia) rfl (@aa _ _ _ _ _ (pv 0) ac (by rfl)) (by decide) (by rfl) (by rfl))) rfl ⟨rfl,trivial⟩ ⟨⟨rfl,Or.inl rfl,Or.inl rfl⟩,trivial⟩ (fun _ _ _ _=>⟨(@aj _ _ (0) _ (show aaO (["sign","signs"]:List Str) by decide +kernel) rfl (Or.inl rfl) (.inr rfl)),aV,(@bY _ _ _ _ _ _ _ _ cL (pv 0) (pv 1) (by with_unfolding_all rfl))⟩) (by rfl) (by rfl) (by rfl) (by rfl) (by intro _;rfl)) ac (by rfl)) (by decide) (by decide) (by rfl) (by rfl)))),?_⟩;have dl:=wy.deep_le;have sl:=wy.sgs_len;refine ⟨_,rfl,wy,v,rfl,hw,h20,by lia,fun H1 g1=>⟨_,rfl,mB _,?_⟩⟩;refine sE (fun i ys H'=>H'=H1∧ys=((wy.sgs.take i).map fun g=>cw z g.str).map V.bl) ⟨rfl,rfl⟩ ?_ ?_ ?_
  · rintro i ys H' hi ⟨rfl,rfl⟩;rw [aab,aab,aas];exact aA (by lia)
  · rintro i c ys H' hc ⟨rfl,rfl⟩ nx;obtain ⟨g,hg,rfl⟩:=tH hc;refine ⟨_,rfl,_,rfl,_,_,rfl,rfl,nx ⟨rfl,?_⟩⟩;rw [aaz,hg,aae,aae,← eD];rfl
  · rintro ys H' ⟨rfl,rfl⟩ p np;rw [kc,aaP];refine ⟨p,_,rfl,SqL.of ad,?_⟩;rw [List.all_map];exact q _ (g1.trans (Same.new np _))
def nE (n:Nat):Sp:=fun vs H Q _=>∃ (wy:Wy) (v:V) (gs:List Sg) (pc:Addr) (k:Nat),vs=[v,.str (am gs),.ref pc]∧WyIn H wy v∧gs.length≤3∧bC gs∧H pc=some (.lst ((cl gs.length k).map V.int))∧k≤8∧wy.size≤k+1∧wy.deep≤n∧wy.within gs∧∀ H',Same H H'→Q (.int (wy.nr gs)) H'
abbrev eJ:Stmt:=top 50
theorem bf:FnScope ["way","signs","counts","sign","left_way","right_way","left","right","ahead","both"] ["way","signs","counts"] (ai eJ):=⟨rfl,rfl,rfl,by decide +kernel,rfl,by decide +kernel,by decide +kernel⟩
theorem kz (F:Fun K "number_at" "number_at" eJ f fd) (bF:Binds K fd ["way","signs","counts"] []) (mF:mg "number_at" = some (.ref f)) (B:Bu K mg) (C_is_whole:Cal P w K mg base "is_whole" 1 ["thing"] (bE K)) (C_list_numbers:Cal P w K mg base "list_numbers" 21 ["way"] (iJ 20)) (C_ways_by_cut:Cal P w K mg base "ways_by_cut" 1 ["signs","counts","left","right"] nA):∀ n,FnOk P w K mg base CX0 (n+22) f fd ["way","signs","counts"] (nE n):=by
  intro n
  induction n with
  | zero =>
    refine ⟨fun vs H Q E h=>?_,fun A outer s H args us vs Q E _ _ _ _ h=>?_⟩
    · obtain ⟨wy,v,gs,pc,k,rfl,_⟩:=h;rfl
    · obtain ⟨wy,v,gs,pc,k,_,_,_,_,_,_,_,hd,_⟩:=h;cases wy <;> exact absurd hd (by simp [Wy.deep])
  | succ n ih =>
    have C_number_at:Cal P w K mg base "number_at" (n+22) ["way","signs","counts"] (nE n):=⟨f,fd,ih,bF,F.kp,mF⟩
    refine F.ok bf (fun vs H Q E h=>?_) (fun cdv A outer s H vs Q E hr h=>?_)
    · obtain ⟨wy,v,gs,pc,k,rfl,_⟩:=h;rfl
    obtain ⟨wy,v,gs,pc,k,rfl,hw,hz,sp,hc,hk,hsz,hdp,hwi,q⟩:=h;refine ⟨_,(@ae _ _ _ _ _ (@aL _ _ _ _ _ _ _ _ (@aQ _ _ _ (@ah _ _ _ _ _ _ _ _ _ _ _ C_is_whole hr (by lia) rfl (@aa _ _ _ _ _ (pv 0) ac (by rfl)) (by decide) (by rfl) (by rfl)) (by intro _;rfl)) (@af _ _ _ (@aq _ _ _ _ ag)) aB) (@ae _ _ _ _ _ (@bW _ _ _ _ _ _ (pv 0) (@bX _ _ _ _ _ _ rfl (@ap _ _ _ _ _ (@aj _ _ (3) _ (bf).nd rfl (Or.inl rfl) (.inl rfl)) (@ap _ _ _ _ _ (@aj _ _ (4) _ (bf).nd rfl (Or.inl rfl) (.inl rfl)) (@ap _ _ _ _ _ (@aj _ _ (5) _ (bf).nd rfl (Or.inl rfl) (.inl rfl)) aU (by rfl)) (by rfl)) (by rfl)) (by rfl) (by rfl)) (by rfl) (by rfl) (by rfl)) (@ae _ _ _ _ _ (@aC _ _ (6) _ _ _ _ (bf).nd rfl (Or.inr rfl) (@ao _ _ _ _ _ _ _ _ _ az rfl B.ilen aaD (@aa _ _ _ _ _ (@ah _ _ _ _ _ _ _ _ _ _ _ C_list_numbers hr (by lia) rfl (@aa _ _ _ _ _ (pv 4) ac (by rfl)) (by decide) (by rfl) (by rfl)) ac (by rfl)) (by decide) (by decide) (by rfl) (by rfl)) (by rfl) (by first|exact .inl rfl|exact .inr rfl|assumption)) (@ae _ _ _ _ _ (@aC _ _ (7) _ _ _ _ (bf).nd rfl (Or.inr rfl) (@ao _ _ _ _ _ _ _ _ _ az rfl B.ilen aaD (@aa _ _ _ _ _ (@ah _ _ _ _ _ _ _ _ _ _ _ C_list_numbers hr (by lia) rfl (@aa _ _ _ _ _ (pv 5) ac (by rfl)) (by decide) (by rfl) (by rfl)) ac (by rfl)) (by decide) (by decide) (by rfl) (by rfl)) (by rfl) (by first|exact .inl rfl|exact .inr rfl|assumption)) (@ae _ _ _ _ _ (@aC _ _ (8) _ _ _ _ (bf).nd rfl (Or.inl rfl) (@ao _ _ _ _ _ _ _ _ _ (@ji _ rfl) rfl B.isum acb (@aa _ _ _ _ _ (@cY _ _ _ _ _ _ _ _ (["fewer","signs","counts","left","right"]) ([none,some 1,some 2,some 6,some 7]) _ _ _ _ rfl (@cq _ _ _ _ _ _ _ rfl B.irange (@aa _ _ _ _ _ ag (@aa _ _ _ _ _ (pv 6) ac (by rfl)) (by rfl)) (by rfl) (by rfl)) rfl ⟨rfl,⟨rfl,⟨rfl,⟨rfl,trivial⟩⟩⟩⟩ ⟨⟨rfl,Or.inl rfl,Or.inl rfl⟩,⟨⟨rfl,Or.inl rfl,Or.inl rfl⟩,⟨⟨rfl,Or.inl rfl,Or.inl rfl⟩,⟨⟨rfl,Or.inl rfl,Or.inl rfl⟩,trivial⟩⟩⟩⟩ (fun _ _ _ _=>⟨(@aj _ _ (0) _ (show aaO (["fewer","signs","counts","left","right"]:List Str) by decide +kernel) rfl (Or.inl rfl) (.inr rfl)),aV,(@ah _ _ _ _ _ _ _ _ _ _ _ C_ways_by_cut hr (by lia) rfl (@aa _ _ _ _ _ (pv 1) (@aa _ _ _ _ _ (pv 2) (@aa _ _ _ _ _ (pv 0) (@aa _ _ _ _ _ (@au _ _ _ _ _ _ _ _ bN (@au _ _ _ _ _ _ _ _ a_ (pv 3) (pv 4)) (pv 0)) ac (by rfl)) (by rfl)) (by rfl)) (by rfl)) (by decide) (by rfl) (by rfl))⟩) (by rfl) (by rfl) (by rfl) (by rfl) (by intro _;rfl)) ac (by rfl)) (by decide) (by decide) (by rfl) (by rfl)) (by rfl) (by first|exact .inl rfl|exact .inr rfl|assumption)) (@ae _ _ _ _ _ (@aC _ _ (9) _ _ _ _ (bf).nd rfl (Or.inl rfl) (@au _ _ _ _ _ _ _ _ a_ (@au _ _ _ _ _ _ _ _ dt (@jR _ _ _ _ _ _ _ _ _ _ _ _ PySem.F.plainAttrs_str PySem.F.slot_str_index PySem.F.type_str_index kF (pv 1) (@aa _ _ _ _ _ (pv 3) ac (by rfl)) (by rfl) (by rfl) (by rfl) (by rfl) (by rfl)) (@aG _ _ _ _ _ _ _ aJ (pv 2) (pv 6) (fun _ _=>rfl))) (@ah _ _ _ _ _ _ _ _ _ _ _ C_number_at hr (by lia) rfl (@aa _ _ _ _ _ (pv 4) (@aa _ _ _ _ _ (pv 1) (@aa _ _ _ _ _ (pv 2) ac (by rfl)) (by rfl)) (by rfl)) (by decide) (by rfl) (by rfl))) (by rfl) (by first|exact .inl rfl|exact .inr rfl|assumption)) (@af _ _ _ (@aq _ _ _ _ (@au _ _ _ _ _ _ _ _ a_ (@au _ _ _ _ _ _ _ _ a_ (pv 8) (@au _ _ _ _ _ _ _ _ dt (pv 9) (@aG _ _ _ _ _ _ _ aJ (pv 2) (pv 7) (fun _ _=>rfl)))) (@ah _ _ _ _ _ _ _ _ _ _ _ C_number_at hr (by lia) rfl (@aa _ _ _ _ _ (pv 5) (@aa _ _ _ _ _ (pv 1) (@aa _ _ _ _ _ (pv 2) ac (by rfl)) (by rfl)) (by rfl)) (by decide) (by rfl) (by rfl))))))))))),?_⟩;have zl:(am gs).length=gs.length:=kc gs;cases wy with
    | num i =>
      cases hw;exact ⟨_,rfl,_,"int",rfl,.int i,true,rfl,bj (q H (Same.refl _))⟩
    | node g l r =>
      obtain ⟨a,vl,vr,rfl,ha,hl,hr'⟩:=hw;have dd:max l.deep r.deep+1≤n+1:=hdp;have ss:l.size+r.size≤k+1:=hsz;have zl1:=l.size_pos;have zr1:=r.size_pos;have dl:=l.deep_le;have dr:=r.deep_le;have bd:=l9 gs.length hz;refine ⟨_,rfl,_,"tuple",rfl,.tup ha,false,rfl,aR ?_⟩;refine ⟨_,rfl,a,_,rfl,SqT.of ha,rfl,_,_,rfl,_,_,rfl,_,_,rfl,rfl,?_⟩;refine ⟨_,rfl,l,vl,rfl,hl,by lia,by lia,fun p1 H1 g1 n1 e1=>⟨p1,_,rfl,.inl (SqL.of e1),?_⟩⟩;rw [aab,l.nums_len];refine ⟨_,rfl,r,vr,rfl,hr'.mono (Tups.of g1),by lia,by lia,fun p2 H2 g2 n2 e2=>⟨p2,_,rfl,.inl (SqL.of e2),?_⟩⟩;rw [aab,r.nums_len];have G2:=g1.trans g2;have hc2:=G2 _ _ hc;refine ⟨_,rfl,1,_,rfl,⟨by decide,by decide,by lia,by lia⟩,l4 (n:=((l.size:Int) - 1).toNat) (fun j ys H'=>ys=((aaF j).map fun (i:Nat)=>(gs.length:Int) * cn gs.length (1+i) * cn gs.length (l.size+r.size - (1+i))).map V.int∧H'=H2) ⟨rfl,rfl⟩ ?_ ?_ ?_⟩
      · rintro j ys H' hj ⟨rfl,rfl⟩;rw [aab,aab,aa7];exact aA (by lia)
      · rintro j ys H' hj ⟨rfl,rfl⟩ nx;have e3:(1+(j:Int))=((1+j:Nat):Int):=by lia
        have e2:((l.size:Nat):Int)+((r.size:Nat):Int) - (1+(j:Int))=((l.size+r.size - (1+j):Nat):Int):=by lia
        refine ⟨_,rfl,_,rfl,_,rfl,_,rfl,_,rfl,_,_,rfl,rfl,_,rfl,_,_,rfl,rfl,am gs,pc,_,_,_,cn gs.length (1+j),cn gs.length (l.size+r.size - (1+j)),rfl,by lia,hc2,?_,?_,(bd _ (by lia)).1,(bd _ (by lia)).2,nx ⟨?_,rfl⟩⟩
        · rw [e3];exact jY hk (by lia)
        · rw [e2];exact jY hk (by lia)
        · rw [abU,aae,aae,zl];rfl
      rintro ys H' ⟨rfl,rfl⟩ p3 n3;rw [show ((l.size:Int) - 1).toNat=l.size - 1 by lia];have G3:=G2.trans (Same.new n3 (.lst (((aaF (l.size - 1)).map fun (i:Nat)=>(gs.length:Int) * cn gs.length (1+i) * cn gs.length (l.size+r.size - (1+i))).map V.int)));refine ⟨p3,_,rfl,SqL.of ad,?_⟩;rw [ni];obtain ⟨⟨cZ,ho⟩,_⟩:=nN gs hz sp g hwi.1;have hc3:=G3 _ _ hc;refine ⟨_,rfl,rfl,_,rfl,am gs,g.str,gs.idxOf g,cZ,rfl,rfl,ho,_,rfl,_,rfl,pc,_,_,_,rfl,rfl,SqL.of hc3,jY hk (by lia),_,_,rfl,rfl,.inr ⟨by have:=bd l.size (by lia);lia,by have:=bd l.size (by lia);lia⟩,?_⟩;refine ⟨_,rfl,_,rfl,_,rfl,l,vl,gs,pc,k,rfl,hl.mono (Tups.of G3),hz,sp,hc3,hk,by lia,by lia,hwi.2.1,fun H4 g4=>⟨_,_,rfl,rfl,?_⟩⟩;have G4:=G3.trans g4;refine ⟨_,rfl,_,rfl,_,rfl,_,rfl,pc,_,_,_,rfl,rfl,SqL.of (G4 _ _ hc),jY hk (by lia),_,_,rfl,rfl,.inr ⟨by have:=bd r.size (by lia);lia,by have:=bd r.size (by lia);lia⟩,_,_,rfl,rfl,?_⟩;refine ⟨_,rfl,_,rfl,_,rfl,r,vr,gs,pc,k,rfl,hr'.mono (Tups.of G4),hz,sp,G4 _ _ hc,hk,by lia,by lia,hwi.2.2,fun H5 g5=>⟨_,_,rfl,rfl,?_⟩⟩;have:=q _ (G4.trans g5);have en:(Wy.node g l r).nr gs=prs gs.length (l.size+r.size) (l.size - 1)+((((gs.idxOf g:Nat):Int) * cn gs.length l.size+l.nr gs) * cn gs.length r.size+r.nr gs):=rfl;rw [en,← Int.add_assoc] at this;exact this
def o3:Sp:=fun vs H Q _=>∃ (wy:Wy) (v:V) (gs:List Sg),vs=[v,.str (am gs)]∧WyIn H wy v∧wy.size≤9∧gs.length≤3∧bC gs∧wy.within gs∧∀ H',Same H H'→Q (.int (wy.nr gs)) H'
abbrev cD:Stmt:=top 46
theorem dB:FnScope ["way","signs","counts"] ["way","signs"] (ai cD):=⟨rfl,rfl,rfl,by decide +kernel,rfl,by decide +kernel,by decide +kernel⟩
theorem g_ (F:Fun K "number_of_way" "number_of_way" cD f fd) (B:Bu K mg) (C_need_way:Cal P w K mg base "need_way" 3 ["thing"] fb) (C_need_signs:Cal P w K mg base "need_signs" 2 ["thing"] dc) (C_has_signs_among:Cal P w K mg base "has_signs_among" 22 ["way","signs"] o6) (C_list_numbers:Cal P w K mg base "list_numbers" 21 ["way"] (iJ 20)) (C_counts_up_to:Cal P w K mg base "counts_up_to" 2 ["signs","many"] o7) (C_number_at:Cal P w K mg base "number_at" 31 ["way","signs","counts"] (nE 9)):FnOk P w K mg base CX0 32 f fd ["way","signs"] o3:=by
  refine F.ok dB (fun vs H Q E h=>?_) (fun cdv A outer s H vs Q E hr h=>?_)
  · obtain ⟨wy,v,gs,rfl,_⟩:=h;rfl
  obtain ⟨wy,v,gs,rfl,hw,h9,hz,sp,hwi,q⟩:=h;refine ⟨_,(@ae _ _ _ _ _ (@bR _ _ _ _ (@ah _ _ _ _ _ _ _ _ _ _ _ C_need_way hr (by lia) rfl (@aa _ _ _ _ _ (pv 0) ac (by rfl)) (by decide) (by rfl) (by rfl)) (by rfl)) (@ae _ _ _ _ _ (@bR _ _ _ _ (@ah _ _ _ _ _ _ _ _ _ _ _ C_need_signs hr (by lia) rfl (@aa _ _ _ _ _ (pv 1) ac (by rfl)) (by decide) (by rfl) (by rfl)) (by rfl)) (@ae _ _ _ _ _ (@aL _ _ _ _ _ _ _ _ (@bM _ _ _ _ (@aQ _ _ _ (@ah _ _ _ _ _ _ _ _ _ _ _ C_has_signs_among hr (by lia) rfl (@aa _ _ _ _ _ (pv 0) (@aa _ _ _ _ _ (pv 1) ac (by rfl)) (by rfl)) (by decide) (by rfl) (by rfl)) (by intro _;rfl))) (@af _ _ _ eS) aB) (@ae _ _ _ _ _ (@aC _ _ (2) _ _ _ _ (dB).nd rfl (Or.inl rfl) (@ah _ _ _ _ _ _ _ _ _ _ _ C_counts_up_to hr (by lia) rfl (@aa _ _ _ _ _ (pv 1) (@aa _ _ _ _ _ (@ao _ _ _ _ _ _ _ _ _ az rfl B.ilen aaD (@aa _ _ _ _ _ (@ah _ _ _ _ _ _ _ _ _ _ _ C_list_numbers hr (by lia) rfl (@aa _ _ _ _ _ (pv 0) ac (by rfl)) (by decide) (by rfl) (by rfl)) ac (by rfl)) (by decide) (by decide) (by rfl) (by rfl)) ac (by rfl)) (by rfl)) (by decide) (by rfl) (by rfl)) (by rfl) (by first|exact .inl rfl|exact .inr rfl|assumption)) (@af _ _ _ (@aq _ _ _ _ (@ah _ _ _ _ _ _ _ _ _ _ _ C_number_at hr (by lia) rfl (@aa _ _ _ _ _ (pv 0) (@aa _ _ _ _ _ (pv 1) (@aa _ _ _ _ _ (pv 2) ac (by rfl)) (by rfl)) (by rfl)) (by decide) (by rfl) (by rfl)))))))),?_⟩;have zl:(am gs).length=gs.length:=kc gs;have z1:=wy.size_pos;have dl:=wy.deep_le;refine ⟨_,rfl,wy,v,rfl,hw,h9,fun H1 g1=>?_⟩;refine ⟨_,rfl,gs,rfl,sp,?_⟩;refine ⟨_,rfl,_,rfl,wy,v,am gs,rfl,hw.mono (Tups.of g1),by lia,fun H2 g2=>?_⟩;have ea:(wy.sgs.all fun g=>cw (am gs) g.str)=true:=List.all_eq_true.mpr fun g hg=>(nN gs hz sp g (fE hwi g hg)).2;rw [ea];refine ⟨true,rfl,aR ?_⟩;have G2:=g1.trans g2;refine ⟨_,rfl,_,rfl,wy,v,rfl,hw.mono (Tups.of G2),by lia,by lia,fun p3 H3 g3 n3 e3=>⟨p3,_,rfl,.inl (SqL.of e3),?_⟩⟩;rw [aab,wy.nums_len];refine ⟨am gs,(wy.size:Nat),rfl,by lia,by lia,by lia,fun p4 H4 g4 n4 e4=>?_⟩;rw [zl] at e4;have G4:=G2.trans (g3.trans g4);exact ⟨_,rfl,_,rfl,_,rfl,wy,v,gs,p4,_,rfl,hw.mono (Tups.of G4),hz,sp,e4,by lia,by lia,by lia,hwi,fun H5 g5=>q H5 (G4.trans g5)⟩
end
open PySem L2
def Sg.k (g:Sg):Bool:=decide (g=.times)
def lv (k:Bool):Bool→Wy→List (Bool × Wy)
  | b,.num i=>[(b,.num i)]
  | b,.node g l r=>if g.k=k then lv k b l++lv k (if g=.minus then !b else b) r else [(b,.node g l r)]
def Wy.no (k:Bool):Wy→Prop
  | .num _=>True
  | .node g _ _=>g.k≠k
theorem lZ {k b:Bool} {w:Wy} (h:w.no k):lv k b w=[(b,w)]:=by
  cases w with
  | num i=>rfl
  | node g l r=>exact if_neg h
theorem bi (k:Bool):∀ (b:Bool) (w:Wy),1≤(lv k b w).length
  | b,.num i=>aac _
  | b,.node g l r=>by
    unfold lv;split
    · rw [aag];have:=bi k b l;lia
    · exact aac _
theorem cI (k:Bool):∀ (b:Bool) (w:Wy),∃ u t,lv k b w=(b,u) :: t
  | b,.num i=>⟨_,_,rfl⟩
  | b,.node g l r=>by
    unfold lv;split
    · obtain ⟨u,t,e⟩:=cI k b l;rw [e];exact ⟨_,_,rfl⟩
    · exact ⟨_,_,rfl⟩
def szs (ps:List (Bool × Wy)):Nat:=(ps.map fun p=>p.2.size).sum
theorem fV (a b:List (Bool × Wy)):szs (a++b)=szs a+szs b:=by simp [szs]
theorem ba (ps:List (Bool × Wy)):ps.length≤szs ps:=by
  induction ps with
  | nil=>simp [szs]
  | cons p t ih=>have:=p.2.size_pos;simp only [szs,aav,aaS,aaL] at ih ⊢;lia
theorem bo (k:Bool):∀ (b:Bool) (w:Wy),szs (lv k b w)=w.size
  | b,.num i=>rfl
  | b,.node g l r=>by
    unfold lv;split
    · rw [fV,bo k b l,bo k _ r];rfl
    · simp [szs]
theorem gq (k:Bool):∀ (b:Bool) (w:Wy),∀ p∈lv k b w,p.2.no k
  | b,.num i,p,hp=>by rw [aak.mp hp];trivial
  | b,.node g l r,p,hp=>by
    unfold lv at hp;split at hp
    · rcases aat.mp hp with h|h
      · exact gq k b l p h
      · exact gq k _ r p h
    · rename_i c;rw [aak.mp hp];exact c
theorem bI {gs:List Sg} (k:Bool):∀ (b:Bool) (w:Wy),w.within gs→∀ p∈lv k b w,p.2.within gs
  | b,.num i,_,p,hp=>by rw [aak.mp hp];trivial
  | b,.node g l r,h,p,hp=>by
    unfold lv at hp;split at hp
    · rcases aat.mp hp with z|z
      · exact bI k b l h.2.1 p z
      · exact bI k _ r h.2.2 p z
    · rw [aak.mp hp];exact h
def jsg (k x y:Bool):Sg:=if k=true then .times else if x=y then .plus else .minus
theorem tU (k x y:Bool):(jsg k x y).k=k:=by cases k <;> cases x <;> cases y <;> rfl
theorem kJ {k b:Bool} {g:Sg} (h:g.k=k):jsg k b (if g=.minus then !b else b)=g:=by
  subst h;cases g <;> cases b <;> rfl
theorem pO {k x y:Bool} (hk:k=true→x=y):(if jsg k x y=.minus then !x else x)=y:=by
  cases k <;> cases x <;> cases y <;> first|rfl|exact absurd (hk rfl) (by decide)
def hd (ps:List (Bool × Wy)) (i:Nat):Bool:=(ps.map Prod.fst).getD i true
def e7 (gs:List Sg) (k:Bool) (F:List (Bool × Wy)→Option Wy) (ps:List (Bool × Wy)) (j:Nat):Option Wy :=
  if jsg k (hd ps 0) (hd ps (j+1))∈gs then (F (ps.take (j+1))).bind fun l=>(F (ps.drop (j+1))).map fun r=>.node (jsg k (hd ps 0) (hd ps (j+1))) l r else none
def ft (gs:List Sg) (k:Bool):Nat→List (Bool × Wy)→Option Wy
  | 0,_=>none
  | n+1,ps=>if ps.length≤1 then (ps.head?).map Prod.snd else (aaF (ps.length - 1)).findSome? (e7 gs k (ft gs k n) ps)
def tc (gs:List Sg) (k:Bool):Nat→List Bool→Nat
  | 0,_=>0
  | n+1,hs=>if hs.length≤1 then 1 else ((aaF (hs.length - 1)).map fun j=>if jsg k (hs.getD 0 true) (hs.getD (j+1) true)∈gs then tc gs k n (hs.take (j+1)) * tc gs k n (hs.drop (j+1)) else 0).sum
theorem fS {gs:List Sg} {k:Bool} {F:List (Bool × Wy)→Option Wy} {ps:List (Bool × Wy)} {j:Nat} {f:Wy} (h:e7 gs k F ps j=some f):∃ l r,F (ps.take (j+1))=some l∧F (ps.drop (j+1))=some r∧f=.node (jsg k (hd ps 0) (hd ps (j+1))) l r∧jsg k (hd ps 0) (hd ps (j+1))∈gs:=by
  unfold e7 at h;split at h
  · rename_i c;obtain ⟨l,e1,h⟩:=abX.mp h;obtain ⟨r,e2,h⟩:=aaE.mp h;exact ⟨l,r,e1,e2,h.symm,c⟩
  · cases h
theorem kM (ps:List (Bool × Wy)) (c:Nat):hd (ps.drop c) 0=hd ps c:=by
  unfold hd;rw [abG,aao,aao,List.getElem?_drop,Nat.add_zero]
theorem rg (ps:List (Bool × Wy)) (c:Nat):hd (ps.take (c+1)) 0=hd ps 0:=by
  unfold hd;rw [abH,aao,aao,abQ (Nat.succ_pos c)]
theorem ee {gs:List Sg} {k:Bool}:∀ (n:Nat) (ps:List (Bool × Wy)) (f:Wy),ft gs k n ps=some f→(∀ p∈ps,p.2.no k∧p.2.within gs)→(k=true→∀ p∈ps,p.1=true)→lv k (hd ps 0) f=ps∧f.within gs
  | 0,ps,f,h,_,_=>by cases h
  | n+1,ps,f,h,ok,hk=>by
    unfold ft at h;split at h
    · obtain ⟨p,e,rfl⟩:=aaE.mp h;cases ps with
      | nil=>cases e
      | cons q t =>
        cases e;have : t=[]:=List.length_eq_zero_iff.mp (by rename_i c;simp only [aaL] at c;lia);subst this;have a:=ok _ aan;exact ⟨by rw [lZ a.1];rfl,a.2⟩
    · obtain ⟨j,hj,e⟩:=ab1 h;obtain ⟨l,r,e1,e2,rfl,hg⟩:=fS e;have i1:=ee n _ l e1 (fun p hp=>ok p (abf hp)) (fun z p hp=>hk z p (abf hp));have i2:=ee n _ r e2 (fun p hp=>ok p (abK hp)) (fun z p hp=>hk z p (abK hp));rw [rg] at i1;rw [kM] at i2;refine ⟨?_,hg,i1.2,i2.2⟩;unfold lv;rw [if_pos (tU _ _ _),i1.1,pO (fun z=>?_),i2.1,aaT];have key:∀ i,i < ps.length→hd ps i=true:=fun i hi=>by
        unfold hd;rw [aao,aam,aaf hi];exact hk z _ (acd hi)
      rw [aaK] at hj;rw [key 0 (by lia),key (j+1) (by lia)]
theorem qV {gs:List Sg} (hs:gs.length≤3) {g g':Sg} {l r l' r':Wy} (hw:(Wy.node g l r).within gs) (hw':(Wy.node g' l' r').within gs) (h:l.size+r.size=l'.size+r'.size) (h9:l.size+r.size≤9) (c:l.size < l'.size):(Wy.node g l r).nr gs < (Wy.node g' l' r').nr gs:=by
  have l1:=l.size_pos;have r1:=r.size_pos;have l1':=l'.size_pos;have r1':=r'.size_pos;have bl:=Wy.nr_bd hs l hw.2.1 (by lia);have br:=Wy.nr_bd hs r hw.2.2 (by lia);have bl':=Wy.nr_bd hs l' hw'.2.1 (by lia);have br':=Wy.nr_bd hs r' hw'.2.2 (by lia);obtain ⟨i1,_⟩:=mT hw.1;obtain ⟨i1',_⟩:=mT hw'.1;obtain ⟨e0,e1,_⟩:=mM (i:=((gs.idxOf g:Nat):Int)) (s:=gs.length) (by lia) (by lia) bl.1 bl.2 br.1 br.2;obtain ⟨e0',e1',_⟩:=mM (i:=((gs.idxOf g':Nat):Int)) (s:=gs.length) (by lia) (by lia) bl'.1 bl'.2 br'.1 br'.2;have en:(Wy.node g l r).nr gs=prs gs.length (l.size+r.size) (l.size - 1)+((((gs.idxOf g:Nat):Int) * cn gs.length l.size+l.nr gs) * cn gs.length r.size+r.nr gs):=rfl;have en':(Wy.node g' l' r').nr gs=prs gs.length (l.size+r.size) (l'.size - 1)+((((gs.idxOf g':Nat):Int) * cn gs.length l'.size+l'.nr gs) * cn gs.length r'.size+r'.nr gs):=by rw [h];rfl
  have p:=gg hs h9 (i:=l.size - 1+1) (j:=l'.size - 1) (by lia) (by lia);have p:prs gs.length (l.size+r.size) (l.size - 1)+(gs.length:Int) * cn gs.length (1+(l.size - 1)) * cn gs.length (l.size+r.size - (1+(l.size - 1)))≤_:=p;rw [show 1+(l.size - 1)=l.size by lia,show l.size+r.size - l.size=r.size by lia] at p;rw [en,en'];lia
theorem qU {gs:List Sg} (hs:gs.length≤3) {g:Sg} {l r l' r':Wy} (hl:l.size=l'.size) (hr:r.size=r'.size) (h9:r.size≤9) (a:l.nr gs≤l'.nr gs) (b:r.nr gs≤r'.nr gs):(Wy.node g l r).nr gs≤(Wy.node g l' r').nr gs:=by
  have en:(Wy.node g l r).nr gs=prs gs.length (l.size+r.size) (l.size - 1)+((((gs.idxOf g:Nat):Int) * cn gs.length l.size+l.nr gs) * cn gs.length r.size+r.nr gs):=rfl;have en':(Wy.node g l' r').nr gs=prs gs.length (l.size+r.size) (l.size - 1)+((((gs.idxOf g:Nat):Int) * cn gs.length l.size+l'.nr gs) * cn gs.length r.size+r'.nr gs):=by rw [hl,hr];rfl
  have c:=(l9 gs.length hs r.size h9).1;have d:=abw (show ((gs.idxOf g:Nat):Int) * cn gs.length l.size+l.nr gs≤((gs.idxOf g:Nat):Int) * cn gs.length l.size+l'.nr gs by lia) c;rw [en,en'];lia
theorem p9 {α β:Type} {f:α→Option β}:∀ {l:List α} {i:Nat} {x:α} {y:β},l[i]?=some x→f x=some y→∃ (j:Nat) (z:α) (u:β),j≤i∧l[j]?=some z∧f z=some u∧l.findSome? f=some u∧∀ m < j,∀ v,l[m]?=some v→f v=none
  | [],i,x,y,h,_=>by simp at h
  | a :: l,i,x,y,h,hf=>by
    cases e:f a with
    | some u=>exact ⟨0,a,u,aaX _,rfl,e,by rw [aaY,e],fun m hm=>absurd hm (Nat.not_lt_zero m)⟩
    | none =>
      cases i with
      | zero=>cases h;rw [e] at hf;cases hf
      | succ i =>
        obtain ⟨j,z,u,h1,h2,h3,h4,h5⟩:=p9 (l:=l) (i:=i) h hf;refine ⟨j+1,z,u,by lia,h2,h3,by rw [aaY,e];exact h4,fun m hm v hv=>?_⟩;cases m with
        | zero=>cases hv;exact e
        | succ m=>exact h5 m (by lia) v hv
def Lr (gs:List Sg) (k:Bool) (p q:Bool × Wy):Prop:=p.1=q.1∧p.2.size=q.2.size∧p.2.nr gs≤q.2.nr gs∧p.2.no k∧p.2.within gs
theorem Lr.take {gs:List Sg} {k:Bool} {ps qs:List (Bool × Wy)} (h:Paired (Lr gs k) ps qs):∀ c,Paired (Lr gs k) (ps.take c) (qs.take c):=by
  induction h with
  | nil=>intro c;rw [List.take_nil];exact .nil
  | cons a _ ih =>
    intro c;cases c with
    | zero=>exact .nil
    | succ c=>exact .cons a (ih c)
theorem Lr.drop {gs:List Sg} {k:Bool} {ps qs:List (Bool × Wy)} (h:Paired (Lr gs k) ps qs):∀ c,Paired (Lr gs k) (ps.drop c) (qs.drop c):=by
  induction h with
  | nil=>intro c;rw [List.drop_nil];exact .nil
  | cons a b ih =>
    intro c;cases c with
    | zero=>exact .cons a b
    | succ c=>exact ih c
theorem Lr.hd {gs:List Sg} {k:Bool} {ps qs:List (Bool × Wy)} (h:Paired (Lr gs k) ps qs):ps.map Prod.fst=qs.map Prod.fst:=by
  induction h with
  | nil=>rfl
  | cons a _ ih=>rw [aav,aav,ih,a.1]
theorem Lr.szs {gs:List Sg} {k:Bool} {ps qs:List (Bool × Wy)} (h:Paired (Lr gs k) ps qs):szs ps=szs qs:=by
  induction h with
  | nil=>rfl
  | cons a _ ih=>simp only [Put.szs,aav,aaS] at ih ⊢;rw [a.2.1,ih]
theorem Lr.ok {gs:List Sg} {k:Bool} {ps qs:List (Bool × Wy)} (h:Paired (Lr gs k) ps qs):∀ p∈ps,p.2.no k∧p.2.within gs:=by
  induction h with
  | nil=>intro p hp;cases hp
  | cons a _ ih=>intro p hp;rcases aaC.mp hp with rfl|hp;exact ⟨a.2.2.2.1,a.2.2.2.2⟩;exact ih p hp
theorem pS {ps qs:List (Bool × Wy)} (h:ps.map Prod.fst=qs.map Prod.fst) (i:Nat):hd ps i=hd qs i:=by unfold hd;rw [h]
theorem gn {b:Bool} (hb:b=true):∀ (w:Wy),∀ p∈lv true b w,p.1=true
  | .num i,p,hp=>by rw [aak.mp hp];exact hb
  | .node g l r,p,hp=>by
    unfold lv at hp;split at hp
    · rename_i c;have gt:g≠.minus:=fun z=>by rw [z] at c;cases c
      rw [if_neg gt] at hp;rcases aat.mp hp with h|h
      · exact gn hb l p h
      · exact gn hb r p h
    · rw [aak.mp hp];exact hb
theorem rV {ps:List (Bool × Wy)} {i j:Nat} (h:i < j) (hj:j≤ps.length):szs (ps.take i) < szs (ps.take j):=by
  have e:ps.take j=ps.take i++(ps.drop i).take (j - i):=by
    rw [← List.take_add];congr 1;lia
  rw [e,fV];have:=ba ((ps.drop i).take (j - i));rw [aas,aaJ] at this;lia
theorem pY {gs:List Sg} (hs:gs.length≤3) {k:Bool}:∀ (n:Nat) (ps:List (Bool × Wy)) (b:Bool) (w:Wy),ps.length≤n→(k=true→b=true)→Paired (Lr gs k) ps (lv k b w)→w.within gs→w.size≤9→∃ f,ft gs k n ps=some f∧f.size=w.size∧f.nr gs≤w.nr gs
  | 0,ps,b,w,hn,_,hp,_,_=>by
    have:=aaH hp;have:=bi k b w;lia
  | n+1,ps,b,w,hn,hb,hp,hw,h9=>by
    have lp:=aaH hp;by_cases c:w.no k
    · rw [lZ c] at hp lp;cases hp with
      | cons a t =>
        cases t;refine ⟨_,by unfold ft;rw [if_pos (by simp)];rfl,a.2.1,a.2.2.1⟩
    · cases w with
      | num i=>exact absurd trivial c
      | node g l r =>
        have gk:g.k=k:=Classical.not_not.mp c;have e:lv k b (.node g l r)=lv k b l++lv k (if g=.minus then !b else b) r:=by
          show (if g.k=k then _ else _)=_;rw [if_pos gk]
        have hb':k=true→(if g=.minus then !b else b)=true:=fun z=>by
          have : g≠.minus:=fun y=>by rw [y,z] at gk;cases gk
          rw [if_neg this];exact hb z
        have h9:l.size+r.size≤9:=h9;have l1:=l.size_pos;have r1:=r.size_pos;have n1:=bi k b l;have n2:=bi k (if g=.minus then !b else b) r;have hall:=hp;rw [e] at hp lp;rw [aag] at lp;generalize hc:(lv k b l).length=cc at n1 lp;have hpl:=Lr.take hp cc;have hpr:=Lr.drop hp cc;rw [← hc,List.take_left'  rfl,hc] at hpl;rw [← hc,List.drop_left' rfl,hc] at hpr;obtain ⟨fl,e1,z1,q1⟩:=pY hs n (ps.take cc) b l (by rw [aas];lia) hb hpl hw.2.1 (by lia);obtain ⟨fr,e2,z2,q2⟩:=pY hs n (ps.drop cc) _ r (by rw [aaJ];lia) hb' hpr hw.2.2 (by lia);have hh:=Lr.hd hall;have h0:hd ps 0=b:=by
          rw [pS hh];obtain ⟨u,t,z⟩:=cI k b (.node g l r);unfold hd;rw [z];rfl
        have hcc:hd ps cc=(if g=.minus then !b else b):=by
          rw [← kM,pS (Lr.hd hpr)];obtain ⟨u,t,z⟩:=cI k (if g=.minus then !b else b) r;unfold hd;rw [z];rfl
        obtain ⟨j,rfl⟩:∃ j,cc=j+1:=⟨cc - 1,by lia⟩
        have js:jsg k (hd ps 0) (hd ps (j+1))=g:=by rw [h0,hcc];exact kJ gk
        have jn:e7 gs k (ft gs k n) ps j=some (.node g fl fr):=by
          unfold e7;rw [js,if_pos hw.1,e1,e2];rfl
        have hj:(aaF (ps.length - 1))[j]?=some j:=by
          rw [aaV];lia
        obtain ⟨i,z,u,ij,iz,fu,ff,before⟩:=p9 hj jn;have iz':i=z:=by
          have hi:i < ps.length - 1:=by have:=(aaB.mp iz).1;rwa [aa7] at this
          rw [aaV hi] at iz;exact aaW iz
        subst iz';have e0:ft gs k (n+1) ps=some u:=by
          show (if ps.length≤1 then _ else _)=_;rw [if_neg (by lia)];exact ff
        have okp:=Lr.ok hall;have okt:k=true→∀ p∈ps,p.1=true:=fun z p hp=>by
          obtain ⟨m,hm⟩:=List.mem_iff_getElem?.mp hp;have h1:(ps.map Prod.fst)[m]?=some p.1:=by rw [aam,hm];rfl
          rw [hh,aam] at h1;obtain ⟨q,hq,e9⟩:=aaE.mp h1;subst z;rw [← e9];exact gn (hb rfl) _ q (aaw hq)
        have fo:=ee (n+1) ps u e0 okp okt;have su:u.size=l.size+r.size:=by
          have a:=bo k (hd ps 0) u;rw [fo.1,Lr.szs hall,bo] at a;exact a.symm
        refine ⟨u,e0,su,?_⟩;by_cases eq:i=j
        · subst eq;rw [jn] at fu;cases fu;exact qU hs z1 z2 (by lia) q1 q2
        · obtain ⟨l0,r0,f1,f2,rfl,hg⟩:=fS fu;have o1:=ee n _ l0 f1 (fun p hp=>okp p (abf hp)) (fun z p hp=>okt z p (abf hp));have s1:l0.size < l.size:=by
            have a:=bo k (hd (ps.take (i+1)) 0) l0;rw [o1.1] at a;have b1:=Lr.szs hpl;rw [bo] at b1;have:=rV (ps:=ps) (i:=i+1) (j:=j+1) (by lia) (by lia);lia
          have su:l0.size+r0.size=l.size+r.size:=su;exact Int.le_of_lt (qV hs fo.2 hw su (by lia) s1)
theorem db:∀ {l:List Nat} {x:Nat},x∈l→x≤l.sum
  | a :: l,x,h=>by
    rw [aaS];rcases aaC.mp h with rfl|h
    · lia
    · have:=db h;lia
theorem nh:∀ {l:List Nat} {i j x y:Nat},l[i]?=some x→l[j]?=some y→i < j→x+y≤l.sum
  | a :: l,0,j+1,x,y,h1,h2,_=>by
    cases h1;have:=db (aaw (show l[j]?=some y from h2));rw [aaS];lia
  | a :: l,i+1,j+1,x,y,h1,h2,h=>by
    have:=nh (l:=l) (i:=i) (j:=j) h1 h2 (by lia);rw [aaS];lia
def ar (ps:List (Bool × Wy)):List Bool:=ps.map Prod.fst
def tcj (gs:List Sg) (k:Bool) (n:Nat) (hs:List Bool) (j:Nat):Nat:=if jsg k (hs.getD 0 true) (hs.getD (j+1) true)∈gs then tc gs k n (hs.take (j+1)) * tc gs k n (hs.drop (j+1)) else 0
theorem gC {gs:List Sg} {k:Bool} {n:Nat} {hs:List Bool} (h:¬ hs.length≤1):tc gs k (n+1) hs=((aaF (hs.length - 1)).map (tcj gs k n hs)).sum:=by
  show (if hs.length≤1 then _ else _)=_;rw [if_neg h];rfl
theorem nO {k b:Bool} {w:Wy} (c:¬ w.no k):∃ g l r,w=.node g l r∧g.k=k∧lv k b w=lv k b l++lv k (if g=.minus then !b else b) r:=by
  cases w with
  | num i=>exact absurd trivial c
  | node g l r =>
    have gk:g.k=k:=Classical.not_not.mp c;refine ⟨g,l,r,rfl,gk,?_⟩;show (if g.k=k then _ else _)=_;rw [if_pos gk]
theorem gD {gs:List Sg} {k:Bool}:∀ (n:Nat) (b:Bool) (w:Wy),(lv k b w).length≤n→w.within gs→0 < tc gs k n (ar (lv k b w))
  | 0,b,w,hn,_=>by have:=bi k b w;lia
  | n+1,b,w,hn,hw=>by
    by_cases c:w.no k
    · rw [lZ c];unfold ar tc;simp
    · obtain ⟨g,l,r,rfl,gk,e⟩:=nO (b:=b) c;have n1:=bi k b l;have n2:=bi k (if g=.minus then !b else b) r;rw [e,aag] at hn;have i1:=gD (k:=k) n b l (by lia) hw.2.1;have i2:=gD (k:=k) n (if g=.minus then !b else b) r (by lia) hw.2.2;have ll:(ar (lv k b (.node g l r))).length=(lv k b l).length+(lv k (if g=.minus then !b else b) r).length:=by unfold ar;rw [e,aab,aag]
      obtain ⟨j,hj⟩:∃ j,(lv k b l).length=j+1:=⟨(lv k b l).length - 1,by lia⟩
      rw [gC (by lia)];have t1:(ar (lv k b (.node g l r))).take (j+1)=ar (lv k b l):=by unfold ar;rw [e,aae,List.take_left' (by rw [aab];exact hj)]
      have t2:(ar (lv k b (.node g l r))).drop (j+1)=ar (lv k (if g=.minus then !b else b) r):=by unfold ar;rw [e,aae,List.drop_left' (by rw [aab];exact hj)]
      have h0:(ar (lv k b (.node g l r))).getD 0 true=b:=by obtain ⟨u,t,z⟩:=cI k b (.node g l r);unfold ar;rw [z];rfl
      have hc:(ar (lv k b (.node g l r))).getD (j+1) true=(if g=.minus then !b else b):=by
        have : (ar (lv k b (.node g l r))).getD (j+1) true=((ar (lv k b (.node g l r))).drop (j+1)).getD 0 true:=by
          rw [aao,aao,List.getElem?_drop,Nat.add_zero]
        rw [this,t2];obtain ⟨u,t,z⟩:=cI k (if g=.minus then !b else b) r;unfold ar;rw [z];rfl
      have ej:tcj gs k n (ar (lv k b (.node g l r))) j=tc gs k n (ar (lv k b l)) * tc gs k n (ar (lv k (if g=.minus then !b else b) r)):=by
        unfold tcj;rw [h0,hc,kJ gk,if_pos hw.1,t1,t2]
      have mj:tcj gs k n (ar (lv k b (.node g l r))) j∈(aaF ((ar (lv k b (.node g l r))).length - 1)).map (tcj gs k n (ar (lv k b (.node g l r)))):=aaQ.mpr ⟨j,aaK.mpr (by lia),rfl⟩;have:=db mj;rw [ej] at this;have:=Nat.mul_pos i1 i2;lia
theorem mW {gs:List Sg} {k:Bool}:∀ (n:Nat) (b:Bool) (w:Wy),(lv k b w).length≤n→(k=true→b=true)→w.within gs→tc gs k n (ar (lv k b w))=1→ft gs k n (lv k b w)=some w
  | 0,b,w,hn,_,_,_=>by have:=bi k b w;lia
  | n+1,b,w,hn,hb,hw,h1=>by
    by_cases c:w.no k
    · rw [lZ c];unfold ft;rw [if_pos (by simp)];rfl
    · obtain ⟨g,l,r,rfl,gk,e⟩:=nO (b:=b) c;have hb':k=true→(if g=.minus then !b else b)=true:=fun z=>by
        have : g≠.minus:=fun y=>by rw [y,z] at gk;cases gk
        rw [if_neg this];exact hb z
      have n1:=bi k b l;have n2:=bi k (if g=.minus then !b else b) r;have hn':=hn;rw [e,aag] at hn';have i1:=gD (k:=k) n b l (by lia) hw.2.1;have i2:=gD (k:=k) n (if g=.minus then !b else b) r (by lia) hw.2.2;have ll:(lv k b (.node g l r)).length=(lv k b l).length+(lv k (if g=.minus then !b else b) r).length:=by rw [e,aag]
      have lh:(ar (lv k b (.node g l r))).length=(lv k b (.node g l r)).length:=aab _;obtain ⟨j,hj⟩:∃ j,(lv k b l).length=j+1:=⟨(lv k b l).length - 1,by lia⟩
      rw [gC (by lia),lh] at h1;have p1:(lv k b (.node g l r)).take (j+1)=lv k b l:=by rw [e,List.take_left' hj]
      have p2:(lv k b (.node g l r)).drop (j+1)=lv k (if g=.minus then !b else b) r:=by rw [e,List.drop_left' hj]
      have t1:(ar (lv k b (.node g l r))).take (j+1)=ar (lv k b l):=by unfold ar;rw [← abH,p1]
      have t2:(ar (lv k b (.node g l r))).drop (j+1)=ar (lv k (if g=.minus then !b else b) r):=by unfold ar;rw [← abG,p2]
      have h0:hd (lv k b (.node g l r)) 0=b:=by obtain ⟨u,t,z⟩:=cI k b (.node g l r);unfold hd;rw [z];rfl
      have hc:hd (lv k b (.node g l r)) (j+1)=(if g=.minus then !b else b):=by
        rw [← kM,p2];obtain ⟨u,t,z⟩:=cI k (if g=.minus then !b else b) r;unfold hd;rw [z];rfl
      have ej:tcj gs k n (ar (lv k b (.node g l r))) j=tc gs k n (ar (lv k b l)) * tc gs k n (ar (lv k (if g=.minus then !b else b) r)):=by
        unfold tcj;rw [show (ar (lv k b (.node g l r))).getD 0 true=b from h0,show (ar (lv k b (.node g l r))).getD (j+1) true=_ from hc,kJ gk,if_pos hw.1,t1,t2]
      have gj:((aaF ((lv k b (.node g l r)).length - 1)).map (tcj gs k n (ar (lv k b (.node g l r)))))[j]?=some (tcj gs k n (ar (lv k b (.node g l r))) j):=by
        rw [aam,aaV (by lia)];rfl
      have uj:=db (aaw gj);have pj:=Nat.mul_pos i1 i2;have q1:tc gs k n (ar (lv k b l))=1:=by
        have : tc gs k n (ar (lv k b l)) * tc gs k n (ar (lv k (if g=.minus then !b else b) r))=1:=by lia
        exact abx this
      have q2:tc gs k n (ar (lv k (if g=.minus then !b else b) r))=1:=by
        have : tc gs k n (ar (lv k b l)) * tc gs k n (ar (lv k (if g=.minus then !b else b) r))=1:=by lia
        exact aby this
      have f1:=mW n b l (by lia) hb hw.2.1 q1;have f2:=mW n _ r (by lia) hb' hw.2.2 q2;have jn:e7 gs k (ft gs k n) (lv k b (.node g l r)) j=some (.node g l r):=by
        unfold e7;rw [h0,hc,kJ gk,if_pos hw.1,p1,p2,f1,f2];rfl
      obtain ⟨i,z,u,ij,iz,fu,ff,_⟩:=p9 (l:=aaF ((lv k b (.node g l r)).length - 1)) (i:=j) (aaV (by lia)) jn;have hi:i < (lv k b (.node g l r)).length - 1:=by have:=(aaB.mp iz).1;rwa [aa7] at this
      have iz':i=z:=by rw [aaV hi] at iz;exact aaW iz
      subst iz';have e0:ft gs k (n+1) (lv k b (.node g l r))=some u:=by
        show (if (lv k b (.node g l r)).length≤1 then _ else _)=_;rw [if_neg (by lia)];exact ff
      rw [e0];by_cases eq:i=j
      · subst eq;rw [jn] at fu;exact fu.symm
      · exfalso
        obtain ⟨l0,r0,a1,a2,rfl,hg⟩:=fS fu;have okp:∀ p∈lv k b (.node g l r),p.2.no k∧p.2.within gs:=fun p hp=>⟨gq k b _ p hp,bI k b _ hw p hp⟩
        have okt:k=true→∀ p∈lv k b (.node g l r),p.1=true:=fun z p hp=>by subst z;exact gn (hb rfl) _ p hp
        have o1:=ee n _ l0 a1 (fun p hp=>okp p (abf hp)) (fun z p hp=>okt z p (abf hp));have o2:=ee n _ r0 a2 (fun p hp=>okp p (abK hp)) (fun z p hp=>okt z p (abK hp));have v1:=gD n (hd ((lv k b (.node g l r)).take (i+1)) 0) l0 (by rw [o1.1,aas];lia) o1.2;have v2:=gD n (hd ((lv k b (.node g l r)).drop (i+1)) 0) r0 (by rw [o2.1,aaJ];lia) o2.2;rw [o1.1] at v1;rw [o2.1] at v2;have ei:tcj gs k n (ar (lv k b (.node g l r))) i=tc gs k n (ar ((lv k b (.node g l r)).take (i+1))) * tc gs k n (ar ((lv k b (.node g l r)).drop (i+1))):=by
          unfold tcj;rw [show jsg k ((ar (lv k b (.node g l r))).getD 0 true) ((ar (lv k b (.node g l r))).getD (i+1) true)=jsg k (hd (lv k b (.node g l r)) 0) (hd (lv k b (.node g l r)) (i+1)) from rfl,if_pos hg];unfold ar;rw [abH,abG]
        have gi:((aaF ((lv k b (.node g l r)).length - 1)).map (tcj gs k n (ar (lv k b (.node g l r)))))[i]?=some (tcj gs k n (ar (lv k b (.node g l r))) i):=by
          rw [aam,aaV hi];rfl
        have:=nh gi gj (by lia);have:=Nat.mul_pos v1 v2;lia
open PySem L2
def wd (p:Bool × Wy):Bool × PyData:=(p.1,p.2.fm.data)
theorem jM:∀ (w:Wy) (b:Bool),(if b=true then w.fm.terms else turn w.fm.terms)=(lv false b w).map wd
  | .num i,b=>by cases b <;> rfl
  | .node .times l r,b=>by cases b <;> rfl
  | .node .plus l r,b=>by
    have e:lv false b (.node .plus l r)=lv false b l++lv false b r:=rfl;rw [e,aae,← jM l b,← jM r b];cases b
    · exact eB _ _
    · rfl
  | .node .minus l r,b=>by
    have e:lv false b (.node .minus l r)=lv false b l++lv false (!b) r:=rfl;rw [e,aae,← jM l b,← jM r (!b)];cases b
    · show turn (l.fm.terms++turn r.fm.terms)=turn l.fm.terms++r.fm.terms;rw [eB,jL]
    · rfl
theorem qa:∀ w:Wy,w.fm.factors=((lv true true w).map wd).map Prod.snd
  | .num i=>rfl
  | .node .plus l r=>rfl
  | .node .minus l r=>rfl
  | .node .times l r=>by
    have e:lv true true (.node .times l r)=lv true true l++lv true true r:=rfl;rw [e,aae,aae,← qa l,← qa r];rfl
def Fd:Bool→List (Bool × PyData)→PyData
  | false,ts=>.tuple [.str "sum",.tuple (ts.map tmD)]
  | true,ts=>.tuple [.str "times",.tuple (ts.map Prod.snd)]
theorem bK:∀ (g:Sg) (l r:Wy),(Wy.node g l r).fm.data=Fd g.k ((lv g.k true (.node g l r)).map wd)
  | .plus,l,r=>by
    have:=jM (.node .plus l r) true;show PyData.tuple [.str "sum",.tuple ((Wy.node .plus l r).fm.terms.map tmD)]=_;rw [show (Wy.node .plus l r).fm.terms=(lv false true (.node .plus l r)).map wd from this];rfl
  | .minus,l,r=>by
    have:=jM (.node .minus l r) true;show PyData.tuple [.str "sum",.tuple ((Wy.node .minus l r).fm.terms.map tmD)]=_;rw [show (Wy.node .minus l r).fm.terms=(lv false true (.node .minus l r)).map wd from this];rfl
  | .times,l,r=>by
    show PyData.tuple [.str "times",.tuple (Wy.node .times l r).fm.factors]=_;rw [qa];rfl
theorem oZ:("sum":Str)≠("times":Str):=by decide +kernel
theorem rj {v w:Wy} (h:v.fm.data=w.fm.data) (k:Bool) (hw:w.no k):v.no k:=by
  cases v with
  | num i=>trivial
  | node g l r =>
    rw [bK] at h;cases w with
    | num i=>revert h;cases g <;> exact fun h=>PyData.noConfusion h
    | node g' l' r' =>
      rw [bK] at h;have : g.k=g'.k:=by
        generalize (lv g.k true (.node g l r)).map wd=A at h;generalize (lv g'.k true (.node g' l' r')).map wd=B at h;generalize g.k=x at h ⊢;generalize g'.k=y at h ⊢;cases x <;> cases y
        · rfl
        · injection h with h;injection h with h _;injection h with h;exact absurd h oZ
        · injection h with h;injection h with h _;injection h with h;exact absurd h.symm oZ
        · rfl
      show g.k≠k;rw [this];exact hw
theorem iu {ps:List (Bool × Wy)} {p:Bool × Wy} (h:p∈ps):p.2.size+ps.length≤szs ps+1:=by
  induction ps with
  | nil=>cases h
  | cons q t ih =>
    have e:szs (q :: t)=q.2.size+szs t:=by simp [szs]
    rw [e,aaL];rcases aaC.mp h with rfl|h
    · have:=ba t;lia
    · have:=ih h;have:=q.2.size_pos;lia
theorem mQ (g:Sg) (l r:Wy) (b:Bool):2≤(lv g.k b (.node g l r)).length:=by
  have e:lv g.k b (.node g l r)=lv g.k b l++lv g.k (if g=.minus then !b else b) r:=by
    show (if g.k=g.k then _ else _)=_;rw [if_pos rfl]
  rw [e,aag];have:=bi g.k b l;have:=bi g.k (if g=.minus then !b else b) r;lia
theorem bJ {g:Sg} {l r:Wy} {b:Bool} {p:Bool × Wy} (h:p∈lv g.k b (.node g l r)):p.2.size < (Wy.node g l r).size:=by
  have a:=iu h;rw [bo] at a;have:=mQ g l r b;lia
def fw (gs:List Sg):Nat→Wy→Wy
  | 0,w=>w
  | _+1,.num i=>.num i
  | n+1,.node g l r=>(ft gs g.k (lv g.k true (.node g l r)).length ((lv g.k true (.node g l r)).map fun p=>(p.1,fw gs n p.2))).getD (.node g l r)
def ct (gs:List Sg):Nat→Wy→Nat
  | 0,_=>1
  | _+1,.num _=>1
  | n+1,.node g l r=>tc gs g.k (lv g.k true (.node g l r)).length (ar (lv g.k true (.node g l r))) * ((lv g.k true (.node g l r)).map fun p=>ct gs n p.2).prod
structure FwOk (gs:List Sg) (n:Nat) (w:Wy):Prop where
  win:(fw gs n w).within gs
  size:(fw gs n w).size=w.size
  nr:(fw gs n w).nr gs≤w.nr gs
  data:(fw gs n w).fm.data=w.fm.data
theorem iV {α β:Type} {R:β→α→Prop} {f:α→β}:∀ {l:List α},(∀ a∈l,R (f a) a)→Paired R (l.map f) l
  | [],_=>.nil
  | a :: l,h=>.cons (h a aan) (iV fun b hb=>h b (aaj _ hb))
theorem nZ {gs:List Sg} (hs:gs.length≤3) {n:Nat} {g:Sg} {l r:Wy} (h9:(Wy.node g l r).size≤9) (hw:(Wy.node g l r).within gs) (ih:∀ p∈lv g.k true (.node g l r),FwOk gs n p.2) :
    ft gs g.k (lv g.k true (.node g l r)).length ((lv g.k true (.node g l r)).map fun p=>(p.1,fw gs n p.2))=some (fw gs (n+1) (.node g l r))∧FwOk gs (n+1) (.node g l r):=by
  have pr:Paired (Lr gs g.k) ((lv g.k true (.node g l r)).map fun p=>(p.1,fw gs n p.2)) (lv g.k true (.node g l r)):=iV fun p hp=>by
    have i:=ih p hp;exact ⟨rfl,i.size,i.nr,rj i.data g.k (gq _ _ _ p hp),i.win⟩
  obtain ⟨f,e,sz,nn⟩:=pY hs (lv g.k true (.node g l r)).length _ true (.node g l r) (by rw [aab];exact aac _) (fun _=>rfl) pr hw h9;have ef:fw gs (n+1) (.node g l r)=f:=by
    show (ft gs g.k _ _).getD _=f;rw [e];rfl
  have hd0:hd ((lv g.k true (.node g l r)).map fun p=>(p.1,fw gs n p.2)) 0=true:=by
    rw [pS (Lr.hd pr)];obtain ⟨u,t,z⟩:=cI g.k true (.node g l r);unfold hd;rw [z];rfl
  have okt:g.k=true→∀ p∈(lv g.k true (.node g l r)).map (fun p=>(p.1,fw gs n p.2)),p.1=true:=fun z p hp=>by
    obtain ⟨q,hq,rfl⟩:=aaQ.mp hp;rw [z] at hq;exact gn rfl _ q hq
  have fo:=ee _ _ f e (Lr.ok pr) okt;rw [hd0] at fo;refine ⟨by rw [ef];exact e,?_,by rw [ef];exact sz,by rw [ef];exact nn,?_⟩
  · rw [ef];exact fo.2
  rw [ef];have fl:2≤(lv g.k true f).length:=by rw [fo.1,aab];exact mQ g l r true
  cases f with
  | num i=>exact absurd fl (by simp [lv])
  | node g' l' r' =>
    have gk:g'.k=g.k:=by
      apply Classical.byContradiction;intro c;rw [lZ (w:=.node g' l' r') c] at fl;exact absurd fl (by simp)
    rw [bK,bK,gk,fo.1,aba];congr 1;refine abN fun p hp=>?_;show (p.1,(fw gs n p.2).fm.data)=(p.1,p.2.fm.data)
    rw [(ih p hp).data]
theorem l5 {gs:List Sg} (hs:gs.length≤3):∀ (n:Nat) (w:Wy),w.size≤n→w.size≤9→w.within gs→FwOk gs n w
  | 0,w,h,_,_=>by have:=w.size_pos;lia
  | n+1,.num i,_,_,_=>⟨trivial,rfl,aa0 _,rfl⟩
  | n+1,.node g l r,h,h9,hw=>(nZ hs h9 hw fun p hp=>l5 hs n p.2 (by have:=bJ hp;lia) (by have:=bJ hp;lia) (bI _ _ _ hw p hp)).2
theorem lD:∀ {l:List Nat},l.prod=1→∀ x∈l,x=1
  | a :: l,h,x,hx=>by
    rw [List.prod_cons] at h;rcases aaC.mp hx with rfl|hx
    · exact abx h
    · exact lD (aby h) x hx
theorem qk {gs:List Sg}:∀ (n:Nat) (w:Wy),w.size≤n→w.within gs→ct gs n w=1→fw gs n w=w
  | 0,w,h,_,_=>rfl
  | n+1,.num i,_,_,_=>rfl
  | n+1,.node g l r,h,hw,h1=>by
    have h1:tc gs g.k (lv g.k true (.node g l r)).length (ar (lv g.k true (.node g l r))) * ((lv g.k true (.node g l r)).map fun p=>ct gs n p.2).prod=1:=h1;have t1:=abx h1;have t2:=lD (aby h1);have e:((lv g.k true (.node g l r)).map fun p=>(p.1,fw gs n p.2))=lv g.k true (.node g l r):=by
      have : ∀ p∈lv g.k true (.node g l r),(fun p:Bool × Wy=>(p.1,fw gs n p.2)) p=id p:=fun p hp=>by
        show (p.1,fw gs n p.2)=p;rw [qk n p.2 (by have:=bJ hp;lia) (bI _ _ _ hw p hp) (t2 _ (aaQ.mpr ⟨p,hp,rfl⟩))]
      rw [abN this,List.map_id]
    show (ft gs g.k _ _).getD _=_;rw [e,mW _ true _ (aac _) (fun _=>rfl) hw t1];rfl
open PySem L2
theorem PairsIn.mono {H H':Hp} (t:Tups H H') {ps:List (Int × Int)} {vs:List V} (p:PairsIn H ps vs):PairsIn H' ps vs:=by
  induction p with
  | nil=>exact .nil
  | cons z _ ih=>obtain ⟨a,e,h⟩:=z;exact .cons ⟨a,e,t _ _ h⟩ ih
theorem PairsIn.app {H:Hp} {ps qs:List (Int × Int)} {vs us:List V} (a:PairsIn H ps vs) (b:PairsIn H qs us):PairsIn H (ps++qs) (vs++us):=by
  induction a with
  | nil=>exact b
  | cons x _ ih=>exact .cons x ih
theorem PairsIn.snoc {H:Hp} {ps:List (Int × Int)} {vs:List V} {p:Int × Int} {v:V} (h:PairsIn H ps vs) (x:PairIn H p v):PairsIn H (ps++[p]) (vs++[v]):=PairsIn.app h (.cons x .nil)
def sfR (n m:Nat):List (Int × Int):=(aaF (n - m)).map fun (f:Nat)=>((f:Int),((f+m:Nat):Int))
def sfl (n i:Nat):List (Int × Int):=(aaF i).flatMap fun m=>sfR n m
theorem lf (n i:Nat):sfl n (i+1)=sfl n i++sfR n i:=by
  unfold sfl;rw [abU,List.flatMap_append];simp
theorem kg (n i:Nat):(sfl n i).length≤i * n:=by
  induction i with
  | zero=>simp [sfl]
  | succ i ih =>
    rw [lf,aag];have : (sfR n i).length≤n:=by simp [sfR]
    rw [Nat.succ_mul];lia
theorem ke (n:Nat) (a b:Nat) (h1:a≤b) (h2:b < n):((a:Int),(b:Int))∈sfl n n:=by
  unfold sfl sfR;rw [List.mem_flatMap];refine ⟨b - a,aaK.mpr (by lia),?_⟩;rw [List.mem_map];refine ⟨a,aaK.mpr (by lia),?_⟩;have : a+(b - a)=b:=by lia
  rw [this]
def hk:Bool→Bool→Str
  | true,_=>"*"
  | false,b=>sgB b
def PtR (H:Hp) (k:Bool) (p:Bool × Wy) (v:V):Prop:=∃ a u,v=.ref a∧H a=some (.tup [.str (hk k p.1),u])∧Dat H p.2.fm.data u
theorem PtR.mono {H H':Hp} {k:Bool} (g:Same H H') {p:Bool × Wy} {v:V} (h:PtR H k p v):PtR H' k p v:=by
  obtain ⟨a,u,rfl,e,d⟩:=h;exact ⟨a,u,rfl,g _ _ e,Dat.mono g _ _ d⟩
theorem gc {H H':Hp} {k:Bool} (g:Same H H') {ps:List (Bool × Wy)} {vs:List V} (h:Paired (PtR H k) ps vs):Paired (PtR H' k) ps vs:=Paired.imp' (fun _ _ z=>z.mono g) h
theorem nH {H:Hp}:∀ {ps:List (Bool × Wy)} {us:List V},DatAll H ((ps.map wd).map tmD) us→Paired (PtR H false) ps us
  | [],us,h=>by simp only [abh,DatAll] at h;subst h;exact .nil
  | p :: ps,us,h=>by
    simp only [aav,DatAll] at h;obtain ⟨v,r,rfl,h1,h2⟩:=h;obtain ⟨a,u,rfl,e,d⟩:=b8 h1;exact .cons ⟨a,u,rfl,e,d⟩ (nH h2)
theorem dg {H:Hp} {g:Sg} {l r:Wy} {v:V} (h:Dat H (Wy.node g l r).fm.data v):∃ a b us,v=.ref a∧H a=some (.tup [.str (if g.k=true then "times" else "sum"),.ref b])∧H b=some (.tup us)∧(g.k=false→Paired (PtR H false) (lv g.k true (.node g l r)) us)∧(g.k=true→DatAll H (((lv g.k true (.node g l r)).map wd).map Prod.snd) us):=by
  rw [bK] at h;generalize g.k=k at h ⊢;cases k with
  | false =>
    obtain ⟨a,u,rfl,ea,d⟩:=b8 h;obtain ⟨b,us,rfl,eb,da⟩:=gv d;exact ⟨a,b,us,rfl,ea,eb,fun _=>nH da,fun z=>by cases z⟩
  | true =>
    obtain ⟨a,u,rfl,ea,d⟩:=b8 h;obtain ⟨b,us,rfl,eb,da⟩:=gv d;exact ⟨a,b,us,rfl,ea,eb,(fun z=>by cases z),fun _=>da⟩
section
variable {P:Program} {w:World} {K:aaa} {mg:Str→Option Value} {base:Heap} {f:Addr} {fd:FuncData}
def qE:Sp:=fun vs H Q _=>∃ n:Nat,vs=[.int n]∧n≤9∧∀ p us H',Same H H'→H p=none→H' p=some (.lst us)→PairsIn H' (sfl n n) us→Q (.ref p) H'
abbrev cB:Stmt:=top 19
theorem gI:FnScope ["many"] ["many"] (ai cB):=⟨rfl,rfl,rfl,by decide +kernel,rfl,by decide +kernel,by decide +kernel⟩
theorem gZ (F:Fun K "shorter_first" "shorter_first" cB f fd) (B:Bu K mg):FnOk P w K mg base CX0 1 f fd ["many"] qE:=by
  refine F.ok gI (fun vs H Q E h=>?_) (fun cdv A outer s H vs Q E hr h=>?_)
  · obtain ⟨l,rfl,_⟩:=h;rfl
  obtain ⟨n,rfl,h9,q⟩:=h;refine ⟨_,(@af _ _ _ (@aq _ _ _ _ (@sm _ _ _ _ _ _ _ _ _ _ _ (["more","first","many"]) ([none,none,some 0]) _ _ _ _ _ _ _ rfl (@cr _ _ _ _ _ _ rfl B.irange (@aa _ _ _ _ _ (pv 0) ac (by rfl)) (by rfl)) rfl ⟨rfl,trivial⟩ ⟨⟨rfl,Or.inl rfl,Or.inl rfl⟩,trivial⟩ (fun _ _ _ _=>⟨(@aj _ _ (0) _ (show aaO (["more","first","many"]:List Str) by decide +kernel) rfl (Or.inl rfl) (.inr rfl)),aV,(@cr _ _ _ _ _ _ rfl B.irange (@aa _ _ _ _ _ (@au _ _ _ _ _ _ _ _ bN (pv 2) (pv 0)) ac (by rfl)) (by rfl)),(@aj _ _ (1) _ (show aaO (["more","first","many"]:List Str) by decide +kernel) rfl (Or.inl rfl) (.inr rfl)),aV,(@aM _ _ _ _ _ (@aa _ _ _ _ _ (pv 1) (@aa _ _ _ _ _ (@au _ _ _ _ _ _ _ _ a_ (pv 1) (pv 0)) ac (by rfl)) (by rfl)))⟩) (by rfl) (by rfl) (by rfl) (by rfl) (by intro _;rfl) (by intro _ _;rfl)))),?_⟩;refine ⟨_,rfl,n,rfl,by lia,by lia,?_⟩;refine sF (Trn.range (lo:=0) (n:=(n:Int).toNat)) (fun i ys H'=>Same H H'∧PairsIn H' (sfl n i) ys) ⟨Same.refl _,.nil⟩ (fun i ys H' hi p=>trivial) (fun i x ys H1 H' hi hx p Nx nx=>?_) (fun ys H' p p5 n5=>?_)
  · obtain ⟨rfl,rfl⟩:=hx;obtain ⟨S,hp⟩:=p;have hl:=hp.length;have hb:=kg n i;have hn:(n:Int).toNat=n:=by lia
    have hin:i < n:=by lia
    have hb2:i * n≤9 * 9:=abr (by lia) h9;have en:((n:Int) - (0+(i:Int))).toNat=n - i:=by lia
    refine ⟨_,rfl,_,rfl,_,_,rfl,rfl,(n:Int) - (0+(i:Int)),rfl,by lia,by lia,?_⟩;refine sB (Trn.range (lo:=0) (n:=((n:Int) - (0+(i:Int))).toNat)) (fun j zs σ H2=>Same H H2∧(∃ c,σ=[some (.int (0+(i:Int))),c,some (.int n)])∧PairsIn H2 (sfl n i++(sfR n i).take j) zs) ⟨S,⟨_,rfl⟩,by simpa using hp⟩ (fun j zs σ H2 hj p=>⟨trivial,aA (by have:=p.2.2.length;rw [← this,aag,aas];lia)⟩) (fun j x zs σ H2 H3 hj hx p Ny ny=>?_) (fun zs σ H2 p=>?_)
    · obtain ⟨rfl,rfl⟩:=hx;obtain ⟨S2,⟨c,rfl⟩,hp2⟩:=p;refine ⟨_,rfl,_,rfl,_,rfl,_,_,rfl,rfl,(by show 2≤sizeLine;decide),fun t ht=>ny _ _ _ ⟨S2.trans (Same.new ht _),⟨_,rfl⟩,?_⟩⟩;have s3:=Same.new ht (.tup [.int (0+(j:Int)),.int (0+(j:Int)+(0+(i:Int)))]);have e:(sfR n i).take (j+1)=(sfR n i).take j++[(((j:Nat):Int),((j+i:Nat):Int))]:=by
        rw [aaz];have : (sfR n i)[j]?=some (((j:Nat):Int),((j+i:Nat):Int)):=by
          unfold sfR;rw [aam,aaV (by lia)];rfl
        rw [this];rfl
      rw [e,← aa3];refine PairsIn.snoc (PairsIn.mono (Tups.of s3) hp2) ⟨t,rfl,?_⟩;rw [ad];have e1:(0:Int)+(j:Int)=((j:Nat):Int):=by lia
      have e2:(0:Int)+(j:Int)+(0+(i:Int))=((j+i:Nat):Int):=by lia
      show some (HO.tup [V.int (0+(j:Int)),V.int (0+(j:Int)+(0+(i:Int)))])=some (HO.tup [V.int ((j:Nat):Int),V.int ((j+i:Nat):Int)]);rw [e2,e1]
    · obtain ⟨S2,⟨c,rfl⟩,hp2⟩:=p;refine nx _ _ ⟨S2,?_⟩;rw [en,aaR (by simp [sfR]),← lf] at hp2;exact hp2
  · obtain ⟨S,hp⟩:=p;have hn:(n:Int).toNat=n:=by lia
    rw [hn] at hp;have s5:=Same.new n5 (.lst ys);exact q p5 ys _ (S.trans s5) (S.free n5) ad (PairsIn.mono (Tups.of s5) hp)
def jO:Sp:=fun vs H Q _=>∃ g l r v,vs=[v]∧Dat H (Wy.node g l r).fm.data v∧(Wy.node g l r).size≤20∧∀ p us H',Same H H'→H p=none→H' p=some (.lst us)→Paired (PtR H' g.k) (lv g.k true (.node g l r)) us→Q (.ref p) H'
abbrev fI:Stmt:=top 30
theorem eE:FnScope ["form","kind","parts"] ["form"] (ai fI):=⟨rfl,rfl,rfl,by decide +kernel,rfl,by decide +kernel,by decide +kernel⟩
theorem lJ (F:Fun K "parts_of" "parts_of" fI f fd) (B:Bu K mg):FnOk P w K mg base CX0 1 f fd ["form"] jO:=by
  refine F.ok eE (fun vs H Q E h=>?_) (fun cdv A outer s H vs Q E hr h=>?_)
  · obtain ⟨g,l,r,v,rfl,_⟩:=h;rfl
  obtain ⟨g,l,r,v,rfl,hd,h20,q⟩:=h;refine ⟨_,(@ae _ _ _ _ _ (@bW _ _ _ _ _ _ (pv 0) (@bX _ _ _ _ _ _ rfl (@ap _ _ _ _ _ (@aj _ _ (1) _ (eE).nd rfl (Or.inl rfl) (.inl rfl)) (@ap _ _ _ _ _ (@aj _ _ (2) _ (eE).nd rfl (Or.inl rfl) (.inl rfl)) aU (by rfl)) (by rfl)) (by rfl) (by rfl)) (by rfl) (by rfl) (by rfl)) (@af _ _ _ (@aq _ _ _ _ (@eV _ _ _ _ _ _ _ _ (@av _ _ _ _ _ _ _ _ bn (pv 1) ay (aE _)) (@bH _ _ _ _ _ _ _ _ _ gx rfl B.ilist ab3 (@aa _ _ _ _ _ (pv 2) ac (by rfl)) (by decide) (by decide) (by rfl) (by rfl)) (@cY _ _ _ _ _ _ _ _ (["factor"]) ([none]) _ _ _ _ rfl (@gU _ _ _ _ (pv 2)) rfl trivial trivial (fun _ _ _ _=>⟨(@aj _ _ (0) _ (show aaO (["factor"]:List Str) by decide +kernel) rfl (Or.inl rfl) (.inr rfl)),aV,(@aM _ _ _ _ _ (@aa _ _ _ _ _ ay (@aa _ _ _ _ _ (pv 0) ac (by rfl)) (by rfl)))⟩) (by rfl) (by rfl) (by rfl) (by rfl) (by intro _;rfl)))))),?_⟩;obtain ⟨a,b,us,rfl,ea,eb,i1,i2⟩:=dg hd;have ll:(lv g.k true (.node g l r)).length≤20:=by
    have:=ba (lv g.k true (.node g l r));rw [bo] at this;lia
  refine ⟨_,rfl,a,_,rfl,SqT.of ea,rfl,_,_,rfl,_,_,rfl,rfl,?_⟩;cases hg:g.k with
  | false =>
    rw [hg] at q i1 i2 ll;refine ⟨_,rfl,rfl,true,rfl,bj ⟨_,rfl,b,us,rfl,.inr (SqT.of eb),fun p np=>?_⟩⟩;exact q p us _ (Same.new np _) np ad (gc (Same.new np _) (i1 rfl))
  | true =>
    rw [hg] at q i1 i2 ll;refine ⟨_,rfl,rfl,false,rfl,aR ?_⟩;have da:=i2 rfl;have lu:=da.len;rw [aab,aab] at lu;refine ⟨_,rfl,b,rfl,⟨_,SqT.of eb⟩,?_⟩;refine fz (Trn.tup (xs:=us)) (fun i ys H'=>Same H H'∧Paired (PtR H' true) ((lv true true (.node g l r)).take i) ys) ⟨Same.refl _,.nil⟩ (fun i ys H' hi z=>⟨SqT.of (z.1 _ _ eb),aA (by have:=aaH z.2;rw [aas] at this;lia)⟩) (fun i z ys H0 H' hi hz zz Nx nx=>?_) (fun ys H' zz p5 n5=>?_)
    · obtain ⟨rfl,hz⟩:=hz;obtain ⟨S,hp⟩:=zz;obtain ⟨d,h1,h2⟩:=jg da hz;rw [aba,aam] at h1;obtain ⟨pr,h3,rfl⟩:=aaE.mp h1;refine ⟨_,rfl,(by show 2≤sizeLine;decide),fun o ho=>nx _ _ ⟨S.trans (Same.new ho _),?_⟩⟩;rw [aaz,h3];exact Paired.app (gc (Same.new ho _) hp) (.cons ⟨o,z,rfl,ad,Dat.mono (S.trans (Same.new ho _)) _ _ h2⟩ .nil)
    obtain ⟨S,hp⟩:=zz;rw [← lu,aaP] at hp;have s5:=Same.new n5 (.lst ys);exact q p5 ys _ (S.trans s5) (S.free n5) ad (gc s5 hp)
theorem d2 (k:Bool):∀ (b:Bool) (w:Wy),((lv k b w).map fun p=>p.2.nums).flatten=w.nums
  | b,.num i=>by simp [lv]
  | b,.node g l r=>by
    unfold lv;split
    · rw [aae,abM,d2 k b l,d2 k _ r];rfl
    · simp
theorem jc {k b:Bool} {w:Wy} (h:w.Bd) {p:Bool × Wy} (hp:p∈lv k b w):p.2.Bd:=fun i hi=>h i (by
  rw [← d2 k b w];exact List.mem_flatten.mpr ⟨_,aaQ.mpr ⟨p,hp,rfl⟩,hi⟩)
def fX (n:Nat):Sp:=fun vs H Q _=>∃ (w:Wy) (v:V),vs=[v]∧Dat H w.fm.data v∧w.size≤n∧w.size≤20∧w.Bd∧∀ p H',Same H H'→H p=none→H' p=some (.lst (w.nums.map V.int))→Q (.ref p) H'
abbrev dI:Stmt:=top 31
theorem bO:FnScope ["form","numbers","head","part"] ["form"] (ai dI):=⟨rfl,rfl,rfl,by decide +kernel,rfl,by decide +kernel,by decide +kernel⟩
theorem jr (F:Fun K "numbers_in" "numbers_in" dI f fd) (bF:Binds K fd ["form"] []) (mF:mg "numbers_in" = some (.ref f)) (B:Bu K mg) (C_is_whole:Cal P w K mg base "is_whole" 1 ["thing"] (bE K)) (C_parts_of:Cal P w K mg base "parts_of" 1 ["form"] jO):∀ n,FnOk P w K mg base CX0 (n+2) f fd ["form"] (fX n):=by
  intro n
  induction n with
  | zero =>
    refine ⟨fun vs H Q E h=>?_,fun A outer s H args us vs Q E _ _ _ _ h=>?_⟩
    · obtain ⟨x,v,rfl,_⟩:=h;rfl
    · obtain ⟨wy,v,_,_,h0,_⟩:=h;have:=wy.size_pos;lia
  | succ n ih =>
    have C_numbers_in:Cal P w K mg base "numbers_in" (n+2) ["form"] (fX n):=⟨f,fd,ih,bF,F.kp,mF⟩
    refine F.ok bO (fun vs H Q E h=>?_) (fun cdv A outer s H vs Q E hr h=>?_)
    · obtain ⟨x,v,rfl,_⟩:=h;rfl
    obtain ⟨wy,v,rfl,hd,hn,h20,hB,q⟩:=h;refine ⟨_,(@ae _ _ _ _ _ (@aL _ _ _ _ _ _ _ _ (@aQ _ _ _ (@ah _ _ _ _ _ _ _ _ _ _ _ C_is_whole hr (by lia) rfl (@aa _ _ _ _ _ (pv 0) ac (by rfl)) (by decide) (by rfl) (by rfl)) (by intro _;rfl)) (@af _ _ _ (@aq _ _ _ _ (@aY _ _ _ _ (@aa _ _ _ _ _ (pv 0) ac (by rfl))))) aB) (@ae _ _ _ _ _ (@aC _ _ (1) _ _ _ _ (bO).nd rfl (Or.inl rfl) (@aY _ _ _ _ ac) (by rfl) (by first|exact .inl rfl|exact .inr rfl|assumption)) (@ae _ _ _ _ _ (@bV _ _ _ _ _ _ _ _ aaM rfl (@cz _ _ _ _ (@ah _ _ _ _ _ _ _ _ _ _ _ C_parts_of hr (by lia) rfl (@aa _ _ _ _ _ (pv 0) ac (by rfl)) (by decide) (by rfl) (by rfl))) (@bX _ _ _ _ _ _ rfl (@ap _ _ _ _ _ (@aj _ _ (2) _ (bO).nd rfl (Or.inl rfl) (.inl rfl)) (@ap _ _ _ _ _ (@aj _ _ (3) _ (bO).nd rfl (Or.inl rfl) (.inl rfl)) aU (by rfl)) (by rfl)) (by rfl) (by rfl)) (@af _ _ _ (@pk _ _ (1) _ _ _ _ _ _ (bO).nd rfl (Or.inl rfl) (@ah _ _ _ _ _ _ _ _ _ _ _ C_numbers_in hr (by lia) rfl (@aa _ _ _ _ _ (pv 3) ac (by rfl)) (by decide) (by rfl) (by rfl)) sN (by first|exact .inl rfl|exact .inr rfl|assumption))) (by intro _;rfl)) (@af _ _ _ (@aq _ _ _ _ (pv 1)))))),?_⟩;cases wy with
    | num i =>
      have e:v=.int i:=by simpa only [Wy.fm,Fm.data,Dat] using hd
      subst e;refine ⟨_,rfl,_,"int",rfl,.int i,true,rfl,bj ⟨_,rfl,(by show 1≤sizeLine;decide),fun p np=>?_⟩⟩;exact q p _ (Same.new np _) np ad
    | node g l r =>
      obtain ⟨a,b,us,rfl,ea,eb,i1,i2⟩:=dg hd;refine ⟨_,rfl,_,"tuple",rfl,.tup ea,false,rfl,aR ?_⟩;refine ⟨(by show 0≤sizeLine;decide),fun p0 n0=>?_⟩;have g0:=Same.new n0 (.lst []);have e0:upd H p0 (.lst []) p0=some (.lst []):=ad;generalize upd H p0 (.lst [])=H0 at g0 e0 ⊢;refine ⟨_,rfl,g,l,r,_,rfl,Dat.mono g0 _ _ hd,h20,fun p us' H1 g1 np ep hp=>?_⟩;have n0p:p0≠p:=fun z=>by rw [← z,e0] at np;cases np
      have lp:=aaH hp;have ll:=ba (lv g.k true (.node g l r));rw [bo] at ll;have nul:∀ i,(((lv g.k true (.node g l r)).take i).map fun p=>p.2.nums).flatten.length≤20:=fun i=>by
        have e:=congrArg List.length (d2 g.k true (.node g l r));rw [(Wy.node g l r).nums_len,← aaT i (lv g.k true (.node g l r)),aae,abM,aag] at e;lia
      refine ⟨p,rfl,⟨_,SqL.of ep⟩,dv (Trn.list (xs:=us')) (fun i σ H'=>∃ c2 c3,σ=[some (.ref a),some (.ref p0),c2,c3]∧But p0 H1 H'∧H' p0=some (.lst (((((lv g.k true (.node g l r)).take i).map fun p=>p.2.nums).flatten).map V.int))) ⟨_,_,rfl,But.refl,g1 _ _ e0⟩ (fun i σ H' hi z=>?_) (fun i x σ H2' H2 hi it z=>?_) (fun σ H' z=>?_)⟩
      · obtain ⟨_,_,rfl,S,_⟩:=z;exact SqL.of (S _ _ (abO n0p) ep)
      · obtain ⟨c2,c3,rfl,S,en⟩:=z;obtain ⟨rfl,hx⟩:=it;obtain ⟨pr,hpr,o,u,rfl,eo,du⟩:=Paired.at hp hx;have pm:=aaw hpr;have ls:=bJ pm;have nop:o≠p0:=fun z=>by rw [z,g1 _ _ e0] at eo;cases eo
        have du2:=dA (Tups.but S (g1 _ _ e0)) _ _ (Wy.fm_ok _ (jc hB pm)).d du;refine ⟨o,_,rfl,SqT.of (S _ _ nop eo),rfl,_,_,rfl,_,_,rfl,rfl,?_⟩;refine ⟨_,rfl,_,rfl,pr.2,u,rfl,du2,by lia,by lia,jc hB pm,fun p3 H3 g3 n3 e3'=>?_⟩;have en3:=g3 _ _ en;have hlen:=nul (i+1);rw [aaz,hpr,Option.toList_some,aae,abM,aag] at hlen;refine ⟨p0,p3,_,_,rfl,rfl,en3,e3',bx (by rw [aab,aab];simp only [aav,abh,aa6,List.flatten_nil,List.append_nil] at hlen;lia),?_⟩;refine ⟨_,_,rfl,fun b o hb e=>?_,?_⟩
        · rw [aF hb];exact g3 _ _ (S _ _ hb e)
        · rw [ad,aaz,hpr,Option.toList_some,aae,abM,aae];simp
      · obtain ⟨c2,c3,rfl,S,en⟩:=z;rw [← lp,aaP,d2] at en;exact ⟨_,rfl,q p0 H' (fun b o e=>S _ _ (fun z=>by rw [z,n0] at e;cases e) (g1 _ _ (g0 _ _ e))) n0 en⟩
end
open PySem L2
theorem iI:∀ gs:List Sg,gs.length≤3→bC gs→gs=[.plus]∨gs=[.minus]∨gs=[.times]∨gs=[.plus,.minus]∨gs=[.plus,.times]∨gs=[.minus,.times]∨gs=[.plus,.minus,.times]
  | [],_,h=>absurd h (by unfold bC;decide +kernel)
  | [a],_,_=>by cases a <;> simp
  | [a,b],_,h=>by
    cases a <;> cases b <;> first|decide|exact absurd h (by unfold bC;decide +kernel)
  | [a,b,c],_,h=>by
    cases a <;> cases b <;> cases c <;> first|decide|exact absurd h (by unfold bC;decide +kernel)
  | _ :: _ :: _ :: _ :: _,h,_=>by simp at h
theorem gr {gs:List Sg} (g3:gs.length≤3) (sp:bC gs) (g:Sg):cw (am gs) g.str=decide (g∈gs):=by
  rcases iI gs g3 sp with rfl|rfl|rfl|rfl|rfl|rfl|rfl <;> cases g <;> decide +kernel
def jsc (k:Bool) (ps:List (Bool × Wy)) (i c:Int):Sg:=jsg k (hd ps i.toNat) (hd ps (c+1).toNat)
def jw (gs:List Sg) (k:Bool) (ps:List (Bool × Wy)) (q:Int × Int):List Int:=(a8 q).filter fun c=>decide (jsc k ps q.1 c∈gs)
def JwIn (H:Hp) (k:Bool) (ps:List (Bool × Wy)) (q:Int × Int) (c:Int) (v:V):Prop:=∃ a x y,v=.ref a∧H a=some (.tup [x,.str (jsc k ps q.1 c).str,y])∧PairIn H (q.1,c) x∧PairIn H (c+1,q.2) y
theorem JwIn.mono {H H':Hp} (t:Tups H H') {k:Bool} {ps:List (Bool × Wy)} {q:Int × Int} {c:Int} {v:V} (h:JwIn H k ps q c v):JwIn H' k ps q c v:=by
  obtain ⟨a,x,y,rfl,e,h1,h2⟩:=h;exact ⟨a,x,y,rfl,t _ _ e,PairIn.mono t h1,PairIn.mono t h2⟩
theorem nI {H:Hp} {k:Bool} {ps:List (Bool × Wy)} {us:List V} (h:Paired (PtR H k) ps us) {i:Int} (h0:0≤i) (hi:i < ps.length):∃ o u,atI us i=some (.ref o)∧H o=some (.tup [.str (hk k (hd ps i.toNat)),u])∧∃ p,ps[i.toNat]?=some p∧Dat H p.2.fm.data u:=by
  obtain ⟨j,rfl⟩:=abg h0;have hl:=aaH h;have hj:j < us.length:=by lia
  have hx:us[j]?=some us[j]:=aaf hj;obtain ⟨p,hp,o,u,e,eo,d⟩:=Paired.at h hx;refine ⟨o,u,fj (by rw [hx,e]),?_,p,hp,d⟩;have : hd ps (j:Int).toNat=p.1:=by
    unfold hd;rw [aao,aam,show (j:Int).toNat=j from rfl,hp];rfl
  rw [this];exact eo
theorem p_ {α:Type} {l:List α} {p:α→Bool} {i:Nat} {x:α} (h:l[i]?=some x) (c:p x=true):(l.take (i+1)).filter p=(l.take i).filter p++[x]:=by
  rw [aaz,h,abT];simp [c]
theorem rE {α:Type} {l:List α} {p:α→Bool} {i:Nat} {x:α} (h:l[i]?=some x) (c:p x=false):(l.take (i+1)).filter p=(l.take i).filter p:=by
  rw [aaz,h,abT];simp [c]
theorem rd {k b:Bool}:decide (V.str (hk k b)=V.str "*")=k:=by cases k <;> cases b <;> decide +kernel
theorem re {x y:Bool}:decide (V.str (hk false x)=V.str (hk false y))=decide (x=y):=by cases x <;> cases y <;> decide +kernel
section
variable {P:Program} {w:World} {K:aaa} {mg:Str→Option Value} {base:Heap} {f:Addr} {fd:FuncData}
def rY:Sp:=fun vs H Q _=>∃ k x y,vs=[.str (hk k x),.str (hk k y)]∧Q (.str (jsg k x y).str) H
abbrev dL:Stmt:=top 40
theorem jm:FnScope ["left_head","right_head"] ["left_head","right_head"] (ai dL):=⟨rfl,rfl,rfl,by decide +kernel,rfl,by decide +kernel,by decide +kernel⟩
theorem ju (F:Fun K "joint_sign" "joint_sign" dL f fd):FnOk P w K mg base CX0 1 f fd ["left_head","right_head"] rY:=by
  refine F.ok jm (fun vs H Q E h=>?_) (fun cdv A outer s H vs Q E hr h=>?_)
  · obtain ⟨k,x,y,rfl,_⟩:=h;rfl
  obtain ⟨k,x,y,rfl,q⟩:=h;refine ⟨_,(@ae _ _ _ _ _ (@aL _ _ _ _ _ _ _ _ (@av _ _ _ _ _ _ _ _ bn (pv 0) ay (aE _)) (@af _ _ _ (@aq _ _ _ _ ay)) aB) (@af _ _ _ (@aq _ _ _ _ (@eV _ _ _ _ _ _ _ _ (@av _ _ _ _ _ _ _ _ bn (pv 0) (pv 1) (aE _)) ay ay)))),?_⟩;refine ⟨_,rfl,rfl,_,rfl,?_⟩;rw [rd];cases k with
  | true=>exact bj q
  | false =>
    refine aR ⟨_,rfl,_,rfl,rfl,_,rfl,?_⟩;rw [re];by_cases c:x=y
    · subst c;rw [decide_eq_true rfl];exact bj (by cases x <;> exact q)
    · rw [decide_eq_false c];refine aR ?_;have : jsg false x y=.minus:=by unfold jsg;rw [if_neg aai,if_neg c]
      rw [this] at q;exact q
def qG:Sp:=fun vs H Q _=>∃ (p:Addr) (us:List V) (gs:List Sg) (k:Bool) (ps:List (Bool × Wy)) (q:Int × Int) (v:V),vs=[.ref p,.str (am gs),v]∧H p=some (.lst us)∧Paired (PtR H k) ps us∧ps.length≤20∧gs.length≤3∧bC gs∧PairIn H q v∧0≤q.1∧q.1≤q.2∧q.2 < ps.length∧∀ a js H',Same H H'→H a=none→H' a=some (.lst js)→Paired (JwIn H' k ps q) (jw gs k ps q) js→Q (.ref a) H'
abbrev cE:Stmt:=top 41
theorem bp:FnScope ["parts","signs","stretch","joints","before","behind","sign"] ["parts","signs","stretch"] (ai cE):=⟨rfl,rfl,rfl,by decide +kernel,rfl,by decide +kernel,by decide +kernel⟩
theorem hE (F:Fun K "joints_within" "joints_within" cE f fd) (B:Bu K mg) (C_cuts_of:Cal P w K mg base "cuts_of" 1 ["stretch"] mx) (C_joint_sign:Cal P w K mg base "joint_sign" 1 ["left_head","right_head"] rY):FnOk P w K mg base CX0 2 f fd ["parts","signs","stretch"] qG:=by
  refine F.ok bp (fun vs H Q E h=>?_) (fun cdv A outer s H vs Q E hr h=>?_)
  · obtain ⟨p,us,gs,k,ps,q,v,rfl,_⟩:=h;rfl
  obtain ⟨p,us,gs,k,ps,q,v,rfl,ep,hps,l20,g3,sp,hq,q0,q1,q2,qq⟩:=h;refine ⟨_,(@ae _ _ _ _ _ (@aC _ _ (3) _ _ _ _ (bp).nd rfl (Or.inl rfl) (@aY _ _ _ _ ac) (by rfl) (by first|exact .inl rfl|exact .inr rfl|assumption)) (@ae _ _ _ _ _ (@bV _ _ _ _ _ _ _ _ aaM rfl (@cz _ _ _ _ (@ah _ _ _ _ _ _ _ _ _ _ _ C_cuts_of hr (by lia) rfl (@aa _ _ _ _ _ (pv 2) ac (by rfl)) (by decide) (by rfl) (by rfl))) (@bX _ _ _ _ _ _ rfl (@ap _ _ _ _ _ (@aj _ _ (4) _ (bp).nd rfl (Or.inl rfl) (.inl rfl)) (@ap _ _ _ _ _ (@aj _ _ (5) _ (bp).nd rfl (Or.inl rfl) (.inl rfl)) aU (by rfl)) (by rfl)) (by rfl) (by rfl)) (@ae _ _ _ _ _ (@aC _ _ (6) _ _ _ _ (bp).nd rfl (Or.inl rfl) (@ah _ _ _ _ _ _ _ _ _ _ _ C_joint_sign hr (by lia) rfl (@aa _ _ _ _ _ (@aG _ _ _ _ _ _ _ aX (@aG _ _ _ _ _ _ _ aJ (pv 0) (@aG _ _ _ _ _ _ _ aX (pv 4) ag (fun _ _=>rfl)) (fun _ _=>rfl)) ag (fun _ _=>rfl)) (@aa _ _ _ _ _ (@aG _ _ _ _ _ _ _ aX (@aG _ _ _ _ _ _ _ aJ (pv 0) (@aG _ _ _ _ _ _ _ aX (pv 5) ag (fun _ _=>rfl)) (fun _ _=>rfl)) ag (fun _ _=>rfl)) ac (by rfl)) (by rfl)) (by decide) (by rfl) (by rfl)) (by rfl) (by first|exact .inl rfl|exact .inr rfl|assumption)) (@af _ _ _ (@aL _ _ _ _ _ _ _ _ (@av _ _ _ _ _ _ _ _ cL (pv 6) (pv 1) (by with_unfolding_all rfl)) (@af _ _ _ (@bR _ _ _ _ (@jR _ _ _ _ _ _ _ _ _ _ _ _ aaZ abd abe dD (pv 3) (@aa _ _ _ _ _ (@aM _ _ _ _ _ (@aa _ _ _ _ _ (pv 4) (@aa _ _ _ _ _ (pv 6) (@aa _ _ _ _ _ (pv 5) ac (by rfl)) (by rfl)) (by rfl))) ac (by rfl)) (by rfl) (by rfl) (by rfl) (by rfl) (by rfl)) (by rfl))) aB))) (by intro _;rfl)) (@af _ _ _ (@aq _ _ _ _ (pv 3))))),?_⟩;refine ⟨(by show 0≤sizeLine;decide),fun pj nj=>?_⟩;have g0:=Same.new nj (.lst []);have ej:upd H pj (.lst []) pj=some (.lst []):=ad;generalize upd H pj (.lst [])=H0 at g0 ej ⊢;refine ⟨_,rfl,q,v,rfl,PairIn.mono (Tups.of g0) hq,q0,q1,by lia,fun pc cs H1 g1 npc epc hcs=>?_⟩;have npj:pc≠pj:=fun z=>by rw [z,ej] at npc;cases npc
  have lcs:=hcs.length;have lcu:(a8 q).length≤20:=by simp [a8];lia
  have fl:∀ i,((a8 q).take i |>.filter fun c=>decide (jsc k ps q.1 c∈gs)).length≤20:=fun i=>by
    have:=List.length_filter_le (fun c=>decide (jsc k ps q.1 c∈gs)) ((a8 q).take i);rw [aas] at this;lia
  refine ⟨pc,rfl,⟨_,SqL.of epc⟩,dv (Trn.list (xs:=cs)) (fun i σ H'=>∃ c4 c5 c6 js,σ=[some (.ref p),some (.str (am gs)),some v,some (.ref pj),c4,c5,c6]∧But pj H1 H'∧H' pj=some (.lst js)∧Paired (JwIn H' k ps q) (((a8 q).take i).filter fun c=>decide (jsc k ps q.1 c∈gs)) js) ⟨_,_,_,[],rfl,But.refl,g1 _ _ ej,.nil⟩ (fun i σ H' hi z=>?_) (fun i x σ H2' H2 hi it z=>?_) (fun σ H' z=>?_)⟩
  · obtain ⟨_,_,_,_,rfl,S,_⟩:=z;exact SqL.of (S _ _ npj epc)
  · obtain ⟨c4,c5,c6,js,rfl,S,ejs,hjs⟩:=z;obtain ⟨rfl,hx⟩:=it;have TB:Tups H1 H2:=Tups.but S (g1 _ _ ej);obtain ⟨c,hc,b,x1,x2,rfl,eb,⟨a1,rfl,e1⟩,⟨a2,rfl,e2⟩⟩:=Paired.at hcs hx;have hcm:c∈a8 q:=aaw hc;unfold a8 at hcm;obtain ⟨m,hm,rfl⟩:=aaQ.mp hcm;have hm:=aaK.mp hm;have npp:p≠pj:=aH ep nj;have epH:H2 p=some (.lst us):=S _ _ npp (g1 _ _ (g0 _ _ ep));obtain ⟨o1,u1,ia1,eo1,_⟩:=nI hps (i:=q.1) q0 (by lia);obtain ⟨o2,u2,ia2,eo2,_⟩:=nI hps (i:=q.1+(m:Int)+1) (by lia) (by lia);have T0:Tups H H2:=(Tups.of (g0.trans g1)).trans TB;refine ⟨b,_,rfl,SqT.of (TB _ _ eb),rfl,_,_,rfl,_,_,rfl,rfl,?_⟩;refine ⟨_,rfl,_,rfl,a1,_,_,_,rfl,rfl,SqT.of (TB _ _ e1),rfl,p,_,_,_,rfl,rfl,SqL.of epH,ia1,o1,_,_,_,rfl,rfl,SqT.of (T0 _ _ eo1),rfl,?_⟩;refine ⟨_,rfl,_,rfl,a2,_,_,_,rfl,rfl,SqT.of (TB _ _ e2),rfl,p,_,_,_,rfl,rfl,SqL.of epH,ia2,o2,_,_,_,rfl,rfl,SqT.of (T0 _ _ eo2),rfl,k,_,_,rfl,?_⟩;have hh:(!(aaU (am gs) (jsc k ps q.1 (q.1+(m:Int))).str 0 (am gs).length 1).isEmpty)=decide (jsc k ps q.1 (q.1+(m:Int))∈gs):=gr g3 sp _;refine ⟨_,rfl,_,rfl,_,_,rfl,rfl,decide (jsc k ps q.1 (q.1+(m:Int))∈gs),congrArg V.bl hh,oH (fun cc=>?_) (fun cc=>?_)⟩
    · refine ⟨_,rfl,.inl ⟨rfl,_,SqL.of ejs⟩,_,rfl,_,rfl,_,rfl,(by show 3≤sizeLine;decide),fun t nt=>?_⟩;have st:=Same.new nt (.tup [.ref a1,.str (jsc k ps q.1 (q.1+(m:Int))).str,.ref a2]);have ljs:=aaH hjs;have f20:=fl i;refine ⟨pj,_,_,rfl,rfl,st _ _ ejs,aA (by lia),?_⟩;have nt':t≠pj:=fun z=>by rw [z,ejs] at nt;cases nt
      refine ⟨_,_,_,_,rfl,fun b o hb e=>?_,ad,?_⟩
      · rw [aF hb];exact st _ _ (S _ _ hb e)
      rw [p_ (p:=fun c=>decide (jsc k ps q.1 c∈gs)) hc cc];have TU:Tups H2 (upd (upd H2 t (.tup [.ref a1,.str (jsc k ps q.1 (q.1+(m:Int))).str,.ref a2])) pj (.lst (js++[.ref t]))):=fun b xs hb=>by
        rw [aF (fun z=>by rw [z,ejs] at hb;cases hb)];exact st _ _ hb
      refine Paired.snoc (Paired.imp' (fun _ _ z=>z.mono TU) hjs) ⟨t,_,_,rfl,?_,⟨a1,rfl,TU _ _ (TB _ _ e1)⟩,⟨a2,rfl,TU _ _ (TB _ _ e2)⟩⟩;rw [aF nt',ad];rfl
    · refine ⟨_,_,_,_,rfl,S,ejs,?_⟩;rw [rE (p:=fun c=>decide (jsc k ps q.1 c∈gs)) hc (by simpa using cc)];exact hjs
  · obtain ⟨c4,c5,c6,js,rfl,S,ejs,hjs⟩:=z;rw [← lcs,aaP] at hjs;exact ⟨_,rfl,qq pj js H' (fun b o e=>S _ _ (fun z=>by rw [z,nj] at e;cases e) (g1 _ _ (g0 _ _ e))) nj ejs hjs⟩
end
open PySem L2
theorem iq {gs:List Sg} {k:Bool}:∀ (n n':Nat) (hs:List Bool),1≤hs.length→hs.length≤n→hs.length≤n'→tc gs k n hs=tc gs k n' hs
  | 0,n',hs,h,h1,_=>by lia
  | n+1,0,hs,h,_,h2=>by lia
  | n+1,n'+1,hs,h,h1,h2=>by
    by_cases c:hs.length≤1
    · unfold tc;rw [if_pos c,if_pos c]
    · rw [gC c,gC c];congr 1;refine abN fun j hj=>?_;rw [aaK] at hj;unfold tcj;rw [iq n n' (hs.take (j+1)) (by rw [aas];lia) (by rw [aas];lia) (by rw [aas];lia),iq n n' (hs.drop (j+1)) (by rw [aaJ];lia) (by rw [aaJ];lia) (by rw [aaJ];lia)]
theorem oY:∀ {l:List Nat} {b:Nat},(∀ x∈l,x≤b)→l.sum≤l.length * b
  | [],_,_=>by simp
  | a :: l,b,h=>by
    have:=oY (l:=l) (b:=b) fun x hx=>h x (aaj _ hx);have:=h a aan;rw [aaS,aaL,Nat.succ_mul];lia
theorem kZ {gs:List Sg} {k:Bool}:∀ (n:Nat) (hs:List Bool),hs.length≤9→tc gs k n hs≤9 ^ (hs.length - 1)
  | 0,hs,_=>aaX _
  | n+1,hs,h9=>by
    by_cases c:hs.length≤1
    · unfold tc;rw [if_pos c];rw [show hs.length - 1=0 by lia];exact aac _
    · rw [gC c];have:=oY (l:=(aaF (hs.length - 1)).map (tcj gs k n hs)) (b:=9 ^ (hs.length - 2)) fun x hx=>by
        obtain ⟨j,hj,rfl⟩:=aaQ.mp hx;rw [aaK] at hj;unfold tcj;split
        · have a:=kZ (gs:=gs) (k:=k) n (hs.take (j+1)) (by rw [aas];lia);have b:=kZ (gs:=gs) (k:=k) n (hs.drop (j+1)) (by rw [aaJ];lia);rw [aas,Nat.min_eq_left (by lia)] at a;rw [aaJ] at b;refine aaN (abr a b) ?_;rw [← Nat.pow_add];exact Nat.le_of_eq (by congr 1;lia)
        · exact aaX _
      rw [aab,aa7] at this;refine aaN this ?_;rw [show hs.length - 1=(hs.length - 2)+1 by lia,Nat.pow_succ,Nat.mul_comm];exact Nat.mul_le_mul_left _ (by lia)
def seg (ps:List (Bool × Wy)) (q:Int × Int):List (Bool × Wy):=(ps.drop q.1.toNat).take (q.2 - q.1+1).toNat
theorem fe {ps:List (Bool × Wy)} {q:Int × Int} (h0:0≤q.1) (h1:q.1≤q.2) (h2:q.2 < ps.length):(seg ps q).length=(q.2 - q.1+1).toNat:=by
  unfold seg;rw [aas,aaJ];lia
theorem iO {ps:List (Bool × Wy)} {q:Int × Int} {m:Nat} (h0:0≤q.1) (h:q.1+(m:Int) < q.2):(seg ps q).take (m+1)=seg ps (q.1,q.1+(m:Int)):=by
  unfold seg;rw [List.take_take];congr 1;simp only;lia
theorem iP {ps:List (Bool × Wy)} {q:Int × Int} {m:Nat} (h0:0≤q.1) (h:q.1+(m:Int) < q.2):(seg ps q).drop (m+1)=seg ps (q.1+(m:Int)+1,q.2):=by
  unfold seg;rw [List.drop_take,List.drop_drop];congr 1
  · simp only;lia
  · congr 1;simp only;lia
theorem ki {ps:List (Bool × Wy)} {q:Int × Int} {m:Nat} (h0:0≤q.1) (h:q.1+(m:Int)≤q.2):hd (seg ps q) m=hd ps (q.1+(m:Int)).toNat:=by
  unfold hd seg;rw [aao,aao,aam,aam,abQ (by lia),List.getElem?_drop];congr 3;lia
def tv (gs:List Sg) (k:Bool) (n:Nat) (ps:List (Bool × Wy)) (q:Int × Int):Int:=((tc gs k (seg ps q).length (ar (seg ps q)) * ((seg ps q).map fun p=>ct gs n p.2).prod:Nat):Int)
theorem mo {gs:List Sg} {k:Bool} {n:Nat} {ps:List (Bool × Wy)} {q:Int × Int} (h0:0≤q.1) (h1:q.1=q.2) {p:Bool × Wy} (h2:ps[q.1.toNat]?=some p):tv gs k n ps q=(ct gs n p.2:Nat):=by
  have e:seg ps q=[p]:=by
    unfold seg;have hi:=(aaB.mp h2).1;rw [show (q.2 - q.1+1).toNat=1 by lia,abL hi,List.take_succ_cons,ab5,(aaB.mp h2).2]
  unfold tv;rw [e];simp [ar,tc]
theorem nq (c:Nat):∀ l:List Nat,(l.map fun x=>x * c).sum=l.sum * c
  | []=>by simp
  | a :: l=>by rw [aav,aaS,aaS,nq c l,Nat.add_mul]
theorem ma:∀ l:List Nat,((l.sum:Nat):Int)=(l.map fun (x:Nat)=>(x:Int)).sum
  | []=>rfl
  | a :: l=>by rw [aaS,aav,aaS,← ma l];simp
theorem mq {gs:List Sg} {k:Bool} {n:Nat} {ps:List (Bool × Wy)} {q:Int × Int} (h0:0≤q.1) (h1:q.1 < q.2) (h2:q.2 < ps.length):tv gs k n ps q=((jw gs k ps q).map fun c=>tv gs k n ps (q.1,c) * tv gs k n ps (c+1,q.2)).sum:=by
  have sl:=fe (ps:=ps) h0 (by lia) h2;have hl:(ar (seg ps q)).length=(seg ps q).length:=aab _;obtain ⟨m,hm⟩:∃ m,(seg ps q).length=m+1:=⟨(seg ps q).length - 1,by lia⟩
  have ej:jw gs k ps q=((aaF (q.2 - q.1).toNat).filter fun (j:Nat)=>decide (jsc k ps q.1 (q.1+(j:Int))∈gs)).map fun (j:Nat)=>q.1+(j:Int):=by
    unfold jw a8;rw [List.filter_map];rfl
  unfold tv;rw [ej,aba,hm,gC (by lia),← nq,ma,aba,hl,show (seg ps q).length - 1=(q.2 - q.1).toNat by lia];have key:∀ j∈aaF (q.2 - q.1).toNat,(((fun x:Nat=>(x:Int)) ∘ (fun x=>x * ((seg ps q).map fun p=>ct gs n p.2).prod)) ∘ tcj gs k m (ar (seg ps q))) j=if decide (jsc k ps q.1 (q.1+(j:Int))∈gs)=true then tv gs k n ps (q.1,q.1+(j:Int)) * tv gs k n ps (q.1+(j:Int)+1,q.2) else 0:=fun j hj=>by
    rw [aaK] at hj;show ((tcj gs k m (ar (seg ps q)) j * ((seg ps q).map fun p=>ct gs n p.2).prod:Nat):Int)=_;have e1:(ar (seg ps q)).take (j+1)=ar (seg ps (q.1,q.1+(j:Int))):=by unfold ar;rw [← abH,iO h0 (by lia)]
    have e2:(ar (seg ps q)).drop (j+1)=ar (seg ps (q.1+(j:Int)+1,q.2)):=by unfold ar;rw [← abG,iP h0 (by lia)]
    have es:jsg k ((ar (seg ps q)).getD 0 true) ((ar (seg ps q)).getD (j+1) true)=jsc k ps q.1 (q.1+(j:Int)):=by
      show jsg k (hd (seg ps q) 0) (hd (seg ps q) (j+1))=_;rw [ki h0 (by lia),ki h0 (by lia)];unfold jsc;congr 2 <;> lia
    have s1:=fe (ps:=ps) (q:=(q.1,q.1+(j:Int))) h0 (by simp only;lia) (by simp only;lia);have s2:=fe (ps:=ps) (q:=(q.1+(j:Int)+1,q.2)) (by simp only;lia) (by simp only;lia) h2;simp only at s1 s2;have l1:(ar (seg ps (q.1,q.1+(j:Int)))).length=(seg ps (q.1,q.1+(j:Int))).length:=aab _;have l2:(ar (seg ps (q.1+(j:Int)+1,q.2))).length=(seg ps (q.1+(j:Int)+1,q.2)).length:=aab _;unfold tcj;rw [es,e1,e2];by_cases c:jsc k ps q.1 (q.1+(j:Int))∈gs
    · rw [if_pos c,if_pos (decide_eq_true c),iq m (seg ps (q.1,q.1+(j:Int))).length _ (by lia) (by lia) (by lia),iq m (seg ps (q.1+(j:Int)+1,q.2)).length _ (by lia) (by lia) (by lia)];unfold tv;have ep:((seg ps q).map fun p=>ct gs n p.2).prod=((seg ps (q.1,q.1+(j:Int))).map fun p=>ct gs n p.2).prod * ((seg ps (q.1+(j:Int)+1,q.2)).map fun p=>ct gs n p.2).prod:=by
        rw [← iO h0 (show q.1+(j:Int) < q.2 by lia),← iP h0 (show q.1+(j:Int) < q.2 by lia),← List.prod_append,← aae,aaT]
      rw [ep,← Int.natCast_mul];congr 1;generalize tc gs k _ (ar (seg ps (q.1,q.1+(j:Int))))=A;generalize tc gs k _ (ar (seg ps (q.1+(j:Int)+1,q.2)))=B;rw [acf,acf];congr 1;rw [← acf,Nat.mul_comm B,acf]
    · rw [if_neg c,if_neg (fun z=>c (of_decide_eq_true z)),Nat.zero_mul];rfl
  rw [aba,abN key];clear key;generalize aaF (q.2 - q.1).toNat=l
  induction l with
  | nil=>rfl
  | cons a l ih =>
    rw [aav,aaS,ih,List.filter_cons];by_cases c:decide (jsc k ps q.1 (q.1+(a:Int))∈gs)=true
    · rw [if_pos c,if_pos c,aav,aaS];rfl
    · rw [if_neg c,if_neg c,Int.zero_add]
theorem iB {gs:List Sg} {n:Nat}:∀ {ps:List (Bool × Wy)},(∀ p∈ps,ct gs n p.2≤9 ^ (p.2.size - 1))→(ps.map fun p=>ct gs n p.2).prod≤9 ^ (szs ps - ps.length)
  | [],_=>by simp [szs]
  | p :: ps,h=>by
    have a:=h p aan;have b:=iB (gs:=gs) (n:=n) (ps:=ps) fun q hq=>h q (aaj _ hq);rw [aav,List.prod_cons];refine aaN (abr a b) ?_;rw [← Nat.pow_add];refine abu (by decide) ?_;have e:szs (p :: ps)=p.2.size+szs ps:=by simp [szs]
    have:=p.2.size_pos;have:=ba ps;rw [e,aaL];lia
theorem og {gs:List Sg}:∀ (n:Nat) (w:Wy),w.size≤9→ct gs n w≤9 ^ (w.size - 1)
  | 0,w,_=>Nat.one_le_pow _ _ (by decide)
  | n+1,.num i,_=>by simp [ct,Wy.size]
  | n+1,.node g l r,h9=>by
    have hz:=bo g.k true (.node g l r);have hl:=ba (lv g.k true (.node g l r));have h1:=bi g.k true (.node g l r);have a:=kZ (gs:=gs) (k:=g.k) (lv g.k true (.node g l r)).length (ar (lv g.k true (.node g l r))) (by unfold ar;rw [aab];lia);have b:=iB (gs:=gs) (n:=n) (ps:=lv g.k true (.node g l r)) fun p hp=>og n p.2 (by have:=bJ hp;lia);show tc gs g.k _ _ * _≤_;refine aaN (abr a b) ?_;rw [← Nat.pow_add];refine abu (by decide) ?_;unfold ar;rw [aab];lia
theorem qB (ps:List (Bool × Wy)) (q:Int × Int):szs (seg ps q)≤szs ps:=by
  have e:ps=ps.take q.1.toNat++((ps.drop q.1.toNat).take (q.2 - q.1+1).toNat++(ps.drop q.1.toNat).drop (q.2 - q.1+1).toNat):=by rw [aaT,aaT]
  have:=congrArg szs e;rw [fV,fV] at this;unfold seg;lia
theorem eu {gs:List Sg} {k:Bool} {n:Nat} {ps:List (Bool × Wy)} (h9:szs ps≤9) (q:Int × Int):0≤tv gs k n ps q∧(tv gs k n ps q).natAbs < 2 ^ 4000:=by
  have hs:=qB ps q;have hl:=ba (seg ps q);have a:=kZ (gs:=gs) (k:=k) (seg ps q).length (ar (seg ps q)) (by unfold ar;rw [aab];lia);have b:=iB (gs:=gs) (n:=n) (ps:=seg ps q) fun p hp=>og n p.2 (by have:=iu hp;have : 1≤(seg ps q).length:=List.length_pos_of_mem hp;lia);have c:=abr a b;rw [← Nat.pow_add] at c;have d:9 ^ ((ar (seg ps q)).length - 1+(szs (seg ps q) - (seg ps q).length))≤9 ^ 9:=abu (by decide) (by unfold ar;rw [aab];lia);unfold tv;refine ⟨Int.natCast_nonneg _,?_⟩;rw [Int.natAbs_natCast];exact abW (aaN c d) (by decide +kernel)
theorem kj {ps:List (Bool × Wy)} (h:1≤ps.length):seg ps (0,(ps.length:Int) - 1)=ps:=by
  unfold seg;show (ps.drop 0).take _=ps;rw [List.drop_zero,aaR (by simp only;lia)]
theorem rN {gs:List Sg} {n:Nat} {g:Sg} {l r:Wy}:tv gs g.k n (lv g.k true (.node g l r)) (0,((lv g.k true (.node g l r)).length:Int) - 1)=(ct gs (n+1) (.node g l r):Nat):=by
  unfold tv;rw [kj (bi _ _ _)];rfl
open PySem L2
theorem o9:∀ n,n≤9→(sfl n n).Pairwise (fun p q=>p.2 - p.1≤q.2 - q.1):=by decide +kernel
theorem dG {n i:Nat} (hn:n≤9) {p q:Int × Int} (hi:(sfl n n)[i]?=some p) (hq:0≤q.1∧q.1≤q.2∧q.2 < n) (hl:q.2 - q.1 < p.2 - p.1):q∈(sfl n n).take i:=by
  have hm:q∈sfl n n:=by
    have z:=ke n q.1.toNat q.2.toNat (by lia) (by lia);have e:((q.1.toNat:Int),(q.2.toNat:Int))=q:=by
      obtain ⟨a,b⟩:=q;simp only at *;rw [show (a.toNat:Int)=a by lia,show (b.toNat:Int)=b by lia]
    rw [e] at z;exact z
  obtain ⟨j,hj,e⟩:=List.getElem_of_mem hm;obtain ⟨hi1,hi2⟩:=aaB.mp hi;by_cases c:j < i
  · rw [List.mem_iff_getElem?];exact ⟨j,by rw [List.getElem?_take];rw [if_pos c,aaf hj,e]⟩
  · have hr:=List.pairwise_iff_getElem.mp (o9 n hn);by_cases c2:i=j
    · subst c2;rw [hi2] at e;rw [e] at hl;lia
    · have:=hr i j hi1 hj (by lia);rw [hi2,e] at this;lia
theorem iT {H H':Hp} {k:Bool} (t:Tups H H'):∀ {ps:List (Bool × Wy)} {us:List V},(∀ p∈ps,p.2.Bd)→Paired (PtR H k) ps us→Paired (PtR H' k) ps us
  | _,_,_,.nil=>.nil
  | _,_,h,.cons ⟨a,u,e,ea,d⟩ b=>.cons ⟨a,u,e,t _ _ ea,dA t _ _ (Wy.fm_ok _ (h _ aan)).d d⟩ (iT t (fun p hp=>h p (aaj _ hp)) b)
def CsT (gs:List Sg) (k:Bool) (n:Nat) (ps:List (Bool × Wy)) (kvs:List (List Key × V)) (qs:List (Int × Int)):Prop:=∀ q∈qs,bD kvs (ky q)=some (.int (tv gs k n ps q))
theorem CsT.put {gs:List Sg} {k:Bool} {n:Nat} {ps:List (Bool × Wy)} {kvs:List (List Key × V)} {qs:List (Int × Int)} {p:Int × Int} (h:CsT gs k n ps kvs qs):CsT gs k n ps (cX kvs (ky p) (.int (tv gs k n ps p))) (qs++[p]):=fun q hq=>by
  rw [eA];by_cases e:ky q=ky p
  · rw [if_pos e,mR e]
  · rw [if_neg e];rcases aat.mp hq with hq|hq
    · exact h q hq
    · exact absurd (by rw [aak.mp hq]) e
theorem jP (n:Nat):∀ p∈sfl n n,0≤p.1∧p.1≤p.2∧p.2 < n:=fun p hp=>by
  unfold sfl sfR at hp;rw [List.mem_flatMap] at hp;obtain ⟨m,hm,hp⟩:=hp;rw [List.mem_map] at hp;obtain ⟨f,hf,rfl⟩:=hp;rw [aaK] at hf;simp only;lia
section
variable {P:Program} {w:World} {K:aaa} {mg:Str→Option Value} {base:Heap} {f:Addr} {fd:FuncData}
def h_ (n:Nat):Sp:=fun vs H Q _=>∃ (w:Wy) (v:V) (gs:List Sg),vs=[v,.str (am gs)]∧Dat H w.fm.data v∧w.size≤n∧w.size≤9∧w.Bd∧gs.length≤3∧bC gs∧∀ H',Same H H'→Q (.int (ct gs n w:Nat)) H'
abbrev dn:Stmt:=top 44
theorem a9:FnScope ["form","signs","parts","twins","stretch","first","last","joints"] ["form","signs"] (ai dn):=⟨rfl,rfl,rfl,by decide +kernel,rfl,by decide +kernel,by decide +kernel⟩
theorem i7 (F:Fun K "count_twins" "count_twins" dn f fd) (bF:Binds K fd ["form","signs"] []) (mF:mg "count_twins" = some (.ref f)) (B:Bu K mg) (C_is_whole:Cal P w K mg base "is_whole" 1 ["thing"] (bE K)) (C_parts_of:Cal P w K mg base "parts_of" 1 ["form"] jO) (C_shorter_first:Cal P w K mg base "shorter_first" 1 ["many"] qE) (C_joints_within:Cal P w K mg base "joints_within" 2 ["parts","signs","stretch"] qG):∀ n,FnOk P w K mg base CX0 (n+3) f fd ["form","signs"] (h_ n):=by
  intro n
  induction n with
  | zero =>
    refine ⟨fun vs H Q E h=>?_,fun A outer s H args us vs Q E _ _ _ _ h=>?_⟩
    · obtain ⟨x,v,gs,rfl,_⟩:=h;rfl
    · obtain ⟨wy,v,gs,_,_,h0,_⟩:=h;have:=wy.size_pos;lia
  | succ n ih =>
    have C_count_twins:Cal P w K mg base "count_twins" (n+3) ["form","signs"] (h_ n):=⟨f,fd,ih,bF,F.kp,mF⟩
    refine F.ok a9 (fun vs H Q E h=>?_) (fun cdv A outer s H vs Q E hr h=>?_)
    · obtain ⟨x,v,gs,rfl,_⟩:=h;rfl
    obtain ⟨wy,v,gs,rfl,hd',hn,h9,hB,g3,sp,q⟩:=h;refine ⟨_,(@ae _ _ _ _ _ (@aL _ _ _ _ _ _ _ _ (@aQ _ _ _ (@ah _ _ _ _ _ _ _ _ _ _ _ C_is_whole hr (by lia) rfl (@aa _ _ _ _ _ (pv 0) ac (by rfl)) (by decide) (by rfl) (by rfl)) (by intro _;rfl)) (@af _ _ _ (@aq _ _ _ _ ag)) aB) (@ae _ _ _ _ _ (@aC _ _ (2) _ _ _ _ (a9).nd rfl (Or.inl rfl) (@ah _ _ _ _ _ _ _ _ _ _ _ C_parts_of hr (by lia) rfl (@aa _ _ _ _ _ (pv 0) ac (by rfl)) (by decide) (by rfl) (by rfl)) (by rfl) (by first|exact .inl rfl|exact .inr rfl|assumption)) (@ae _ _ _ _ _ (@aC _ _ (3) _ _ _ _ (a9).nd rfl (Or.inr rfl) lE (by rfl) (by first|exact .inl rfl|exact .inr rfl|assumption)) (@ae _ _ _ _ _ (@bV _ _ _ _ _ _ _ _ aaM rfl (@cz _ _ _ _ (@ah _ _ _ _ _ _ _ _ _ _ _ C_shorter_first hr (by lia) rfl (@aa _ _ _ _ _ (@ao _ _ _ _ _ _ _ _ _ az rfl B.ilen aaD (@aa _ _ _ _ _ (pv 2) ac (by rfl)) (by decide) (by decide) (by rfl) (by rfl)) ac (by rfl)) (by decide) (by rfl) (by rfl))) (@aj _ _ (4) _ (a9).nd rfl (Or.inl rfl) (.inl rfl)) (@ae _ _ _ _ _ (@bW _ _ _ _ _ _ (pv 4) (@bX _ _ _ _ _ _ rfl (@ap _ _ _ _ _ (@aj _ _ (5) _ (a9).nd rfl (Or.inl rfl) (.inl rfl)) (@ap _ _ _ _ _ (@aj _ _ (6) _ (a9).nd rfl (Or.inl rfl) (.inl rfl)) aU (by rfl)) (by rfl)) (by rfl) (by rfl)) (by rfl) (by rfl) (by rfl)) (@af _ _ _ (@aL _ _ _ _ _ _ _ _ (@av _ _ _ _ _ _ _ _ bn (pv 5) (pv 6) (aE _)) (@af _ _ _ (@ge _ _ _ _ _ _ _ _ _ (u1 hr.units) (pv 3) (pv 4) (@ah _ _ _ _ _ _ _ _ _ _ _ C_count_twins hr (by lia) rfl (@aa _ _ _ _ _ (@aG _ _ _ _ _ _ _ aX (@aG _ _ _ _ _ _ _ aJ (pv 2) (pv 5) (fun _ _=>rfl)) ag (fun _ _=>rfl)) (@aa _ _ _ _ _ (pv 1) ac (by rfl)) (by rfl)) (by decide) (by rfl) (by rfl)) rfl)) (@ae _ _ _ _ _ (@aC _ _ (7) _ _ _ _ (a9).nd rfl (Or.inl rfl) (@ah _ _ _ _ _ _ _ _ _ _ _ C_joints_within hr (by lia) rfl (@aa _ _ _ _ _ (pv 2) (@aa _ _ _ _ _ (pv 1) (@aa _ _ _ _ _ (pv 4) ac (by rfl)) (by rfl)) (by rfl)) (by decide) (by rfl) (by rfl)) (by rfl) (by first|exact .inl rfl|exact .inr rfl|assumption)) (@af _ _ _ (@ge _ _ _ _ _ _ _ _ _ (u1 hr.units) (pv 3) (pv 4) (@ao _ _ _ _ _ _ _ _ _ (@ji _ rfl) rfl B.isum acb (@aa _ _ _ _ _ (@cY _ _ _ _ _ _ _ _ (["before","sign","behind","twins"]) ([none,none,none,some 3]) _ _ _ _ rfl (@cz _ _ _ _ (pv 7)) rfl ⟨rfl,trivial⟩ ⟨⟨rfl,Or.inl rfl,Or.inl rfl⟩,trivial⟩ (fun _ _ _ _=>⟨(@dX _ _ _ _ _ _ (3) rfl rfl (@ap _ _ _ _ _ (@aj _ _ (0) _ (show aaO (["before","sign","behind","twins"]:List Str) by decide +kernel) rfl (Or.inl rfl) (.inr rfl)) (@ap _ _ _ _ _ (@aj _ _ (1) _ (show aaO (["before","sign","behind","twins"]:List Str) by decide +kernel) rfl (Or.inl rfl) (.inr rfl)) (@ap _ _ _ _ _ (@aj _ _ (2) _ (show aaO (["before","sign","behind","twins"]:List Str) by decide +kernel) rfl (Or.inl rfl) (.inr rfl)) aU (by rfl)) (by rfl)) (by rfl)) (by rfl) (by rfl)),aV,(@au _ _ _ _ _ _ _ _ iC (@bG _ _ _ _ _ _ (u1 hr.units) (pv 3) (pv 0) (fun _ _=>rfl)) (@bG _ _ _ _ _ _ (u1 hr.units) (pv 3) (pv 2) (fun _ _=>rfl)))⟩) (by rfl) (by rfl) (by rfl) (by rfl) (by intro _;rfl)) ac (by rfl)) (by decide) (by decide) (by rfl) (by rfl)) rfl)))))) (by intro _;rfl)) (@af _ _ _ (@aq _ _ _ _ (@bG _ _ _ _ _ _ (u1 hr.units) (pv 3) (@aM _ _ _ _ _ (@aa _ _ _ _ _ ag (@aa _ _ _ _ _ (@au _ _ _ _ _ _ _ _ bN (@ao _ _ _ _ _ _ _ _ _ az rfl B.ilen aaD (@aa _ _ _ _ _ (pv 2) ac (by rfl)) (by decide) (by decide) (by rfl) (by rfl)) ag) ac (by rfl)) (by rfl))) (fun _ _=>rfl)))))))),?_⟩;cases wy with
    | num i =>
      have e:v=.int i:=by simpa only [Wy.fm,Fm.data,Dat] using hd'
      subst e;exact ⟨_,rfl,_,"int",rfl,.int i,true,rfl,bj (q H (Same.refl _))⟩
    | node g l r =>
      obtain ⟨a,b,us,rfl,ea,eb,i1,i2⟩:=dg hd';refine ⟨_,rfl,_,"tuple",rfl,.tup ea,false,rfl,aR ?_⟩;refine ⟨_,rfl,g,l,r,_,rfl,hd',by lia,fun p us' H1 g1 np ep hp=>?_⟩;generalize hps:lv g.k true (.node g l r)=ps at hp;have zp:szs ps≤9:=by rw [← hps,bo];exact h9
      have lp:=aaH hp;have lps:=ba ps;have l1:1≤ps.length:=by rw [← hps];exact bi _ _ _
      have hBp:∀ p∈ps,p.2.Bd:=fun p hp=>by rw [← hps] at hp;exact jc hB hp
      have hless:∀ p∈ps,p.2.size < (Wy.node g l r).size:=fun p hp=>by rw [← hps] at hp;exact bJ hp
      refine fun pd nd=>?_;have sd:=Same.new nd (.dT []);have ed:upd H1 pd (.dT []) pd=some (.dT []):=ad;generalize upd H1 pd (.dT [])=H2 at sd ed ⊢;refine ⟨_,rfl,p,_,rfl,.inl (SqL.of (sd _ _ ep)),?_⟩;rw [← lp];refine ⟨ps.length,rfl,by lia,fun pl ss H3 s3 npl epl hss=>?_⟩;have lss:=hss.length;have l81:=kg ps.length ps.length;have l81':ps.length * ps.length≤9 * 9:=abr (by lia) (by lia);have npd:pl≠pd:=fun e=>by rw [e,ed] at npl;cases npl
      have nppd:p≠pd:=aH ep nd;have gd:=jP ps.length;have hN:ps.length≤9:=by lia
      refine ⟨pl,rfl,⟨_,SqL.of epl⟩,dv (Trn.list (xs:=ss)) (fun i σ H'=>∃ c4 c5 c6 c7 kvs,σ=[some (.ref a),some (.str (am gs)),some (.ref p),some (.ref pd),c4,c5,c6,c7]∧H' pd=some (.dT kvs)∧kvs.length≤i∧CsT gs g.k n ps kvs ((sfl ps.length ps.length).take i)∧But pd H3 H') ⟨_,_,_,_,[],rfl,s3 _ _ ed,aac _,fun q hq=>by simp at hq,But.refl⟩ (fun i σ H' hi z=>?_) (fun i x σ H4' H4 hi it z=>?_) (fun σ H' z=>?_)⟩
      · obtain ⟨_,_,_,_,_,rfl,_,_,_,bb⟩:=z;exact SqL.of (bb _ _ npd epl)
      · obtain ⟨c4,c5,c6,c7,kvs,rfl,ek,lk,hk',bb⟩:=z;obtain ⟨rfl,hx⟩:=it;obtain ⟨pq,hpi,hpx⟩:=lG hss hx;have hpm:=gd pq (aaw hpi);have TB:Tups H3 H4:=fun b xs hb=>bb b _ (fun e=>by rw [e,s3 _ _ ed] at hb;cases hb) hb;have hpx':=PairIn.mono TB hpx;have T1:Tups H1 H4:=(Tups.of (sd.trans s3)).trans TB;have ep4:H4 p=some (.lst us'):=bb _ _ nppd ((sd.trans s3) _ _ ep);have hp4:=iT T1 hBp hp;have etake:(sfl ps.length ps.length).take (i+1)=(sfl ps.length ps.length).take i++[pq]:=by rw [aaz,hpi];rfl
        have fin:∀ (H5:Hp),But pd H4 H5→H5 pd=some (.dT kvs)→∃ H6,DPut H5 pd x (.int (tv gs g.k n ps pq)) H6∧∃ kvs',H6 pd=some (.dT kvs')∧kvs'.length≤i+1∧CsT gs g.k n ps kvs' ((sfl ps.length ps.length).take (i+1))∧But pd H3 H6:=fun H5 b5 e5=>by
          have T5:Tups H4 H5:=fun b xs hb=>b5 b _ (fun e=>by rw [e,ek] at hb;cases hb) hb;obtain ⟨b,rfl,hb⟩:=PairIn.key (PairIn.mono T5 hpx');refine ⟨_,DPut.t (k:=ky pq) e5 hb (aA (by lia)),_,ad,?_,?_,?_⟩
          · have:=bB kvs (ky pq) (.int (tv gs g.k n ps pq));lia
          · rw [etake];exact hk'.put
          · exact (bb.trans b5).trans But.put
        have hpx0:=hpx';obtain ⟨ax,rfl,hax⟩:=hpx';refine ⟨_,rfl,ax,_,rfl,SqT.of hax,rfl,_,_,rfl,_,_,rfl,rfl,?_⟩;refine ⟨_,rfl,_,rfl,rfl,_,rfl,oH (fun ce=>?_) (fun ce=>?_)⟩
        · have ce:V.int pq.1=V.int pq.2:=of_decide_eq_true ce;injection ce with ce
          obtain ⟨o,u,ia,eo,pp,hpp,du⟩:=nI hp4 (i:=pq.1) hpm.1 (by lia);have pm:=aaw hpp;have hls:=hless pp pm;refine ⟨_,rfl,_,rfl,p,_,_,_,rfl,rfl,SqL.of ep4,ia,o,_,_,_,rfl,rfl,SqT.of eo,rfl,_,rfl,pp.2,u,gs,rfl,du,by lia,by lia,hBp pp pm,g3,sp,fun H5 g5=>?_⟩;obtain ⟨H6,d6,kvs',w6⟩:=fin H5 (But.of g5) (g5 _ _ ek);rw [mo hpm.1 ce hpp] at d6;exact ⟨_,rfl,_,rfl,pd,H6,rfl,d6,_,_,_,_,kvs',rfl,w6⟩
        · have ce:pq.1≠pq.2:=fun z=>ce (by rw [z];exact decide_eq_true rfl);refine ⟨_,rfl,_,rfl,_,rfl,p,us',gs,g.k,ps,pq,_,rfl,ep4,hp4,by lia,g3,sp,hpx0,hpm.1,hpm.2.1,hpm.2.2,fun pj js H5 g5 npj epj hjs=>?_⟩;have ek5:=g5 _ _ ek;have ljs:=aaH hjs;have lw:(jw gs g.k ps pq).length≤20:=by
            have:=List.length_filter_le (fun c=>decide (jsc g.k ps pq.1 c∈gs)) (a8 pq);have : (a8 pq).length≤9:=by simp [a8];lia
            unfold jw;lia
          refine ⟨_,rfl,pj,rfl,⟨_,SqL.of epj⟩,?_⟩;refine fz (Trn.list (xs:=js)) (fun j ys H6=>H6=H5∧ys=(((jw gs g.k ps pq).take j).map fun c=>tv gs g.k n ps (pq.1,c) * tv gs g.k n ps (c+1,pq.2)).map V.int) ⟨rfl,rfl⟩ (fun j ys H6 hj z=>by obtain ⟨rfl,rfl⟩:=z;exact ⟨SqL.of epj,aA (by rw [aab,aab,aas];lia)⟩) (fun j y ys H0' H6 hj hy z Nx nx=>?_) (fun ys H6 z p5 n5=>?_)
          · obtain ⟨rfl,hy⟩:=hy;obtain ⟨rfl,rfl⟩:=z;obtain ⟨c,hc,o,y1,y2,rfl,eo,hy1,hy2⟩:=Paired.at hjs hy;have hcm:c∈a8 pq:=(ach.mp (aaw hc)).1;unfold a8 at hcm;obtain ⟨m,hm,rfl⟩:=aaQ.mp hcm;have hm:=aaK.mp hm;have m1:=dG (q:=(pq.1,pq.1+(m:Int))) hN hpi (by simp only;lia) (by simp only;lia);have m2:=dG (q:=(pq.1+(m:Int)+1,pq.2)) hN hpi (by simp only;lia) (by simp only;lia);obtain ⟨b1,rfl,hb1⟩:=PairIn.key hy1;obtain ⟨b2,rfl,hb2⟩:=PairIn.key hy2;refine ⟨o,_,rfl,SqT.of eo,rfl,_,_,rfl,_,_,rfl,_,_,rfl,rfl,?_⟩;refine ⟨_,rfl,_,rfl,pd,.int (tv gs g.k n ps (pq.1,pq.1+(m:Int))),rfl,by rw [← hk' _ m1];exact DGet.t (k:=ky (pq.1,pq.1+(m:Int))) ek5 hb1,_,rfl,_,rfl,pd,.int (tv gs g.k n ps (pq.1+(m:Int)+1,pq.2)),rfl,by rw [← hk' _ m2];exact DGet.t (k:=ky (pq.1+(m:Int)+1,pq.2)) ek5 hb2,_,_,rfl,rfl,⟨(eu zp _).2,(eu zp _).2⟩,nx _ _ ⟨rfl,?_⟩⟩;rw [aaz,hc,aae,aae];rfl
          obtain ⟨rfl,rfl⟩:=z;rw [← ljs,aaP] at *;have s5:=Same.new n5 (.lst (((jw gs g.k ps pq).map fun c=>tv gs g.k n ps (pq.1,c) * tv gs g.k n ps (c+1,pq.2)).map V.int));refine ⟨p5,_,rfl,SqL.of ad,?_⟩;obtain ⟨H7,d7,kvs',w7⟩:=fin _ ((But.of g5).trans (But.of s5)) (s5 _ _ ek5);rw [mq hpm.1 (by lia) hpm.2.2] at d7;exact ⟨_,rfl,_,rfl,pd,H7,rfl,d7,_,_,_,_,kvs',rfl,w7⟩
      · obtain ⟨c4,c5,c6,c7,kvs,rfl,ek,lk,hk',bb⟩:=z;rw [← lss,aaP] at hk';have hm:=ke ps.length 0 (ps.length - 1) (by lia) (by lia);have hv:=hk' _ hm;have epH:H' p=some (.lst us'):=bb _ _ nppd ((sd.trans s3) _ _ ep);refine ⟨_,rfl,_,rfl,p,_,rfl,.inl (SqL.of epH),_,_,rfl,rfl,(by show 2≤sizeLine;decide),fun t ht=>?_⟩;rw [← lp] at *;have st:=Same.new ht (.tup [.int 0,.int ((ps.length:Int) - 1)]);have ek2:=st _ _ ek;have ey:(((0:Nat):Int),((ps.length - 1:Nat):Int))=(0,(ps.length:Int) - 1):=by congr 1;lia
        rw [ey] at hv;refine ⟨pd,.int (tv gs g.k n ps (0,(ps.length:Int) - 1)),rfl,by rw [← hv];exact DGet.t (k:=ky (0,(ps.length:Int) - 1)) ek2 ad,?_⟩;have et:tv gs g.k n ps (0,(ps.length:Int) - 1)=(ct gs (n+1) (.node g l r):Nat):=by rw [← hps];exact rN
        rw [et];exact q _ (fun b o hb=>st _ _ (bb b o (fun z=>by rw [z,g1.free nd] at hb;cases hb) ((sd.trans s3) _ _ (g1 _ _ hb))))
end
open PySem L2
theorem iE {gs:List Sg} {k:Bool}:∀ (n n':Nat) (ps:List (Bool × Wy)),1≤ps.length→ps.length≤n→ps.length≤n'→ft gs k n ps=ft gs k n' ps
  | 0,n',ps,h,h1,_=>by lia
  | n+1,0,ps,h,_,h2=>by lia
  | n+1,n'+1,ps,h,h1,h2=>by
    unfold ft;by_cases c:ps.length≤1
    · rw [if_pos c,if_pos c]
    · rw [if_neg c,if_neg c];have key:∀ j∈aaF (ps.length - 1),e7 gs k (ft gs k n) ps j=e7 gs k (ft gs k n') ps j:=fun j hj=>by
        rw [aaK] at hj;unfold e7;rw [iE n n' (ps.take (j+1)) (by rw [aas];lia) (by rw [aas];lia) (by rw [aas];lia),iE n n' (ps.drop (j+1)) (by rw [aaJ];lia) (by rw [aaJ];lia) (by rw [aaJ];lia)]
      revert key;generalize aaF (ps.length - 1)=l;intro key
      induction l with
      | nil=>rfl
      | cons a l ih =>
        rw [aaY,aaY,key a aan,ih fun j hj=>key j (aaj _ hj)]
def fwp (gs:List Sg) (n:Nat) (ps:List (Bool × Wy)):List (Bool × Wy):=ps.map fun p=>(p.1,fw gs n p.2)
def fv (gs:List Sg) (k:Bool) (n:Nat) (ps:List (Bool × Wy)) (q:Int × Int):Option Wy:=ft gs k (seg ps q).length (fwp gs n (seg ps q))
theorem mU {gs:List Sg} {k:Bool} {n:Nat} {ps:List (Bool × Wy)} {q:Int × Int} (h0:0≤q.1) (h1:q.1=q.2) {p:Bool × Wy} (h2:ps[q.1.toNat]?=some p):fv gs k n ps q=some (fw gs n p.2):=by
  have e:seg ps q=[p]:=by
    unfold seg;have hi:=(aaB.mp h2).1;rw [show (q.2 - q.1+1).toNat=1 by lia,abL hi,List.take_succ_cons,ab5,(aaB.mp h2).2]
  unfold fv;rw [e];rfl
def jf (gs:List Sg) (k:Bool) (n:Nat) (ps:List (Bool × Wy)) (q:Int × Int) (c:Int):Option Wy:=(fv gs k n ps (q.1,c)).bind fun l=>(fv gs k n ps (c+1,q.2)).map fun r=>.node (jsc k ps q.1 c) l r
theorem pV {gs:List Sg} {n:Nat} {ps:List (Bool × Wy)} (i:Nat):hd (fwp gs n ps) i=hd ps i:=by
  unfold hd fwp;rw [aba];rfl
theorem ie {α β:Type} (P:α→Bool) (f g:α→Option β):∀ {l:List α},(∀ a∈l,f a=if P a=true then g a else none)→l.findSome? f=(l.filter P).findSome? g
  | [],_=>rfl
  | a :: l,h=>by
    rw [aaY,List.filter_cons,h a aan,ie P f g fun b hb=>h b (aaj _ hb)];cases P a with
    | true=>rw [if_pos rfl,if_pos rfl,aaY]
    | false=>rfl
theorem mV {gs:List Sg} {k:Bool} {n:Nat} {ps:List (Bool × Wy)} {q:Int × Int} (h0:0≤q.1) (h1:q.1 < q.2) (h2:q.2 < ps.length):fv gs k n ps q=(jw gs k ps q).findSome? (jf gs k n ps q):=by
  have sl:=fe (ps:=ps) h0 (by lia) h2;have hl:(fwp gs n (seg ps q)).length=(seg ps q).length:=aab _;obtain ⟨m,hm⟩:∃ m,(seg ps q).length=m+1:=⟨(seg ps q).length - 1,by lia⟩
  have ej:jw gs k ps q=((aaF (q.2 - q.1).toNat).filter fun (j:Nat)=>decide (jsc k ps q.1 (q.1+(j:Int))∈gs)).map fun (j:Nat)=>q.1+(j:Int):=by
    unfold jw a8;rw [List.filter_map];rfl
  rw [ej,List.findSome?_map];unfold fv;rw [hm];show (if (fwp gs n (seg ps q)).length≤1 then _ else _)=_;rw [if_neg (by lia),hl,show (seg ps q).length - 1=(q.2 - q.1).toNat by lia];refine ie _ _ _ fun j hj=>?_;rw [aaK] at hj;have e1:(fwp gs n (seg ps q)).take (j+1)=fwp gs n (seg ps (q.1,q.1+(j:Int))):=by unfold fwp;rw [← abH,iO h0 (by lia)]
  have e2:(fwp gs n (seg ps q)).drop (j+1)=fwp gs n (seg ps (q.1+(j:Int)+1,q.2)):=by unfold fwp;rw [← abG,iP h0 (by lia)]
  have es:jsg k (hd (fwp gs n (seg ps q)) 0) (hd (fwp gs n (seg ps q)) (j+1))=jsc k ps q.1 (q.1+(j:Int)):=by
    rw [pV,pV,ki h0 (by lia),ki h0 (by lia)];unfold jsc;congr 2 <;> lia
  have s1:=fe (ps:=ps) (q:=(q.1,q.1+(j:Int))) h0 (by simp only;lia) (by simp only;lia);have s2:=fe (ps:=ps) (q:=(q.1+(j:Int)+1,q.2)) (by simp only;lia) (by simp only;lia) h2;simp only at s1 s2;have l1:(fwp gs n (seg ps (q.1,q.1+(j:Int)))).length=(seg ps (q.1,q.1+(j:Int))).length:=aab _;have l2:(fwp gs n (seg ps (q.1+(j:Int)+1,q.2))).length=(seg ps (q.1+(j:Int)+1,q.2)).length:=aab _;unfold e7;rw [es,e1,e2];by_cases c:jsc k ps q.1 (q.1+(j:Int))∈gs
  · rw [if_pos c,if_pos (decide_eq_true c),iE m (seg ps (q.1,q.1+(j:Int))).length _ (by lia) (by lia) (by lia),iE m (seg ps (q.1+(j:Int)+1,q.2)).length _ (by lia) (by lia) (by lia)];rfl
  · rw [if_neg c,if_neg (fun z=>c (of_decide_eq_true z))]
theorem pW {gs:List Sg} (hs:gs.length≤3) {n:Nat} {g:Sg} {l r:Wy} (hn:(Wy.node g l r).size≤n+1) (h9:(Wy.node g l r).size≤9) (hw:(Wy.node g l r).within gs):fv gs g.k n (lv g.k true (.node g l r)) (0,((lv g.k true (.node g l r)).length:Int) - 1)=some (fw gs (n+1) (.node g l r)):=by
  unfold fv;rw [kj (bi _ _ _)];exact (nZ hs h9 hw fun p hp=>l5 hs n p.2 (by have:=bJ hp;lia) (by have:=bJ hp;lia) (bI _ _ _ hw p hp)).1
open PySem L2
def OwIn (H:Hp) (o:Option Wy) (v:V):Prop:=(o=none∧v=.non)∨∃ w,o=some w∧WyIn H w v
theorem OwIn.mono {H H':Hp} (t:Tups H H') {o:Option Wy} {v:V}:OwIn H o v→OwIn H' o v
  | .inl h=>.inl h
  | .inr ⟨w,e,h⟩=>.inr ⟨w,e,h.mono t⟩
theorem WyIn.ne_non {H:Hp}:∀ {w:Wy} {v:V},WyIn H w v→v≠.non
  | .num _,_,h=>by cases h;exact fun e=>by cases e
  | .node _ _ _,_,h=>by obtain ⟨a,x,y,rfl,_⟩:=h;exact fun e=>by cases e
theorem qZ {c:Bool} {A B:Prop} (h:c=true) (a:A):if c=true then A else B:=by rw [if_pos h];exact a
def FsT (H:Hp) (gs:List Sg) (k:Bool) (n:Nat) (ps:List (Bool × Wy)) (kvs:List (List Key × V)) (qs:List (Int × Int)):Prop:=∀ q∈qs,∃ v,bD kvs (ky q)=some v∧OwIn H (fv gs k n ps q) v
theorem FsT.mono {H H':Hp} (t:Tups H H') {gs:List Sg} {k:Bool} {n:Nat} {ps:List (Bool × Wy)} {kvs:List (List Key × V)} {qs:List (Int × Int)} (h:FsT H gs k n ps kvs qs):FsT H' gs k n ps kvs qs:=fun q hq=>by
  obtain ⟨v,e,o⟩:=h q hq;exact ⟨v,e,o.mono t⟩
theorem FsT.put {H:Hp} {gs:List Sg} {k:Bool} {n:Nat} {ps:List (Bool × Wy)} {kvs:List (List Key × V)} {qs:List (Int × Int)} {p:Int × Int} {v:V} (h:FsT H gs k n ps kvs qs) (o:OwIn H (fv gs k n ps p) v):FsT H gs k n ps (cX kvs (ky p) v) (qs++[p]):=fun q hq=>by
  rw [eA];by_cases e:ky q=ky p
  · rw [if_pos e,mR e];exact ⟨v,rfl,o⟩
  · rw [if_neg e];rcases aat.mp hq with hq|hq
    · exact h q hq
    · exact absurd (by rw [aak.mp hq]) e
section
variable {P:Program} {w:World} {K:aaa} {mg:Str→Option Value} {base:Heap} {f:Addr} {fd:FuncData}
def rZ:Sp:=fun vs H Q _=>∃ (pd pj:Addr) (kvs:List (List Key × V)) (js:List V) (gs:List Sg) (k:Bool) (n:Nat) (ps:List (Bool × Wy)) (q:Int × Int) (qs:List (Int × Int)),vs=[.ref pd,.ref pj]∧H pd=some (.dT kvs)∧H pj=some (.lst js)∧FsT H gs k n ps kvs qs∧Paired (JwIn H k ps q) (jw gs k ps q) js∧(∀ c∈a8 q,(q.1,c)∈qs∧(c+1,q.2)∈qs)∧∀ v H',Same H H'→OwIn H' ((jw gs k ps q).findSome? (jf gs k n ps q)) v→Q v H'
abbrev dN:Stmt:=top 43
theorem cy:FnScope ["firsts","joints","before","sign","behind"] ["firsts","joints"] (ai dN):=⟨rfl,rfl,rfl,by decide +kernel,rfl,by decide +kernel,by decide +kernel⟩
theorem jx (F:Fun K "join_first" "join_first" dN f fd) (B:Bu K mg):FnOk P w K mg base CX0 1 f fd ["firsts","joints"] rZ:=by
  refine F.ok cy (fun vs H Q E h=>?_) (fun cdv A outer s H vs Q E hr h=>?_)
  · obtain ⟨pd,pj,kvs,js,gs,k,n,ps,q,qs,rfl,_⟩:=h;rfl
  obtain ⟨pd,pj,kvs,js,gs,k,n,ps,q,qs,rfl,ed,ej,hf,hj,hc,fin⟩:=h;refine ⟨_,(@ae _ _ _ _ _ (@bV _ _ _ _ _ _ _ _ aaM rfl (@cz _ _ _ _ (pv 1)) (@bX _ _ _ _ _ _ rfl (@ap _ _ _ _ _ (@aj _ _ (2) _ (cy).nd rfl (Or.inl rfl) (.inl rfl)) (@ap _ _ _ _ _ (@aj _ _ (3) _ (cy).nd rfl (Or.inl rfl) (.inl rfl)) (@ap _ _ _ _ _ (@aj _ _ (4) _ (cy).nd rfl (Or.inl rfl) (.inl rfl)) aU (by rfl)) (by rfl)) (by rfl)) (by rfl) (by rfl)) (@af _ _ _ (@aL _ _ _ _ _ _ _ _ (@PW.pt _ _ _ (@cV _ _ _ _ _ _ _ (@av _ _ _ _ _ _ _ _ nJ (@bG _ _ _ _ _ _ (u1 hr.units) (pv 0) (pv 2) (fun _ _=>rfl)) ku (aE _)) (@df _ _ _ _ (@av _ _ _ _ _ _ _ _ nJ (@bG _ _ _ _ _ _ (u1 hr.units) (pv 0) (pv 4) (fun _ _=>rfl)) ku (aE _))))) (@af _ _ _ (@aq _ _ _ _ (@aM _ _ _ _ _ (@aa _ _ _ _ _ (pv 3) (@aa _ _ _ _ _ (@bG _ _ _ _ _ _ (u1 hr.units) (pv 0) (pv 2) (fun _ _=>rfl)) (@aa _ _ _ _ _ (@bG _ _ _ _ _ _ (u1 hr.units) (pv 0) (pv 4) (fun _ _=>rfl)) ac (by rfl)) (by rfl)) (by rfl))))) aB)) (by intro _;rfl)) (@af _ _ _ (@aq _ _ _ _ ku))),?_⟩;have lj:=hj.length;refine ⟨_,rfl,pj,rfl,⟨_,SqL.of ej⟩,dv (Trn.list (xs:=js)) (fun i σ H'=>∃ c2 c3 c4,σ=[some (.ref pd),some (.ref pj),c2,c3,c4]∧H'=H∧((jw gs k ps q).take i).findSome? (jf gs k n ps q)=none) ⟨_,_,_,rfl,rfl,rfl⟩ (fun i σ H' hi z=>?_) (fun i x σ H2' H2 hi it z=>?_) (fun σ H' z=>?_)⟩
  · obtain ⟨_,_,_,rfl,rfl,_⟩:=z;exact SqL.of ej
  · obtain ⟨c2,c3,c4,rfl,rfl,hn⟩:=z;obtain ⟨rfl,hx⟩:=it;obtain ⟨c,hci,o,y1,y2,rfl,eo,hy1,hy2⟩:=Paired.at hj hx;have hcm:c∈a8 q:=(ach.mp (aaw hci)).1;obtain ⟨m1,m2⟩:=hc c hcm;obtain ⟨v1,e1,o1⟩:=hf _ m1;obtain ⟨v2,e2,o2⟩:=hf _ m2;obtain ⟨b1,rfl,hb1⟩:=PairIn.key hy1;obtain ⟨b2,rfl,hb2⟩:=PairIn.key hy2;have et:(jw gs k ps q).take (i+1)=(jw gs k ps q).take i++[c]:=by rw [aaz,hci];rfl
    have ef:((jw gs k ps q).take (i+1)).findSome? (jf gs k n ps q)=jf gs k n ps q c:=by
      rw [et,abm,hn,aaY];cases jf gs k n ps q c <;> rfl
    refine ⟨o,_,rfl,SqT.of eo,rfl,_,_,rfl,_,_,rfl,_,_,rfl,rfl,?_⟩;have g1:DGet H2 pd (.ref b1) (some v1):=by rw [← e1];exact DGet.t (k:=ky (q.1,c)) ed hb1
    have g2:DGet H2 pd (.ref b2) (some v2):=by rw [← e2];exact DGet.t (k:=ky (c+1,q.2)) ed hb2
    refine ⟨_,rfl,_,rfl,pd,v1,rfl,g1,rfl,_,rfl,?_⟩;rcases o1 with ⟨f1,rfl⟩|⟨w1,f1,i1⟩
    · exact aR (aR ⟨_,_,_,rfl,rfl,by rw [ef];unfold jf;rw [f1];rfl⟩)
    refine qZ (by rw [decide_eq_false (WyIn.ne_non i1)];rfl) ?_;refine ⟨_,rfl,_,rfl,pd,v2,rfl,g2,rfl,_,rfl,?_⟩;rcases o2 with ⟨f2,rfl⟩|⟨w2,f2,i2⟩
    · exact aR ⟨_,_,_,rfl,rfl,by rw [ef];unfold jf;rw [f1,f2];rfl⟩
    refine qZ (by rw [decide_eq_false (WyIn.ne_non i2)];rfl) ?_;refine ⟨_,rfl,_,rfl,_,rfl,pd,v1,rfl,g1,_,rfl,_,rfl,pd,v2,rfl,g2,(by show 3≤sizeLine;decide),fun t ht=>?_⟩;have st:=Same.new ht (.tup [.str (jsc k ps q.1 c).str,v1,v2]);have ej:jf gs k n ps q c=some (.node (jsc k ps q.1 c) w1 w2):=by unfold jf;rw [f1,f2];rfl
    have eall:(jw gs k ps q).findSome? (jf gs k n ps q)=some (.node (jsc k ps q.1 c) w1 w2):=by
      rw [← aaT (i+1) (jw gs k ps q),abm,ef,ej];rfl
    exact fin _ _ st (.inr ⟨_,eall,t,v1,v2,rfl,ad,i1.mono (Tups.of st),i2.mono (Tups.of st)⟩)
  · obtain ⟨c2,c3,c4,rfl,rfl,hn⟩:=z;rw [← lj,aaP] at hn;exact fin _ _ (Same.refl _) (.inl ⟨hn,rfl⟩)
def jj (n:Nat):Sp:=fun vs H Q _=>∃ (w:Wy) (v:V) (gs:List Sg),vs=[v,.str (am gs)]∧Dat H w.fm.data v∧w.size≤n∧w.size≤9∧w.Bd∧gs.length≤3∧bC gs∧w.within gs∧∀ x H',Same H H'→WyIn H' (fw gs n w) x→Q x H'
abbrev dO:Stmt:=top 42
theorem bv:FnScope ["form","signs","parts","firsts","stretch","first","last"] ["form","signs"] (ai dO):=⟨rfl,rfl,rfl,by decide +kernel,rfl,by decide +kernel,by decide +kernel⟩
theorem jy (F:Fun K "find_first" "find_first" dO f fd) (bF:Binds K fd ["form","signs"] []) (mF:mg "find_first" = some (.ref f)) (B:Bu K mg) (C_is_whole:Cal P w K mg base "is_whole" 1 ["thing"] (bE K)) (C_parts_of:Cal P w K mg base "parts_of" 1 ["form"] jO) (C_shorter_first:Cal P w K mg base "shorter_first" 1 ["many"] qE) (C_joints_within:Cal P w K mg base "joints_within" 2 ["parts","signs","stretch"] qG) (C_join_first:Cal P w K mg base "join_first" 1 ["firsts","joints"] rZ):∀ n,FnOk P w K mg base CX0 (n+3) f fd ["form","signs"] (jj n):=by
  intro n
  induction n with
  | zero =>
    refine ⟨fun vs H Q E h=>?_,fun A outer s H args us vs Q E _ _ _ _ h=>?_⟩
    · obtain ⟨x,v,gs,rfl,_⟩:=h;rfl
    · obtain ⟨wy,v,gs,_,_,h0,_⟩:=h;have:=wy.size_pos;lia
  | succ n ih =>
    have C_find_first:Cal P w K mg base "find_first" (n+3) ["form","signs"] (jj n):=⟨f,fd,ih,bF,F.kp,mF⟩
    refine F.ok bv (fun vs H Q E h=>?_) (fun cdv A outer s H vs Q E hr h=>?_)
    · obtain ⟨x,v,gs,rfl,_⟩:=h;rfl
    obtain ⟨wy,v,gs,rfl,hd',hn,h9,hB,g3,sp,hw,q⟩:=h;refine ⟨_,(@ae _ _ _ _ _ (@aL _ _ _ _ _ _ _ _ (@aQ _ _ _ (@ah _ _ _ _ _ _ _ _ _ _ _ C_is_whole hr (by lia) rfl (@aa _ _ _ _ _ (pv 0) ac (by rfl)) (by decide) (by rfl) (by rfl)) (by intro _;rfl)) (@af _ _ _ (@aq _ _ _ _ (pv 0))) aB) (@ae _ _ _ _ _ (@aC _ _ (2) _ _ _ _ (bv).nd rfl (Or.inl rfl) (@ah _ _ _ _ _ _ _ _ _ _ _ C_parts_of hr (by lia) rfl (@aa _ _ _ _ _ (pv 0) ac (by rfl)) (by decide) (by rfl) (by rfl)) (by rfl) (by first|exact .inl rfl|exact .inr rfl|assumption)) (@ae _ _ _ _ _ (@aC _ _ (3) _ _ _ _ (bv).nd rfl (Or.inl rfl) lE (by rfl) (by first|exact .inl rfl|exact .inr rfl|assumption)) (@ae _ _ _ _ _ (@bV _ _ _ _ _ _ _ _ aaM rfl (@cz _ _ _ _ (@ah _ _ _ _ _ _ _ _ _ _ _ C_shorter_first hr (by lia) rfl (@aa _ _ _ _ _ (@ao _ _ _ _ _ _ _ _ _ az rfl B.ilen aaD (@aa _ _ _ _ _ (pv 2) ac (by rfl)) (by decide) (by decide) (by rfl) (by rfl)) ac (by rfl)) (by decide) (by rfl) (by rfl))) (@aj _ _ (4) _ (bv).nd rfl (Or.inl rfl) (.inl rfl)) (@ae _ _ _ _ _ (@bW _ _ _ _ _ _ (pv 4) (@bX _ _ _ _ _ _ rfl (@ap _ _ _ _ _ (@aj _ _ (5) _ (bv).nd rfl (Or.inl rfl) (.inl rfl)) (@ap _ _ _ _ _ (@aj _ _ (6) _ (bv).nd rfl (Or.inl rfl) (.inl rfl)) aU (by rfl)) (by rfl)) (by rfl) (by rfl)) (by rfl) (by rfl) (by rfl)) (@af _ _ _ (@aL _ _ _ _ _ _ _ _ (@av _ _ _ _ _ _ _ _ bn (pv 5) (pv 6) (aE _)) (@af _ _ _ (@ge _ _ _ _ _ _ _ _ _ (u1 hr.units) (pv 3) (pv 4) (@ah _ _ _ _ _ _ _ _ _ _ _ C_find_first hr (by lia) rfl (@aa _ _ _ _ _ (@aG _ _ _ _ _ _ _ aX (@aG _ _ _ _ _ _ _ aJ (pv 2) (pv 5) (fun _ _=>rfl)) ag (fun _ _=>rfl)) (@aa _ _ _ _ _ (pv 1) ac (by rfl)) (by rfl)) (by decide) (by rfl) (by rfl)) rfl)) (@af _ _ _ (@ge _ _ _ _ _ _ _ _ _ (u1 hr.units) (pv 3) (pv 4) (@ah _ _ _ _ _ _ _ _ _ _ _ C_join_first hr (by lia) rfl (@aa _ _ _ _ _ (pv 3) (@aa _ _ _ _ _ (@ah _ _ _ _ _ _ _ _ _ _ _ C_joints_within hr (by lia) rfl (@aa _ _ _ _ _ (pv 2) (@aa _ _ _ _ _ (pv 1) (@aa _ _ _ _ _ (pv 4) ac (by rfl)) (by rfl)) (by rfl)) (by decide) (by rfl) (by rfl)) ac (by rfl)) (by rfl)) (by decide) (by rfl) (by rfl)) rfl))))) (by intro _;rfl)) (@af _ _ _ (@aq _ _ _ _ (@bG _ _ _ _ _ _ (u1 hr.units) (pv 3) (@aM _ _ _ _ _ (@aa _ _ _ _ _ ag (@aa _ _ _ _ _ (@au _ _ _ _ _ _ _ _ bN (@ao _ _ _ _ _ _ _ _ _ az rfl B.ilen aaD (@aa _ _ _ _ _ (pv 2) ac (by rfl)) (by decide) (by decide) (by rfl) (by rfl)) ag) ac (by rfl)) (by rfl))) (fun _ _=>rfl)))))))),?_⟩;cases wy with
    | num i =>
      have e:v=.int i:=by simpa only [Wy.fm,Fm.data,Dat] using hd'
      subst e;exact ⟨_,rfl,_,"int",rfl,.int i,true,rfl,bj ⟨_,rfl,q _ H (Same.refl _) rfl⟩⟩
    | node g l r =>
      obtain ⟨a,b,us,rfl,ea,eb,i1,i2⟩:=dg hd';refine ⟨_,rfl,_,"tuple",rfl,.tup ea,false,rfl,aR ?_⟩;refine ⟨_,rfl,g,l,r,_,rfl,hd',by lia,fun p us' H1 g1 np ep hp=>?_⟩;generalize hps:lv g.k true (.node g l r)=ps at hp;have zp:szs ps≤9:=by rw [← hps,bo];exact h9
      have lp:=aaH hp;have lps:=ba ps;have l1:1≤ps.length:=by rw [← hps];exact bi _ _ _
      have hBp:∀ p∈ps,p.2.Bd:=fun p hp=>by rw [← hps] at hp;exact jc hB hp
      have hwp:∀ p∈ps,p.2.within gs:=fun p hp=>by rw [← hps] at hp;exact bI _ _ _ hw p hp
      have hless:∀ p∈ps,p.2.size < (Wy.node g l r).size:=fun p hp=>by rw [← hps] at hp;exact bJ hp
      refine fun pd nd=>?_;have sd:=Same.new nd (.dT []);have ed:upd H1 pd (.dT []) pd=some (.dT []):=ad;generalize upd H1 pd (.dT [])=H2 at sd ed ⊢;refine ⟨_,rfl,p,_,rfl,.inl (SqL.of (sd _ _ ep)),?_⟩;rw [← lp];refine ⟨ps.length,rfl,by lia,fun pl ss H3 s3 npl epl hss=>?_⟩;have lss:=hss.length;have l81:=kg ps.length ps.length;have l81':ps.length * ps.length≤9 * 9:=abr (by lia) (by lia);have npd:pl≠pd:=fun e=>by rw [e,ed] at npl;cases npl
      have nppd:p≠pd:=aH ep nd;have gd:=jP ps.length;have hN:ps.length≤9:=by lia
      refine ⟨pl,rfl,⟨_,SqL.of epl⟩,dv (Trn.list (xs:=ss)) (fun i σ H'=>∃ c4 c5 c6 kvs,σ=[some (.ref a),some (.str (am gs)),some (.ref p),some (.ref pd),c4,c5,c6]∧H' pd=some (.dT kvs)∧kvs.length≤i∧FsT H' gs g.k n ps kvs ((sfl ps.length ps.length).take i)∧But pd H3 H') ⟨_,_,_,[],rfl,s3 _ _ ed,aac _,fun q hq=>by simp at hq,But.refl⟩ (fun i σ H' hi z=>?_) (fun i x σ H4' H4 hi it z=>?_) (fun σ H' z=>?_)⟩
      · obtain ⟨_,_,_,_,rfl,_,_,_,bb⟩:=z;exact SqL.of (bb _ _ npd epl)
      · obtain ⟨c4,c5,c6,kvs,rfl,ek,lk,hk',bb⟩:=z;obtain ⟨rfl,hx⟩:=it;obtain ⟨pq,hpi,hpx⟩:=lG hss hx;have hpm:=gd pq (aaw hpi);have TB:Tups H3 H4:=fun b xs hb=>bb b _ (fun e=>by rw [e,s3 _ _ ed] at hb;cases hb) hb;have hpx':=PairIn.mono TB hpx;have T1:Tups H1 H4:=(Tups.of (sd.trans s3)).trans TB;have ep4:H4 p=some (.lst us'):=bb _ _ nppd ((sd.trans s3) _ _ ep);have hp4:=iT T1 hBp hp;have etake:(sfl ps.length ps.length).take (i+1)=(sfl ps.length ps.length).take i++[pq]:=by rw [aaz,hpi];rfl
        have fin:∀ (H5:Hp) (u:V),Same H4 H5→OwIn H5 (fv gs g.k n ps pq) u→∃ H6,DPut H5 pd x u H6∧∃ kvs',H6 pd=some (.dT kvs')∧kvs'.length≤i+1∧FsT H6 gs g.k n ps kvs' ((sfl ps.length ps.length).take (i+1))∧But pd H3 H6:=fun H5 u g5 ou=>by
          have e5:=g5 _ _ ek;obtain ⟨b,rfl,hb⟩:=PairIn.key (PairIn.mono (Tups.of g5) hpx');have b6:But pd H5 (upd H5 pd (.dT (cX kvs (ky pq) u))):=But.put;have t6:Tups H5 (upd H5 pd (.dT (cX kvs (ky pq) u))):=fun b xs hb=>b6 b _ (fun e=>by rw [e,e5] at hb;cases hb) hb;refine ⟨_,DPut.t (k:=ky pq) e5 hb (aA (by lia)),_,ad,?_,?_,?_⟩
          · have:=bB kvs (ky pq) u;lia
          · rw [etake];exact ((hk'.mono (Tups.of g5)).mono t6).put (ou.mono t6)
          · exact (bb.trans (But.of g5)).trans b6
        have hpx0:=hpx';obtain ⟨ax,rfl,hax⟩:=hpx';refine ⟨_,rfl,ax,_,rfl,SqT.of hax,rfl,_,_,rfl,_,_,rfl,rfl,?_⟩;refine ⟨_,rfl,_,rfl,rfl,_,rfl,oH (fun ce=>?_) (fun ce=>?_)⟩
        · have ce:V.int pq.1=V.int pq.2:=of_decide_eq_true ce;injection ce with ce
          obtain ⟨o,u,ia,eo,pp,hpp,du⟩:=nI hp4 (i:=pq.1) hpm.1 (by lia);have pm:=aaw hpp;have hls:=hless pp pm;refine ⟨_,rfl,_,rfl,p,_,_,_,rfl,rfl,SqL.of ep4,ia,o,_,_,_,rfl,rfl,SqT.of eo,rfl,_,rfl,pp.2,u,gs,rfl,du,by lia,by lia,hBp pp pm,g3,sp,hwp pp pm,fun y H5 g5 hy=>?_⟩;obtain ⟨H6,d6,kvs',w6⟩:=fin H5 y g5 (.inr ⟨_,mU hpm.1 ce hpp,hy⟩);exact ⟨_,rfl,_,rfl,pd,H6,rfl,d6,_,_,_,kvs',rfl,w6⟩
        · have ce:pq.1≠pq.2:=fun z=>ce (by rw [z];exact decide_eq_true rfl);refine ⟨_,rfl,_,rfl,_,rfl,_,rfl,p,us',gs,g.k,ps,pq,_,rfl,ep4,hp4,by lia,g3,sp,hpx0,hpm.1,hpm.2.1,hpm.2.2,fun pj js H5 g5 npj epj hjs=>?_⟩;have ek5:=g5 _ _ ek;refine ⟨pd,pj,kvs,js,gs,g.k,n,ps,pq,(sfl ps.length ps.length).take i,rfl,ek5,epj,hk'.mono (Tups.of g5),hjs,fun c hcm=>?_,fun y H6 g6 hy=>?_⟩
          · unfold a8 at hcm;obtain ⟨m,hm,rfl⟩:=aaQ.mp hcm;have hm:=aaK.mp hm;exact ⟨dG (q:=(pq.1,pq.1+(m:Int))) hN hpi (by simp only;lia) (by simp only;lia),dG (q:=(pq.1+(m:Int)+1,pq.2)) hN hpi (by simp only;lia) (by simp only;lia)⟩
          · rw [← mV hpm.1 (by lia) hpm.2.2] at hy;obtain ⟨H7,d7,kvs',w7⟩:=fin H6 y (g5.trans g6) hy;exact ⟨_,rfl,_,rfl,pd,H7,rfl,d7,_,_,_,kvs',rfl,w7⟩
      · obtain ⟨c4,c5,c6,kvs,rfl,ek,lk,hk',bb⟩:=z;rw [← lss,aaP] at hk';have hm:=ke ps.length 0 (ps.length - 1) (by lia) (by lia);have ey:(((0:Nat):Int),((ps.length - 1:Nat):Int))=(0,(ps.length:Int) - 1):=by congr 1;lia
        rw [ey] at hm;obtain ⟨u,hv,ou⟩:=hk' _ hm;have epH:H' p=some (.lst us'):=bb _ _ nppd ((sd.trans s3) _ _ ep);refine ⟨_,rfl,_,rfl,p,_,rfl,.inl (SqL.of epH),_,_,rfl,rfl,(by show 2≤sizeLine;decide),fun t ht=>?_⟩;rw [← lp] at *;have st:=Same.new ht (.tup [.int 0,.int ((ps.length:Int) - 1)]);have ek2:=st _ _ ek;refine ⟨pd,u,rfl,by rw [← hv];exact DGet.t (k:=ky (0,(ps.length:Int) - 1)) ek2 ad,?_⟩;have ef:fv gs g.k n ps (0,(ps.length:Int) - 1)=some (fw gs (n+1) (.node g l r)):=by rw [← hps];exact pW g3 hn h9 hw
        rcases ou with ⟨e,_⟩|⟨w',e,iw⟩
        · rw [ef] at e;cases e
        · rw [ef] at e;cases e;exact q _ _ (fun b o hb=>st _ _ (bb b o (fun z=>by rw [z,g1.free nd] at hb;cases hb) ((sd.trans s3) _ _ (g1 _ _ hb)))) (iw.mono (Tups.of st))
end
open PySem L2
def kS:Bool→Str
  | true=>"times"
  | false=>"sum"
theorem jE {c:Bool} {A B:Prop} (h1:c=true→A) (h2:c=false→B):if c=true then A else B:=by
  cases c with
  | true=>exact h1 rfl
  | false=>exact h2 rfl
def t_ (k:Bool) (place:Nat) (signs:Str):Str :=
  match k with
  | true=>if cw signs "*" = true then "*" else ""
  | false=>if place=0 then "+" else if place=1∨cw signs "-" = false then Txt.replace signs "*" "" else "+-"
theorem jb {k b:Bool} {w:Wy} {p:Bool × Wy} (h:(lv k b w)[0]?=some p):p.1=b:=by
  obtain ⟨u,t,e⟩:=cI k b w;rw [e] at h;cases h;rfl
theorem hV {gs:List Sg}:∀ (w:Wy) (b:Bool) (p:Bool × Wy),w.within gs→(lv false b w)[1]?=some p→(p.1=b∧Sg.plus∈gs)∨(p.1=!b∧Sg.minus∈gs)
  | .num i,b,p,_,h=>by cases h
  | .node .times l r,b,p,_,h=>by cases h
  | .node .plus l r,b,p,hw,h=>by
    have e:lv false b (.node .plus l r)=lv false b l++lv false b r:=rfl;rw [e] at h;by_cases c:1 < (lv false b l).length
    · rw [abq c] at h;exact hV l b p hw.2.1 h
    · have:=bi false b l;rw [abJ (by lia),show 1 - (lv false b l).length=0 by lia] at h;exact .inl ⟨jb h,hw.1⟩
  | .node .minus l r,b,p,hw,h=>by
    have e:lv false b (.node .minus l r)=lv false b l++lv false (!b) r:=rfl;rw [e] at h;by_cases c:1 < (lv false b l).length
    · rw [abq c] at h;exact hV l b p hw.2.1 h
    · have:=bi false b l;rw [abJ (by lia),show 1 - (lv false b l).length=0 by lia] at h;exact .inr ⟨jb h,hw.1⟩
theorem kH {gs:List Sg} (hm:Sg.minus∉gs):∀ (w:Wy) (b:Bool),w.within gs→∀ p∈lv false b w,p.1=b
  | .num i,b,_,p,h=>by cases aak.mp (show p∈[(b,Wy.num i)] from h);rfl
  | .node .times l r,b,_,p,h=>by cases aak.mp (show p∈[(b,Wy.node .times l r)] from h);rfl
  | .node .plus l r,b,hw,p,h=>by
    have h:p∈lv false b l++lv false b r:=h;rcases aat.mp h with h|h
    · exact kH hm l b hw.2.1 p h
    · exact kH hm r b hw.2.2 p h
  | .node .minus l r,b,hw,p,h=>absurd hw.1 hm
theorem nG {gs:List Sg} (g3:gs.length≤3) (sp:bC gs) (b:Bool) (h:(if b=true then Sg.plus else Sg.minus)∈gs):cw (Txt.replace (am gs) "*" "") (sgB b)=true:=by
  rcases iI gs g3 sp with rfl|rfl|rfl|rfl|rfl|rfl|rfl <;> cases b <;> first|decide +kernel|exact absurd h (by decide)
theorem rf {gs:List Sg} (g3:gs.length≤3) (sp:bC gs) {g:Sg} {l r:Wy} (hw:(Wy.node g l r).within gs) {i:Nat} {p:Bool × Wy} (h:(lv g.k true (.node g l r))[i]?=some p):cw (t_ g.k i (am gs)) (hk g.k p.1)=true:=by
  cases ek:g.k with
  | true =>
    have eg:g=.times:=by cases g <;> first|rfl|cases ek
    subst eg;show cw (if cw (am gs) "*" = true then "*" else "") "*" = true;rw [show cw (am gs) "*" = true from (gr g3 sp .times).trans (decide_eq_true hw.1),if_pos rfl];decide +kernel
  | false =>
    rw [ek] at h;show cw (if i=0 then "+" else if i=1∨cw (am gs) "-" = false then Txt.replace (am gs) "*" "" else "+-") (sgB p.1)=true;by_cases h0:i=0
    · subst h0;rw [if_pos rfl,jb h];decide +kernel
    rw [if_neg h0];have mi:cw (am gs) "-" = decide (Sg.minus∈gs):=gr g3 sp .minus;by_cases h1:i=1
    · subst h1;rw [if_pos (.inl rfl)];refine nG g3 sp _ ?_;rcases hV _ _ _ hw h with ⟨e,hh⟩|⟨e,hh⟩ <;> rw [e] <;> exact hh
    by_cases hm:Sg.minus∈gs
    · rw [if_neg (by rw [mi,decide_eq_true hm];simp [h1])];cases p.1 <;> decide +kernel
    · rw [if_pos (.inr (by rw [mi,decide_eq_false hm]))];refine nG g3 sp _ ?_;rw [kH hm _ _ hw p (aaw h)];have : g=.plus:=by
        cases g with
        | plus=>rfl
        | minus=>exact absurd hw.1 hm
        | times=>cases ek
      rw [← this];exact hw.1
section
variable {P:Program} {w:World} {K:aaa} {mg:Str→Option Value} {base:Heap} {f:Addr} {fd:FuncData}
def o5:Sp:=fun vs H Q _=>∃ (k:Bool) (place:Nat) (signs:Str),vs=[.str (kS k),.int place,.str signs]∧signs.length≤1000∧Q (.str (t_ k place signs)) H
abbrev fN:Stmt:=top 39
theorem lx:FnScope ["kind","place","signs"] ["kind","place","signs"] (ai fN):=⟨rfl,rfl,rfl,by decide +kernel,rfl,by decide +kernel,by decide +kernel⟩
theorem lQ (F:Fun K "heads_at" "heads_at" fN f fd):FnOk P w K mg base CX0 1 f fd ["kind","place","signs"] o5:=by
  refine F.ok lx (fun vs H Q E h=>?_) (fun cdv A outer s H vs Q E hr h=>?_)
  · obtain ⟨a,g,b,rfl,_⟩:=h;rfl
  obtain ⟨k,place,signs,rfl,hs,q⟩:=h;refine ⟨_,(@ae _ _ _ _ _ (@aL _ _ _ _ _ _ _ _ (@av _ _ _ _ _ _ _ _ bn (pv 0) ay (aE _)) (@af _ _ _ (@aq _ _ _ _ (@eV _ _ _ _ _ _ _ _ (@av _ _ _ _ _ _ _ _ cL ay (pv 2) (by with_unfolding_all rfl)) ay ay))) aB) (@ae _ _ _ _ _ (@aL _ _ _ _ _ _ _ _ (@av _ _ _ _ _ _ _ _ bn (pv 1) ag (aE _)) (@af _ _ _ (@aq _ _ _ _ ay)) aB) (@ae _ _ _ _ _ (@sh _ _ _ _ _ _ _ _ (Tk.or (Tk.cmp Tk.constI (aE _))) (@PW.pt _ _ _ (@eR _ _ _ _ _ _ _ (@av _ _ _ _ _ _ _ _ bn (pv 1) ag (aE _)) (@eQ _ _ _ _ (@av _ _ _ _ _ _ _ _ kw ay (pv 2) (by with_unfolding_all rfl))))) (@pi _ _ _ _ (@pB _ _ _ _ _ _ _ _ _ _ _ (pv 2) rfl (by decide) (by rfl) (by rfl))) aB) (@af _ _ _ (@aq _ _ _ _ ay))))),?_⟩;cases k with
  | true =>
    refine ⟨_,rfl,rfl,_,rfl,e8 rfl ⟨_,rfl,_,_,rfl,rfl,_,rfl,?_⟩⟩;have q':Q (.str (if cw signs "*" = true then "*" else "")) H:=q;refine jE (fun e=>?_) (fun e=>?_)
    · rw [if_pos (show cw signs "*" = true from e)] at q';exact q'
    · rw [if_neg (show ¬ cw signs "*" = true by rw [show cw signs "*" = false from e];decide)] at q';exact q'
  | false =>
    refine ⟨_,rfl,rfl,_,rfl,dE (by decide +kernel) ⟨_,rfl,rfl,_,rfl,?_⟩⟩;have q':Q (.str (if place=0 then "+" else if place=1∨cw signs "-" = false then Txt.replace signs "*" "" else "+-")) H:=q;by_cases h0:place=0
    · subst h0;rw [if_pos rfl] at q';exact e8 rfl q'
    · rw [if_neg h0] at q';refine dE (fun z=>h0 (by cases z;rfl)) ⟨_,rfl,rfl,_,rfl,?_⟩;by_cases h1:place=1
      · subst h1;rw [if_pos (.inl rfl)] at q';exact e8 rfl (bj ⟨_,rfl,signs,rfl,hs,q'⟩)
      · refine dE (fun z=>h1 (by cases z;rfl)) ⟨_,rfl,_,_,rfl,rfl,_,rfl,?_⟩;refine jE (fun e=>?_) (fun e=>?_)
        · have e':cw signs "-" = false:=by
            have : (!cw signs "-")=true:=e;simpa using this
          rw [if_pos (.inr e')] at q';exact ⟨_,rfl,signs,rfl,hs,q'⟩
        · have e':cw signs "-" = true:=by
            have : (!cw signs "-")=false:=e;simpa using this
          rw [if_neg (by rw [e'];simp [h1])] at q';exact q'
end
open PySem L2
theorem Trn.enum {K:aaa} {a:Addr} {xs:List V}:Trn (sX K a) xs.length (fun H=>SqL K H a xs) (fun i x H H'=>∃ p y,H p=none∧x=.ref p∧H'=upd H p (.tup [.int i,y])∧xs[i]?=some y) :=
  ⟨fun i H hi q=>⟨xs,xs[i],q,by simp [hi]⟩,fun H q=>⟨xs,q,aac _⟩,fun i H x H' hi q y=>by
    obtain ⟨p,z,n,e1,e2,e3⟩:=y;exact ⟨p,z,n,e1,e2,e3 xs q⟩⟩
theorem oX {ps:List (Bool × Wy)}:∀ {p:Bool × Wy},p∈ps→p.2.size+ps.length≤szs ps+1:=by
  induction ps with
  | nil=>intro p h;cases h
  | cons a t ih =>
    intro p h;have:=a.2.size_pos;have e:szs (a :: t)=a.2.size+szs t:=by simp [szs]
    rw [e,aaL];rcases aaC.mp h with rfl|h
    · have:=ba t;lia
    · have:=ih h;lia
theorem t9 (k b:Bool):sM (hk k b)=true:=by cases k <;> cases b <;> decide +kernel
theorem tS {k k':Bool} (h:k'≠k):inV (.str (kS k')) [.str (kS (!k))]=true:=by
  cases k <;> cases k' <;> first|exact absurd rfl h|decide +kernel
theorem my {gs:List Sg} (g3:gs.length≤3):(am gs).length≤1000:=by
  rw [cf];lia
theorem tV {A T:Hp→Prop} {G:Prop} (mn:(∀ H1,A H1→T H1)→G) (tt:∀ H1,A H1→T H1):G:=mn tt
theorem tW {c:Bool} {A B:Prop} (h:c=false) (b:B):if c=true then A else B:=by rw [if_neg (by rw [h];decide)];exact b
structure Cw (P:Program) (w:World) (K:aaa) (mg:Str→Option Value) (aK aW:Addr):Prop where
  gKINDS:mg "KINDS" = some (.ref aK)
  sKINDS:∀ H,SqT K H aK [.str "sum",.str "times"]
  gWITHIN:mg "WITHIN" = some (.ref aW)
  dWITHIN:KD P w K aW [(.inr "sum",.str "times"),(.inr "times",.str "sum")]
section
variable {P:Program} {w:World} {K:aaa} {mg:Str→Option Value} {base:Heap} {f:Addr} {fd:FuncData}
def qH (K:aaa) (n:Nat):Sp:=fun vs H Q _=>∃ (wy:Wy) (v:V) (ak:Addr) (ks:List V) (gs:List Sg) (room:Nat),vs=[v,.ref ak,.str (am gs),.int room]∧Dat H wy.fm.data v∧SqT K H ak ks∧ks.all dh=true∧(∀ g l r,wy=.node g l r→inV (.str (kS g.k)) ks=true)∧wy.size≤n∧wy.size≤room∧room≤9∧wy.Bd∧gs.length≤3∧bC gs∧wy.within gs∧∀ H',Same H H'→Q (.bl true) H'
abbrev gN:Stmt:=top 38
theorem dH:FnScope ["thing","kinds","signs","room","kind","parts","room_within"] ["thing","kinds","signs","room"] (ai gN):=⟨rfl,rfl,rfl,by decide +kernel,rfl,by decide +kernel,by decide +kernel⟩
theorem mJ {aK aW:Addr} (F:Fun K "is_form" "is_form" gN f fd) (bF:Binds K fd ["thing","kinds","signs","room"] []) (mF:mg "is_form" = some (.ref f)) (B:Bu K mg) (B4:Cw P w K mg aK aW) (C_is_whole:Cal P w K mg base "is_whole" 1 ["thing"] (bE K)) (C_parts_of:Cal P w K mg base "parts_of" 1 ["form"] jO) (C_is_sign:Cal P w K mg base "is_sign" 1 ["thing"] j4) (C_heads_at:Cal P w K mg base "heads_at" 1 ["kind","place","signs"] o5):∀ n,FnOk P w K mg base CX0 (n+2) f fd ["thing","kinds","signs","room"] (qH K n):=by
  intro n
  induction n with
  | zero =>
    refine ⟨fun vs H Q E h=>?_,fun A outer s H args us vs Q E _ _ _ _ h=>?_⟩
    · obtain ⟨wy,v,ak,ks,gs,room,rfl,_⟩:=h;rfl
    · obtain ⟨wy,v,ak,ks,gs,room,_,_,_,_,_,h0,_⟩:=h;have:=wy.size_pos;lia
  | succ n ih =>
    have C_is_form:Cal P w K mg base "is_form" (n+2) ["thing","kinds","signs","room"] (qH K n):=⟨f,fd,ih,bF,F.kp,mF⟩
    refine F.ok dH (fun vs H Q E h=>?_) (fun cdv A outer s H vs Q E hr h=>?_)
    · obtain ⟨wy,v,ak,ks,gs,room,rfl,_⟩:=h;rfl
    obtain ⟨wy,v,ak,ks,gs,room,rfl,hd',hks,hfl,hin,hn,hroom,h9,hB,g3,sp,hw,q⟩:=h;refine ⟨_,(@ae _ _ _ _ _ (@aL _ _ _ _ _ _ _ _ (@aQ _ _ _ (@ah _ _ _ _ _ _ _ _ _ _ _ C_is_whole hr (by lia) rfl (@aa _ _ _ _ _ (pv 0) ac (by rfl)) (by decide) (by rfl) (by rfl)) (by intro _;rfl)) (@af _ _ _ (@aq _ _ _ _ fq)) aB) (@ae _ _ _ _ _ (@aL _ _ _ _ _ _ _ _ (@PW.pt _ _ _ (@eR _ _ _ _ _ _ _ (@bM _ _ _ _ (@aQ _ _ _ (@ao _ _ _ _ _ _ _ _ _ (@aI _ ("tuple")) rfl B.iisinstance aal (@aa _ _ _ _ _ (pv 0) (@aa _ _ _ _ _ (@bh _ _ (.ty "tuple") _ _ rfl B.ituple aaI rfl (by decide) (by decide)) ac (by rfl)) (by rfl)) (by decide) (by decide) (by rfl) (by rfl)) (by intro _;rfl))) (@eQ _ _ _ _ (@av _ _ _ _ _ _ _ _ iW (@ao _ _ _ _ _ _ _ _ _ az rfl B.ilen aaD (@aa _ _ _ _ _ (pv 0) ac (by rfl)) (by decide) (by decide) (by rfl) (by rfl)) ag (aE _))))) (@af _ _ _ (@aq _ _ _ _ fq)) aB) (@ae _ _ _ _ _ (@bW _ _ _ _ _ _ (pv 0) (@bX _ _ _ _ _ _ rfl (@ap _ _ _ _ _ (@aj _ _ (4) _ (dH).nd rfl (Or.inr rfl) (.inl rfl)) (@ap _ _ _ _ _ (@aj _ _ (5) _ (dH).nd rfl (Or.inl rfl) (.inl rfl)) aU (by rfl)) (by rfl)) (by rfl) (by rfl)) (by rfl) (by rfl) (by rfl)) (@ae _ _ _ _ _ (@aL _ _ _ _ _ _ _ _ (@PW.pt _ _ _ (@eR _ _ _ _ _ _ _ (@bM _ _ _ _ (@aQ _ _ _ (@ao _ _ _ _ _ _ _ _ _ (@aI _ ("str")) rfl B.iisinstance aal (@aa _ _ _ _ _ (pv 4) (@aa _ _ _ _ _ (@bh _ _ (.ty "str") _ _ rfl B.istr aca rfl (by decide) (by decide)) ac (by rfl)) (by rfl)) (by decide) (by decide) (by rfl) (by rfl)) (by intro _;rfl))) (@eR _ _ _ _ _ _ _ (@av _ _ _ _ _ _ _ _ kx (pv 4) (pv 1) (by with_unfolding_all rfl)) (@eR _ _ _ _ _ _ _ (@bM _ _ _ _ (@aQ _ _ _ (@ao _ _ _ _ _ _ _ _ _ (@aI _ ("tuple")) rfl B.iisinstance aal (@aa _ _ _ _ _ (pv 5) (@aa _ _ _ _ _ (@bh _ _ (.ty "tuple") _ _ rfl B.ituple aaI rfl (by decide) (by decide)) ac (by rfl)) (by rfl)) (by decide) (by decide) (by rfl) (by rfl)) (by intro _;rfl))) (@eQ _ _ _ _ (@bM _ _ _ _ (@lB _ _ _ _ _ _ _ _ _ _ _ _ lH lH ag (@ao _ _ _ _ _ _ _ _ _ az rfl B.ilen aaD (@aa _ _ _ _ _ (pv 5) ac (by rfl)) (by decide) (by decide) (by rfl) (by rfl)) (pv 3) (by with_unfolding_all rfl)))))))) (@af _ _ _ (@aq _ _ _ _ fq)) aB) (@ae _ _ _ _ _ (@aL _ _ _ _ _ _ _ _ (@PW.pt _ _ _ (@cV _ _ _ _ _ _ _ (@av _ _ _ _ _ _ _ _ bn (pv 4) ay (aE _)) (@df _ _ _ _ (@bM _ _ _ _ (@aQ _ _ _ (@ao _ _ _ _ _ _ _ _ _ (@gz _ rfl) rfl B.iall abE (@aa _ _ _ _ _ (@cY _ _ _ _ _ _ _ _ (["part"]) ([none]) _ _ _ _ rfl (@gU _ _ _ _ (pv 5)) rfl trivial trivial (fun _ _ _ _=>⟨(@aj _ _ (0) _ (show aaO (["part"]:List Str) by decide +kernel) rfl (Or.inl rfl) (.inr rfl)),aV,(@fQ _ _ _ _ _ _ _ (@ao _ _ _ _ _ _ _ _ _ (@kQ _ _ ("tuple") rfl) rfl B.iisinstance aal (@aa _ _ _ _ _ (pv 0) (@aa _ _ _ _ _ (@bh _ _ (.ty "tuple") _ _ rfl B.ituple aaI rfl (by decide) (by decide)) ac (by rfl)) (by rfl)) (by decide) (by decide) (by rfl) (by rfl)) (@gX _ _ _ _ _ (@bY _ _ _ _ _ _ _ _ bn (@ao _ _ _ _ _ _ _ _ _ (@jH _ _ rfl) rfl B.ilen aaD (@aa _ _ _ _ _ (pv 0) ac (by rfl)) (by decide) (by decide) (by rfl) (by rfl)) ag (aE _))))⟩) (by rfl) (by rfl) (by rfl) (by rfl) (by intro _;rfl)) ac (by rfl)) (by decide) (by decide) (by rfl) (by rfl)) (by intro _;rfl)))))) (@af _ _ _ (@aq _ _ _ _ fq)) aB) (@ae _ _ _ _ _ (@aC _ _ (6) _ _ _ _ (dH).nd rfl (Or.inr rfl) (@au _ _ _ _ _ _ _ _ a_ (@au _ _ _ _ _ _ _ _ bN (pv 3) (@ao _ _ _ _ _ _ _ _ _ az rfl B.ilen aaD (@aa _ _ _ _ _ (pv 5) ac (by rfl)) (by decide) (by decide) (by rfl) (by rfl))) ag) (by rfl) (by first|exact .inl rfl|exact .inr rfl|assumption)) (@af _ _ _ (@aq _ _ _ _ (@ao _ _ _ _ _ _ _ _ _ (@gz _ rfl) rfl B.iall abE (@aa _ _ _ _ _ (@cY _ _ _ _ _ _ _ _ (["place","head","part","signs","room_within","kind"]) ([none,none,none,some 2,some 6,some 4]) _ _ _ _ rfl (@qO _ _ _ _ _ _ _ _ rfl B.ienumerate (@aa _ _ _ _ _ (@ah _ _ _ _ _ _ _ _ _ _ _ C_parts_of hr (by lia) rfl (@aa _ _ _ _ _ (pv 0) ac (by rfl)) (by decide) (by rfl) (by rfl)) ac (by rfl)) (by rfl)) rfl ⟨rfl,⟨rfl,⟨rfl,trivial⟩⟩⟩ ⟨⟨rfl,Or.inl rfl,Or.inl rfl⟩,⟨⟨rfl,Or.inl rfl,Or.inl rfl⟩,⟨⟨rfl,Or.inl rfl,Or.inl rfl⟩,trivial⟩⟩⟩ (fun _ _ _ _=>⟨(@dX _ _ _ _ _ _ (2) rfl rfl (@ap _ _ _ _ _ (@aj _ _ (0) _ (show aaO (["place","head","part","signs","room_within","kind"]:List Str) by decide +kernel) rfl (Or.inl rfl) (.inr rfl)) (@ap _ _ _ _ _ (@dX _ _ _ _ _ _ (2) rfl rfl (@ap _ _ _ _ _ (@aj _ _ (1) _ (show aaO (["place","head","part","signs","room_within","kind"]:List Str) by decide +kernel) rfl (Or.inl rfl) (.inr rfl)) (@ap _ _ _ _ _ (@aj _ _ (2) _ (show aaO (["place","head","part","signs","room_within","kind"]:List Str) by decide +kernel) rfl (Or.inl rfl) (.inr rfl)) aU (by rfl)) (by rfl)) (by rfl) (by rfl)) aU (by rfl)) (by rfl)) (by rfl) (by rfl)),aV,(@fQ _ _ _ _ _ _ _ (@ah _ _ _ _ _ _ _ _ _ _ _ C_is_sign hr (by lia) rfl (@aa _ _ _ _ _ (pv 1) ac (by rfl)) (by decide) (by rfl) (by rfl)) (@fQ _ _ _ _ _ _ _ (@bY _ _ _ _ _ _ _ _ cL (pv 1) (@ah _ _ _ _ _ _ _ _ _ _ _ C_heads_at hr (by lia) rfl (@aa _ _ _ _ _ (pv 5) (@aa _ _ _ _ _ (pv 0) (@aa _ _ _ _ _ (pv 3) ac (by rfl)) (by rfl)) (by rfl)) (by decide) (by rfl) (by rfl)) (by with_unfolding_all rfl)) (@gX _ _ _ _ _ (@ah _ _ _ _ _ _ _ _ _ _ _ C_is_form hr (by lia) rfl (@aa _ _ _ _ _ (pv 2) (@aa _ _ _ _ _ (@aM _ _ _ _ _ (@aa _ _ _ _ _ (@lF _ _ _ _ _ _ _ _ _ _ _ B4.dWITHIN rfl rfl rfl (@dY _ _ (.ref aW) _ _ rfl B4.gWITHIN rfl (by decide)) rfl (pv 5) (fun _ _=>rfl)) ac (by rfl))) (@aa _ _ _ _ _ (pv 3) (@aa _ _ _ _ _ (pv 4) ac (by rfl)) (by rfl)) (by rfl)) (by rfl)) (by decide) (by rfl) (by rfl)))))⟩) (by rfl) (by rfl) (by rfl) (by rfl) (by intro _;rfl)) ac (by rfl)) (by decide) (by decide) (by rfl) (by rfl)))))))))),?_⟩;cases wy with
    | num i =>
      have e:v=.int i:=by simpa only [Wy.fm,Fm.data,Dat] using hd'
      subst e;exact ⟨_,rfl,_,"int",rfl,.int i,true,rfl,bj (q H (Same.refl _))⟩
    | node g l r =>
      obtain ⟨a,b,us,rfl,ea,eb,i1,i2⟩:=dg hd';refine ⟨_,rfl,_,"tuple",rfl,.tup ea,false,rfl,aR ?_⟩;have ekS:(if g.k=true then ("times":Str) else "sum")=kS g.k:=by cases g.k <;> rfl
      rw [ekS] at ea;generalize hps:lv g.k true (.node g l r)=ps at i1 i2;have zp:szs ps=(Wy.node g l r).size:=by rw [← hps,bo]
      have lps:=ba ps;have l2:2≤ps.length:=by rw [← hps];exact mQ _ _ _ _
      have lus:us.length=ps.length:=by
        cases ek:g.k with
        | false=>exact (aaH (i1 ek)).symm
        | true=>have:=(i2 ek).len;simpa using this.symm
      have hki:=hin g l r rfl;refine ⟨_,rfl,_,_,true,rfl,.tup ea,rfl,true,rfl,aR ?_⟩;refine ⟨_,rfl,a,_,rfl,.inr (SqT.of ea),rfl,_,rfl,aR ?_⟩;refine ⟨_,rfl,a,_,rfl,SqT.of ea,rfl,_,_,rfl,_,_,rfl,rfl,?_⟩;refine ⟨_,rfl,_,_,true,rfl,.str _,rfl,true,rfl,aR ?_⟩;refine ⟨_,rfl,_,rfl,ak,ks,rfl,.inr hks,rfl,hfl,_,rfl,?_⟩;refine tW (c:=!inV (.str (kS g.k)) ks) (by rw [hki];rfl) ?_;refine ⟨_,rfl,_,_,true,rfl,.tup eb,rfl,true,rfl,aR ?_⟩;refine ⟨_,rfl,b,_,rfl,.inr (SqT.of eb),_,_,rfl,rfl,true,congrArg V.bl (decide_eq_true (by lia)),bj ?_⟩;refine ⟨_,rfl,_,_,rfl,rfl,true,congrArg V.bl (decide_eq_true (by lia)),aR ?_⟩;refine tV (A:=Same H) (T:=?T) (fun tl=>?mn) ?tt
      case mn =>
        refine ⟨_,rfl,rfl,_,rfl,?_⟩;rcases Bool.eq_false_or_eq_true g.k with ek|ek
        · refine dE (fun z=>by rw [ek] at z;cases z) (aR ?_);exact tl _ (Same.refl _)
        · have i1:=i1 ek;refine e8 (by rw [ek];rfl) ?_;refine ⟨_,rfl,b,rfl,⟨_,SqT.of eb⟩,?_⟩;refine fz (Trn.tup (xs:=us)) (fun i ys H'=>H'=H∧ys=(aax i true).map V.bl) ⟨rfl,rfl⟩ (fun i ys H' hi p=>by rw [p.1,p.2];exact ⟨SqT.of eb,aA (by simp;lia)⟩) (fun i x ys H1 H' hi hx p Nx nx=>?_) (fun ys H' p p5 n5=>?_)
          · obtain ⟨rfl,rfl⟩:=p;obtain ⟨rfl,hx⟩:=hx;obtain ⟨pp,hpp,o,u,rfl,eo,du⟩:=Paired.at i1 hx;refine ⟨_,rfl,_,_,true,rfl,.tup eo,rfl,true,rfl,bj ⟨_,rfl,o,_,rfl,.inr (SqT.of eo),rfl,nx _ _ ⟨rfl,?_⟩⟩⟩;rw [List.replicate_succ',aae];rfl
          obtain ⟨eH,rfl⟩:=p;rw [eH] at n5 ⊢;have s5:=Same.new n5 (.lst ((aax us.length true).map V.bl));have e5:upd H p5 (.lst ((aax us.length true).map V.bl)) p5=some (.lst ((aax us.length true).map V.bl)):=ad;generalize upd H p5 (.lst ((aax us.length true).map V.bl))=H5 at s5 e5 ⊢;refine ⟨p5,_,rfl,SqL.of e5,?_⟩;have e:((aax us.length true).all id)=true:=by simp
          rw [e];refine ⟨_,rfl,aR ?_⟩;exact tl H5 s5
      case tt =>
        intro H1 s1;have eb1:=s1 _ _ eb;refine ⟨_,rfl,_,rfl,b,_,rfl,.inr (SqT.of eb1),_,_,rfl,rfl,_,_,rfl,rfl,?_⟩;refine ⟨_,rfl,g,l,r,_,rfl,Dat.mono s1 _ _ hd',by lia,fun p us' H2 g2 np ep hp=>?_⟩;rw [hps] at hp;have lp:=aaH hp;refine ⟨p,rfl,⟨_,SqL.of ep⟩,?_⟩;have er:((room:Int) - (us.length:Int)+1)=((room+1 - ps.length:Nat):Int):=by lia
        refine fz (Trn.enum (xs:=us')) (fun i ys H'=>Same H2 H'∧ys=(aax i true).map V.bl) ⟨Same.refl _,rfl⟩ (fun i ys H' hi p=>by rw [p.2];exact ⟨SqL.of (p.1 _ _ ep),aA (by simp;lia)⟩) (fun i x ys H3 H4 hi hx z Nx nx=>?_) (fun ys H' z p5 n5=>?_)
        · obtain ⟨s3,rfl⟩:=z;obtain ⟨p',y,np',rfl,rfl,hy⟩:=hx;obtain ⟨pp,hpp,o,u,rfl,eo,du⟩:=Paired.at hp hy;have pm:=aaw hpp;have s4:=s3.trans (Same.new np' (.tup [.int i,.ref o]));have e4:upd H3 p' (.tup [.int i,.ref o]) p'=some (.tup [.int i,.ref o]):=ad;generalize upd H3 p' (.tup [.int i,.ref o])=H4 at s4 e4 ⊢;have eo4:=s4 _ _ eo;have hpm:pp∈lv g.k true (.node g l r):=by rw [hps];exact pm
          have szp:=oX pm;have hless:=bJ hpm;refine ⟨p',_,rfl,SqT.of e4,rfl,_,_,rfl,_,_,rfl,o,_,rfl,SqT.of eo4,rfl,_,_,rfl,_,_,rfl,rfl,rfl,?_⟩;refine ⟨_,rfl,_,rfl,_,rfl,qZ (t9 _ _) ?_⟩;refine ⟨_,rfl,_,rfl,_,rfl,_,rfl,g.k,i,am gs,rfl,(my g3),_,_,rfl,rfl,_,rfl,qZ (rf g3 sp hw (by rw [hps];exact hpp)) ?_⟩;refine ⟨_,rfl,_,rfl,.inr (kS g.k),.str (kS (!g.k)),rfl,(by cases g.k <;> decide +kernel),(by show 1≤sizeLine;decide),fun t ht=>?_⟩;have s5:=Same.new ht (.tup [.str (kS (!g.k))]);refine ⟨_,rfl,_,rfl,pp.2,u,t,[.str (kS (!g.k))],gs,room+1 - ps.length,(by rw [← er];rfl),Dat.mono (s4.trans s5) _ _ du,SqT.of ad,rfl,fun g' l' r' e'=>?_,by lia,by lia,by lia,jc hB hpm,g3,sp,bI _ _ _ hw _ hpm,fun H6 g6=>nx _ _ ⟨s4.trans (s5.trans g6),?_⟩⟩
          · refine tS ?_;have:=gq _ _ _ _ hpm;rw [e'] at this;exact this
          · rw [List.replicate_succ',aae];rfl
        obtain ⟨s3,rfl⟩:=z;refine ⟨p5,_,rfl,SqL.of ad,?_⟩;have e:((aax us'.length true).all id)=true:=by simp
        rw [e];exact q _ ((s1.trans g2).trans (s3.trans (Same.new n5 _)))
end
open PySem L2
theorem o_ {K:aaa} {H:Hp} {neg:Bool} {a b:Addr} {xs:List V} {Q:VK} (ha:SqL K H a xs) (hb:SqL K H b xs) (fl:∀ x∈xs,dh x=true) (q:Q (.bl (!neg)) H):tL K neg (.ref a) (.ref b) H Q:=by
  refine ⟨0,a,b,xs,xs,by decide,rfl,rfl,ha,hb,.inr ⟨fun _=>true,rfl,fun j x y hx hy=>?_,?_⟩⟩
  · rw [hx] at hy;cases hy;exact EqR.flat_same (fl x (aaw hx))
  · have e:(aaF xs.length).all (fun _=>true)=true:=by simp
    cases neg <;> (simp only [e];exact q)
section
variable {P:Program} {w:World} {K:aaa} {mg:Str→Option Value} {base:Heap} {f:Addr} {fd:FuncData}
def qF:Sp:=fun vs H Q _=>∃ (wy:Wy) (a:Addr) (v:V) (gs:List Sg),vs=[.ref a,.str (am gs),v]∧H a=some (.lst (wy.nums.map V.int))∧Dat H wy.fm.data v∧wy.size≤9∧wy.Bd∧gs.length≤3∧bC gs∧wy.within gs∧∀ H',Same H H'→Q .non H'
abbrev eK:Stmt:=top 37
theorem kl:FnScope ["row","signs","thing"] ["row","signs","thing"] (ai eK):=⟨rfl,rfl,rfl,by decide +kernel,rfl,by decide +kernel,by decide +kernel⟩
theorem kA {aK aW:Addr} (F:Fun K "need_form" "need_form" eK f fd) (B:Bu K mg) (B4:Cw P w K mg aK aW) (C_need_row:Cal P w K mg base "need_row" 3 ["thing"] gF) (C_need_signs:Cal P w K mg base "need_signs" 2 ["thing"] dc) (C_is_form:Cal P w K mg base "is_form" 11 ["thing","kinds","signs","room"] (qH K 9)) (C_numbers_in:Cal P w K mg base "numbers_in" 11 ["form"] (fX 9)):FnOk P w K mg base CX0 12 f fd ["row","signs","thing"] qF:=by
  refine F.ok kl (fun vs H Q E h=>?_) (fun cdv A outer s H vs Q E hr h=>?_)
  · obtain ⟨wy,a,v,gs,rfl,_⟩:=h;rfl
  obtain ⟨wy,a,v,gs,rfl,ea,hd',h9,hB,g3,sp,hw,q⟩:=h;refine ⟨_,(@ae _ _ _ _ _ (@bR _ _ _ _ (@ah _ _ _ _ _ _ _ _ _ _ _ C_need_row hr (by lia) rfl (@aa _ _ _ _ _ (pv 0) ac (by rfl)) (by decide) (by rfl) (by rfl)) (by rfl)) (@ae _ _ _ _ _ (@bR _ _ _ _ (@ah _ _ _ _ _ _ _ _ _ _ _ C_need_signs hr (by lia) rfl (@aa _ _ _ _ _ (pv 1) ac (by rfl)) (by decide) (by rfl) (by rfl)) (by rfl)) (@af _ _ _ (@aL _ _ _ _ _ _ _ _ (@PW.pt _ _ _ (@eR _ _ _ _ _ _ _ (@bM _ _ _ _ (@aQ _ _ _ (@ah _ _ _ _ _ _ _ _ _ _ _ C_is_form hr (by lia) rfl (@aa _ _ _ _ _ (pv 2) (@aa _ _ _ _ _ (@dY _ _ (.ref aK) _ _ rfl B4.gKINDS rfl (by decide)) (@aa _ _ _ _ _ (pv 1) (@aa _ _ _ _ _ (@ao _ _ _ _ _ _ _ _ _ az rfl B.ilen aaD (@aa _ _ _ _ _ (pv 0) ac (by rfl)) (by decide) (by decide) (by rfl) (by rfl)) ac (by rfl)) (by rfl)) (by rfl)) (by rfl)) (by decide) (by rfl) (by rfl)) (by intro _;rfl))) (@eQ _ _ _ _ (@av _ _ _ _ _ _ _ _ (@pG _ hr.units) (@ah _ _ _ _ _ _ _ _ _ _ _ C_numbers_in hr (by lia) rfl (@aa _ _ _ _ _ (pv 2) ac (by rfl)) (by decide) (by rfl) (by rfl)) (pv 0) (aE _))))) (@af _ _ _ eS) aB)))),?_⟩;have z1:=wy.size_pos;have nl:=wy.nums_len;have ml:(wy.nums.map V.int).length=wy.size:=by rw [aab,nl]
  refine ⟨_,rfl,a,wy.nums,rfl,ea,by lia,by lia,fun H1 g1=>?_⟩;refine ⟨_,rfl,gs,rfl,sp,?_⟩;refine ⟨_,rfl,_,rfl,_,rfl,a,_,rfl,.inl (SqL.of (g1 _ _ ea)),?_⟩;rw [ml];refine ⟨wy,v,aK,_,gs,wy.size,rfl,Dat.mono g1 _ _ hd',B4.sKINDS H1,rfl,fun g l r _=>by cases g.k <;> decide +kernel,by lia,by lia,by lia,hB,g3,sp,hw,fun H2 g2=>?_⟩;refine ⟨true,rfl,aR ?_⟩;have G2:=g1.trans g2;refine ⟨_,rfl,wy,v,rfl,Dat.mono G2 _ _ hd',by lia,by lia,hB,fun p H3 g3 np ep=>?_⟩;have G3:=G2.trans g3;refine ⟨_,rfl,o_ (SqL.of ep) (SqL.of (G3 _ _ ea)) (fun x hx=>?_) ⟨_,rfl,aR (q _ G3)⟩⟩;obtain ⟨i,_,rfl⟩:=aaQ.mp hx;rfl
def r9:Sp:=fun vs H Q _=>∃ (wy:Wy) (a:Addr) (v:V) (gs:List Sg),vs=[.ref a,.str (am gs),v]∧H a=some (.lst (wy.nums.map V.int))∧Dat H wy.fm.data v∧wy.size≤9∧wy.Bd∧gs.length≤3∧bC gs∧wy.within gs∧∀ x H',Same H H'→WyIn H' (fw gs 9 wy) x→Q x H'
abbrev eL:Stmt:=top 35
theorem km:FnScope ["row","signs","form"] ["row","signs","form"] (ai eL):=⟨rfl,rfl,rfl,by decide +kernel,rfl,by decide +kernel,by decide +kernel⟩
theorem kD (F:Fun K "first_way" "first_way" eL f fd) (C_need_form:Cal P w K mg base "need_form" 12 ["row","signs","thing"] qF) (C_find_first:Cal P w K mg base "find_first" 12 ["form","signs"] (jj 9)):FnOk P w K mg base CX0 13 f fd ["row","signs","form"] r9:=by
  refine F.ok km (fun vs H Q E h=>?_) (fun cdv A outer s H vs Q E hr h=>?_)
  · obtain ⟨wy,a,v,gs,rfl,_⟩:=h;rfl
  obtain ⟨wy,a,v,gs,rfl,ea,hd',h9,hB,g3,sp,hw,q⟩:=h;refine ⟨_,(@ae _ _ _ _ _ (@bR _ _ _ _ (@ah _ _ _ _ _ _ _ _ _ _ _ C_need_form hr (by lia) rfl (@aa _ _ _ _ _ (pv 0) (@aa _ _ _ _ _ (pv 1) (@aa _ _ _ _ _ (pv 2) ac (by rfl)) (by rfl)) (by rfl)) (by decide) (by rfl) (by rfl)) (by rfl)) (@af _ _ _ (@aq _ _ _ _ (@ah _ _ _ _ _ _ _ _ _ _ _ C_find_first hr (by lia) rfl (@aa _ _ _ _ _ (pv 2) (@aa _ _ _ _ _ (pv 1) ac (by rfl)) (by rfl)) (by decide) (by rfl) (by rfl))))),?_⟩;exact ⟨_,rfl,_,rfl,_,rfl,wy,a,v,gs,rfl,ea,hd',h9,hB,g3,sp,hw,fun H1 g1=>⟨_,rfl,_,rfl,wy,v,gs,rfl,Dat.mono g1 _ _ hd',h9,h9,hB,g3,sp,hw,fun x H2 g2 ix=>q x H2 (g1.trans g2) ix⟩⟩
def r8:Sp:=fun vs H Q _=>∃ (wy:Wy) (a:Addr) (v:V) (gs:List Sg),vs=[.ref a,.str (am gs),v]∧H a=some (.lst (wy.nums.map V.int))∧Dat H wy.fm.data v∧wy.size≤9∧wy.Bd∧gs.length≤3∧bC gs∧wy.within gs∧∀ H',Same H H'→Q (.int (ct gs 9 wy:Nat)) H'
abbrev cj:Stmt:=top 36
theorem fZ:FnScope ["row","signs","form"] ["row","signs","form"] (ai cj):=⟨rfl,rfl,rfl,by decide +kernel,rfl,by decide +kernel,by decide +kernel⟩
theorem gh (F:Fun K "how_many_twins" "how_many_twins" cj f fd) (C_need_form:Cal P w K mg base "need_form" 12 ["row","signs","thing"] qF) (C_count_twins:Cal P w K mg base "count_twins" 12 ["form","signs"] (h_ 9)):FnOk P w K mg base CX0 13 f fd ["row","signs","form"] r8:=by
  refine F.ok fZ (fun vs H Q E h=>?_) (fun cdv A outer s H vs Q E hr h=>?_)
  · obtain ⟨wy,a,v,gs,rfl,_⟩:=h;rfl
  obtain ⟨wy,a,v,gs,rfl,ea,hd',h9,hB,g3,sp,hw,q⟩:=h;refine ⟨_,(@ae _ _ _ _ _ (@bR _ _ _ _ (@ah _ _ _ _ _ _ _ _ _ _ _ C_need_form hr (by lia) rfl (@aa _ _ _ _ _ (pv 0) (@aa _ _ _ _ _ (pv 1) (@aa _ _ _ _ _ (pv 2) ac (by rfl)) (by rfl)) (by rfl)) (by decide) (by rfl) (by rfl)) (by rfl)) (@af _ _ _ (@aq _ _ _ _ (@ah _ _ _ _ _ _ _ _ _ _ _ C_count_twins hr (by lia) rfl (@aa _ _ _ _ _ (pv 2) (@aa _ _ _ _ _ (pv 1) ac (by rfl)) (by rfl)) (by decide) (by rfl) (by rfl))))),?_⟩;exact ⟨_,rfl,_,rfl,_,rfl,wy,a,v,gs,rfl,ea,hd',h9,hB,g3,sp,hw,fun H1 g1=>⟨_,rfl,_,rfl,wy,v,gs,rfl,Dat.mono g1 _ _ hd',h9,h9,hB,g3,sp,fun H2 g2=>q H2 (g1.trans g2)⟩⟩
open PySem L2
def PdR (H:Hp) (p:Bool × Wy) (u:V):Prop:=Dat H p.2.fm.data u
theorem rD {H:Hp}:∀ {ps:List (Bool × Wy)} {us:List V},DatAll H ((ps.map wd).map Prod.snd) us→Paired (PdR H) ps us
  | [],us,h=>by simp only [abh,DatAll] at h;subst h;exact .nil
  | p :: ps,us,h=>by
    simp only [aav,DatAll] at h;obtain ⟨v,r,rfl,h1,h2⟩:=h;exact .cons h1 (rD h2)
def o4:Sp:=fun vs H Q _=>∃ g l r v,vs=[v]∧Dat H (Wy.node g l r).fm.data v∧(Wy.node g l r).size≤9∧∀ p pm pp us H',Same H H'→H' p=some (.lst [.ref pm,.ref pp])→H' pm=some (.lst ((lv g.k true (.node g l r)).map fun p=>.str (hk g.k p.1)))→H' pp=some (.lst us)→Paired (PdR H') (lv g.k true (.node g l r)) us→Q (.ref p) H'
abbrev dU:Stmt:=top 61
theorem jq:FnScope ["form"] ["form"] (ai dU):=⟨rfl,rfl,rfl,by decide +kernel,rfl,by decide +kernel,by decide +kernel⟩
theorem jC (F:Fun K "_law_parts" "_law_parts" dU f fd) (B:Bu K mg):FnOk P w K mg base CX0 1 f fd ["form"] o4:=by
  refine F.ok jq (fun vs H Q E h=>?_) (fun cdv A outer s H vs Q E hr h=>?_)
  · obtain ⟨g,l,r,v,rfl,_⟩:=h;rfl
  obtain ⟨g,l,r,v,rfl,hd',h9,q⟩:=h;refine ⟨_,(@ae _ _ _ _ _ (@aL _ _ _ _ _ _ _ _ (@av _ _ _ _ _ _ _ _ bn (@aG _ _ _ _ _ _ _ aX (pv 0) ag (fun _ _=>rfl)) ay (aE _)) (@af _ _ _ (@aq _ _ _ _ (@aY _ _ _ _ (@aa _ _ _ _ _ (@cY _ _ _ _ _ _ _ _ (["sign","part"]) ([none,none]) _ _ _ _ rfl (@gU _ _ _ _ (@aG _ _ _ _ _ _ _ aX (pv 0) ag (fun _ _=>rfl))) rfl trivial trivial (fun _ _ _ _=>⟨(@dX _ _ _ _ _ _ (2) rfl rfl (@ap _ _ _ _ _ (@aj _ _ (0) _ (show aaO (["sign","part"]:List Str) by decide +kernel) rfl (Or.inl rfl) (.inr rfl)) (@ap _ _ _ _ _ (@aj _ _ (1) _ (show aaO (["sign","part"]:List Str) by decide +kernel) rfl (Or.inl rfl) (.inr rfl)) aU (by rfl)) (by rfl)) (by rfl) (by rfl)),aV,(pv 0)⟩) (by rfl) (by rfl) (by rfl) (by rfl) (by intro _;rfl)) (@aa _ _ _ _ _ (@cY _ _ _ _ _ _ _ _ (["sign","part"]) ([none,none]) _ _ _ _ rfl (@gU _ _ _ _ (@aG _ _ _ _ _ _ _ aX (pv 0) ag (fun _ _=>rfl))) rfl trivial trivial (fun _ _ _ _=>⟨(@dX _ _ _ _ _ _ (2) rfl rfl (@ap _ _ _ _ _ (@aj _ _ (0) _ (show aaO (["sign","part"]:List Str) by decide +kernel) rfl (Or.inl rfl) (.inr rfl)) (@ap _ _ _ _ _ (@aj _ _ (1) _ (show aaO (["sign","part"]:List Str) by decide +kernel) rfl (Or.inl rfl) (.inr rfl)) aU (by rfl)) (by rfl)) (by rfl) (by rfl)),aV,(pv 1)⟩) (by rfl) (by rfl) (by rfl) (by rfl) (by intro _;rfl)) ac (by rfl)) (by rfl))))) aB) (@af _ _ _ (@aq _ _ _ _ (@aY _ _ _ _ (@aa _ _ _ _ _ (@cY _ _ _ _ _ _ _ _ (["part"]) ([none]) _ _ _ _ rfl (@gU _ _ _ _ (@aG _ _ _ _ _ _ _ aX (pv 0) ag (fun _ _=>rfl))) rfl trivial trivial (fun _ _ _ _=>⟨(@aj _ _ (0) _ (show aaO (["part"]:List Str) by decide +kernel) rfl (Or.inl rfl) (.inr rfl)),aV,ay⟩) (by rfl) (by rfl) (by rfl) (by rfl) (by intro _;rfl)) (@aa _ _ _ _ _ (@bH _ _ _ _ _ _ _ _ _ gx rfl B.ilist ab3 (@aa _ _ _ _ _ (@aG _ _ _ _ _ _ _ aX (pv 0) ag (fun _ _=>rfl)) ac (by rfl)) (by decide) (by decide) (by rfl) (by rfl)) ac (by rfl)) (by rfl)))))),?_⟩;obtain ⟨a,b,us,rfl,ea,eb,i1,i2⟩:=dg hd';generalize hps:lv g.k true (.node g l r)=ps at i1 i2 q;have lps:=ba ps;have zp:szs ps=(Wy.node g l r).size:=by rw [← hps,bo]
  have mono:∀ {Ha Hb:Hp},Same Ha Hb→∀ {ps:List (Bool × Wy)} {us:List V},Paired (PdR Ha) ps us→Paired (PdR Hb) ps us:=fun g _ _ h=>Paired.imp' (fun _ _ z=>Dat.mono g _ _ z) h;refine ⟨_,rfl,a,_,_,_,rfl,rfl,SqT.of ea,rfl,rfl,_,rfl,?_⟩;rcases Bool.eq_false_or_eq_true g.k with ek|ek
  · rw [ek] at ea q ⊢;refine dE (fun z=>by cases z) ?_;have da:=i2 ek;have lu:=da.len;rw [aab,aab] at lu;refine ⟨_,rfl,a,_,_,_,rfl,rfl,SqT.of ea,rfl,b,rfl,⟨_,SqT.of eb⟩,?_⟩;refine fz (Trn.tup (xs:=us)) (fun i ys H'=>H'=H∧ys=(ps.take i).map fun p=>.str (hk true p.1)) ⟨rfl,rfl⟩ (fun i ys H' hi p=>by rw [p.1,p.2];exact ⟨SqT.of eb,aA (by rw [aab,aas];lia)⟩) (fun i x ys H1 H' hi hx p Nx nx=>?_) (fun ys H' p p5 n5=>?_)
    · obtain ⟨rfl,rfl⟩:=p;obtain ⟨rfl,hx⟩:=hx;obtain ⟨d,h1,h2⟩:=jg da hx;rw [aba,aam] at h1;obtain ⟨pr,h3,rfl⟩:=aaE.mp h1;refine nx _ _ ⟨rfl,?_⟩;rw [aaz,h3,aae];rfl
    obtain ⟨rfl,rfl⟩:=p;rw [← lu,aaP];have s5:=Same.new n5 (.lst (ps.map fun p=>.str (hk true p.1)));refine ⟨_,rfl,a,_,_,_,rfl,rfl,SqT.of (s5 _ _ ea),rfl,b,us,rfl,.inr (SqT.of (s5 _ _ eb)),fun p6 n6=>?_⟩;have s6:=Same.new n6 (.lst us);refine ⟨by show 2≤sizeLine;decide,fun p7 n7=>?_⟩;have s7:=Same.new n7 (.lst [.ref p5,.ref p6]);have hd6:Paired (PdR H') ps us:=rD da;exact q p7 p5 p6 us _ (s5.trans (s6.trans s7)) ad (s7 _ _ (s6 _ _ ad)) (s7 _ _ ad) (mono (s5.trans (s6.trans s7)) hd6)
  · rw [ek] at ea q ⊢;have i1:=i1 ek;have lu:=aaH i1;refine e8 rfl ?_;refine ⟨_,rfl,a,_,_,_,rfl,rfl,SqT.of ea,rfl,b,rfl,⟨_,SqT.of eb⟩,?_⟩;refine fz (Trn.tup (xs:=us)) (fun i ys H'=>H'=H∧ys=(ps.take i).map fun p=>.str (hk false p.1)) ⟨rfl,rfl⟩ (fun i ys H' hi p=>by rw [p.1,p.2];exact ⟨SqT.of eb,aA (by rw [aab,aas];lia)⟩) (fun i x ys H1 H' hi hx p Nx nx=>?_) (fun ys H' p p5 n5=>?_)
    · obtain ⟨rfl,rfl⟩:=p;obtain ⟨rfl,hx⟩:=hx;obtain ⟨pp,hpp,o,u,rfl,eo,du⟩:=Paired.at i1 hx;refine ⟨o,_,rfl,SqT.of eo,rfl,_,_,rfl,_,_,rfl,rfl,⟨_,rfl,nx _ _ ⟨rfl,?_⟩⟩⟩;rw [aaz,hpp,aae];rfl
    obtain ⟨rfl,rfl⟩:=p;rw [← lu,aaP];have s5:=Same.new n5 (.lst (ps.map fun p=>.str (hk false p.1)));have e5:upd H' p5 (.lst (ps.map fun p=>.str (hk false p.1))) p5=some (.lst (ps.map fun p=>.str (hk false p.1))):=ad;generalize upd H' p5 (.lst (ps.map fun p=>.str (hk false p.1)))=H5 at s5 e5 ⊢;have i5:=gc s5 i1;refine ⟨_,rfl,a,_,_,_,rfl,rfl,SqT.of (s5 _ _ ea),rfl,b,rfl,⟨_,SqT.of (s5 _ _ eb)⟩,?_⟩;refine fz (Trn.tup (xs:=us)) (fun i ys H'=>H'=H5∧Paired (PdR H5) (ps.take i) ys) ⟨rfl,.nil⟩ (fun i ys H' hi p=>by rw [p.1];exact ⟨SqT.of (s5 _ _ eb),aA (by have:=aaH p.2;rw [aas] at this;lia)⟩) (fun i x ys H1 H' hi hx p Nx nx=>?_) (fun ys H' p p6 n6=>?_)
    · obtain ⟨rfl,hp⟩:=p;obtain ⟨rfl,hx⟩:=hx;obtain ⟨pp,hpp,o,u,rfl,eo,du⟩:=Paired.at i5 hx;refine ⟨o,_,rfl,SqT.of eo,rfl,_,_,rfl,_,_,rfl,rfl,⟨_,rfl,nx _ _ ⟨rfl,?_⟩⟩⟩;rw [aaz,hpp];exact Paired.app hp (.cons du .nil)
    obtain ⟨rfl,hp⟩:=p;rw [← lu,aaP] at hp;have s6:=Same.new n6 (.lst ys);refine ⟨by show 2≤sizeLine;decide,fun p7 n7=>?_⟩;have s7:=Same.new n7 (.lst [.ref p5,.ref p6]);exact q p7 p5 p6 ys _ (s5.trans (s6.trans s7)) ad (s7 _ _ (s6 _ _ e5)) (s7 _ _ ad) (mono (s6.trans s7) hp)
end
open PySem L2
theorem i9:∀ (l:List (List Key × V)) (kvs:List (List Key × V)),(∀ b∈l,b.2=.int 1)→(∀ key,bD kvs key=some (.int 1)→bD (cu kvs l) key=some (.int 1))∧(∀ b∈l,bD (cu kvs l) b.1=some (.int 1))∧(cu kvs l).length≤kvs.length+l.length
  | [],kvs,_=>⟨fun _ h=>h,fun b hb=>by simp at hb,by simp [cu]⟩
  | b :: l,kvs,h=>by
    have hb:=h b aan;obtain ⟨i1,i2,i3⟩:=i9 l (cX kvs b.1 b.2) (fun c hc=>h c (aaj _ hc));refine ⟨fun key hk=>?_,fun c hc=>?_,?_⟩
    · refine i1 key ?_;rw [eA];split
      · rw [hb]
      · exact hk
    · rcases aaC.mp hc with rfl|hc
      · refine i1 _ ?_;rw [eA,if_pos rfl,hb]
      · exact i2 c hc
    · have:=bB kvs b.1 b.2;have e:(cu (cX kvs b.1 b.2) l).length=(cu kvs (b :: l)).length:=rfl;rw [← e,aaL];lia
def qp (gs:List Sg) (k:Bool) (ps:List (Bool × Wy)) (kvs:List (List Key × V)) (L b:Int):Prop:=∀ q:Int × Int,0≤q.1→q.1≤q.2→q.2 < ps.length→(q.2 - q.1 < L∨(q.2 - q.1=L∧q.1 < b))→bD kvs (ky q)=some (.int (tv gs k 0 ps q))
section
variable {P:Program} {w:World} {K:aaa} {mg:Str→Option Value} {base:Heap} {f:Addr} {fd:FuncData}
def lc:Sp:=fun vs H Q _=>∃ (pm:Addr) (gs:List Sg) (k:Bool) (ps:List (Bool × Wy)),vs=[.ref pm,.str (am gs)]∧H pm=some (.lst (ps.map fun p=>.str (hk k p.1)))∧szs ps≤9∧gs.length≤3∧bC gs∧∀ p kvs H',Same H H'→H' p=some (.dT kvs)→qp gs k ps kvs ps.length 0→Q (.ref p) H'
abbrev dR:Stmt:=top 60
theorem aN:FnScope ["parts","signs","many","found","length","begin","ways","cut","sign"] ["parts","signs"] (ai dR):=⟨rfl,rfl,rfl,by decide +kernel,rfl,by decide +kernel,by decide +kernel⟩
theorem jB (F:Fun K "_law_table" "_law_table" dR f fd) (B:Bu K mg):FnOk P w K mg base CX0 1 f fd ["parts","signs"] lc:=by
  refine F.ok aN (fun vs H Q E h=>?_) (fun cdv A outer s H vs Q E hr h=>?_)
  · obtain ⟨pm,gs,k,ps,rfl,_⟩:=h;rfl
  obtain ⟨pm,gs,k,ps,rfl,em,h9,g3,sp,q⟩:=h;refine ⟨_,(@ae _ _ _ _ _ (@aC _ _ (2) _ _ _ _ (aN).nd rfl (Or.inl rfl) (@ao _ _ _ _ _ _ _ _ _ az rfl B.ilen aaD (@aa _ _ _ _ _ (pv 0) ac (by rfl)) (by decide) (by decide) (by rfl) (by rfl)) (by rfl) (by first|exact .inl rfl|exact .inr rfl|assumption)) (@ae _ _ _ _ _ (@aC _ _ (3) _ _ _ _ (aN).nd rfl (Or.inl rfl) (@bH _ _ _ _ _ _ _ _ _ (@m4 _ rfl hr.units) rfl B.idict PyProof.Rows.boot_dict (@aa _ _ _ _ _ (@cY _ _ _ _ _ _ _ _ (["k"]) ([none]) _ _ _ _ rfl (@cr _ _ _ _ _ _ rfl B.irange (@aa _ _ _ _ _ (pv 2) ac (by rfl)) (by rfl)) rfl trivial trivial (fun _ _ _ _=>⟨(@aj _ _ (0) _ (show aaO (["k"]:List Str) by decide +kernel) rfl (Or.inl rfl) (.inr rfl)),aV,(@aM _ _ _ _ _ (@aa _ _ _ _ _ (@aM _ _ _ _ _ (@aa _ _ _ _ _ (pv 0) (@aa _ _ _ _ _ (pv 0) ac (by rfl)) (by rfl))) (@aa _ _ _ _ _ ag ac (by rfl)) (by rfl)))⟩) (by rfl) (by rfl) (by rfl) (by rfl) (by intro _;rfl)) ac (by rfl)) (by decide) (by decide) (by rfl) (by rfl)) (by rfl) (by first|exact .inl rfl|exact .inr rfl|assumption)) (@ae _ _ _ _ _ (@bV _ _ _ _ _ _ _ _ aaM rfl (@cq _ _ _ _ _ _ _ rfl B.irange (@aa _ _ _ _ _ ag (@aa _ _ _ _ _ (pv 2) ac (by rfl)) (by rfl)) (by rfl) (by rfl)) (@aj _ _ (4) _ (aN).nd rfl (Or.inl rfl) (.inl rfl)) (@af _ _ _ (@bV _ _ _ _ _ _ _ _ aaM rfl (@cr _ _ _ _ _ _ rfl B.irange (@aa _ _ _ _ _ (@au _ _ _ _ _ _ _ _ bN (pv 2) (pv 4)) ac (by rfl)) (by rfl)) (@aj _ _ (5) _ (aN).nd rfl (Or.inl rfl) (.inl rfl)) (@ae _ _ _ _ _ (@aC _ _ (6) _ _ _ _ (aN).nd rfl (Or.inl rfl) ag (by rfl) (by first|exact .inl rfl|exact .inr rfl|assumption)) (@ae _ _ _ _ _ (@bV _ _ _ _ _ _ _ _ aaM rfl (@cq _ _ _ _ _ _ _ rfl B.irange (@aa _ _ _ _ _ (@au _ _ _ _ _ _ _ _ a_ (pv 5) ag) (@aa _ _ _ _ _ (@au _ _ _ _ _ _ _ _ a_ (@au _ _ _ _ _ _ _ _ a_ (pv 5) (pv 4)) ag) ac (by rfl)) (by rfl)) (by rfl) (by rfl)) (@aj _ _ (7) _ (aN).nd rfl (Or.inl rfl) (.inl rfl)) (@ae _ _ _ _ _ (@aC _ _ (8) _ _ _ _ (aN).nd rfl (Or.inl rfl) ay (by rfl) (by first|exact .inl rfl|exact .inr rfl|assumption)) (@ko _ _ _ _ _ (@aL _ _ _ _ _ _ _ _ (@av _ _ _ _ _ _ _ _ iW (@aG _ _ _ _ _ _ _ aJ (pv 0) (pv 7) (fun _ _=>rfl)) (@aG _ _ _ _ _ _ _ aJ (pv 0) (pv 5) (fun _ _=>rfl)) (aE _)) (@af _ _ _ (@aC _ _ (8) _ _ _ _ (aN).nd rfl (Or.inl rfl) ay (by rfl) (by first|exact .inl rfl|exact .inr rfl|assumption))) aB) (@ko _ _ _ _ _ (@aL _ _ _ _ _ _ _ _ (@av _ _ _ _ _ _ _ _ bn (@aG _ _ _ _ _ _ _ aJ (pv 0) (pv 7) (fun _ _=>rfl)) ay (aE _)) (@af _ _ _ (@aC _ _ (8) _ _ _ _ (aN).nd rfl (Or.inl rfl) ay (by rfl) (by first|exact .inl rfl|exact .inr rfl|assumption))) aB) (@af _ _ _ (@aL _ _ _ _ _ _ _ _ (@av _ _ _ _ _ _ _ _ cL (pv 8) (pv 1) (by with_unfolding_all rfl)) (@af _ _ _ (@aC _ _ (6) _ _ _ _ (aN).nd rfl (Or.inl rfl) (@au _ _ _ _ _ _ _ _ a_ (pv 6) (@au _ _ _ _ _ _ _ _ iC (@bG _ _ _ _ _ _ (u1 hr.units) (pv 3) (@aM _ _ _ _ _ (@aa _ _ _ _ _ (pv 5) (@aa _ _ _ _ _ (@au _ _ _ _ _ _ _ _ bN (pv 7) ag) ac (by rfl)) (by rfl))) (fun _ _=>rfl)) (@bG _ _ _ _ _ _ (u1 hr.units) (pv 3) (@aM _ _ _ _ _ (@aa _ _ _ _ _ (pv 7) (@aa _ _ _ _ _ (@au _ _ _ _ _ _ _ _ a_ (pv 5) (pv 4)) ac (by rfl)) (by rfl))) (fun _ _=>rfl)))) (by rfl) (by first|exact .inl rfl|exact .inr rfl|assumption))) aB))))) (by intro _;rfl)) (@af _ _ _ (@ge _ _ _ _ _ _ _ _ _ (u1 hr.units) (pv 3) (@aM _ _ _ _ _ (@aa _ _ _ _ _ (pv 5) (@aa _ _ _ _ _ (@au _ _ _ _ _ _ _ _ a_ (pv 5) (pv 4)) ac (by rfl)) (by rfl))) (pv 6) rfl)))) (by intro _;rfl))) (by intro _;rfl)) (@af _ _ _ (@aq _ _ _ _ (pv 3)))))),?_⟩;have lps:=ba ps;have hl:(ps.map fun p=>V.str (hk k p.1)).length=ps.length:=aab _;have t2:(2:Nat)≤sizeLine:=by decide
  refine ⟨_,rfl,pm,_,rfl,.inl (SqL.of em),?_⟩;rw [hl];refine ⟨_,rfl,_,rfl,by lia,by lia,?_⟩;rw [Int.toNat_natCast];refine fz Trn.range (fun i ys H'=>Same H H'∧∃ bs:List PrT,ys=bs.map (fun b=>V.ref b.1)∧(∀ b∈bs,qu H' b)∧bs.map (·.2.2)=(aaF i).map fun (j:Nat)=>(ky ((j:Int),(j:Int)),V.int 1)) ⟨Same.refl _,[],rfl,(fun b hb=>by simp at hb),rfl⟩ (fun i ys H' hi z=>?_) (fun i x ys H1 H' hi it z Nx nx=>?_) (fun ys H' z p5 n5=>?_)
  · obtain ⟨S,bs,rfl,_,hb⟩:=z;have:=congrArg List.length hb;simp only [aab,aa7] at this;exact ⟨trivial,aA (by rw [aab];lia)⟩
  · obtain ⟨rfl,rfl⟩:=it;obtain ⟨S,bs,rfl,hbs,hb⟩:=z;rw [Int.zero_add];refine ⟨_,rfl,_,rfl,t2,fun u1 n1=>⟨t2,fun u3 n3=>nx _ _ ?_⟩⟩;have s1:=Same.new n1 (.tup [.int i,.int i]);have s3:=Same.new n3 (.tup [.ref u1,.int 1]);have S4:=s1.trans s3;refine ⟨S.trans S4,bs++[(u3,u1,ky ((i:Int),(i:Int)),.int 1)],by rw [aae];rfl,fun b hb'=>?_,?_⟩
    · rcases aat.mp hb' with hm|hm
      · exact ⟨S4 _ _ (hbs b hm).1,S4 _ _ (hbs b hm).2⟩
      · rw [aak.mp hm];exact ⟨ad,s3 _ _ ad⟩
    · rw [aae,hb,abU,aae];rfl
  obtain ⟨S,bs,rfl,hbs,hb⟩:=z;have s5:=Same.new n5 (.lst (bs.map fun b=>V.ref b.1));have lb:=congrArg List.length hb;simp only [aab,aa7] at lb;refine ⟨p5,bs,rfl,ad,fun b hb'=>⟨s5 _ _ (hbs b hb').1,s5 _ _ (hbs b hb').2⟩,by lia,fun d nD=>?_⟩;rw [hb];obtain ⟨m1,m2,m3⟩:=i9 ((aaF ps.length).map fun (j:Nat)=>(ky ((j:Int),(j:Int)),V.int 1)) [] (fun b hb=>by obtain ⟨j,_,rfl⟩:=aaQ.mp hb;rfl);generalize cu [] ((aaF ps.length).map fun (j:Nat)=>(ky ((j:Int),(j:Int)),V.int 1))=kv0 at m1 m2 m3 ⊢;simp only [aab,aa7,aa1] at m3;have sd:=Same.new nD (.dT kv0);have S2:=(S.trans s5).trans sd;have nDH:H d=none:=(S.trans s5).free nD;have e2:upd (upd H' p5 (.lst (bs.map fun b=>V.ref b.1))) d (.dT kv0) d=some (.dT kv0):=ad;generalize upd (upd H' p5 (.lst (bs.map fun b=>V.ref b.1))) d (.dT kv0)=H2 at S2 e2 ⊢;have nrd:pm≠d:=aH em nDH;have tb0:qp gs k ps kv0 1 0:=fun q a1 a2 a3 a4=>by
    have e:q.1=q.2:=by lia
    have hj:q.1.toNat < ps.length:=by lia
    have : ps[q.1.toNat]?=some ps[q.1.toNat]:=aaf hj;rw [mo a1 e this];have:=m2 (ky q,.int 1) (aaQ.mpr ⟨q.1.toNat,aaK.mpr hj,by
      have : ((q.1.toNat:Int),(q.1.toNat:Int))=q:=by rw [Int.toNat_of_nonneg a1];exact Prod.ext rfl e
      rw [this]⟩)
    exact this
  have mk_at:∀ (H':Hp) (i:Int),0≤i→i < ps.length→atI (ps.map fun p=>V.str (hk k p.1)) i=some (.str (hk k (hd ps i.toNat))):=fun H' i h0 hi=>by
    obtain ⟨j,rfl⟩:=abg h0;have hj:j < ps.length:=by lia
    refine fj ?_;rw [aam,aaf hj];show some (V.str (hk k ps[j].1))=_;congr 3;unfold hd;rw [aao,aam,show (j:Int).toNat=j from rfl,aaf hj];rfl
  refine ⟨_,rfl,_,_,rfl,⟨by lia,by lia,by lia,by lia⟩,dv Trn.range (fun i σ H'=>∃ c4 c5 c6 c7 c8 kvs,σ=[some (.ref pm),some (.str (am gs)),some (.int ps.length),some (.ref d),c4,c5,c6,c7,c8]∧H' d=some (.dT kvs)∧kvs.length≤9+9 * i∧qp gs k ps kvs (1+(i:Int)) 0∧But d H2 H') ⟨_,_,_,_,_,kv0,rfl,e2,by lia,by simpa using tb0,But.refl⟩ (fun _ _ _ _ _=>trivial) (fun i x σ H3' H3 hi it z=>?_) (fun σ H' z=>?_)⟩
  · obtain ⟨c4,c5,c6,c7,c8,kvs,rfl,ek,lk,tb,bb⟩:=z;obtain ⟨rfl,rfl⟩:=it;refine ⟨_,rfl,_,rfl,_,_,rfl,rfl,_,rfl,by lia,by lia,dv Trn.range (fun j σ H'=>∃ c5 c6 c7 c8 kvs,σ=[some (.ref pm),some (.str (am gs)),some (.int ps.length),some (.ref d),some (.int (1+(i:Int))),c5,c6,c7,c8]∧H' d=some (.dT kvs)∧kvs.length≤9+9 * i+j∧qp gs k ps kvs (1+(i:Int)) (j:Int)∧But d H2 H') ⟨_,_,_,_,kvs,rfl,ek,lk,tb,bb⟩ (fun _ _ _ _ _=>trivial) (fun j x σ H4' H4 hj it z=>?_) (fun σ H' z=>?_)⟩
    · obtain ⟨c5,c6,c7,c8,kvs,rfl,ek,lk,tb,bb⟩:=z;obtain ⟨rfl,rfl⟩:=it;rw [Int.zero_add];have hq2:(j:Int)+(1+(i:Int)) < ps.length:=by lia
      generalize hqq:(((j:Int),(j:Int)+(1+(i:Int))):Int × Int)=qq;have q1:qq.1=(j:Int):=by rw [← hqq]
      have q2:qq.2=(j:Int)+(1+(i:Int)):=by rw [← hqq]
      have cl:(a8 qq).length=1+i:=by simp [a8];lia
      have ci:∀ m:Nat,m < 1+i→(a8 qq)[m]?=some ((j:Int)+(m:Int)):=fun m hm=>by
        unfold a8;rw [aam,aaV (by lia),q1];rfl
      refine ⟨_,rfl,_,_,rfl,rfl,_,rfl,_,rfl,_,_,rfl,rfl,_,_,rfl,rfl,_,_,rfl,⟨by lia,by lia,by lia,by lia⟩,dv Trn.range (fun m σ H'=>∃ c7 c8,σ=[some (.ref pm),some (.str (am gs)),some (.int ps.length),some (.ref d),some (.int (1+(i:Int))),some (.int (j:Int)),some (.int ((((a8 qq).take m).filter fun c=>decide (jsc k ps qq.1 c∈gs)).map fun c=>tv gs k 0 ps (qq.1,c) * tv gs k 0 ps (c+1,qq.2)).sum),c7,c8]∧Same H4 H') ⟨_,_,rfl,Same.refl _⟩ (fun _ _ _ _ _=>trivial) (fun m x σ H5' H5 hm it z=>?_) (fun σ H' z=>?_)⟩
      · obtain ⟨c7,c8,rfl,g5⟩:=z;obtain ⟨rfl,rfl⟩:=it;have hm':m < 1+i:=by lia
        have cm:=ci m hm';have em5:H5 pm=some (.lst (ps.map fun p=>V.str (hk k p.1))):=g5 _ _ (bb _ _ nrd (S2 _ _ em));have ek5:=g5 _ _ ek;have at1:=mk_at H5 ((j:Int)+1+(m:Int)) (by lia) (by lia);have at2:=mk_at H5 (j:Int) (by lia) (by lia);have eqc:((j:Int)+(m:Int)+1)=(j:Int)+1+(m:Int):=by lia
        have esg:(jsc k ps qq.1 ((j:Int)+(m:Int))).str=if hk k (hd ps ((j:Int)+1+(m:Int)).toNat) = "*" then ("*":Str) else if hk k (hd ps ((j:Int)+1+(m:Int)).toNat)=hk k (hd ps (j:Int).toNat) then ("+":Str) else ("-":Str):=by
          unfold jsc;rw [q1,eqc];generalize hd ps (j:Int).toNat=x;generalize hd ps ((j:Int)+1+(m:Int)).toNat=y;cases k <;> cases x <;> cases y <;> decide +kernel
        generalize hb1:hk k (hd ps ((j:Int)+1+(m:Int)).toNat)=tb1 at at1 esg;generalize hb2:hk k (hd ps (j:Int).toNat)=tb2 at at2 esg;refine ⟨fun σ' H'=>H'=H5∧σ'=[some (.ref pm),some (.str (am gs)),some (.int ps.length),some (.ref d),some (.int (1+(i:Int))),some (.int (j:Int)),some (.int ((((a8 qq).take m).filter fun c=>decide (jsc k ps qq.1 c∈gs)).map fun c=>tv gs k 0 ps (qq.1,c) * tv gs k 0 ps (c+1,qq.2)).sum),some (.int ((j:Int)+1+(m:Int))),some (.str (if tb1=tb2 then ("+":Str) else ("-":Str)))],?_,fun σ' H' z=>?_⟩
        · refine ⟨_,rfl,_,rfl,pm,_,_,_,rfl,rfl,SqL.of em5,at1,_,rfl,_,rfl,pm,_,_,_,rfl,rfl,SqL.of em5,at2,rfl,_,rfl,jE (fun ce=>?_) (fun ce=>?_)⟩
          · have : ¬ tb1=tb2:=fun z=>by rw [z] at ce;simp at ce
            rw [if_neg this];exact ⟨rfl,rfl⟩
          · have : tb1=tb2:=by simpa using ce
            rw [if_pos this];exact ⟨rfl,rfl⟩
        obtain ⟨rfl,rfl⟩:=z;refine ⟨fun σ' H''=>H''=H'∧σ'=[some (.ref pm),some (.str (am gs)),some (.int ps.length),some (.ref d),some (.int (1+(i:Int))),some (.int (j:Int)),some (.int ((((a8 qq).take m).filter fun c=>decide (jsc k ps qq.1 c∈gs)).map fun c=>tv gs k 0 ps (qq.1,c) * tv gs k 0 ps (c+1,qq.2)).sum),some (.int ((j:Int)+1+(m:Int))),some (.str (jsc k ps qq.1 ((j:Int)+(m:Int))).str)],?_,fun σ' H'' z=>?_⟩
        · refine ⟨_,rfl,_,rfl,pm,_,_,_,rfl,rfl,SqL.of em5,at1,rfl,_,rfl,jE (fun ce=>?_) (fun ce=>?_)⟩
          · have : tb1 = "*":=by simpa using ce
            rw [esg,if_pos this];exact ⟨rfl,rfl⟩
          · have : ¬ tb1 = "*":=by simpa using ce
            rw [esg,if_neg this];exact ⟨rfl,rfl⟩
        obtain ⟨rfl,rfl⟩:=z;refine ⟨_,rfl,_,rfl,_,_,rfl,rfl,_,rfl,?_⟩;have hh:=gr g3 sp (jsc k ps qq.1 ((j:Int)+(m:Int)));have eT:=aaz (l:=a8 qq) (i:=m);rw [cm] at eT;refine jE (c:=cw (am gs) (jsc k ps qq.1 ((j:Int)+(m:Int))).str) (fun ce=>?_) (fun ce=>?_)
        · rw [ce] at hh;have eW:((((a8 qq).take (m+1)).filter fun c=>decide (jsc k ps qq.1 c∈gs)).map fun c=>tv gs k 0 ps (qq.1,c) * tv gs k 0 ps (c+1,qq.2)).sum=((((a8 qq).take m).filter fun c=>decide (jsc k ps qq.1 c∈gs)).map fun c=>tv gs k 0 ps (qq.1,c) * tv gs k 0 ps (c+1,qq.2)).sum+tv gs k 0 ps (qq.1,(j:Int)+(m:Int)) * tv gs k 0 ps ((j:Int)+(m:Int)+1,qq.2):=by
            rw [p_ cm hh.symm,aae,List.sum_append];simp
          have v1:bD kvs (ky ((j:Int),(j:Int)+1+(m:Int) - 1))=some (.int (tv gs k 0 ps (qq.1,(j:Int)+(m:Int)))):=by
            rw [show (j:Int)+1+(m:Int) - 1=(j:Int)+(m:Int) by lia,q1];exact tb (_,_) (by simp only;lia) (by simp only;lia) (by simp only;lia) (.inl (by simp only;lia))
          have v2:bD kvs (ky ((j:Int)+1+(m:Int),(j:Int)+(1+(i:Int))))=some (.int (tv gs k 0 ps ((j:Int)+(m:Int)+1,qq.2))):=by
            rw [eqc,q2];exact tb (_,_) (by simp only;lia) (by simp only;lia) (by simp only;lia) (.inl (by simp only;lia))
          refine ⟨_,rfl,_,rfl,_,rfl,_,rfl,_,_,rfl,rfl,t2,fun u1 n1=>?_⟩;have s6:=Same.new n1 (.tup [.int (j:Int),.int ((j:Int)+1+(m:Int) - 1)]);refine ⟨d,.int (tv gs k 0 ps (qq.1,(j:Int)+(m:Int))),rfl,by rw [← v1];exact DGet.t (k:=ky ((j:Int),(j:Int)+1+(m:Int) - 1)) (s6 _ _ ek5) ad,?_⟩;refine ⟨_,rfl,_,rfl,_,rfl,_,rfl,_,_,rfl,rfl,t2,fun u2 n2=>?_⟩;have s7:=Same.new n2 (.tup [.int ((j:Int)+1+(m:Int)),.int ((j:Int)+(1+(i:Int)))]);refine ⟨d,.int (tv gs k 0 ps ((j:Int)+(m:Int)+1,qq.2)),rfl,by rw [← v2];exact DGet.t (k:=ky ((j:Int)+1+(m:Int),(j:Int)+(1+(i:Int)))) (s7 _ _ (s6 _ _ ek5)) ad,?_⟩;refine ⟨_,_,rfl,rfl,⟨(eu h9 _).2,(eu h9 _).2⟩,_,_,rfl,rfl,_,_,by rw [eW] <;> rfl,g5.trans (s6.trans s7)⟩
        · rw [ce] at hh;have eW:(((a8 qq).take (m+1)).filter fun c=>decide (jsc k ps qq.1 c∈gs))=(((a8 qq).take m).filter fun c=>decide (jsc k ps qq.1 c∈gs)):=by
            rw [eT,abT];simp only [Option.toList,List.filter_cons,← hh,List.filter_nil];simp
          exact ⟨_,_,by rw [eW] <;> rfl,g5⟩
      · obtain ⟨c7,c8,rfl,g5⟩:=z;rw [show ((j:Int)+(1+(i:Int))+1 - ((j:Int)+1)).toNat=(a8 qq).length by rw [cl];lia,aaP];refine ⟨_,rfl,_,rfl,_,rfl,_,rfl,_,rfl,_,_,rfl,rfl,t2,fun u nu=>?_⟩;have su:=Same.new nu (.tup [.int (j:Int),.int ((j:Int)+(1+(i:Int)))]);have gu:=g5.trans su;have eku:=gu _ _ ek;have ev:((((a8 qq).filter fun c=>decide (jsc k ps qq.1 c∈gs)).map fun c=>tv gs k 0 ps (qq.1,c) * tv gs k 0 ps (c+1,qq.2)).sum)=tv gs k 0 ps qq:=(mq (by lia) (by lia) (by lia)).symm;rw [ev];refine ⟨d,_,rfl,DPut.t (k:=ky qq) eku (by rw [← hqq];exact ad) (aA (by lia)),_,_,_,_,_,rfl,ad,?_,?_,(bb.trans (But.of gu)).trans But.put⟩
        · have:=bB kvs (ky qq) (.int (tv gs k 0 ps qq));lia
        · intro x a1 a2 a3 a4;rw [eA];by_cases e:ky x=ky qq
          · rw [if_pos e,mR e]
          · rw [if_neg e];refine tb x a1 a2 a3 ?_;rcases a4 with a4|⟨a4,a5⟩
            · exact .inl a4
            · refine .inr ⟨a4,?_⟩;have : x.1≠(j:Int):=fun z=>e (by rw [show x=qq from Prod.ext (by rw [z,q1]) (by rw [q2];lia)]);lia
    · obtain ⟨c5,c6,c7,c8,kvs,rfl,ek,lk,tb,bb⟩:=z;refine ⟨_,_,_,_,_,kvs,rfl,ek,by lia,fun x a1 a2 a3 a4=>tb x a1 a2 a3 ?_,bb⟩;rcases a4 with a4|⟨a4,a5⟩ <;> lia
  · obtain ⟨c4,c5,c6,c7,c8,kvs,rfl,ek,lk,tb,bb⟩:=z;refine ⟨_,rfl,q d kvs H' (fun b o hb=>bb b o (fun z=>by rw [z,nDH] at hb;cases hb) (S2 _ _ hb)) ek fun x a1 a2 a3 a4=>tb x a1 a2 a3 (.inl (by lia))⟩
end
open PySem L2
theorem rM {gs:List Sg} {k:Bool} {ps:List (Bool × Wy)} (h:1≤ps.length):tv gs k 0 ps (0,(ps.length:Int) - 1)=((tc gs k ps.length (ar ps) * (([]:List (Bool × Wy)).map fun p=>ct gs 0 p.2).prod:Nat):Int):=by
  unfold tv;rw [kj h];have e:∀ l:List (Bool × Wy),(l.map fun p=>ct gs 0 p.2).prod=1:=fun l=>by
    induction l with
    | nil=>rfl
    | cons a l ih=>rw [aav,List.prod_cons,ih];rfl
  rw [e,e]
theorem oW (ps:List (Bool × Wy)) (i:Nat):szs (ps.take i)≤szs ps:=by
  have:=congrArg szs (aaT i ps);rw [fV] at this;lia
theorem s_ {gs:List Sg} {k:Bool} {n:Nat} {ps:List (Bool × Wy)} (h9:szs ps≤9) (i:Nat):((tc gs k ps.length (ar ps) * ((ps.take i).map fun p=>ct gs n p.2).prod:Nat):Int).natAbs < 2 ^ 4000:=by
  have hs:=oW ps i;have hl:=ba ps;have hl':=ba (ps.take i);have a:=kZ (gs:=gs) (k:=k) ps.length (ar ps) (by unfold ar;rw [aab];lia);have b:=iB (gs:=gs) (n:=n) (ps:=ps.take i) fun p hp=>og n p.2 (by have:=iu hp;have : 1≤(ps.take i).length:=List.length_pos_of_mem hp;lia);have c:=abr a b;rw [← Nat.pow_add] at c;have d:9 ^ ((ar ps).length - 1+(szs (ps.take i) - (ps.take i).length))≤9 ^ 18:=abu (by decide) (by unfold ar;rw [aab];lia);rw [Int.natAbs_natCast];exact abW (aaN c d) (by decide +kernel)
section
variable {P:Program} {w:World} {K:aaa} {mg:Str→Option Value} {base:Heap} {f:Addr} {fd:FuncData}
abbrev dQ:Stmt:=top 62
theorem bw:FnScope ["form","signs","marks","parts","found","part"] ["form","signs"] (ai dQ):=⟨rfl,rfl,rfl,by decide +kernel,rfl,by decide +kernel,by decide +kernel⟩
theorem jA (F:Fun K "_law_twins" "_law_twins" dQ f fd) (bF:Binds K fd ["form","signs"] []) (mF:mg "_law_twins" = some (.ref f)) (B:Bu K mg) (C__law_parts:Cal P w K mg base "_law_parts" 1 ["form"] o4) (C__law_table:Cal P w K mg base "_law_table" 1 ["parts","signs"] lc):∀ n,FnOk P w K mg base CX0 (n+2) f fd ["form","signs"] (h_ n):=by
  intro n
  induction n with
  | zero =>
    refine ⟨fun vs H Q E h=>?_,fun A outer s H args us vs Q E _ _ _ _ h=>?_⟩
    · obtain ⟨x,v,gs,rfl,_⟩:=h;rfl
    · obtain ⟨wy,v,gs,_,_,h0,_⟩:=h;have:=wy.size_pos;lia
  | succ n ih =>
    have C__law_twins:Cal P w K mg base "_law_twins" (n+2) ["form","signs"] (h_ n):=⟨f,fd,ih,bF,F.kp,mF⟩
    refine F.ok bw (fun vs H Q E h=>?_) (fun cdv A outer s H vs Q E hr h=>?_)
    · obtain ⟨x,v,gs,rfl,_⟩:=h;rfl
    obtain ⟨wy,v,gs,rfl,hd',hn,h9,hB,g3,sp,q⟩:=h;refine ⟨_,(@ae _ _ _ _ _ (@aL _ _ _ _ _ _ _ _ (@bM _ _ _ _ (@aQ _ _ _ (@ao _ _ _ _ _ _ _ _ _ (@aI _ ("tuple")) rfl B.iisinstance aal (@aa _ _ _ _ _ (pv 0) (@aa _ _ _ _ _ (@bh _ _ (.ty "tuple") _ _ rfl B.ituple aaI rfl (by decide) (by decide)) ac (by rfl)) (by rfl)) (by decide) (by decide) (by rfl) (by rfl)) (by intro _;rfl))) (@af _ _ _ (@aq _ _ _ _ ag)) aB) (@ae _ _ _ _ _ (@bW _ _ _ _ _ _ (@ah _ _ _ _ _ _ _ _ _ _ _ C__law_parts hr (by lia) rfl (@aa _ _ _ _ _ (pv 0) ac (by rfl)) (by decide) (by rfl) (by rfl)) (@pA _ _ _ _ _ _ rfl (@ap _ _ _ _ _ (@aj _ _ (2) _ (bw).nd rfl (Or.inl rfl) (.inl rfl)) (@ap _ _ _ _ _ (@aj _ _ (3) _ (bw).nd rfl (Or.inl rfl) (.inl rfl)) aU (by rfl)) (by rfl)) (by rfl) (by rfl)) (by rfl) (by rfl) (by rfl)) (@ae _ _ _ _ _ (@aC _ _ (4) _ _ _ _ (bw).nd rfl (Or.inl rfl) (@bG _ _ _ _ _ _ (u1 hr.units) (@ah _ _ _ _ _ _ _ _ _ _ _ C__law_table hr (by lia) rfl (@aa _ _ _ _ _ (pv 2) (@aa _ _ _ _ _ (pv 1) ac (by rfl)) (by rfl)) (by decide) (by rfl) (by rfl)) (@aM _ _ _ _ _ (@aa _ _ _ _ _ ag (@aa _ _ _ _ _ (@au _ _ _ _ _ _ _ _ bN (@ao _ _ _ _ _ _ _ _ _ az rfl B.ilen aaD (@aa _ _ _ _ _ (pv 3) ac (by rfl)) (by decide) (by decide) (by rfl) (by rfl)) ag) ac (by rfl)) (by rfl))) (fun _ _=>rfl)) (by rfl) (by first|exact .inl rfl|exact .inr rfl|assumption)) (@ae _ _ _ _ _ (@bV _ _ _ _ _ _ _ _ aaM rfl (@cz _ _ _ _ (pv 3)) (@aj _ _ (5) _ (bw).nd rfl (Or.inl rfl) (.inl rfl)) (@af _ _ _ (@aC _ _ (4) _ _ _ _ (bw).nd rfl (Or.inl rfl) (@au _ _ _ _ _ _ _ _ iC (pv 4) (@ah _ _ _ _ _ _ _ _ _ _ _ C__law_twins hr (by lia) rfl (@aa _ _ _ _ _ (pv 5) (@aa _ _ _ _ _ (pv 1) ac (by rfl)) (by rfl)) (by decide) (by rfl) (by rfl))) (by rfl) (by first|exact .inl rfl|exact .inr rfl|assumption))) (by intro _;rfl)) (@af _ _ _ (@aq _ _ _ _ (pv 4))))))),?_⟩;cases wy with
    | num i =>
      have e:v=.int i:=by simpa only [Wy.fm,Fm.data,Dat] using hd'
      subst e;exact ⟨_,rfl,_,_,false,rfl,.int i,rfl,false,rfl,bj (q H (Same.refl _))⟩
    | node g l r =>
      obtain ⟨a,b,us,rfl,ea,eb,i1,i2⟩:=dg hd';refine ⟨_,rfl,_,_,true,rfl,.tup ea,rfl,true,rfl,aR ?_⟩;refine ⟨_,rfl,g,l,r,_,rfl,hd',h9,fun p pm pp us' H1 g1 ep em epp hp=>?_⟩;generalize hps:lv g.k true (.node g l r)=ps at hp em;have zp:szs ps≤9:=by rw [← hps,bo];exact h9
      have lp:=aaH hp;have lps:=ba ps;have l1:1≤ps.length:=by rw [← hps];exact bi _ _ _
      have hBp:∀ p∈ps,p.2.Bd:=fun p hp=>by rw [← hps] at hp;exact jc hB hp
      have hless:∀ p∈ps,p.2.size < (Wy.node g l r).size:=fun p hp=>by rw [← hps] at hp;exact bJ hp
      refine ⟨p,_,rfl,SqL.of ep,rfl,_,_,rfl,_,_,rfl,rfl,?_⟩;refine ⟨_,rfl,_,rfl,pm,gs,g.k,ps,rfl,em,zp,g3,sp,fun d kvs H2 g2 ed tb=>?_⟩;refine ⟨_,rfl,pp,_,rfl,.inl (SqL.of (g2 _ _ epp)),_,_,rfl,rfl,(by show 2≤sizeLine;decide),fun t ht=>?_⟩;rw [← lp] at *;have st:=Same.new ht (.tup [.int 0,.int ((ps.length:Int) - 1)]);have v1:=tb (0,(ps.length:Int) - 1) (by simp only;lia) (by simp only;lia) (by simp only;lia) (.inl (by simp only;lia));refine ⟨d,.int (tv gs g.k 0 ps (0,(ps.length:Int) - 1)),rfl,by rw [← v1];exact DGet.t (k:=ky (0,(ps.length:Int) - 1)) (st _ _ ed) ad,?_⟩;rw [rM l1];have G3:=(g1.trans g2).trans st;have e3:=(g2.trans st) _ _ epp;have hp3:Paired (PdR (upd H2 t (.tup [.int 0,.int ((ps.length:Int) - 1)]))) ps us':=Paired.imp' (fun _ _ z=>Dat.mono (g2.trans st) _ _ z) hp;generalize upd H2 t (.tup [.int 0,.int ((ps.length:Int) - 1)])=H3 at G3 e3 hp3 ⊢;refine ⟨_,rfl,pp,rfl,⟨_,SqL.of e3⟩,dv (Trn.list (xs:=us')) (fun i σ H'=>∃ c5,σ=[some (.ref a),some (.str (am gs)),some (.ref pm),some (.ref pp),some (.int ((tc gs g.k ps.length (ar ps) * ((ps.take i).map fun p=>ct gs n p.2).prod:Nat):Int)),c5]∧Same H3 H') ⟨_,rfl,Same.refl _⟩ (fun i σ H' hi z=>?_) (fun i x σ H4' H4 hi it z=>?_) (fun σ H' z=>?_)⟩
      · obtain ⟨_,rfl,bb⟩:=z;exact SqL.of (bb _ _ e3)
      · obtain ⟨c5,rfl,bb⟩:=z;obtain ⟨rfl,hx⟩:=it;obtain ⟨pr,hpr,du⟩:=Paired.at hp3 hx;have pmm:=aaw hpr;have hls:=hless pr pmm;refine ⟨_,rfl,_,rfl,_,rfl,pr.2,x,gs,rfl,Dat.mono bb _ _ du,by lia,by lia,hBp pr pmm,g3,sp,fun H5 g5=>?_⟩;have eW:((tc gs g.k ps.length (ar ps) * ((ps.take (i+1)).map fun p=>ct gs n p.2).prod:Nat):Int)=((tc gs g.k ps.length (ar ps) * ((ps.take i).map fun p=>ct gs n p.2).prod:Nat):Int) * ((ct gs n pr.2:Nat):Int):=by
          rw [aaz,hpr,aae,List.prod_append,← acf,Int.natCast_mul (tc gs g.k ps.length (ar ps) * _)];simp
        have hb:((ct gs n pr.2:Nat):Int).natAbs < 2 ^ 4000:=by
          rw [Int.natAbs_natCast];exact abW (aaN (og n pr.2 (by lia)) (abu (by decide) (show pr.2.size - 1≤9 by lia))) (by decide +kernel)
        exact ⟨_,_,rfl,rfl,⟨s_ zp i,hb⟩,some x,by rw [eW] <;> rfl,bb.trans g5⟩
      · obtain ⟨c5,rfl,bb⟩:=z;rw [← aaH hp3,aaP];refine ⟨_,rfl,?_⟩;have et:ct gs (n+1) (.node g l r)=tc gs g.k ps.length (ar ps) * (ps.map fun p=>ct gs n p.2).prod:=by rw [← hps];rfl
        rw [← et];exact q _ (G3.trans bb)
end
open PySem L2
theorem nk {α:Type} {f:α→Int}:∀ {l:List α},(∀ a∈l,0≤f a)→(0 < (l.map f).sum↔∃ a∈l,0 < f a)
  | [],_=>by simp
  | a :: l,h=>by
    have ih:=nk (f:=f) (l:=l) fun b hb=>h b (aaj _ hb);have h0:=h a aan;have hs:0≤(l.map f).sum:=by
      clear ih
      induction l with
      | nil=>simp
      | cons b l ih2 =>
        rw [aav,aaS];have:=h b (aaj _ aan);have:=ih2 fun c hc=>h c (by
          rcases aaC.mp hc with rfl|hc
          · exact aan
          · exact aaj _ (aaj _ hc))
        lia
    rw [aav,aaS];constructor
    · intro hp;by_cases c:0 < f a
      · exact ⟨a,aan,c⟩
      · obtain ⟨b,hb,hf⟩:=ih.mp (by lia);exact ⟨b,aaj _ hb,hf⟩
    · rintro ⟨b,hb,hf⟩;rcases aaC.mp hb with rfl|hb
      · lia
      · have:=ih.mpr ⟨b,hb,hf⟩;lia
theorem kN {gs:List Sg} {k:Bool} {n:Nat} {ps:List (Bool × Wy)} (h9:szs ps≤9):∀ (m:Nat) (q:Int × Int),0≤q.1→q.1≤q.2→q.2 < ps.length→q.2 - q.1 < m→((∃ w,fv gs k n ps q=some w)↔0 < tv gs k 0 ps q)
  | 0,q,h0,h1,h2,h3=>by lia
  | m+1,q,h0,h1,h2,h3=>by
    by_cases c:q.1=q.2
    · have hj:q.1.toNat < ps.length:=by lia
      have e:ps[q.1.toNat]?=some ps[q.1.toNat]:=aaf hj;rw [mU h0 c e,mo h0 c e];exact ⟨fun _=>by show (0:Int) < ((1:Nat):Int);decide,fun _=>⟨_,rfl⟩⟩
    · have hlt:q.1 < q.2:=by lia
      rw [mV h0 hlt h2,mq h0 hlt h2];rw [nk fun a _=>ab4 (eu h9 _).1 (eu h9 _).1];have key:∀ a∈jw gs k ps q,((∃ w,jf gs k n ps q a=some w)↔0 < tv gs k 0 ps (q.1,a) * tv gs k 0 ps (a+1,q.2)):=fun a ha=>by
        have hc:a∈a8 q:=(ach.mp ha).1;unfold a8 at hc;obtain ⟨j,hj,rfl⟩:=aaQ.mp hc;have hj:=aaK.mp hj;have i1:=kN (gs:=gs) (k:=k) (n:=n) h9 m (q.1,q.1+(j:Int)) h0 (by simp only;lia) (by simp only;lia) (by simp only;lia);have i2:=kN (gs:=gs) (k:=k) (n:=n) h9 m (q.1+(j:Int)+1,q.2) (by simp only;lia) (by simp only;lia) h2 (by simp only;lia);have n1:=(eu (gs:=gs) (k:=k) (n:=0) h9 (q.1,q.1+(j:Int))).1;have n2:=(eu (gs:=gs) (k:=k) (n:=0) h9 (q.1+(j:Int)+1,q.2)).1;constructor
        · rintro ⟨w,e⟩;unfold jf at e;obtain ⟨l,e1,e⟩:=abX.mp e;obtain ⟨r,e2,e⟩:=aaE.mp e;exact Int.mul_pos (i1.mp ⟨l,e1⟩) (i2.mp ⟨r,e2⟩)
        · intro hp;have p1:0 < tv gs k 0 ps (q.1,q.1+(j:Int)):=by
            rcases abS n1 with h|h
            · exact h
            · rw [← h,Int.zero_mul] at hp;lia
          have p2:0 < tv gs k 0 ps (q.1+(j:Int)+1,q.2):=by
            rcases abS n2 with h|h
            · exact h
            · rw [← h,Int.mul_zero] at hp;lia
          obtain ⟨l,e1⟩:=i1.mpr p1;obtain ⟨r,e2⟩:=i2.mpr p2;exact ⟨_,by unfold jf;rw [e1,e2];rfl⟩
      constructor
      · rintro ⟨w,e⟩;obtain ⟨a,ha,e⟩:=ab1 e;exact ⟨a,ha,(key a ha).mp ⟨w,e⟩⟩
      · rintro ⟨a,ha,hp⟩;obtain ⟨w,e⟩:=(key a ha).mpr hp;cases ef:(jw gs k ps q).findSome? (jf gs k n ps q) with
        | some w=>exact ⟨w,rfl⟩
        | none =>
          rw [List.findSome?_eq_none_iff] at ef;rw [ef a ha] at e;cases e
section
variable {P:Program} {w:World} {K:aaa} {mg:Str→Option Value} {base:Heap} {f:Addr} {fd:FuncData}
def qD (n m:Nat):Sp:=fun vs H Q _=>∃ (d pm pp:Addr) (kvs:List (List Key × V)) (us:List V) (gs:List Sg) (k:Bool) (ps:List (Bool × Wy)) (q:Int × Int) (wy:Wy),vs=[.ref d,.ref pm,.ref pp,.int q.1,.int q.2,.str (am gs)]∧H d=some (.dT kvs)∧qp gs k ps kvs ps.length 0∧H pm=some (.lst (ps.map fun p=>.str (hk k p.1)))∧H pp=some (.lst us)∧Paired (PdR H) ps us∧szs ps≤9∧(∀ p∈ps,p.2.size≤n∧p.2.Bd∧p.2.within gs)∧gs.length≤3∧bC gs∧0≤q.1∧q.1≤q.2∧q.2 < ps.length∧q.2 - q.1 < m∧fv gs k n ps q=some wy∧∀ x H',Same H H'→WyIn H' wy x→Q x H'
abbrev de:Stmt:=top 63
theorem bT:FnScope ["table","marks","parts","begin","end","signs","cut","sign","left"] ["table","marks","parts","begin","end","signs"] (ai de):=⟨rfl,rfl,rfl,by decide +kernel,rfl,by decide +kernel,by decide +kernel⟩
theorem qW {n L:Nat} (F:Fun K "_law_tree" "_law_tree" de f fd) (bF:Binds K fd ["table","marks","parts","begin","end","signs"] []) (mF:mg "_law_tree" = some (.ref f)) (B:Bu K mg) (C__law_first:Cal P w K mg base "_law_first" L ["form","signs"] (jj n)):∀ m,FnOk P w K mg base CX0 (L+m+1) f fd ["table","marks","parts","begin","end","signs"] (qD n m):=by
  intro m
  induction m with
  | zero =>
    refine ⟨fun vs H Q E h=>?_,fun A outer s H args us vs Q E _ _ _ _ h=>?_⟩
    · obtain ⟨d,pm,pp,kvs,us,gs,k,ps,q,wy,rfl,_⟩:=h;rfl
    · obtain ⟨d,pm,pp,kvs,us,gs,k,ps,q,wy,_,_,_,_,_,_,_,_,_,_,h0,h1,_,h3,_⟩:=h;lia
  | succ m ih =>
    have C__law_tree:Cal P w K mg base "_law_tree" (L+m+1) ["table","marks","parts","begin","end","signs"] (qD n m):=⟨f,fd,ih,bF,F.kp,mF⟩
    refine F.ok bT (fun vs H Q E h=>?_) (fun cdv A outer s H vs Q E hr h=>?_)
    · obtain ⟨d,pm,pp,kvs,us,gs,k,ps,q,wy,rfl,_⟩:=h;rfl
    obtain ⟨d,pm,pp,kvs,us,gs,k,ps,q,wy,rfl,ed,tb,em,epp,hp,h9,hpp,g3,sp,h0,h1,h2,h3,hf,fin⟩:=h;refine ⟨_,(@ae _ _ _ _ _ (@aL _ _ _ _ _ _ _ _ (@av _ _ _ _ _ _ _ _ bn (pv 3) (pv 4) (aE _)) (@af _ _ _ (@aq _ _ _ _ (@ah _ _ _ _ _ _ _ _ _ _ _ C__law_first hr (by lia) rfl (@aa _ _ _ _ _ (@aG _ _ _ _ _ _ _ aJ (pv 2) (pv 3) (fun _ _=>rfl)) (@aa _ _ _ _ _ (pv 5) ac (by rfl)) (by rfl)) (by decide) (by rfl) (by rfl)))) aB) (@ae _ _ _ _ _ (@bV _ _ _ _ _ _ _ _ aaM rfl (@cq _ _ _ _ _ _ _ rfl B.irange (@aa _ _ _ _ _ (@au _ _ _ _ _ _ _ _ a_ (pv 3) ag) (@aa _ _ _ _ _ (@au _ _ _ _ _ _ _ _ a_ (pv 4) ag) ac (by rfl)) (by rfl)) (by rfl) (by rfl)) (@aj _ _ (6) _ (bT).nd rfl (Or.inl rfl) (.inl rfl)) (@ae _ _ _ _ _ (@aC _ _ (7) _ _ _ _ (bT).nd rfl (Or.inl rfl) (@aG _ _ _ _ _ _ _ aJ (@aY _ _ _ _ (@aa _ _ _ _ _ ay (@aa _ _ _ _ _ ay ac (by rfl)) (by rfl))) (@bH _ _ _ _ _ _ _ _ _ h6 rfl B.iint abn (@aa _ _ _ _ _ (@bY _ _ _ _ _ _ _ _ bn (@aG _ _ _ _ _ _ _ aJ (pv 1) (pv 6) (fun _ _=>rfl)) (@aG _ _ _ _ _ _ _ aJ (pv 1) (pv 3) (fun _ _=>rfl)) (aE _)) ac (by rfl)) (by decide) (by decide) (by rfl) (by rfl)) (fun _ _=>rfl)) (by rfl) (by first|exact .inl rfl|exact .inr rfl|assumption)) (@ko _ _ _ _ _ (@aL _ _ _ _ _ _ _ _ (@av _ _ _ _ _ _ _ _ bn (@aG _ _ _ _ _ _ _ aJ (pv 1) (pv 6) (fun _ _=>rfl)) ay (aE _)) (@af _ _ _ (@aC _ _ (7) _ _ _ _ (bT).nd rfl (Or.inl rfl) ay (by rfl) (by first|exact .inl rfl|exact .inr rfl|assumption))) aB) (@af _ _ _ (@aL _ _ _ _ _ _ _ _ (@PW.pt _ _ _ (@cV _ _ _ _ _ _ _ (@av _ _ _ _ _ _ _ _ cL (pv 7) (pv 5) (by with_unfolding_all rfl)) (@df _ _ _ _ (@av _ _ _ _ _ _ _ _ pH (@au _ _ _ _ _ _ _ _ iC (@bG _ _ _ _ _ _ (u1 hr.units) (pv 0) (@aM _ _ _ _ _ (@aa _ _ _ _ _ (pv 3) (@aa _ _ _ _ _ (@au _ _ _ _ _ _ _ _ bN (pv 6) ag) ac (by rfl)) (by rfl))) (fun _ _=>rfl)) (@bG _ _ _ _ _ _ (u1 hr.units) (pv 0) (@aM _ _ _ _ _ (@aa _ _ _ _ _ (pv 6) (@aa _ _ _ _ _ (pv 4) ac (by rfl)) (by rfl))) (fun _ _=>rfl))) ag (aE _))))) (@ae _ _ _ _ _ (@aC _ _ (8) _ _ _ _ (bT).nd rfl (Or.inl rfl) (@ah _ _ _ _ _ _ _ _ _ _ _ C__law_tree hr (by lia) rfl (@aa _ _ _ _ _ (pv 0) (@aa _ _ _ _ _ (pv 1) (@aa _ _ _ _ _ (pv 2) (@aa _ _ _ _ _ (pv 3) (@aa _ _ _ _ _ (@au _ _ _ _ _ _ _ _ bN (pv 6) ag) (@aa _ _ _ _ _ (pv 5) ac (by rfl)) (by rfl)) (by rfl)) (by rfl)) (by rfl)) (by rfl)) (by decide) (by rfl) (by rfl)) (by rfl) (by first|exact .inl rfl|exact .inr rfl|assumption)) (@af _ _ _ (@aq _ _ _ _ (@aM _ _ _ _ _ (@aa _ _ _ _ _ (pv 7) (@aa _ _ _ _ _ (pv 8) (@aa _ _ _ _ _ (@ah _ _ _ _ _ _ _ _ _ _ _ C__law_tree hr (by lia) rfl (@aa _ _ _ _ _ (pv 0) (@aa _ _ _ _ _ (pv 1) (@aa _ _ _ _ _ (pv 2) (@aa _ _ _ _ _ (pv 6) (@aa _ _ _ _ _ (pv 4) (@aa _ _ _ _ _ (pv 5) ac (by rfl)) (by rfl)) (by rfl)) (by rfl)) (by rfl)) (by rfl)) (by decide) (by rfl) (by rfl)) ac (by rfl)) (by rfl)) (by rfl)))))) aB)))) (by intro _;rfl)) (@af _ _ _ (@aq _ _ _ _ ku)))),?_⟩;have lps:=ba ps;have lp:=aaH hp;refine ⟨_,rfl,_,rfl,rfl,_,rfl,jE (fun ce=>?_) (fun ce=>?_)⟩
    · have ce:V.int q.1=V.int q.2:=of_decide_eq_true ce;injection ce with ce
      have hj:q.1.toNat < us.length:=by lia
      have hx:us[q.1.toNat]?=some us[q.1.toNat]:=aaf hj;obtain ⟨pr,hpr,du⟩:=Paired.at hp hx;have pmm:=aaw hpr;obtain ⟨z1,z2,z3⟩:=hpp pr pmm;have szp:=iu pmm;have at0:atI us q.1=some us[q.1.toNat]:=by
        have:=fj hx
        rwa [Int.toNat_of_nonneg h0] at this
      rw [mU h0 ce hpr] at hf;injection hf with hf
      subst hf;exact ⟨_,rfl,_,rfl,pp,_,_,_,rfl,rfl,SqL.of epp,at0,_,rfl,pr.2,_,gs,rfl,du,z1,by lia,z2,g3,sp,z3,fun x H' g' ix=>fin x H' g' ix⟩
    · have ce:q.1≠q.2:=fun z=>by rw [z] at ce;simp at ce
      have hlt:q.1 < q.2:=by lia
      have t2:(2:Nat)≤sizeLine:=by decide
      rw [mV h0 hlt h2] at hf;have mk_at:∀ (i:Int),0≤i→i < ps.length→atI (ps.map fun p=>V.str (hk k p.1)) i=some (.str (hk k (hd ps i.toNat))):=fun i h0 hi=>by
        obtain ⟨j,rfl⟩:=abg h0;have hj:j < ps.length:=by lia
        refine fj ?_;rw [aam,aaf hj];show some (V.str (hk k ps[j].1))=_;congr 3;unfold hd;rw [aao,aam,show (j:Int).toNat=j from rfl,aaf hj];rfl
      have cl:(a8 q).length=(q.2 - q.1).toNat:=by simp [a8]
      refine ⟨_,rfl,_,_,rfl,rfl,_,rfl,_,_,rfl,rfl,_,_,rfl,⟨by lia,by lia,by lia,by lia⟩,dv Trn.range (fun i σ H'=>∃ c6 c7 c8,σ=[some (.ref d),some (.ref pm),some (.ref pp),some (.int q.1),some (.int q.2),some (.str (am gs)),c6,c7,c8]∧Same H H'∧(((a8 q).take i).filter fun c=>decide (jsc k ps q.1 c∈gs)).findSome? (jf gs k n ps q)=none) ⟨_,_,_,rfl,Same.refl _,rfl⟩ (fun _ _ _ _ _=>trivial) (fun i x σ H5' H5 hi it z=>?_) (fun σ H' z=>?_)⟩
      · obtain ⟨c6,c7,c8,rfl,g5,hnone⟩:=z;obtain ⟨rfl,rfl⟩:=it;have ci:(a8 q)[i]?=some (q.1+(i:Int)):=by
          unfold a8;rw [aam,aaV (by lia)];rfl
        have em5:=g5 _ _ em;have at1:=mk_at (q.1+1+(i:Int)) (by lia) (by lia);have at2:=mk_at q.1 (by lia) (by lia);have eqc:(q.1+(i:Int)+1)=q.1+1+(i:Int):=by lia
        have esg:(jsc k ps q.1 (q.1+(i:Int))).str=if hk k (hd ps (q.1+1+(i:Int)).toNat) = "*" then ("*":Str) else if hk k (hd ps (q.1+1+(i:Int)).toNat)=hk k (hd ps q.1.toNat) then ("+":Str) else ("-":Str):=by
          unfold jsc;rw [eqc];generalize hd ps q.1.toNat=x;generalize hd ps (q.1+1+(i:Int)).toNat=y;cases k <;> cases x <;> cases y <;> decide +kernel
        generalize hb1:hk k (hd ps (q.1+1+(i:Int)).toNat)=tb1 at at1 esg;generalize hb2:hk k (hd ps q.1.toNat)=tb2 at at2 esg;refine ⟨t2,fun pl nl=>?_⟩;have sl:=Same.new nl (.lst [.str "-",.str "+"]);have atL:atI [V.str "-",V.str "+"] (if decide (V.str tb1=V.str tb2)=true then 1 else 0)=some (.str (if tb1=tb2 then ("+":Str) else ("-":Str))):=by
          by_cases c:tb1=tb2
          · rw [if_pos c,if_pos (by rw [c];simp)];rfl
          · rw [if_neg c,if_neg (by simpa using c)];rfl
        refine ⟨_,rfl,_,rfl,pm,_,_,_,rfl,rfl,SqL.of (sl _ _ em5),at1,_,rfl,_,rfl,pm,_,_,_,rfl,rfl,SqL.of (sl _ _ em5),at2,rfl,.inr ⟨_,rfl,pl,_,_,_,rfl,rfl,SqL.of ad,atL,?_⟩⟩;have g6:=g5.trans sl;generalize upd H5 pl (.lst [.str "-",.str "+"])=H6 at g6 ⊢;have em6:=g6 _ _ em;have ed6:=g6 _ _ ed;refine ⟨fun σ' H''=>H''=H6∧σ'=[some (.ref d),some (.ref pm),some (.ref pp),some (.int q.1),some (.int q.2),some (.str (am gs)),some (.int (q.1+1+(i:Int))),some (.str (jsc k ps q.1 (q.1+(i:Int))).str),c8],?_,fun σ' H'' z=>?_⟩
        · refine ⟨_,rfl,_,rfl,pm,_,_,_,rfl,rfl,SqL.of em6,at1,rfl,_,rfl,jE (fun ce=>?_) (fun ce=>?_)⟩
          · have : tb1 = "*":=by simpa using ce
            rw [esg,if_pos this];exact ⟨rfl,rfl⟩
          · have : ¬ tb1 = "*":=by simpa using ce
            rw [esg,if_neg this];exact ⟨rfl,rfl⟩
        obtain ⟨rfl,rfl⟩:=z;refine ⟨_,rfl,_,rfl,_,_,rfl,rfl,_,rfl,?_⟩;have hh:=gr g3 sp (jsc k ps q.1 (q.1+(i:Int)));refine jE (c:=cw (am gs) (jsc k ps q.1 (q.1+(i:Int))).str) (fun ce=>?_) (fun ce=>?_)
        · rw [ce] at hh;have v1:bD kvs (ky (q.1,q.1+1+(i:Int) - 1))=some (.int (tv gs k 0 ps (q.1,q.1+(i:Int)))):=by
            rw [show q.1+1+(i:Int) - 1=q.1+(i:Int) by lia];exact tb (_,_) (by simp only;lia) (by simp only;lia) (by simp only;lia) (.inl (by simp only;lia))
          have v2:bD kvs (ky (q.1+1+(i:Int),q.2))=some (.int (tv gs k 0 ps (q.1+(i:Int)+1,q.2))):=by
            rw [eqc];exact tb (_,_) (by simp only;lia) (by simp only;lia) (by simp only;lia) (.inl (by simp only;lia))
          refine ⟨_,rfl,_,rfl,_,rfl,_,_,rfl,rfl,t2,fun u1 n1=>?_⟩;have s7:=Same.new n1 (.tup [.int q.1,.int (q.1+1+(i:Int) - 1)]);refine ⟨d,.int (tv gs k 0 ps (q.1,q.1+(i:Int))),rfl,by rw [← v1];exact DGet.t (k:=ky (q.1,q.1+1+(i:Int) - 1)) (s7 _ _ ed6) ad,?_⟩;refine ⟨_,rfl,_,rfl,_,rfl,t2,fun u2 n2=>?_⟩;have s8:=Same.new n2 (.tup [.int (q.1+1+(i:Int)),.int q.2]);refine ⟨d,.int (tv gs k 0 ps (q.1+(i:Int)+1,q.2)),rfl,by rw [← v2];exact DGet.t (k:=ky (q.1+1+(i:Int),q.2)) (s8 _ _ (s7 _ _ ed6)) ad,?_⟩;refine ⟨_,_,rfl,rfl,⟨(eu h9 _).2,(eu h9 _).2⟩,_,_,rfl,rfl,_,rfl,?_⟩;have g8:=g6.trans (s7.trans s8);generalize upd (upd H'' u1 (.tup [.int q.1,.int (q.1+1+(i:Int) - 1)])) u2 (.tup [.int (q.1+1+(i:Int)),.int q.2])=H8 at g8 ⊢;have i1:=kN (gs:=gs) (k:=k) (n:=n) h9 9 (q.1,q.1+(i:Int)) h0 (by simp only;lia) (by simp only;lia) (by simp only;lia);have i2:=kN (gs:=gs) (k:=k) (n:=n) h9 9 (q.1+(i:Int)+1,q.2) (by simp only;lia) (by simp only;lia) h2 (by simp only;lia);have n1':=(eu (gs:=gs) (k:=k) (n:=0) h9 (q.1,q.1+(i:Int))).1;have n2':=(eu (gs:=gs) (k:=k) (n:=0) h9 (q.1+(i:Int)+1,q.2)).1;have eF:=p_ (p:=fun c=>decide (jsc k ps q.1 c∈gs)) ci hh.symm;refine jE (fun cp=>?_) (fun cp=>?_)
          · have cp:0 < tv gs k 0 ps (q.1,q.1+(i:Int)) * tv gs k 0 ps (q.1+(i:Int)+1,q.2):=of_decide_eq_true cp;have p1:0 < tv gs k 0 ps (q.1,q.1+(i:Int)):=by
              rcases abS n1' with h|h
              · exact h
              · rw [← h,Int.zero_mul] at cp;lia
            have p2:0 < tv gs k 0 ps (q.1+(i:Int)+1,q.2):=by
              rcases abS n2' with h|h
              · exact h
              · rw [← h,Int.mul_zero] at cp;lia
            obtain ⟨l,el⟩:=i1.mpr p1;obtain ⟨r,er⟩:=i2.mpr p2;have ejf:jf gs k n ps q (q.1+(i:Int))=some (.node (jsc k ps q.1 (q.1+(i:Int))) l r):=by unfold jf;rw [el,er];rfl
            have eall:(jw gs k ps q).findSome? (jf gs k n ps q)=some (.node (jsc k ps q.1 (q.1+(i:Int))) l r):=by
              unfold jw;rw [← aaT (i+1) (a8 q),abT,abm,eF,abm,hnone,aaY,ejf];rfl
            rw [eall] at hf;injection hf with hf
            subst hf;have hp8:Paired (PdR H8) ps us:=Paired.imp' (fun _ _ z=>Dat.mono g8 _ _ z) hp;refine ⟨_,rfl,_,rfl,_,rfl,_,rfl,_,rfl,_,_,rfl,rfl,_,rfl,d,pm,pp,kvs,us,gs,k,ps,(q.1,q.1+1+(i:Int) - 1),l,rfl,g8 _ _ ed,tb,g8 _ _ em,g8 _ _ epp,hp8,h9,hpp,g3,sp,h0,by simp only;lia,by simp only;lia,by simp only;lia,by rw [show q.1+1+(i:Int) - 1=q.1+(i:Int) by lia];exact el,fun x H9 g9 ix=>?_⟩;have G9:=g8.trans g9;have hp9:Paired (PdR H9) ps us:=Paired.imp' (fun _ _ z=>Dat.mono G9 _ _ z) hp;refine ⟨_,rfl,_,rfl,_,rfl,_,rfl,_,rfl,_,rfl,_,rfl,_,rfl,d,pm,pp,kvs,us,gs,k,ps,(q.1+1+(i:Int),q.2),r,rfl,G9 _ _ ed,tb,G9 _ _ em,G9 _ _ epp,hp9,h9,hpp,g3,sp,by simp only;lia,by simp only;lia,h2,by simp only;lia,by rw [← eqc];exact er,fun y H10 g10 iy=>?_⟩;refine ⟨by show 3≤sizeLine;decide,fun u nu=>?_⟩;have su:=Same.new nu (.tup [.str (jsc k ps q.1 (q.1+(i:Int))).str,x,y]);exact fin _ _ (G9.trans (g10.trans su)) ⟨u,x,y,rfl,ad,ix.mono (Tups.of (g10.trans su)),iy.mono (Tups.of su)⟩
          · have cp:¬ 0 < tv gs k 0 ps (q.1,q.1+(i:Int)) * tv gs k 0 ps (q.1+(i:Int)+1,q.2):=of_decide_eq_false cp;refine ⟨_,_,_,rfl,g8,?_⟩;rw [eF,abm,hnone,aaY];cases ej:jf gs k n ps q (q.1+(i:Int)) with
            | none=>rfl
            | some w =>
              unfold jf at ej;obtain ⟨l,e1,ej⟩:=abX.mp ej;obtain ⟨r,e2,ej⟩:=aaE.mp ej;exact absurd (Int.mul_pos (i1.mp ⟨l,e1⟩) (i2.mp ⟨r,e2⟩)) cp
        · rw [ce] at hh;refine aR ⟨_,_,_,rfl,g6,?_⟩;rw [rE ci hh.symm];exact hnone
      · obtain ⟨c6,c7,c8,rfl,g5,hnone⟩:=z;rw [show (q.2+1 - (q.1+1)).toNat=(a8 q).length by rw [cl];lia,aaP] at hnone;have e:(jw gs k ps q).findSome? (jf gs k n ps q)=none:=hnone;rw [e] at hf;cases hf
open PySem L2
abbrev cH:Stmt:=top 64
theorem dk:FnScope ["form","signs","marks","parts"] ["form","signs"] (ai cH):=⟨rfl,rfl,rfl,by decide +kernel,rfl,by decide +kernel,by decide +kernel⟩
theorem pM {n L:Nat} (hL:1≤L) (F:Fun K "_law_first" "_law_first" cH f fd) (B:Bu K mg) (C__law_parts:Cal P w K mg base "_law_parts" 1 ["form"] o4) (C__law_table:Cal P w K mg base "_law_table" 1 ["parts","signs"] lc) (C__law_tree:Cal P w K mg base "_law_tree" L ["table","marks","parts","begin","end","signs"] (qD n 9)):FnOk P w K mg base CX0 (L+1) f fd ["form","signs"] (jj (n+1)):=by
  refine F.ok dk (fun vs H Q E h=>?_) (fun cdv A outer s H vs Q E hr h=>?_)
  · obtain ⟨x,v,gs,rfl,_⟩:=h;rfl
  obtain ⟨wy,v,gs,rfl,hd',hn,h9,hB,g3,sp,hw,q⟩:=h;refine ⟨_,(@ae _ _ _ _ _ (@aL _ _ _ _ _ _ _ _ (@bM _ _ _ _ (@aQ _ _ _ (@ao _ _ _ _ _ _ _ _ _ (@aI _ ("tuple")) rfl B.iisinstance aal (@aa _ _ _ _ _ (pv 0) (@aa _ _ _ _ _ (@bh _ _ (.ty "tuple") _ _ rfl B.ituple aaI rfl (by decide) (by decide)) ac (by rfl)) (by rfl)) (by decide) (by decide) (by rfl) (by rfl)) (by intro _;rfl))) (@af _ _ _ (@aq _ _ _ _ (pv 0))) aB) (@ae _ _ _ _ _ (@bW _ _ _ _ _ _ (@ah _ _ _ _ _ _ _ _ _ _ _ C__law_parts hr (by lia) rfl (@aa _ _ _ _ _ (pv 0) ac (by rfl)) (by decide) (by rfl) (by rfl)) (@pA _ _ _ _ _ _ rfl (@ap _ _ _ _ _ (@aj _ _ (2) _ (dk).nd rfl (Or.inl rfl) (.inl rfl)) (@ap _ _ _ _ _ (@aj _ _ (3) _ (dk).nd rfl (Or.inl rfl) (.inl rfl)) aU (by rfl)) (by rfl)) (by rfl) (by rfl)) (by rfl) (by rfl) (by rfl)) (@af _ _ _ (@aq _ _ _ _ (@ah _ _ _ _ _ _ _ _ _ _ _ C__law_tree hr (by lia) rfl (@aa _ _ _ _ _ (@ah _ _ _ _ _ _ _ _ _ _ _ C__law_table hr (by lia) rfl (@aa _ _ _ _ _ (pv 2) (@aa _ _ _ _ _ (pv 1) ac (by rfl)) (by rfl)) (by decide) (by rfl) (by rfl)) (@aa _ _ _ _ _ (pv 2) (@aa _ _ _ _ _ (pv 3) (@aa _ _ _ _ _ ag (@aa _ _ _ _ _ (@au _ _ _ _ _ _ _ _ bN (@ao _ _ _ _ _ _ _ _ _ az rfl B.ilen aaD (@aa _ _ _ _ _ (pv 3) ac (by rfl)) (by decide) (by decide) (by rfl) (by rfl)) ag) (@aa _ _ _ _ _ (pv 1) ac (by rfl)) (by rfl)) (by rfl)) (by rfl)) (by rfl)) (by rfl)) (by decide) (by rfl) (by rfl)))))),?_⟩;cases wy with
  | num i =>
    have e:v=.int i:=by simpa only [Wy.fm,Fm.data,Dat] using hd'
    subst e;exact ⟨_,rfl,_,_,false,rfl,.int i,rfl,false,rfl,bj ⟨_,rfl,q _ H (Same.refl _) rfl⟩⟩
  | node g l r =>
    obtain ⟨a,b,us,rfl,ea,eb,i1,i2⟩:=dg hd';refine ⟨_,rfl,_,_,true,rfl,.tup ea,rfl,true,rfl,aR ?_⟩;refine ⟨_,rfl,g,l,r,_,rfl,hd',h9,fun p pm pp us' H1 g1 ep em epp hp=>?_⟩;have hless:∀ p∈lv g.k true (.node g l r),p.2.size≤n∧p.2.Bd∧p.2.within gs:=fun p hp=>⟨by have:=bJ hp;lia,jc hB hp,bI _ _ _ hw p hp⟩
    have hfv:=pW g3 hn h9 hw;generalize hps:lv g.k true (.node g l r)=ps at hp em hless hfv;have zp:szs ps≤9:=by rw [← hps,bo];exact h9
    have lp:=aaH hp;have lps:=ba ps;have l1:1≤ps.length:=by rw [← hps];exact bi _ _ _
    refine ⟨p,_,rfl,SqL.of ep,rfl,_,_,rfl,_,_,rfl,rfl,?_⟩;refine ⟨_,rfl,_,rfl,pm,gs,g.k,ps,rfl,em,zp,g3,sp,fun d kvs H2 g2 ed tb=>?_⟩;refine ⟨_,rfl,_,rfl,_,rfl,pp,_,rfl,.inl (SqL.of (g2 _ _ epp)),_,_,rfl,rfl,_,rfl,?_⟩;rw [← lp];exact ⟨d,pm,pp,kvs,us',gs,g.k,ps,(0,(ps.length:Int) - 1),_,rfl,ed,tb,g2 _ _ em,g2 _ _ epp,Paired.imp' (fun _ _ z=>Dat.mono g2 _ _ z) hp,zp,hless,g3,sp,by simp only;lia,by simp only;lia,by simp only;lia,by simp only;lia,hfv,fun x H3 g3 ix=>q x H3 ((g1.trans g2).trans g3) ix⟩
theorem jD {f2:Addr} {fd2:FuncData} (F:Fun K "_law_first" "_law_first" cH f fd) (bF:Binds K fd ["form","signs"] []) (mF:mg "_law_first" = some (.ref f)) (F__law_tree:Fun K "_law_tree" "_law_tree" de f2 fd2) (b__law_tree:Binds K fd2 ["table","marks","parts","begin","end","signs"] []) (m__law_tree:mg "_law_tree" = some (.ref f2)) (B:Bu K mg) (C__law_parts:Cal P w K mg base "_law_parts" 1 ["form"] o4) (C__law_table:Cal P w K mg base "_law_table" 1 ["parts","signs"] lc):∀ n,FnOk P w K mg base CX0 (11 * n+2) f fd ["form","signs"] (jj n):=by
  intro n
  induction n with
  | zero =>
    refine ⟨fun vs H Q E h=>?_,fun A outer s H args us vs Q E _ _ _ _ h=>?_⟩
    · obtain ⟨x,v,gs,rfl,_⟩:=h;rfl
    · obtain ⟨wy,v,gs,_,_,h0,_⟩:=h;have:=wy.size_pos;lia
  | succ n ih =>
    have C1:Cal P w K mg base "_law_first" (11 * n+2) ["form","signs"] (jj n):=⟨f,fd,ih,bF,F.kp,mF⟩
    have C2:Cal P w K mg base "_law_tree" (11 * n+2+9+1) ["table","marks","parts","begin","end","signs"] (qD n 9):=⟨f2,fd2,qW F__law_tree b__law_tree m__law_tree B C1 9,b__law_tree,F__law_tree.kp,m__law_tree⟩
    exact pM (by lia) F B C__law_parts C__law_table C2
end
open PySem L2
theorem qi (ns:List Int) (lo hi:Option Int):∃ ms:List Int,jF (ns.map V.int) lo hi=ms.map V.int∧ms.length≤ns.length:=by
  refine ⟨(ns.drop (HT.sIx ns.length 0 lo)).take (HT.sIx ns.length ns.length hi - HT.sIx ns.length 0 lo),?_,?_⟩
  · unfold jF;rw [aab,abH,abG]
  · rw [aas,aaJ];lia
theorem But.same {H H1 H2:Hp} {wl:Addr} (s:Same H H1) (n:H wl=none) (b:But wl H1 H2):Same H H2:=fun c o h=>b c o (aH h n) (s c o h)
theorem o8 {wy:Wy} {ns:List Int} (e:wy.nums=ns) (h:qr ns):wy.Bd:=fun i hi=>by
  have:=h i (by rw [← e];exact hi);have z:(1000000000000:Nat) < 2 ^ 131:=by decide
  lia
theorem jT:∀ (l l':List (Bool × Wy)),(∀ p∈l,∀ w':Wy,p.2.fm.data=w'.fm.data→p.2.nums=w'.nums)→l.map (fun p=>p.2.fm.data)=l'.map (fun p=>p.2.fm.data)→(l.map fun p=>p.2.nums).flatten=(l'.map fun p=>p.2.nums).flatten
  | [],[],_,_=>rfl
  | [],b :: l',_,e=>by cases e
  | a :: l,[],_,e=>by cases e
  | a :: l,b :: l',h,e=>by
    rw [aav,aav] at e;injection e with e1 e2
    rw [aav,aav,aa6,aa6,h a aan b.2 e1,jT l l' (fun p hp=>h p (aaj _ hp)) e2]
theorem sZ {k k':Bool} {ts ts':List (Bool × PyData)} (e:Fd k ts=Fd k' ts'):ts.map Prod.snd=ts'.map Prod.snd:=by
  have s1:(PyData.str "sum" = PyData.str "times")→False:=fun z=>by
    injection z with z
    exact absurd z (by decide +kernel)
  cases k <;> cases k'
  · injection e with e
    injection e with _ e
    injection e with e _
    injection e with e
    have:=congrArg (List.map fun d=>match d with|.tuple [_,x]=>x|d=>d) e;rw [aba,aba] at this;exact this
  · injection e with e
    injection e with e _
    exact (s1 e).elim
  · injection e with e
    injection e with e _
    exact (s1 e.symm).elim
  · injection e with e
    injection e with _ e
    injection e with e _
    injection e
theorem jX:∀ (n:Nat) (w w':Wy),w.size≤n→w.fm.data=w'.fm.data→w.nums=w'.nums
  | 0,w,w',h,_=>by have:=w.size_pos;lia
  | n+1,.num i,.num j,_,e=>by
    have e:PyData.int i=PyData.int j:=e;injection e with e
    rw [e]
  | n+1,.num i,.node g l r,_,e=>by
    rw [bK] at e;have e:PyData.int i=_:=e;cases h:g.k <;> rw [h] at e <;> cases e
  | n+1,.node g l r,.num i,_,e=>by
    rw [bK] at e;have e:_=PyData.int i:=e;cases h:g.k <;> rw [h] at e <;> cases e
  | n+1,.node g l r,.node g' l' r',h,e=>by
    rw [bK,bK] at e;have e:=sZ e;rw [aba,aba] at e;rw [← d2 g.k true (.node g l r),← d2 g'.k true (.node g' l' r')];exact jT _ _ (fun p hp w' e'=>jX n p.2 w' (by have:=bJ hp;lia) e') e
theorem rh {gs:List Sg} (hs:gs.length≤3) {w:Wy} (h9:w.size≤9) (hw:w.within gs):(fw gs 9 w).nums=w.nums:=jX 9 _ _ (by rw [(l5 hs 9 w h9 h9 hw).size];exact h9) (l5 hs 9 w h9 h9 hw).data
def bc:Wy→PyData
  | .num i=>.int i
  | .node g l r=>.tuple [.str g.str,bc l,bc r]
theorem WyIn.dat {H:Hp}:∀ {w:Wy} {v:V},WyIn H w v→Dat H (bc w) v
  | .num i,v,h=>by
    simp only [bc,Dat];exact h
  | .node g l r,v,h=>by
    obtain ⟨a,vl,vr,rfl,ha,hl,hr⟩:=h;simp only [bc,Dat,DatAll];exact ⟨a,_,rfl,ha,_,_,rfl,rfl,_,_,rfl,WyIn.dat hl,_,_,rfl,WyIn.dat hr,rfl⟩
theorem io : ∀ w:Wy,w.Bd→(bc w).showable=true
  | .num i,h=>by
    have:=iD (h i aan) (by decide);simp only [bc,abD];exact decide_eq_true (by lia)
  | .node g l r,h=>by
    simp only [bc,abD,abY,io l h.l,io r h.r,Bool.and_self]
theorem fT:∀ w:Wy,(bc w).depth≤w.deep
  | .num i=>by simp [bc,ab9]
  | .node g l r=>by
    have a:=fT l;have b:=fT r;simp only [bc,ab9,abb];show max 0 (max (bc l).depth (max (bc r).depth 0))+1≤max l.deep r.deep+1;lia
theorem qJ (g:Sg):(reprText g.str).length=3:=by cases g <;> decide +kernel
theorem md:∀ w:Wy,w.Bd→(bc w).shown.length+12≤150 * w.size
  | .num i,h=>by
    have e:=int_text_length_le (a:=i) (k:=132) (by decide) (by have:=iD (h i aan) (by decide);lia);show (Str.ofString (toString i)).length+12≤150 * 1;rw [ofString_length];lia
  | .node g l r,h=>by
    have a:=md l h.l;have b:=md r h.r;have e:=tupleText_len_le [reprText g.str,(bc l).shown,(bc r).shown];have e2:(bc (.node g l r)).shown=tupleText [reprText g.str,(bc l).shown,(bc r).shown]:=by simp only [bc,PyData.shown,abZ]
    rw [e2];simp only [aav,abh,aaS,List.sum_nil,aaL,aa1,qJ] at e;show _≤150 * (l.size+r.size);lia
theorem m7 {w:Wy} (h:w.Bd) (hs:w.size≤20):(bc w).shown.length≤sizeLine:=by
  have:=md w h;exact aaN (show _≤3000 by lia) (by rw [sizeLine_eq];decide)
section
variable {P:Program} {w:World} {K:aaa} {mg:Str→Option Value} {base:Heap} {f:Addr} {fd:FuncData}
def nF (K:aaa):Sp:=fun vs H Q _=>∃ (a:Addr) (ns:List Int),vs=[.ref a]∧SqL K H a (ns.map V.int)∧ns.length≤63∧∀ H',Q (.bl true) H'
abbrev gb:Stmt:=top 65
theorem cO:FnScope ["script","cell","well","signs","row","turn","way","form","again","many","first"] ["script"] (ai gb):=⟨rfl,rfl,rfl,by decide +kernel,rfl,by decide +kernel,by decide +kernel⟩
theorem sA (F:Fun K "law" "law" gb f fd) (B:Bu K mg) (C__law_well:Cal P w K mg base "_law_well" 1 ["cell"] mw) (C__law_draw:Cal P w K mg base "_law_draw" 2 ["well","many"] fC) (C__law_row:Cal P w K mg base "_law_row" 4 ["well","many"] o0)
    (C__law_signs:Cal P w K mg base "_law_signs" 3 ["well"] fA) (C__law_way:Cal P w K mg base "_law_way" 11 ["well","row","signs"] (nB 9)) (C_form_of:Cal P w K mg base "form_of" 25 ["way"] iM) (C__law_form:Cal P w K mg base "_law_form" 21 ["way"] (iA 20)) (C_first_way:Cal P w K mg base "first_way" 13 ["row","signs","form"] r9) (C_how_many_twins:Cal P w K mg base "how_many_twins" 13 ["row","signs","form"] r8) (C__law_twins:Cal P w K mg base "_law_twins" 11 ["form","signs"] (h_ 9)) (C__law_first:Cal P w K mg base "_law_first" 101 ["form","signs"] (jj 9)) (C_number_of_way:Cal P w K mg base "number_of_way" 32 ["way","signs"] o3):FnOk P w K mg base CX0 102 f fd ["script"] (nF K):=by
  refine F.ok cO (fun vs H Q E h=>?_) (fun cdv A outer s H vs Q E hr h=>?_)
  · obtain ⟨a,ns,rfl,_⟩:=h;rfl
  obtain ⟨a,ns,rfl,hS,h63,q⟩:=h;refine ⟨_,(@ae _ _ _ _ _ (@bV _ _ _ _ _ _ _ _ aaM rfl (@cz _ _ _ _ (@au _ _ _ _ _ _ _ _ iY (@aY _ _ _ _ (@aa _ _ _ _ _ ag ac (by rfl))) (@iU _ _ _ _ _ _ _ _ _ _ ka (pv 0) kt (@kq _ _ _ ag)))) (@aj _ _ (1) _ (cO).nd rfl (Or.inl rfl) (.inl rfl)) (@ae _ _ _ _ _ (@aC _ _ (2) _ _ _ _ (cO).nd rfl (Or.inl rfl) (@ah _ _ _ _ _ _ _ _ _ _ _ C__law_well hr (by lia) rfl (@aa _ _ _ _ _ (pv 1) ac (by rfl)) (by decide) (by rfl) (by rfl)) (by rfl) (by first|exact .inl rfl|exact .inr rfl|assumption)) (@ae _ _ _ _ _ (@aC _ _ (3) _ _ _ _ (cO).nd rfl (Or.inl rfl) (@ah _ _ _ _ _ _ _ _ _ _ _ C__law_signs hr (by lia) rfl (@aa _ _ _ _ _ (pv 2) ac (by rfl)) (by decide) (by rfl) (by rfl)) (by rfl) (by first|exact .inl rfl|exact .inr rfl|assumption)) (@ae _ _ _ _ _ (@aC _ _ (4) _ _ _ _ (cO).nd rfl (Or.inl rfl) (@ah _ _ _ _ _ _ _ _ _ _ _ C__law_row hr (by lia) rfl (@aa _ _ _ _ _ (pv 2) (@aa _ _ _ _ _ (@aG _ _ _ _ _ _ _ aJ (@aY _ _ _ _ (@aa _ _ _ _ _ ag (@aa _ _ _ _ _ (@au _ _ _ _ _ _ _ _ a_ ag (@ah _ _ _ _ _ _ _ _ _ _ _ C__law_draw hr (by lia) rfl (@aa _ _ _ _ _ (pv 2) (@aa _ _ _ _ _ ag ac (by rfl)) (by rfl)) (by decide) (by rfl) (by rfl))) ac (by rfl)) (by rfl))) (@ah _ _ _ _ _ _ _ _ _ _ _ C__law_draw hr (by lia) rfl (@aa _ _ _ _ _ (pv 2) (@aa _ _ _ _ _ ag ac (by rfl)) (by rfl)) (by decide) (by rfl) (by rfl)) (fun _ _=>rfl)) ac (by rfl)) (by rfl)) (by decide) (by rfl) (by rfl)) (by rfl) (by first|exact .inl rfl|exact .inr rfl|assumption)) (@af _ _ _ (@bV _ _ _ _ _ _ _ _ aaM rfl (@cr _ _ _ _ _ _ rfl B.irange (@aa _ _ _ _ _ ag ac (by rfl)) (by rfl)) (@aj _ _ (5) _ (cO).nd rfl (Or.inl rfl) (.inl rfl)) (@ae _ _ _ _ _ (@aC _ _ (6) _ _ _ _ (cO).nd rfl (Or.inl rfl) (@ah _ _ _ _ _ _ _ _ _ _ _ C__law_way hr (by lia) rfl (@aa _ _ _ _ _ (pv 2) (@aa _ _ _ _ _ (pv 4) (@aa _ _ _ _ _ (pv 3) ac (by rfl)) (by rfl)) (by rfl)) (by decide) (by rfl) (by rfl)) (by rfl) (by first|exact .inl rfl|exact .inr rfl|assumption)) (@ae _ _ _ _ _ (@aC _ _ (7) _ _ _ _ (cO).nd rfl (Or.inl rfl) (@ah _ _ _ _ _ _ _ _ _ _ _ C__law_form hr (by lia) rfl (@aa _ _ _ _ _ (pv 6) ac (by rfl)) (by decide) (by rfl) (by rfl)) (by rfl) (by first|exact .inl rfl|exact .inr rfl|assumption)) (@ae _ _ _ _ _ (@bV _ _ _ _ _ _ _ _ aaM rfl (@cr _ _ _ _ _ _ rfl B.irange (@aa _ _ _ _ _ ag ac (by rfl)) (by rfl)) (@aj _ _ (8) _ (cO).nd rfl (Or.inl rfl) (.inl rfl)) (@ae _ _ _ _ _ (@aC _ _ (9) _ _ _ _ (cO).nd rfl (Or.inl rfl) (@ah _ _ _ _ _ _ _ _ _ _ _ C_how_many_twins hr (by lia) rfl (@aa _ _ _ _ _ (pv 4) (@aa _ _ _ _ _ (pv 3) (@aa _ _ _ _ _ (pv 7) ac (by rfl)) (by rfl)) (by rfl)) (by decide) (by rfl) (by rfl)) (by rfl) (by first|exact .inl rfl|exact .inr rfl|assumption)) (@ae _ _ _ _ _ (@aC _ _ (10) _ _ _ _ (cO).nd rfl (Or.inl rfl) (@ah _ _ _ _ _ _ _ _ _ _ _ C_first_way hr (by lia) rfl (@aa _ _ _ _ _ (pv 4) (@aa _ _ _ _ _ (pv 3) (@aa _ _ _ _ _ (pv 7) ac (by rfl)) (by rfl)) (by rfl)) (by decide) (by rfl) (by rfl)) (by rfl) (by first|exact .inl rfl|exact .inr rfl|assumption)) (@ae _ _ _ _ _ (@aL _ _ _ _ _ _ _ _ (@PW.pt _ _ _ (@eR _ _ _ _ _ _ _ (@bM _ _ _ _ (@aQ _ _ _ (@ao _ _ _ _ _ _ _ _ _ (@aI _ ("int")) rfl B.iisinstance aal (@aa _ _ _ _ _ (pv 9) (@aa _ _ _ _ _ (@bh _ _ (.ty "int") _ _ rfl B.iint abn rfl (by decide) (by decide)) ac (by rfl)) (by rfl)) (by decide) (by decide) (by rfl) (by rfl)) (by intro _;rfl))) (@eR _ _ _ _ _ _ _ (@aQ _ _ _ (@ao _ _ _ _ _ _ _ _ _ (@aI _ ("bool")) rfl B.iisinstance aal (@aa _ _ _ _ _ (pv 9) (@aa _ _ _ _ _ (@bh _ _ (.ty "bool") _ _ rfl B.ibool PyProof.Rows.boot_bool rfl (by decide) (by decide)) ac (by rfl)) (by rfl)) (by decide) (by decide) (by rfl) (by rfl)) (by intro _;rfl)) (@eQ _ _ _ _ (@av _ _ _ _ _ _ _ _ iW (pv 9) (@ah _ _ _ _ _ _ _ _ _ _ _ C__law_twins hr (by lia) rfl (@aa _ _ _ _ _ (pv 7) (@aa _ _ _ _ _ (pv 3) ac (by rfl)) (by rfl)) (by decide) (by rfl) (by rfl)) (aE _)))))) (@af _ _ _ (@aq _ _ _ _ fq)) aB) (@af _ _ _ (@aL _ _ _ _ _ _ _ _ (@PW.pt _ _ _ (@eR _ _ _ _ _ _ _ (@av _ _ _ _ _ _ _ _ iW (@ao _ _ _ _ _ _ _ _ _ (@fh _ hr.gd hr.units) rfl B.irepr abA (@aa _ _ _ _ _ (pv 10) ac (by rfl)) (by decide) (by decide) (by rfl) (by rfl)) (@ao _ _ _ _ _ _ _ _ _ (@fh _ hr.gd hr.units) rfl B.irepr abA (@aa _ _ _ _ _ (@ah _ _ _ _ _ _ _ _ _ _ _ C__law_first hr (by lia) rfl (@aa _ _ _ _ _ (pv 7) (@aa _ _ _ _ _ (pv 3) ac (by rfl)) (by rfl)) (by decide) (by rfl) (by rfl)) ac (by rfl)) (by decide) (by decide) (by rfl) (by rfl)) (aE _)) (@eQ _ _ _ _ (@av _ _ _ _ _ _ _ _ iW (@ao _ _ _ _ _ _ _ _ _ (@fh _ hr.gd hr.units) rfl B.irepr abA (@aa _ _ _ _ _ (@ah _ _ _ _ _ _ _ _ _ _ _ C_form_of hr (by lia) rfl (@aa _ _ _ _ _ (pv 10) ac (by rfl)) (by decide) (by rfl) (by rfl)) ac (by rfl)) (by decide) (by decide) (by rfl) (by rfl)) (@ao _ _ _ _ _ _ _ _ _ (@fh _ hr.gd hr.units) rfl B.irepr abA (@aa _ _ _ _ _ (pv 7) ac (by rfl)) (by decide) (by decide) (by rfl) (by rfl)) (aE _))))) (@af _ _ _ (@aq _ _ _ _ fq)) aB))))) (by intro _;rfl)) (@af _ _ _ (@aL _ _ _ _ _ _ _ _ (@PW.pt _ _ _ (@eR _ _ _ _ _ _ _ (@av _ _ _ _ _ _ _ _ pH (@ah _ _ _ _ _ _ _ _ _ _ _ C_number_of_way hr (by lia) rfl (@aa _ _ _ _ _ (pv 10) (@aa _ _ _ _ _ (pv 3) ac (by rfl)) (by rfl)) (by decide) (by rfl) (by rfl)) (@ah _ _ _ _ _ _ _ _ _ _ _ C_number_of_way hr (by lia) rfl (@aa _ _ _ _ _ (pv 6) (@aa _ _ _ _ _ (pv 3) ac (by rfl)) (by rfl)) (by decide) (by rfl) (by rfl)) (aE _)) (@eQ _ _ _ _ (@PW.pt _ _ _ (@cV _ _ _ _ _ _ _ (@av _ _ _ _ _ _ _ _ bn (pv 9) ag (aE _)) (@df _ _ _ _ (@av _ _ _ _ _ _ _ _ (@sq _ hr.units) (pv 10) (pv 6) (aE _)))))))) (@af _ _ _ (@aq _ _ _ _ fq)) aB))))) (by intro _;rfl)))))) (by intro _;rfl)) (@af _ _ _ (@aq _ _ _ _ fq))),?_⟩;refine ⟨(by show 1≤sizeLine;decide),fun p1 n1=>?_⟩;have g1:=Same.new n1 (.lst [.int 0]);refine ⟨_,rfl,10,rfl,a,_,rfl,g1.seq hS,fun p2 n2=>?_⟩;obtain ⟨ms,em,hm⟩:=qi ns none (some 10);rw [em];have g2:=Same.new n2 (.lst (ms.map V.int));refine ⟨p1,p2,_,_,rfl,rfl,g2 _ _ ad,ad,bx (by rw [aab];show 1+ms.length≤1000;lia),fun p3 n3=>?_⟩;have e3:upd (upd (upd H p1 (.lst [.int 0])) p2 (.lst (ms.map V.int))) p3 (.lst ([.int 0]++ms.map V.int)) p3=_:=ad;have el:[V.int 0]++ms.map V.int=(0 :: ms).map V.int:=rfl;rw [el] at e3 ⊢;revert e3;generalize upd (upd (upd H p1 (.lst [.int 0])) p2 (.lst (ms.map V.int))) p3 (.lst ((0 :: ms).map V.int))=H3;intro e3;refine ⟨p3,rfl,⟨_,SqL.of e3⟩,pZ (xs:=(0 :: ms).map V.int) (fun i σ H'=>∃ c1 c2 c3 c4 c5 c6 c7 c8 c9 c10,σ=[some (.ref a),c1,c2,c3,c4,c5,c6,c7,c8,c9,c10]∧Same H3 H') ⟨_,_,_,_,_,_,_,_,_,_,rfl,Same.refl _⟩ ?_ ?_ ?_⟩
  · rintro i σ H' _ ⟨_,_,_,_,_,_,_,_,_,_,rfl,S⟩;exact SqL.of (S _ _ e3)
  · rintro i x σ H' hx ⟨c1,c2,c3,c4,c5,c6,c7,c8,c9,c10,rfl,S⟩;rw [aam] at hx;obtain ⟨c,_,rfl⟩:=aaE.mp hx;refine ⟨_,rfl,c,rfl,fun wl ca cb H4 g4 nw ew=>?_⟩;have nwl:H3 wl=none:=S.free nw;have w4:Wel H4 wl 0:=⟨ca,cb,0,ew,by lia,by lia⟩
    refine ⟨_,rfl,wl,_,rfl,w4,by lia,fun gs H5 gl1 gl3 sp k5 w5=>?_⟩;have t2:(2:Nat)≤sizeLine:=by decide
    refine ⟨_,rfl,_,rfl,wl,9,_,rfl,by decide,by decide,w5,by lia,fun r1 H6 a1 b1 k6 w6=>⟨_,_,rfl,rfl,t2,fun pl nl=>⟨_,rfl,wl,2,_,rfl,by decide,by decide,w6.keep (Same.new nl _) (aa0 _),by lia,fun r2 H7 a2 b2 k7 w7=>?_⟩⟩⟩;have npl:pl≠wl:=w6.ne nl;obtain ⟨z,hz,z1,z9⟩:∃ z:Int,atI [V.int 9,V.int (1+r1)] r2=some (.int z)∧1≤z∧z≤9:=by
      have : r2=0∨r2=1:=by lia
      rcases this with rfl|rfl
      · exact ⟨9,rfl,by decide,by decide⟩
      · exact ⟨1+r1,rfl,by lia,by lia⟩
    refine ⟨pl,_,_,_,rfl,rfl,SqL.of (k7 _ _ npl ad),hz,wl,z,_,rfl,by lia,by lia,w7,by lia,fun pr rs H8 k8 w8 nr er hlen hsm=>?_⟩;have nrw:pr≠wl:=w7.ne nr;have S8:Same H3 H8:=But.same (S.trans g4) nwl (((k5.trans k6).trans ((But.of (Same.new nl _)).trans k7)).trans k8);refine ⟨3,rfl,by decide,by decide,hX (n:=3) (fun j σ H'=>∃ c5 c6 c7 c8 c9 c10,σ=[some (.ref a),some (.int c),some (.ref wl),some (.str (am gs)),some (.ref pr),c5,c6,c7,c8,c9,c10]∧But wl H8 H'∧Wel H' wl (2000+1000 * j)) ⟨_,_,_,_,_,_,rfl,But.refl,w8.more (by lia)⟩ ?_ ?_⟩
    · rintro j σ H9 hj ⟨c5,c6,c7,c8,c9,c10,rfl,b9,w9⟩;have er9:=b9 _ _ nrw er;refine ⟨_,rfl,_,rfl,_,rfl,wl,pr,gs,rs,_,rfl,er9,nrw,by lia,by lia,by lia,gl1,gl3,w9,by lia,fun v wy H10 iw en wi k10 w10=>?_⟩;have sz:wy.size≤9:=by rw [← wy.nums_len,en];lia
      have hB:=o8 en hsm;have dl:=wy.deep_le;have fo:=wy.fm_ok hB;have er10:=k10 _ _ nrw er9;refine ⟨_,rfl,wy,v,rfl,iw,by lia,by lia,hB,fun u H11 g11 du=>?_⟩;have fk:=l5 gl3 9 wy sz sz wi;have fB:(fw gs 9 wy).Bd:=fun i hi=>hB i (by rw [← rh gl3 sz wi];exact hi);have er11:H11 pr=some (.lst (wy.nums.map V.int)):=by rw [en];exact g11 _ _ er10
      have sf:(fw gs 9 wy).size≤9:=by rw [fk.size];exact sz
      have dfw:=(fw gs 9 wy).deep_le;have dfd:=fT (fw gs 9 wy);have dp:=fo.dd;have sd:=fo.sd;refine ⟨2,rfl,by decide,by decide,hX (n:=2) (fun k σ H'=>∃ c8 c9 c10,σ=[some (.ref a),some (.int c),some (.ref wl),some (.str (am gs)),some (.ref pr),some (.int (0+(j:Int))),some v,some u,c8,c9,c10]∧Same H11 H'∧(1≤k→c9=some (.int (ct gs 9 wy:Nat))∧∃ x,c10=some x∧WyIn H' (fw gs 9 wy) x)) ⟨_,_,_,rfl,Same.refl _,fun h=>by lia⟩ ?_ ?_⟩
      · rintro k σ H12 hk ⟨c8,c9,c10,rfl,s12,_⟩;refine ⟨_,rfl,_,rfl,_,rfl,wy,pr,u,gs,rfl,s12 _ _ er11,Dat.mono s12 _ _ du,sz,hB,gl3,sp,wi,fun H13 g13=>?_⟩;have s13:=s12.trans g13;refine ⟨_,rfl,_,rfl,_,rfl,wy,pr,u,gs,rfl,s13 _ _ er11,Dat.mono s13 _ _ du,sz,hB,gl3,sp,wi,fun x H14 g14 ix=>?_⟩;have s14:=s13.trans g14;refine ⟨_,rfl,_,_,true,rfl,.int _,rfl,true,rfl,aR ?_⟩;refine ⟨_,rfl,_,_,false,rfl,.int _,rfl,false,rfl,aR ?_⟩;refine ⟨_,rfl,_,rfl,_,rfl,wy,u,gs,rfl,Dat.mono s14 _ _ du,sz,sz,hB,gl3,sp,fun H15 g15=>?_⟩;refine ⟨rfl,false,congrArg V.bl (by simp),aR ?_⟩;have s15:=s14.trans g15;refine ⟨_,rfl,x,bc (fw gs 9 wy),rfl,(ix.mono (Tups.of g15)).dat,io _ fB,by lia,m7 fB (by lia),?_⟩;refine ⟨_,rfl,_,rfl,wy,u,gs,rfl,Dat.mono s15 _ _ du,sz,sz,hB,gl3,sp,wi,fun y H16 g16 iy=>?_⟩;refine ⟨y,bc (fw gs 9 wy),rfl,iy.dat,io _ fB,by lia,m7 fB (by lia),rfl,false,congrArg V.bl (by simp),aR ?_⟩;have s16:=s15.trans g16;refine ⟨_,rfl,fw gs 9 wy,x,rfl,ix.mono (Tups.of (g15.trans g16)),sf,fun u2 H17 g17 d17=>?_⟩;rw [fk.data] at d17;have s17:=s16.trans g17;refine ⟨u2,wy.fm.data,rfl,d17,iG _ fo.d,by lia,kX fo.d (by lia),_,rfl,u,wy.fm.data,rfl,Dat.mono s17 _ _ du,iG _ fo.d,by lia,kX fo.d (by lia),rfl,false,congrArg V.bl (by simp),aR ?_⟩;exact ⟨_,_,_,rfl,s17,fun _=>⟨rfl,x,rfl,ix.mono (Tups.of ((g15.trans g16).trans g17))⟩⟩
      · rintro σ H12 ⟨c8,c9,c10,rfl,s12,hc⟩;obtain ⟨rfl,x,rfl,ix⟩:=hc (by decide);have iw12:=iw.mono (Tups.of (g11.trans s12));refine ⟨_,rfl,_,rfl,fw gs 9 wy,x,gs,rfl,ix,sf,gl3,sp,fk.win,fun H13 g13=>?_⟩;refine ⟨_,rfl,_,rfl,wy,v,gs,rfl,iw12.mono (Tups.of g13),sz,gl3,sp,wi,fun H14 g14=>?_⟩;have nle:=fk.nr;refine ⟨_,_,rfl,rfl,false,congrArg V.bl (decide_eq_false (by lia)),aR ?_⟩;have S14:=s12.trans (g13.trans g14);have fin:∃ d5 d6 d7 d8 d9 d10,[some (V.ref a),some (.int c),some (.ref wl),some (.str (am gs)),some (.ref pr),some (.int (0+(j:Int))),some v,some u,c8,some (.int (ct gs 9 wy:Nat)),some x]=[some (V.ref a),some (.int c),some (.ref wl),some (.str (am gs)),some (.ref pr),d5,d6,d7,d8,d9,d10]∧But wl H8 H14∧Wel H14 wl (2000+1000 * ((j+1:Nat):Int)):=by
          refine ⟨_,_,_,_,_,_,rfl,b9.trans (k10.trans (But.of (g11.trans S14))),(w10.keep (g11.trans S14) (aa0 _)).more (by lia)⟩
        refine ⟨_,rfl,rfl,_,rfl,jE (fun ce=>?_) (fun ce=>aR fin)⟩;have ce:V.int (ct gs 9 wy:Nat)=V.int 1:=of_decide_eq_true ce;injection ce with ce
        have e1:=qk 9 wy sz wi (by lia);rw [e1] at ix;have lay:∀ w:Wy,(bc w).canLay0=true:=fun w=>by
          induction w with
          | num i=>rfl
          | node g l r il ir=>simp only [bc,PyData.canLay0,PyData.canLayAll0,il,ir,Bool.and_self];cases g <;> decide +kernel
        have dw:=fT wy;refine ⟨_,rfl,_,rfl,bc wy,bc wy,(ix.mono (Tups.of (g13.trans g14))).dat,(iw12.mono (Tups.of (g13.trans g14))).dat,lay wy,lay wy,by lia,false,?_,aR fin⟩;show V.bl (!PyData.eqv (bc wy) (bc wy))=V.bl false;rw [PySem.SeqAt.eqv_refl _ (lay wy)];rfl
    · rintro σ H9 ⟨c5,c6,c7,c8,c9,c10,rfl,b9,w9⟩;exact ⟨_,_,_,_,_,_,_,_,_,_,rfl,But.same S8 nwl b9⟩
  · rintro σ H4 ⟨c1,c2,c3,c4,c5,c6,c7,c8,c9,c10,rfl,S4⟩;exact q _
end
open PySem L2
theorem us0 {us:List Value} (h:us.length=0):us=[]:=List.length_eq_zero_iff.mp h
theorem us1 {us:List Value} (h:us.length=1):∃ a,us=[a]:=by
  cases us with
  | nil=>cases h
  | cons x us=>obtain rfl:=us0 (ab8 h);exact ⟨x,rfl⟩
theorem us2 {us:List Value} (h:us.length=2):∃ a b,us=[a,b]:=by
  cases us with
  | nil=>cases h
  | cons x us=>obtain ⟨b,rfl⟩:=us1 (ab8 h);exact ⟨x,b,rfl⟩
theorem us3 {us:List Value} (h:us.length=3):∃ a b c,us=[a,b,c]:=by
  cases us with
  | nil=>cases h
  | cons x us=>obtain ⟨b,c,rfl⟩:=us2 (ab8 h);exact ⟨x,b,c,rfl⟩
theorem us4 {us:List Value} (h:us.length=4):∃ a b c d,us=[a,b,c,d]:=by
  cases us with
  | nil=>cases h
  | cons x us=>obtain ⟨b,c,d,rfl⟩:=us3 (ab8 h);exact ⟨x,b,c,d,rfl⟩
theorem us5 {us:List Value} (h:us.length=5):∃ a b c d e,us=[a,b,c,d,e]:=by
  cases us with
  | nil=>cases h
  | cons x us=>obtain ⟨b,c,d,e,rfl⟩:=us4 (ab8 h);exact ⟨x,b,c,d,e,rfl⟩
theorem us6 {us:List Value} (h:us.length=6):∃ a b c d e f,us=[a,b,c,d,e,f]:=by
  cases us with
  | nil=>cases h
  | cons x us=>obtain ⟨b,c,d,e,f,rfl⟩:=us5 (ab8 h);exact ⟨x,b,c,d,e,f,rfl⟩
theorem all_mk {l:PySem.W.OpenLaw} {w:World} {K:aaa} {h:Heap} {mg:Str→Option Value} {fa:Addr} (X:K.In h) (G:h.Ns mainGlobals mg) (hfa:mg "law" = some (.ref fa))
    {tM tS1 tS2 tS3:Tok} {cS:Addr} {odS:Option Addr} {nS:Nat} {slS:Array (Option Value)}
    {tM3 tP1 tP2 tP3 tP4 tP5 tP6 tP7:Tok} {cP:Addr} {odP:Option Addr} {nP:Nat} {slP:Array (Option Value)}
    {tT1 tT2 tT3 tT4:Tok} {cT:Addr} {nT:Nat}
    {tK1 tK2 tW1 tW2 tW3 tW4:Tok} {cK cW:Addr} {odK:Option Addr} {nK nW:Nat} {slK:Array (Option Value)}
{f0:Addr}
{f1:Addr}
{f2:Addr}
{f3:Addr}
{f4:Addr}
{f5:Addr}
{f6:Addr}
{f7:Addr}
{f8:Addr}
{f9:Addr}
{f10:Addr}
{f11:Addr}
{f12:Addr}
{f13:Addr}
{f14:Addr}
{f15:Addr}
{f16:Addr}
{f17:Addr}
{f18:Addr}
{f19:Addr}
{f20:Addr}
{f21:Addr}
{f22:Addr}
{f23:Addr}
{f24:Addr}
{f25:Addr}
{f26:Addr}
{f27:Addr}
{f28:Addr}
{f29:Addr}
{f30:Addr}
{f31:Addr}
{f32:Addr}
{f33:Addr}
{f34:Addr}
{f35:Addr}
{f36:Addr}
{f37:Addr}
{f38:Addr}
{f39:Addr}
{f40:Addr}
{f41:Addr}
{f42:Addr}
{f43:Addr}
{f44:Addr}
{f45:Addr}
{f46:Addr}
{od47 an47:Option Addr} {sl47:Array (Option Value)} {oc47 kV47 dc47 pm47 cd47 ct47:Value} {f47:Addr}
    (q0:Fq K "is_whole" fL f0)
    (q1:Fq K "is_row" iS f1)
    (q2:Fq K "is_signs" fM f2)
    (q3:Fq K "is_sign" gJ f3)
    (q4:Fq K "is_way" iR f4)
    (q5:Fq K "need_row" fK f5)
    (q6:Fq K "need_signs" dJ f6)
    (q7:Fq K "need_way" fJ f7)
    (q8:Fq K "shorter_first" cB f8)
    (q9:Fq K "cuts_of" gQ f9)
    (q10:Fq K "list_numbers" cR f10)
    (q11:Fq K "join_signs" dM f11)
    (q12:Fq K "form_of" gO f12)
    (q13:Fq K "find_form" eM f13)
    (q14:Fq K "is_kind" gL f14)
    (q15:Fq K "terms_in" fH f15)
    (q16:Fq K "factors_in" dP f16)
    (q17:Fq K "parts_of" fI f17)
    (q18:Fq K "numbers_in" dI f18)
    (q19:Fq K "first_way" eL f19)
    (q20:Fq K "how_many_twins" cj f20)
    (q21:Fq K "need_form" eK f21)
    (q22:Fq K "is_form" gN f22)
    (q23:Fq K "heads_at" fN f23)
    (q24:Fq K "joint_sign" dL f24)
    (q25:Fq K "joints_within" cE f25)
    (q26:Fq K "find_first" dO f26)
    (q27:Fq K "join_first" dN f27)
    (q28:Fq K "count_twins" dn f28)
    (q29:Fq K "number_of_way" cD f29)
    (q30:Fq K "has_signs_among" bU f30)
    (q31:Fq K "counts_up_to" cU f31)
    (q32:Fq K "ways_by_cut" dm f32)
    (q33:Fq K "number_at" eJ f33)
    (q34:Fq K "_law_mixed" dW f34)
    (q35:Fq K "_law_well" eN f35)
    (q36:Fq K "_law_draw" eP f36)
    (q37:Fq K "_law_number" dq f37)
    (q38:Fq K "_law_row" fP f38)
    (q39:Fq K "_law_signs" dS f39)
    (q40:Fq K "_law_way" fO f40)
    (q41:Fq K "_law_form" eO f41)
    (q42:Fq K "_law_table" dR f42)
    (q43:Fq K "_law_parts" dU f43)
    (q44:Fq K "_law_twins" dQ f44)
    (q45:Fq K "_law_tree" de f45)
    (q46:Fq K "_law_first" cH f46)
    (a47:aay K mainGlobals "law" = some (some (.ref f47))) (l47:K.lookup f47=some ⟨oc47,od47,.func (abc "law" "law" (cA gb) (bZ gb) (ai gb) .none kV47 dc47 pm47 an47 cd47 ct47),sl47⟩) (c47:abz K cd47 "law" = true) (k47:aa9 K (.ref f47)=true)
    (dX:aay K mainGlobals "len" = some none)
    (dV : aay K mainGlobals "isinstance" = some none)
    (dT:aay K mainGlobals "int" = some none)
    (dF:aay K mainGlobals "bool" = some none)
    (d6:aay K mainGlobals "str" = some none)
    (d8:aay K mainGlobals "tuple" = some none)
    (dY:aay K mainGlobals "list" = some none)
    (d5:aay K mainGlobals "sorted" = some none)
    (d1:aay K mainGlobals "range" = some none)
    (d2:aay K mainGlobals "repr" = some none)
    (dK:aay K mainGlobals "enumerate" = some none)
    (d7:aay K mainGlobals "sum" = some none)
    (dD:aay K mainGlobals "all" = some none)
    (d0:aay K mainGlobals "min" = some none)
    (dZ:aay K mainGlobals "max" = some none)
    (dC:aay K mainGlobals "abs" = some none)
    (dH:aay K mainGlobals "divmod" = some none)
    (dG:aay K mainGlobals "dict" = some none)
    (d4:aay K mainGlobals "set" = some none)
    (d3:aay K mainGlobals "reversed" = some none)
    (dE:aay K mainGlobals "any" = some none)
    (d9:aay K mainGlobals "zip" = some none)
    (gM:aay K mainGlobals "MOST_NUMBERS" = some (some (.int 9 tM)))
    (gS:aay K mainGlobals "SIGNS" = some (some (.ref cS)))
    (lS:K.lookup cS=some ⟨.type "tuple",odS,.seq #[.str "+" tS1,.str "-" tS2,.str "*" tS3] nS,slS⟩)
    (gM3:aay K mainGlobals "MOST_NUMBERS" = some (some (.int 9 tM3)))
    (gP:aay K mainGlobals "SIGNS_TO_PUT" = some (some (.ref cP)))
    (lP:K.lookup cP=some ⟨.type "tuple",odP,.seq #[.str "+" tP1,.str "-" tP2,.str "*" tP3,.str "+-" tP4,.str "+*" tP5,.str "-*" tP6,.str "+-*" tP7] nP,slP⟩)
    (gT:aay K mainGlobals "TURNED" = some (some (.ref cT)))
    (lT:K.lookup cT=some ⟨.type "dict",none,.dict #[⟨abt w.params "+",.str "+" tT1,.str "-" tT2⟩,⟨abt w.params "-",.str "-" tT3,.str "+" tT4⟩] nT,#[]⟩)
    (gK:aay K mainGlobals "KINDS" = some (some (.ref cK)))
    (lK:K.lookup cK=some ⟨.type "tuple",odK,.seq #[.str "sum" tK1,.str "times" tK2] nK,slK⟩)
    (gW:aay K mainGlobals "WITHIN" = some (some (.ref cW)))
    (lW:K.lookup cW=some ⟨.type "dict",none,.dict #[⟨abt w.params "sum",.str "sum" tW1,.str "times" tW2⟩,⟨abt w.params "times",.str "times" tW3,.str "sum" tW4⟩] nW,#[]⟩) :
    ∃ fd:FuncData,(∀ (s:Shared) (v:Value),BindsTo s fd ⟨[v],[]⟩ [("script",v)])∧∀ base:Heap,K.In base→base.Ns mainGlobals mg→FnOk l.prog w K mg base CX0 102 fa fd ["script"] (nF K):=by
  have e:=hfa.symm.trans (abo X G a47);cases e;obtain ⟨_,br,ch,dh⟩:=q0.use X G (ps:=["thing"]) fun _ _ _ _ _ _ us hl=>by obtain ⟨_,rfl⟩:=us1 hl;rfl
  obtain ⟨_,bn,cd,db⟩:=q1.use X G (ps:=["thing"]) fun _ _ _ _ _ _ us hl=>by obtain ⟨_,rfl⟩:=us1 hl;rfl
  obtain ⟨_,bp,cf,df⟩:=q2.use X G (ps:=["thing"]) fun _ _ _ _ _ _ us hl=>by obtain ⟨_,rfl⟩:=us1 hl;rfl
  obtain ⟨_,bo,ce,dd⟩:=q3.use X G (ps:=["thing"]) fun _ _ _ _ _ _ us hl=>by obtain ⟨_,rfl⟩:=us1 hl;rfl
  obtain ⟨_,bq,cg,dg⟩:=q4.use X G (ps:=["thing"]) fun _ _ _ _ _ _ us hl=>by obtain ⟨_,rfl⟩:=us1 hl;rfl
  obtain ⟨_,bA,cp,ds⟩:=q5.use X G (ps:=["thing"]) fun _ _ _ _ _ _ us hl=>by obtain ⟨_,rfl⟩:=us1 hl;rfl
  obtain ⟨_,bB,cq,dt⟩:=q6.use X G (ps:=["thing"]) fun _ _ _ _ _ _ us hl=>by obtain ⟨_,rfl⟩:=us1 hl;rfl
  obtain ⟨_,bC,cr,du⟩:=q7.use X G (ps:=["thing"]) fun _ _ _ _ _ _ us hl=>by obtain ⟨_,rfl⟩:=us1 hl;rfl
  obtain ⟨_,bI,cw,dz⟩:=q8.use X G (ps:=["many"]) fun _ _ _ _ _ _ us hl=>by obtain ⟨_,rfl⟩:=us1 hl;rfl
  obtain ⟨_,bc,b2,c0⟩:=q9.use X G (ps:=["stretch"]) fun _ _ _ _ _ _ us hl=>by obtain ⟨_,rfl⟩:=us1 hl;rfl
  obtain ⟨_,bx,cn,dp⟩:=q10.use X G (ps:=["way"]) fun _ _ _ _ _ _ us hl=>by obtain ⟨_,rfl⟩:=us1 hl;rfl
  obtain ⟨_,bt,ck,dj⟩:=q11.use X G (ps:=["way"]) fun _ _ _ _ _ _ us hl=>by obtain ⟨_,rfl⟩:=us1 hl;rfl
  obtain ⟨_,bh,b7,c5⟩:=q12.use X G (ps:=["way"]) fun _ _ _ _ _ _ us hl=>by obtain ⟨_,rfl⟩:=us1 hl;rfl
  obtain ⟨_,bf,b5,c3⟩:=q13.use X G (ps:=["way"]) fun _ _ _ _ _ _ us hl=>by obtain ⟨_,rfl⟩:=us1 hl;rfl
  obtain ⟨_,bm,cc,da⟩:=q14.use X G (ps:=["form","kind"]) fun _ _ _ _ _ _ us hl=>by obtain ⟨_,_,rfl⟩:=us2 hl;rfl
  obtain ⟨_,bJ,cx,dA⟩:=q15.use X G (ps:=["form"]) fun _ _ _ _ _ _ us hl=>by obtain ⟨_,rfl⟩:=us1 hl;rfl
  obtain ⟨_,bd,b3,c1⟩:=q16.use X G (ps:=["form"]) fun _ _ _ _ _ _ us hl=>by obtain ⟨_,rfl⟩:=us1 hl;rfl
  obtain ⟨_,bH,cv,dy⟩:=q17.use X G (ps:=["form"]) fun _ _ _ _ _ _ us hl=>by obtain ⟨_,rfl⟩:=us1 hl;rfl
  obtain ⟨_,bG,cu,dx⟩:=q18.use X G (ps:=["form"]) fun _ _ _ _ _ _ us hl=>by obtain ⟨_,rfl⟩:=us1 hl;rfl
  obtain ⟨_,bg,b6,c4⟩:=q19.use X G (ps:=["row","signs","form"]) fun _ _ _ _ _ _ us hl=>by obtain ⟨_,_,_,rfl⟩:=us3 hl;rfl
  obtain ⟨_,bk,ca,c8⟩:=q20.use X G (ps:=["row","signs","form"]) fun _ _ _ _ _ _ us hl=>by obtain ⟨_,_,_,rfl⟩:=us3 hl;rfl
  obtain ⟨_,bz,co,dr⟩:=q21.use X G (ps:=["row","signs","thing"]) fun _ _ _ _ _ _ us hl=>by obtain ⟨_,_,_,rfl⟩:=us3 hl;rfl
  obtain ⟨_,bl,cb,c9⟩:=q22.use X G (ps:=["thing","kinds","signs","room"]) fun _ _ _ _ _ _ us hl=>by obtain ⟨_,_,_,_,rfl⟩:=us4 hl;rfl
  obtain ⟨_,bj,b9,c7⟩:=q23.use X G (ps:=["kind","place","signs"]) fun _ _ _ _ _ _ us hl=>by obtain ⟨_,_,_,rfl⟩:=us3 hl;rfl
  obtain ⟨_,bu,cl,dk⟩:=q24.use X G (ps:=["left_head","right_head"]) fun _ _ _ _ _ _ us hl=>by obtain ⟨_,_,rfl⟩:=us2 hl;rfl
  obtain ⟨_,bv,cm,dl⟩:=q25.use X G (ps:=["parts","signs","stretch"]) fun _ _ _ _ _ _ us hl=>by obtain ⟨_,_,_,rfl⟩:=us3 hl;rfl
  obtain ⟨_,be,b4,c2⟩:=q26.use X G (ps:=["form","signs"]) fun _ _ _ _ _ _ us hl=>by obtain ⟨_,_,rfl⟩:=us2 hl;rfl
  obtain ⟨_,bs,ci,di⟩:=q27.use X G (ps:=["firsts","joints"]) fun _ _ _ _ _ _ us hl=>by obtain ⟨_,_,rfl⟩:=us2 hl;rfl
  obtain ⟨_,ba,b0,cY⟩:=q28.use X G (ps:=["form","signs"]) fun _ _ _ _ _ _ us hl=>by obtain ⟨_,_,rfl⟩:=us2 hl;rfl
  obtain ⟨_,bF,ct,dw⟩:=q29.use X G (ps:=["way","signs"]) fun _ _ _ _ _ _ us hl=>by obtain ⟨_,_,rfl⟩:=us2 hl;rfl
  obtain ⟨_,bi,b8,c6⟩:=q30.use X G (ps:=["way","signs"]) fun _ _ _ _ _ _ us hl=>by obtain ⟨_,_,rfl⟩:=us2 hl;rfl
  obtain ⟨_,bb,b1,cZ⟩:=q31.use X G (ps:=["signs","many"]) fun _ _ _ _ _ _ us hl=>by obtain ⟨_,_,rfl⟩:=us2 hl;rfl
  obtain ⟨_,bK,cy,dB⟩:=q32.use X G (ps:=["signs","counts","left","right"]) fun _ _ _ _ _ _ us hl=>by obtain ⟨_,_,_,_,rfl⟩:=us4 hl;rfl
  obtain ⟨_,bD,cs,dv⟩:=q33.use X G (ps:=["way","signs","counts"]) fun _ _ _ _ _ _ us hl=>by obtain ⟨_,_,_,rfl⟩:=us3 hl;rfl
  obtain ⟨_,a0,bO,cG⟩:=q34.use X G (ps:=["cell","k"]) fun _ _ _ _ _ _ us hl=>by obtain ⟨_,_,rfl⟩:=us2 hl;rfl
  obtain ⟨_,a9,bY,cX⟩:=q35.use X G (ps:=["cell"]) fun _ _ _ _ _ _ us hl=>by obtain ⟨_,rfl⟩:=us1 hl;rfl
  obtain ⟨_,aX,bL,cz⟩:=q36.use X G (ps:=["well","many"]) fun _ _ _ _ _ _ us hl=>by obtain ⟨_,_,rfl⟩:=us2 hl;rfl
  obtain ⟨_,a1,bP,cI⟩:=q37.use X G (ps:=["well"]) fun _ _ _ _ _ _ us hl=>by obtain ⟨_,rfl⟩:=us1 hl;rfl
  obtain ⟨_,a3,bR,cL⟩:=q38.use X G (ps:=["well","many"]) fun _ _ _ _ _ _ us hl=>by obtain ⟨_,_,rfl⟩:=us2 hl;rfl
  obtain ⟨_,a4,bS,cM⟩:=q39.use X G (ps:=["well"]) fun _ _ _ _ _ _ us hl=>by obtain ⟨_,rfl⟩:=us1 hl;rfl
  obtain ⟨_,a8,bX,cV⟩:=q40.use X G (ps:=["well","row","signs"]) fun _ _ _ _ _ _ us hl=>by obtain ⟨_,_,_,rfl⟩:=us3 hl;rfl
  obtain ⟨_,aZ,bN,cF⟩:=q41.use X G (ps:=["way"]) fun _ _ _ _ _ _ us hl=>by obtain ⟨_,rfl⟩:=us1 hl;rfl
  obtain ⟨_,a5,bT,cN⟩:=q42.use X G (ps:=["parts","signs"]) fun _ _ _ _ _ _ us hl=>by obtain ⟨_,_,rfl⟩:=us2 hl;rfl
  obtain ⟨_,a2,bQ,cJ⟩:=q43.use X G (ps:=["form"]) fun _ _ _ _ _ _ us hl=>by obtain ⟨_,rfl⟩:=us1 hl;rfl
  obtain ⟨_,a7,bW,cQ⟩:=q44.use X G (ps:=["form","signs"]) fun _ _ _ _ _ _ us hl=>by obtain ⟨_,_,rfl⟩:=us2 hl;rfl
  obtain ⟨_,a6,bV,cO⟩:=q45.use X G (ps:=["table","marks","parts","begin","end","signs"]) fun _ _ _ _ _ _ us hl=>by obtain ⟨_,_,_,_,_,_,rfl⟩:=us6 hl;rfl
  obtain ⟨_,aY,bM,cC⟩:=q46.use X G (ps:=["form","signs"]) fun _ _ _ _ _ _ us hl=>by obtain ⟨_,_,rfl⟩:=us2 hl;rfl
  have bw:=pX (st:=gb) l47 c47 k47;have B:Bu K mg:=⟨aau X G dX,aau X G dV,aau X G dT,aau X G dF,aau X G d6,aau X G d8,aau X G dY,aau X G d5,aau X G d1,aau X G d2,aau X G dK,aau X G d7,aau X G dD,aau X G d0,aau X G dZ,aau X G dC,aau X G dH,aau X G dG,aau X G d4,aau X G d3,aau X G dE,aau X G d9⟩
  have B':Co K mg tM cS:=⟨abo X G gM,abo X G gS,fun H=>.inr ⟨_,_,_,lS,rfl,rfl,by show 3≤sizeLine;decide,.cons ⟨_,rfl⟩ (.cons ⟨_,rfl⟩ (.cons ⟨_,rfl⟩ .nil))⟩⟩
  have B3:Cp K mg tM3 cP:=⟨abo X G gM3,abo X G gP,fun H=>.inr ⟨_,_,_,lP,rfl,rfl,by show 7≤sizeLine;decide,.cons ⟨_,rfl⟩ (.cons ⟨_,rfl⟩ (.cons ⟨_,rfl⟩ (.cons ⟨_,rfl⟩ (.cons ⟨_,rfl⟩ (.cons ⟨_,rfl⟩ (.cons ⟨_,rfl⟩ .nil))))))⟩⟩
  have B2:Ct l.prog w K mg cT:=⟨abo X G gT,KD.two lT (by decide) (by decide) (by decide)⟩
  have B4:Cw l.prog w K mg cK cW:=⟨abo X G gK,fun H=>.inr ⟨_,_,_,lK,rfl,rfl,by show 2≤sizeLine;decide,.cons ⟨_,rfl⟩ (.cons ⟨_,rfl⟩ .nil)⟩,abo X G gW,KD.two lW (by decide) (by decide) (by decide)⟩
  refine ⟨abc "law" "law" (cA gb) (bZ gb) (ai gb) .none kV47 dc47 pm47 an47 cd47 ct47,fun s v=>.of_eq rfl,fun base _ _=>?_⟩;have aG:Cal l.prog w K mg base "is_whole" 1 ["thing"] (bE K):=⟨_,_,lN br B,ch,br.kp,dh⟩
  have aD:Cal l.prog w K mg base "is_sign" 1 ["thing"] j4:=⟨_,_,mH bo B B',ce,bo.kp,dd⟩
  have aF:Cal l.prog w K mg base "is_way" 2 ["thing"] j7:=⟨_,_,oA bq B B' aG aD,cg,bq.kp,dg⟩
  have aP:Cal l.prog w K mg base "need_way" 3 ["thing"] fb:=⟨_,_,lL bC aF,cr,bC.kp,du⟩
  have aL:Cal l.prog w K mg base "list_numbers" 21 ["way"] (iJ 20):=⟨_,_,ig bx cn dp aG 20,cn,bx.kp,dp⟩
  have aI:Cal l.prog w K mg base "join_signs" 21 ["way"] (nC 20):=⟨_,_,jv bt ck dj aG 20,ck,bt.kp,dj⟩
  have ad:Cal l.prog w K mg base "_law_mixed" 1 ["cell","k"] j5:=⟨_,_,pI a0,bO,a0.kp,cG⟩
  have am:Cal l.prog w K mg base "_law_well" 1 ["cell"] mw:=⟨_,_,qR a9 B,bY,a9.kp,cX⟩
  have aa:Cal l.prog w K mg base "_law_draw" 2 ["well","many"] fC:=⟨_,_,qS aX ad,bL,aX.kp,cz⟩
  have ae:Cal l.prog w K mg base "_law_number" 3 ["well"] iK:=⟨_,_,oz a1 aa,bP,a1.kp,cI⟩
  have ag:Cal l.prog w K mg base "_law_row" 4 ["well","many"] o0:=⟨_,_,sy a3 B aa ae,bR,a3.kp,cL⟩
  have ah:Cal l.prog w K mg base "_law_signs" 3 ["well"] fA:=⟨_,_,kB a4 aa,bS,a4.kp,cM⟩
  have al:Cal l.prog w K mg base "_law_way" 11 ["well","row","signs"] (nB 9):=⟨_,_,sx a8 bX cV B aa 9,bX,a8.kp,cV⟩
  have aB:Cal l.prog w K mg base "is_kind" 2 ["form","kind"] j6:=⟨_,_,mI bm aG,cc,bm.kp,da⟩
  have aV:Cal l.prog w K mg base "terms_in" 3 ["form"] j3:=⟨_,_,lI bJ aB,cx,bJ.kp,dA⟩
  have aq:Cal l.prog w K mg base "factors_in" 3 ["form"] gH:=⟨_,_,jz bd aB,b3,bd.kp,c1⟩
  have au:Cal l.prog w K mg base "find_form" 24 ["way"] (j9 20):=⟨_,_,kE bf b5 c3 B B2 aG aq aV 20,b5,bf.kp,c3⟩
  have aw:Cal l.prog w K mg base "form_of" 25 ["way"] iM:=⟨_,_,mK bh aP au,b7,bh.kp,c5⟩
  have ac:Cal l.prog w K mg base "_law_form" 21 ["way"] (iA 20):=⟨_,_,pJ aZ bN cF B 20,bN,aZ.kp,cF⟩
  have aC:Cal l.prog w K mg base "is_row" 2 ["thing"] j8:=⟨_,_,oB bn B B3 aG,cd,bn.kp,db⟩
  have aN:Cal l.prog w K mg base "need_row" 3 ["thing"] gF:=⟨_,_,lM bA aC,cp,bA.kp,ds⟩
  have aE:Cal l.prog w K mg base "is_signs" 1 ["thing"] gG:=⟨_,_,lO bp B B3,cf,bp.kp,df⟩
  have aO:Cal l.prog w K mg base "need_signs" 2 ["thing"] dc:=⟨_,_,jt bB aE,cq,bB.kp,dt⟩
  have aW:Cal l.prog w K mg base "ways_by_cut" 1 ["signs","counts","left","right"] nA:=⟨_,_,i6 bK B,cy,bK.kp,dB⟩
  have ao:Cal l.prog w K mg base "counts_up_to" 2 ["signs","many"] o7:=⟨_,_,ii bb B aW,b1,bb.kp,cZ⟩
  have ap:Cal l.prog w K mg base "cuts_of" 1 ["stretch"] mx:=⟨_,_,mL bc B,b2,bc.kp,c0⟩
  have ax:Cal l.prog w K mg base "has_signs_among" 22 ["way","signs"] o6:=⟨_,_,kC bi B aI,b8,bi.kp,c6⟩
  have aQ:Cal l.prog w K mg base "number_at" 31 ["way","signs","counts"] (nE 9):=⟨_,_,kz bD cs dv B aG aL aW 9,cs,bD.kp,dv⟩
  have aR:Cal l.prog w K mg base "number_of_way" 32 ["way","signs"] o3:=⟨_,_,g_ bF B aP aO ax aL ao aQ,ct,bF.kp,dw⟩
  have aU:Cal l.prog w K mg base "shorter_first" 1 ["many"] qE:=⟨_,_,gZ bI B,cw,bI.kp,dz⟩
  have aT:Cal l.prog w K mg base "parts_of" 1 ["form"] jO:=⟨_,_,lJ bH B,cv,bH.kp,dy⟩
  have aS:Cal l.prog w K mg base "numbers_in" 11 ["form"] (fX 9):=⟨_,_,jr bG cu dx B aG aT 9,cu,bG.kp,dx⟩
  have aJ:Cal l.prog w K mg base "joint_sign" 1 ["left_head","right_head"] rY:=⟨_,_,ju bu,cl,bu.kp,dk⟩
  have aK:Cal l.prog w K mg base "joints_within" 2 ["parts","signs","stretch"] qG:=⟨_,_,hE bv B ap aJ,cm,bv.kp,dl⟩
  have an:Cal l.prog w K mg base "count_twins" 12 ["form","signs"] (h_ 9):=⟨_,_,i7 ba b0 cY B aG aT aU aK 9,b0,ba.kp,cY⟩
  have aH:Cal l.prog w K mg base "join_first" 1 ["firsts","joints"] rZ:=⟨_,_,jx bs B,ci,bs.kp,di⟩
  have ar:Cal l.prog w K mg base "find_first" 12 ["form","signs"] (jj 9):=⟨_,_,jy be b4 c2 B aG aT aU aK aH 9,b4,be.kp,c2⟩
  have ay:Cal l.prog w K mg base "heads_at" 1 ["kind","place","signs"] o5:=⟨_,_,lQ bj,b9,bj.kp,c7⟩
  have aA:Cal l.prog w K mg base "is_form" 11 ["thing","kinds","signs","room"] (qH K 9):=⟨_,_,mJ bl cb c9 B B4 aG aT aD ay 9,cb,bl.kp,c9⟩
  have aM:Cal l.prog w K mg base "need_form" 12 ["row","signs","thing"] qF:=⟨_,_,kA bz B B4 aN aO aA aS,co,bz.kp,dr⟩
  have av:Cal l.prog w K mg base "first_way" 13 ["row","signs","form"] r9:=⟨_,_,kD bg aM ar,b6,bg.kp,c4⟩
  have az:Cal l.prog w K mg base "how_many_twins" 13 ["row","signs","form"] r8:=⟨_,_,gh bk aM an,ca,bk.kp,c8⟩
  have af:Cal l.prog w K mg base "_law_parts" 1 ["form"] o4:=⟨_,_,jC a2 B,bQ,a2.kp,cJ⟩
  have aj:Cal l.prog w K mg base "_law_table" 1 ["parts","signs"] lc:=⟨_,_,jB a5 B,bT,a5.kp,cN⟩
  have ak:Cal l.prog w K mg base "_law_twins" 11 ["form","signs"] (h_ 9):=⟨_,_,jA a7 bW cQ B af aj 9,bW,a7.kp,cQ⟩
  have ab:Cal l.prog w K mg base "_law_first" 101 ["form","signs"] (jj 9):=⟨_,_,jD aY bM cC a6 bV cO B af aj 9,bM,aY.kp,cC⟩
  exact sA bw B am aa ag ah al aw ac av az ak ab aR
theorem walk {l:PySem.W.OpenLaw} {q:Program} {loose:List Str} {XP:(Str→Option Value)→Heap→Prop} {YP:World→Heap→Prop} {d:DefRec} {K:Params→aaa} (hn:l.most=some 63) (hdf:d.params.defaults=[]) (hi:PyProof.Rows.importsNone q=true)
    (hY:∀ (w:World) (h:Heap),YP w h→(K w.params).In h)
    (F:∀ (w:World) (mg:Str→Option Value) (fa:Addr) (h:Heap),(K w.params).In h→h.Ns mainGlobals mg→mg d.name=some (.ref fa) →
      ∃ fd:FuncData,(∀ (s:Shared) (u:Value),BindsTo s fd ⟨[u],[]⟩ [("script",u)])∧∀ base:Heap,(K w.params).In base→base.Ns mainGlobals mg→FnOk l.prog w (K w.params) mg base CX0 102 fa fd ["script"] (nF (K w.params))) :
    PySem.W.WalkO q loose XP YP l.row.toRowW d [] (fun f vs=>PySem.call f vs) :=
  L2.walk_of (n:=63) (k:=102) (x:="script") (CX:=fun _=>CX0) (sp:=fun w=>nF (K w.params)) hn (by decide) hdf ⟨rfl,by decide,by decide,rfl⟩ hi hY F (fun _ _ a ns hl _ hS=>⟨a,ns,rfl,hS,hl,fun _=>rfl⟩) fun _ _ _ _ _ z=>z
end Put
namespace PySem.W.Fast
def tw8227273291909248275:=0
def tw14764793098110765306:=0
def tw16143795195456450404:=0
def tw9224656045856549599:=0
def tw7936614229884019089:=0
def tw4899177055035744654:=0
def tw5910604064290297366:=0
def tw1908822248198248901:=0
def tw12659064261594784149:=0
def tw592412502771149247:=0
def tw16927687085806951857:=0
def tw15053018334035598668:=0
def tw12656243323628476085:=0
def tw15494781499959887042:=0
def tw6758724160269210108:=0
def tw3462384853135281948:=0
def tw13716550489944131583:=0
def tw17428414471399253713:=0
def tw15385680134794038544:=0
def tw10402674867299358257:=0
def tw16936156395910708678:=0
def tw14605215101281489480:=0
def tw2184960869551481505:=0
def tw12194331867094937047:=0
def tw7522181392668304134:=0
def tw53277474716436176:=0
def tw3269195059823122810:=0
def tw6238992920691493149:=0
def tw9023443350813792839:=0
def tw17588227160293258434:=0
def tw14976691909421836351:=0
def tw15942075121907634809:=0
def tw7786888244975202773:=0
def tw2887363277670557956:=0
def tw11571231726056719358:=0
def tw9036771336635176914:=0
def tw10280643536534885598:=0
def tw3547397201739192297:=0
def tw10029782210727746761:=0
def tw12048243556637084903:=0
def tw6574393419134427273:=0
def tw11496598668491564305:=0
def tw17597315556146048956:=0
def tw8443986480882841790:=0
def tw16176580928627910242:=0
def tw2370591119736730970:=0
def tw7893917167484146230:=0
def tw627095053495672310:=0
def tw6657865687045498438:=0
def tw8790483494352244387:=0
def tw3979036449267546330:=0
def tw4067183849736252523:=0
def tw797417940951304602:=0
def tw9697024040566531002:=0
def tw703693147938917115:=0
def tw14710704482376327273:=0
def tw8601314241402787346:=0
def tw7965985477196745364:=0
def tw16003524015694200196:=0
def tw9083134039901129575:=0
def tw15574448562149565551:=0
def tw16118156142136156344:=0
def tw780837444186447395:=0
def tw17029813405843583421:=0
def tw7727277695077747440:=0
def tw7592713721202872355:=0
def tw16616532892373979486:=0
def tw9760872429641925784:=0
def tw3663280078709924492:=0
def tw7948573352395660708:=0
def tw7299470675659175351:=0
def tw15296073558695875247:=0
def tw11412858195199426473:=0
def tw12154850058295632859:=0
def tw6880677232937856939:=0
def tw2519743915759498253:=0
def tw12636893510708825357:=0
def tw3846084181279040878:=0
def tw12414572974664196583:=0
def tw295552763927961853:=0
def tw8824508444275262505:=0
def tw1228528185923511887:=0
def tw4290298004419708333:=0
def tw10288955078708289772:=0
def tw4494750232748395881:=0
def tw18401559768836188160:=0
def tw1932111457834591362:=0
def tw6783926790236357758:=0
def tw15995832094416794528:=0
def tw11369540828605137699:=0
def tw8341608580083771833:=0
def tw18074270876994075433:=0
def tw3149678384881686431:=0
def tw4215187744976837901:=0
def tw5483297288047483721:=0
def tw16275318956077555610:=0
def tw16258830127548564561:=0
def tw16774496935075359321:=0
def tw14664850732866680936:=0
def tw50642698407258738:=0
def tw325129748065472514:=0
def tw2003956367031559239:=0
def tw10571778074574282376:=0
def tw490768252472085566:=0
def tw9009505581219547609:=0
def tw11372845130975637151:=0
def tw17979358094114383919:=0
def tw4469753667467875471:=0
def tw17098171820407675080:=0
def tw10836295349415326339:=0
def tw13518125381276444054:=0
def tw415571072833609871:=0
def tw3185558086494879199:=0
def tw10906162608500014746:=0
def tw6351287696491543077:=0
def tw3885202993739188360:=0
def tw14494834239308553162:=0
def tw6726597211991186150:=0
def tw5611198079527805579:=0
def tw10918042456511615229:=0
def tw9475158063166554403:=0
def tw17835918863250661963:=0
def tw2985928725608973327:=0
def tw8256625397209351016:=0
def tw1290937213875551177:=0
def tw5781196972449370359:=0
def tw643423978717424590:=0
def tw11401936504042574986:=0
def tw1794507459683995068:=0
def tw1145860183232569060:=0
def tw1632912039858683234:=0
def tw11217126863410977438:=0
def tw8247672323650336035:=0
def tw4665263744476821858:=0
def tw8777177810844538939:=0
def tw10040248196562484086:=0
def tw885683831760693066:=0
def tw9615187385153456361:=0
def tw9412437511087665065:=0
def tw9117823335007701673:=0
def tw3016622486645050038:=0
def tw11393501978229755305:=0
def tw6210546797108290116:=0
def tw15172783295486863115:=0
def tw15221087798712130683:=0
def tw1075963108816733366:=0
def tw3358435764339091775:=0
def tw2530996524074507631:=0
def tw6891199786419600175:=0
def tw12913490228618636842:=0
def tw7341957872394856953:=0
def tw15839815758372744851:=0
def tw13593782615268865483:=0
def tw9911808693273180823:=0
def tw8444422692429634019:=0
def tw2000603337703570350:=0
def tw2255936487106081359:=0
def tw6126892485134271997:=0
def tw13944909125166869947:=0
def tw11068246848745559917:=0
def tw5690339840757787076:=0
def tw4700738771754621067:=0
def tw13203180931668929097:=0
def tw2119322755986510421:=0
def tw6891721787343808131:=0
def tw14233395684424239884:=0
def tw3659570002057207353:=0
def tw16119398958097436822:=0
def tw16598824435721813637:=0
def tw15668516447801512550:=0
def tw12840671025414751043:=0
def tw7929433947926221890:=0
def tw6865014069262197539:=0
def tw18240539142997689088:=0
def tw8885522933641469213:=0
def tw5188789529573432977:=0
def tw17562989090368494556:=0
def tw11272728204006709846:=0
def tw5744227000096564317:=0
def tw17093523639010043445:=0
def tw17817664267772452696:=0
def tw13498870414218703218:=0
def tw2425465207060964149:=0
def tw7963029123026457199:=0
def tw12504915059049010133:=0
def tw3732099871157818438:=0
def tw15419002491908399956:=0
def tw13335234436722667134:=0
def tw17643305604191776818:=0
def tw9118950254235872325:=0
def tw9373217786559929580:=0
def tw1024845638106033327:=0
def tw9431964532160651552:=0
def tw14267546074886956857:=0
def tw8108908112081270783:=0
def tw17616029061188287244:=0
def tw12934715982042963789:=0
def tw17149430629395713628:=0
def tw5573747695123914168:=0
def tw616722542901445768:=0
def tw5599404987431002461:=0
def tw14174257188561084885:=0
def tw2010973876446606641:=0
def tw3871566860590212689:=0
def tw9590151984954697439:=0
def tw14771486022118646532:=0
def tw1557659802021000982:=0
def tw1363147371873661310:=0
def tw9043978915363923764:=0
def tw6341990692392506000:=0
def tw17238357070997982162:=0
def tw3742937728412037383:=0
def tw14287836919847298781:=0
def tw6390691862629284573:=0
def tw13613737318376047274:=0
def tw379487840560730989:=0
def tw12293780997491008300:=0
def tw15908650197893882902:=0
def tw1770856461591357941:=0
def tw9354416765937567478:=0
def tw8907877036830655161:=0
def tw359908248771121754:=0
def tw15591444877685206294:=0
def tw11030403259824540323:=0
def tw4799172051890104526:=0
def tw4875508936933375265:=0
def tw4480761180644959122:=0
def tw627194132730947067:=0
def tw3630851432401232679:=0
def tw17618733464772877834:=0
def tw1399678940554426384:=0
def tw2367857073966619224:=0
def tw13717129032201312119:=0
def tw1314172770522554129:=0
def tw18322822635509666511:=0
def tw1486767440772245671:=0
def tw12229871353047004344:=0
def tw257388551196954572:=0
def tw9709981775342605794:=0
def tw9836914971442070432:=0
def tw16696411702090099236:=0
def tw11960545673763003578:=0
def tw17603872848635289251:=0
def tw16490014178406590746:=0
def tw783332994727979770:=0
def tw11885339333445584688:=0
def tw16215099005790259428:=0
def tw4261657900716903285:=0
def tw1537083029540368036:=0
def tw3497073982227530545:=0
def tw3974160486679847750:=0
def tw14303470242286636889:=0
def tw18121852330019116685:=0
def tw13835018567335841346:=0
def tw18371293249159660762:=0
def tw3428333054577569957:=0
def tw6757678078952094382:=0
end PySem.W.Fast
open PySem PySem.W PyProof.Rows
set_option maxRecDepth 100000 in
set_option maxHeartbeats 0 in
theorem PySem.Challenge.cw_putsigns_k32_first_ways_and_twins_of_lon_holds : PySem.Challenge.rw_putsigns_k32_first_ways_and_twins_of_lon.Holds := by
  w_on;o_law;k_head;(case hw=>w_witness2)
  k_fill
  refine Put.walk (l:=PySem.Challenge.rw_putsigns_k32_first_ways_and_twins_of_lon) rfl rfl ?hi (fun w h Y=>PySem.W.kIn_of Y) ?F
  case hi=>first|rfl|decide +kernel
  case F =>
    intro w mg fa h KX G hmg;refine' Put.all_mk KX G hmg ?q0 ?q1 ?q2 ?q3 ?q4 ?q5 ?q6 ?q7 ?q8 ?q9 ?q10 ?q11 ?q12 ?q13 ?q14 ?q15 ?q16 ?q17 ?q18 ?q19 ?q20 ?q21 ?q22 ?q23 ?q24 ?q25 ?q26 ?q27 ?q28 ?q29 ?q30 ?q31 ?q32 ?q33 ?q34 ?q35 ?q36 ?q37 ?q38 ?q39 ?q40 ?q41 ?q42 ?q43 ?q44 ?q45 ?q46 ?a47 ?l47 ?c47 ?k47 ?z_len ?z_isinstance ?z_int ?z_bool ?z_str ?z_tuple ?z_list ?z_sorted ?z_range ?z_repr ?z_enumerate ?z_sum ?z_all ?z_min ?z_max ?z_abs ?z_divmod ?z_dict ?z_set ?z_reversed ?z_any ?z_zip ?gM ?gS ?lS ?gM3 ?gP ?lP ?gT ?lT ?gK ?lK ?gW ?lW
    (case q0=>exact L2.Fq.mk4 (by k_is) (by k_is) (by k_is) (by k_is))
    (case q1=>exact L2.Fq.mk4 (by k_is) (by k_is) (by k_is) (by k_is))
    (case q2=>exact L2.Fq.mk4 (by k_is) (by k_is) (by k_is) (by k_is))
    (case q3=>exact L2.Fq.mk4 (by k_is) (by k_is) (by k_is) (by k_is))
    (case q4=>exact L2.Fq.mk4 (by k_is) (by k_is) (by k_is) (by k_is))
    (case q5=>exact L2.Fq.mk4 (by k_is) (by k_is) (by k_is) (by k_is))
    (case q6=>exact L2.Fq.mk4 (by k_is) (by k_is) (by k_is) (by k_is))
    (case q7=>exact L2.Fq.mk4 (by k_is) (by k_is) (by k_is) (by k_is))
    (case q8=>exact L2.Fq.mk4 (by k_is) (by k_is) (by k_is) (by k_is))
    (case q9=>exact L2.Fq.mk4 (by k_is) (by k_is) (by k_is) (by k_is))
    (case q10=>exact L2.Fq.mk4 (by k_is) (by k_is) (by k_is) (by k_is))
    (case q11=>exact L2.Fq.mk4 (by k_is) (by k_is) (by k_is) (by k_is))
    (case q12=>exact L2.Fq.mk4 (by k_is) (by k_is) (by k_is) (by k_is))
    (case q13=>exact L2.Fq.mk4 (by k_is) (by k_is) (by k_is) (by k_is))
    (case q14=>exact L2.Fq.mk4 (by k_is) (by k_is) (by k_is) (by k_is))
    (case q15=>exact L2.Fq.mk4 (by k_is) (by k_is) (by k_is) (by k_is))
    (case q16=>exact L2.Fq.mk4 (by k_is) (by k_is) (by k_is) (by k_is))
    (case q17=>exact L2.Fq.mk4 (by k_is) (by k_is) (by k_is) (by k_is))
    (case q18=>exact L2.Fq.mk4 (by k_is) (by k_is) (by k_is) (by k_is))
    (case q19=>exact L2.Fq.mk4 (by k_is) (by k_is) (by k_is) (by k_is))
    (case q20=>exact L2.Fq.mk4 (by k_is) (by k_is) (by k_is) (by k_is))
    (case q21=>exact L2.Fq.mk4 (by k_is) (by k_is) (by k_is) (by k_is))
    (case q22=>exact L2.Fq.mk4 (by k_is) (by k_is) (by k_is) (by k_is))
    (case q23=>exact L2.Fq.mk4 (by k_is) (by k_is) (by k_is) (by k_is))
    (case q24=>exact L2.Fq.mk4 (by k_is) (by k_is) (by k_is) (by k_is))
    (case q25=>exact L2.Fq.mk4 (by k_is) (by k_is) (by k_is) (by k_is))
    (case q26=>exact L2.Fq.mk4 (by k_is) (by k_is) (by k_is) (by k_is))
    (case q27=>exact L2.Fq.mk4 (by k_is) (by k_is) (by k_is) (by k_is))
    (case q28=>exact L2.Fq.mk4 (by k_is) (by k_is) (by k_is) (by k_is))
    (case q29=>exact L2.Fq.mk4 (by k_is) (by k_is) (by k_is) (by k_is))
    (case q30=>exact L2.Fq.mk4 (by k_is) (by k_is) (by k_is) (by k_is))
    (case q31=>exact L2.Fq.mk4 (by k_is) (by k_is) (by k_is) (by k_is))
    (case q32=>exact L2.Fq.mk4 (by k_is) (by k_is) (by k_is) (by k_is))
    (case q33=>exact L2.Fq.mk4 (by k_is) (by k_is) (by k_is) (by k_is))
    (case q34=>exact L2.Fq.mk4 (by k_is) (by k_is) (by k_is) (by k_is))
    (case q35=>exact L2.Fq.mk4 (by k_is) (by k_is) (by k_is) (by k_is))
    (case q36=>exact L2.Fq.mk4 (by k_is) (by k_is) (by k_is) (by k_is))
    (case q37=>exact L2.Fq.mk4 (by k_is) (by k_is) (by k_is) (by k_is))
    (case q38=>exact L2.Fq.mk4 (by k_is) (by k_is) (by k_is) (by k_is))
    (case q39=>exact L2.Fq.mk4 (by k_is) (by k_is) (by k_is) (by k_is))
    (case q40=>exact L2.Fq.mk4 (by k_is) (by k_is) (by k_is) (by k_is))
    (case q41=>exact L2.Fq.mk4 (by k_is) (by k_is) (by k_is) (by k_is))
    (case q42=>exact L2.Fq.mk4 (by k_is) (by k_is) (by k_is) (by k_is))
    (case q43=>exact L2.Fq.mk4 (by k_is) (by k_is) (by k_is) (by k_is))
    (case q44=>exact L2.Fq.mk4 (by k_is) (by k_is) (by k_is) (by k_is))
    (case q45=>exact L2.Fq.mk4 (by k_is) (by k_is) (by k_is) (by k_is))
    (case q46=>exact L2.Fq.mk4 (by k_is) (by k_is) (by k_is) (by k_is))
    (case a47=>k_is)
    (case l47=>k_is)
    (case c47=>k_is)
    (case k47=>k_is)
    (case z_len=>k_is)
    (case z_isinstance=>k_is)
    (case z_int=>k_is)
    (case z_bool=>k_is)
    (case z_str=>k_is)
    (case z_tuple=>k_is)
    (case z_list=>k_is)
    (case z_sorted=>k_is)
    (case z_range=>k_is)
    (case z_repr=>k_is)
    (case z_enumerate=>k_is)
    (case z_sum=>k_is)
    (case z_all=>k_is)
    (case z_min=>k_is)
    (case z_max=>k_is)
    (case z_abs=>k_is)
    (case z_divmod=>k_is)
    (case z_dict=>k_is)
    (case z_set=>k_is)
    (case z_reversed=>k_is)
    (case z_any=>k_is)
    (case z_zip=>k_is)
    (case gM=>k_is)
    (case gS=>k_is)
    (case lS=>k_is)
    (case gM3=>k_is)
    (case gP=>k_is)
    (case lP=>k_is)
    (case gT=>k_is)
    (case lT=>k_is)
    (case gK=>k_is)
    (case lK=>k_is)
    (case gW=>k_is)
    (case lW=>k_is)

