import PyProof.Rows.All
import Wide.All
import OpenK.AllK
import Wide.FinOn
import Lean
import PyProof.EqAt
import PyProof.EqKinds
import PyProof.TupleCall
import PySem.Challenge.RW_putsigns_k31_whole_forms_by_numbers
open PySem.W renaming Frag → aaa, mg_none_of → aat, nsIn → aax, kia_one → aaZ, keepIn → aa7, fnOf → aa8, mg_of → abe, codeIn → abB, findIn → abT, Looks → ab2
open Nat renaming le_refl → aab, lt_of_lt_of_le → aam, ne_of_lt → aaC, zero_le → aaI, le_trans → aaW, zero_add → aaY, lt_irrefl → aa6, ne_of_gt → abm, le_of_lt → abx, mul_le_mul_right → abJ, mul_comm → abV, add_mul → ab4, not_lt → ab7
open List renaming length_map → aac, size_toArray → aad, mem_cons_of_mem → aae, mem_of_getElem? → aaf, getElem?_eq_getElem → aag, mem_cons_self → aai, mem_append_right → aaj, length_append → aal, map_append → aan, getElem?_map → aao, length_take → aap, getElem?_eq_some_iff → aaq, mem_singleton → aau, replicate → aaw, map_cons → aaz, getD_eq_getElem?_getD → aaA, mem_append → aaB, range → aaD, mem_cons → aaE, all_eq_true → aaH, mem_range → aaJ, Nodup → aaK, take_of_length_le → aaL, take_append_drop → aaO, length_cons → aaQ, length_drop → aaR, take_length → aaS, take_add_one → aaU, getElem?_append_right → aa1, findSome?_cons → aa2, flatten_cons → aa3, getElem?_append_left → aa5, getElem?_take_of_lt → aa9, mem_map → abf, find?_cons → abg, getElem?_range → abh, replicate_succ → abi, sum_cons → abl, mem_of_mem_take → abt, length_nil → abv, flatten_append → abz, length_eq_zero_iff → abA, length_singleton → abD, map_nil → abE, append_assoc → abH, mem_append_left → abI, take_zero → abK, getElem_of_mem → abL, take_succ_cons → abM, map_map → abN, drop_zero → abS, getElem?_eq_none → abU, any_cons → abZ, map_drop → ab0, map_take → ab1, nodup_cons → ab3
open Bool renaming false_ne_true → aah, eq_iff_iff → aaV, and_eq_true → abd
open PySem.Heap renaming get?_push_of_some → aak, lt_size → aas, get?_push_size → aaN
open PyProof.Rows renaming boot_isinstance → aar, boot_tuple → aaM, callWith_type1 → abk, boot_int → abn, boot_min → abo, boot_repr → abC, boot_sum → abF, boot_all → abW, boot_str → abX
open PySem.Paired renaming length → aav
open PySem renaming boot_len → aay, mem_of_lookup → aa4
open PySem.PassesOwn renaming never → aaF
open Option renaming map_eq_some_iff → aaG, isSome_iff_exists → aba, map_some → abP
open Int renaming le_refl → aaP, mul_le_mul_of_nonneg_right → abw, eq_ofNat_of_zero_le → aby
open Option.some renaming inj → aaT
open PySem.Builtin.Str renaming occurrences → aaX
open PySem.F renaming plainAttrs_list → aa0, slot_list_append → abb, type_list_append → abc, slot_dict_getitem → ab5
open PySem.PyData renaming depthAll → abj, keyHash → abr
open PySem.Sem renaming wp → abp
open Array renaming getElem?_eq_getElem → abq
open PySem.Builtin.List renaming listTooLong → abu
open False renaming elim → abG
open Ne renaming symm → abO
open PySem.Value renaming isStrOf → abQ
open PySem.Calls renaming callWith_builtin → abR
open Classical renaming choose → abY
open Prod renaming snd → ab6
set_option Elab.async false
set_option linter.all false
set_option maxRecDepth 100000
namespace L2
open PySem PySem.Spec PyProof.Rows
abbrev Key:=Sum Int Str
def e8:Key→Value→Bool
  | .inl k,v=>Value.isInt k v
  | .inr x,v=>abQ x v
def uq (w:World):Key→Int
  | .inl k=>hashInt k
  | .inr x=>hashStr w x
theorem bg:∀ {k:Key} {v:Value},e8 k v=true→(∃ i t,k=Sum.inl i∧v=Value.int i t)∨(∃ x t,k=Sum.inr x∧v=Value.str x t)
  | .inl i,v,h=>by
    obtain ⟨t,e⟩:=Value.isInt_shape (k:=i) (v:=v) h;exact .inl ⟨i,t,rfl,e⟩
  | .inr x,v,h=>by
    obtain ⟨t,e⟩:=Value.isStrOf_shape (x:=x) (v:=v) h;exact .inr ⟨x,t,rfl,e⟩
theorem pM (i:Int) (t:Tok):e8 (.inl i) (.int i t)=true:=by simp [e8,Value.isInt]
theorem pL (x:Str) (t:Tok):e8 (.inr x) (.str x t)=true:=by simp [e8,abQ]
theorem um (a b:Int):decide ((Sum.inl a:Key)=Sum.inl b)=(a == b):=by
  by_cases e:a=b
  · subst e;simp
  · have h:¬ (Sum.inl a:Key)=Sum.inl b:=fun q=>e (Sum.inl.inj q);rw [decide_eq_false h];exact (beq_eq_false_iff_ne.mpr e).symm
theorem ui (a b:Str):decide ((Sum.inr a:Key)=Sum.inr b)=decide (a=b):=by
  by_cases e:a=b
  · subst e;simp
  · have h:¬ (Sum.inr a:Key)=Sum.inr b:=fun q=>e (Sum.inr.inj q);rw [decide_eq_false h,decide_eq_false e]
theorem uk (a:Int) (b:Str):decide ((Sum.inl a:Key)=Sum.inr b)=false:=decide_eq_false (fun q=>nomatch q)
theorem uj (a:Str) (b:Int):decide ((Sum.inr a:Key)=Sum.inl b)=false:=decide_eq_false (fun q=>nomatch q)
def aG (prog:Program) (w:World):PySem.KeyKind prog w Key where
  is:=e8
  hash:=uq w
  inj:=fun v a b ha hb=>by
    rcases bg ha with ⟨i,t,rfl,rfl⟩|⟨x,t,rfl,rfl⟩
    · rcases bg hb with ⟨j,u,rfl,e⟩|⟨y,u,rfl,e⟩
      · injection e with e1 _;rw [e1]
      · exact nomatch e
    · rcases bg hb with ⟨j,u,rfl,e⟩|⟨y,u,rfl,e⟩
      · exact nomatch e
      · injection e with e1 _;rw [e1]
  byValue:=fun k v h=>by
    rcases bg h with ⟨i,t,rfl,rfl⟩|⟨x,t,rfl,rfl⟩ <;> rfl
  pyHash:=fun hv h=>by
    rcases bg hv with ⟨i,t,rfl,rfl⟩|⟨x,t,rfl,rfl⟩
    · exact wpAny_pyHash_int h
    · exact wpAny_pyHash_str h
  eqBool:=fun hu hv h=>by
    rcases bg hu with ⟨i,t,rfl,rfl⟩|⟨x,t,rfl,rfl⟩
    · rcases bg hv with ⟨j,u,rfl,rfl⟩|⟨y,u,rfl,rfl⟩
      · rw [um] at h;exact wpAny_eqBool_int h
      · rw [uk] at h;exact SeqAt.EqAt.int_str i t y u _ _ _ _ h
    · rcases bg hv with ⟨j,u,rfl,rfl⟩|⟨y,u,rfl,rfl⟩
      · rw [uj] at h;exact SeqAt.EqAt.str_int x t j u _ _ _ _ h
      · rw [ui] at h;exact wpAny_eqBool_str h
  «strs»:=fun k x t v h=>by
    rcases bg h with ⟨i,u,rfl,e⟩|⟨y,u,rfl,e⟩
    · exact nomatch e
    · injection e with e1 _
      subst e1;cases v <;> rfl
theorem nD (prog:Program) (w:World) (k:Key) (v:Value):(aG prog w).is k v=e8 k v:=rfl
theorem mz (prog:Program) (w:World) (i:Int) (t:Tok):(aG prog w).is (.inl i) (.int i t)=true:=pM i t
theorem my (prog:Program) (w:World) (x:Str) (t:Tok):(aG prog w).is (.inr x) (.str x t)=true:=pL x t
open PySem PySem.Spec PyProof.Rows
inductive V where
  | non|bl (b:Bool)|int (i:Int)|str (x:Str)|byt (b:Array UInt8)|flt (b:UInt64)|ref (a:Addr)|ty (n:String)
  deriving DecidableEq
def RelV:V→Value→Prop
  | .non,u=>u=Value.none
  | .bl b,u=>u=Value.bool b
  | .int i,u=>∃ t,u=Value.int i t
  | .str x,u=>∃ t,u=Value.str x t
  | .byt b,u=>∃ t,u=Value.bytes b t
  | .flt b,u=>∃ t,u=Value.float b t
  | .ref a,u=>u=Value.ref a
  | .ty n,u=>u=Value.type n
abbrev Vals:List V→List Value→Prop:=Paired RelV
theorem Vals.length {xs:List V} {us:List Value} (r:Vals xs us):xs.length=us.length:=aav r
theorem Vals.get:∀ {xs:List V} {us:List Value} {i:Nat} {x:V},Vals xs us→xs[i]?=some x→∃ u,us[i]?=some u∧RelV x u
  | _,_,_,_,.nil,e=>by simp at e
  | _,_,0,_,.cons r _,e=>by simp at e;subst e;exact ⟨_,rfl,r⟩
  | _,_,i+1,x,.cons _ t,e=>by
    obtain ⟨u,h1,h2⟩:=Vals.get (i:=i) (x:=x) t (by simpa using e);exact ⟨u,by simpa using h1,h2⟩
theorem Vals.set {x:V} {u:Value} (r:RelV x u):∀ {xs:List V} {us:List Value} (i:Nat),Vals xs us→Vals (xs.set i x) (us.set i u)
  | _,_,_,.nil=>.nil
  | _,_,0,.cons _ t=>.cons r t
  | _,_,i+1,.cons q t=>.cons q (Vals.set r i t)
theorem Vals.append {xs ys:List V} {us ws:List Value} (h:Vals xs us) (s:Vals ys ws):Vals (xs++ys) (us++ws):=by
  induction h with
  | nil=>exact s
  | cons r t ih=>exact .cons r ih
theorem Vals.take:∀ {xs:List V} {us:List Value} (n:Nat),Vals xs us→Vals (xs.take n) (us.take n)
  | _,_,0,_=>.nil
  | _,_,_+1,.nil=>.nil
  | _,_,n+1,.cons r t=>.cons r (Vals.take n t)
theorem Vals.drop:∀ {xs:List V} {us:List Value} (n:Nat),Vals xs us→Vals (xs.drop n) (us.drop n)
  | _,_,0,r=>r
  | _,_,_+1,.nil=>.nil
  | _,_,n+1,.cons _ t=>Vals.drop n t
def RelO:Option V→Option Value→Prop
  | some v,some u=>RelV v u
  | none,none=>True
  | _,_=>False
def KV {κ:Type}:List (κ × V)→List (κ × Value)→Prop:=Paired fun (p:κ × V) (q:κ × Value)=>p.1=q.1∧RelV p.2 q.2
def kV:Key→V
  | .inl i=>.int i
  | .inr x=>.str x
inductive HO where
  | lst (xs:List V)
  | tup (xs:List V)
  | dK (kvs:List (Key × V))|dT (kvs:List (List Key × V))
  | set (S:Int→Bool) (n:Nat)
  | ins (C dx:Addr) (fs:List (Str × V))
  | own (x:Addr)
  | xd (fs:List (Str × V))
  | met (f x:Addr)
  | rng (lo hi:Int)
  | frz (o:Obj) (u:HO)
  | tbl (ps:Array Value)
  | ext (φ:Heap→Prop)
abbrev Hp:=Addr→Option HO
def upd (H:Hp) (a:Addr) (o:HO):Hp:=fun b=>if b=a then some o else H b
theorem ag {H:Hp} {a:Addr} {o:HO}:upd H a o a=some o:=by unfold upd;rw [if_pos rfl]
theorem az {H:Hp} {a b:Addr} {o:HO} (h:b≠a):upd H a o b=H b:=by unfold upd;rw [if_neg h]
theorem sY {H:Hp} {a b:Addr} {o u:HO} (h:H a=some o) (h':H b=some u) (d:o≠u):a≠b:=by
  intro e;subst e;rw [h] at h';exact d (aaT h')
theorem aD {H:Hp} {a b:Addr} {o:HO} (h:H a=some o) (h':H b=none):a≠b:=by
  intro e;subst e;rw [h] at h';cases h'
section
variable (P:Program) (w:World)
def ObjOk (H:Hp) (h:Heap) (a:Addr):HO→Prop
  | .lst xs=>xs.length≤sizeLine∧∃ (its:List Value) (n:Nat),Vals xs its∧h.get? a=some { cls:=.type "list",data:=.seq its.toArray n }
  | .tup xs=>xs.length≤sizeLine∧∃ its:List Value,Vals xs its∧IsTup h a its.toArray
  | .dK kvs=>kvs.length≤sizeLine∧(a == sysModules)=false∧∃ vs,KV kvs vs∧h.DictOf (aG P w) a vs
  | .dT kvs=>kvs.length≤sizeLine∧(a == sysModules)=false∧∃ xs:List (List Key × Addr × Value),
      Paired (fun (p:List Key × V) (q:List Key × Addr × Value)=>p.1=q.1∧H q.2.1=some (.tup (p.1.map kV))∧RelV p.2 q.2.2) kvs xs ∧
      ∃ o es ep,h.get? a=some o∧o.ExactDict∧o.data=.dict es ep∧es.toList=xs.map (entryOfKey (tupleKind (aG P w)))∧(xs.map (·.1)).Nodup
  | .set S n=>h.SetOf (intKind P w) a S n
  | .ins C dx fs=>H dx=some (.own a)∧fs.length≤1000∧dx≠a∧h.get? a=some (PySem.W.instObj C dx) ∧
      ∃ mA,h.Ns1 dx mA∧(∀ f,RelO (fs.lookup f) (mA f))∧PySem.Within mA (fs.map (·.1))
  | .own _=>∃ o,h.get? a=some o
  | .xd fs=>∃ mA,h.Ns1 a mA∧∀ f,RelO (fs.lookup f) (mA f)
  | .rng lo hi=>∃ t u v,h.get? a=some { cls:=.type "range",data:=.fields #[.int lo t,.int hi u,.int 1 v] }
  | .frz o u=>h.get? a=some o∧ObjOk H h a u
  | .tbl ps=>h.get? a=some { cls:=.none,data:=.fields ps }
  | .met f x=>h.get? a=some (PySem.W.methodObj (.ref f) (.ref x))
  | .ext φ=>φ h∧(∃ o,h.get? a=some o)∧∀ h1 h2:Heap,φ h1→(∀ o,h1.get? a=some o→h2.get? a=some o)→φ h2
def HOk (H:Hp) (h:Heap):Prop:=∀ a o,H a=some o→ObjOk P w H h a o
end
section
variable {P:Program} {w:World} {H H':Hp} {h h':Heap} {a:Addr} {o:HO}
theorem ObjOk.lt (x:ObjOk P w H h a o):a < h.objs.size:=by
  cases o with
  | lst xs=>obtain ⟨_,_,_,_,e⟩:=x;exact aas e
  | tup xs=>obtain ⟨_,_,_,p⟩:=x;exact p.lt
  | dK kvs=>obtain ⟨_,_,_,_,o,_,_,e,_⟩:=x;exact aas e
  | dT kvs=>obtain ⟨_,_,_,_,o,_,_,e,_⟩:=x;exact aas e
  | set S n=>obtain ⟨o,_,_,_,e,_⟩:=x;exact aas e
  | ins C dx fs=>obtain ⟨_,_,_,e,_⟩:=x;exact aas e
  | own y=>obtain ⟨_,e⟩:=x;exact aas e
  | xd fs=>obtain ⟨_,⟨_,_,_,e,_⟩,_⟩:=x;exact aas e
  | rng lo hi=>obtain ⟨_,_,_,e⟩:=x;exact aas e
  | frz ob u=>obtain ⟨e,_⟩:=x;exact aas e
  | tbl ps=>exact aas (show h.get? a=some _ from x)
  | met f y=>exact aas (show h.get? a=some _ from x)
  | ext φ=>obtain ⟨_,⟨_,e⟩,_⟩:=x;exact aas e
theorem Paired.mapP {α β:Type} {F G:α→β→Prop} {l₁:List α} {l₂:List β} (h:Paired F l₁ l₂) (f:∀ a b,F a b→G a b):Paired G l₁ l₂:=by
  induction h with
  | nil=>exact .nil
  | cons r t ih=>exact .cons (f _ _ r) ih
theorem Paired.imp' {α β:Type} {F G:α→β→Prop} (f:∀ a b,F a b→G a b) {l₁:List α} {l₂:List β} (r:Paired F l₁ l₂):Paired G l₁ l₂:=Paired.mapP r f
theorem ObjOk.stay (x:ObjOk P w H h a o) (k:∀ b u,(b=a∨H b=some (.own a))→h.get? b=some u→h'.get? b=some u)
    (ho:∀ b,H b=some (.own a)→H' b=some (.own a)) (ht:∀ b xs,H b=some (.tup xs)→H' b=some (.tup xs)):ObjOk P w H' h' a o:=by
  induction o with
  | lst xs=>obtain ⟨z,its,n,r,e⟩:=x;exact ⟨z,its,n,r,k _ _ (.inl rfl) e⟩
  | tup xs=>obtain ⟨z,its,r,ob,e,c⟩:=x;exact ⟨z,its,r,ob,k _ _ (.inl rfl) e,c⟩
  | dK kvs=>obtain ⟨z,y,vs,r,ob,es,ep,e,c⟩:=x;exact ⟨z,y,vs,r,ob,es,ep,k _ _ (.inl rfl) e,c⟩
  | dT kvs =>
    obtain ⟨z,y,xs,r,ob,es,ep,e,c⟩:=x;exact ⟨z,y,xs,Paired.mapP r fun p q z=>⟨z.1,ht _ _ z.2.1,z.2.2⟩,ob,es,ep,k _ _ (.inl rfl) e,c⟩
  | set S n=>obtain ⟨ob,es,ep,t,e,c⟩:=x;exact ⟨ob,es,ep,t,k _ _ (.inl rfl) e,c⟩
  | ins C dx fs =>
    obtain ⟨d,z,ne,e,mA,⟨od,es,ep,e2,c⟩,r⟩:=x;exact ⟨ho _ d,z,ne,k _ _ (.inl rfl) e,mA,⟨od,es,ep,k _ _ (.inr d) e2,c⟩,r⟩
  | own y=>obtain ⟨ob,e⟩:=x;exact ⟨ob,k _ _ (.inl rfl) e⟩
  | xd fs=>obtain ⟨mA,⟨od,es,ep,e,c⟩,r⟩:=x;exact ⟨mA,⟨od,es,ep,k _ _ (.inl rfl) e,c⟩,r⟩
  | rng lo hi=>obtain ⟨t,u,v,e⟩:=x;exact ⟨t,u,v,k _ _ (.inl rfl) e⟩
  | frz ob u ih=>obtain ⟨e,q⟩:=x;exact ⟨k _ _ (.inl rfl) e,ih q⟩
  | tbl ps =>
    have e:h.get? a=some { cls:=.none,data:=.fields ps }:=x;show h'.get? a=some { cls:=.none,data:=.fields ps };exact k a _ (.inl rfl) e
  | met f y =>
    have e:h.get? a=some (PySem.W.methodObj (.ref f) (.ref y)):=x;show h'.get? a=some (PySem.W.methodObj (.ref f) (.ref y));exact k a _ (.inl rfl) e
  | ext φ=>obtain ⟨p,⟨o,e⟩,st⟩:=x;exact ⟨st _ _ p fun o q=>k _ _ (.inl rfl) q,⟨o,k _ _ (.inl rfl) e⟩,st⟩
theorem HOk.lt (x:HOk P w H h) (e:H a=some o):a < h.objs.size:=(x a o e).lt
theorem HOk.fresh (x:HOk P w H h) (e:h.objs.size≤a):H a=none:=by
  cases q:H a with
  | none=>rfl
  | some u=>exact absurd (aam (x.lt q) e) (aa6 _)
theorem HOk.kept (x:HOk P w H h) (k:∀ b u,h.get? b=some u→h'.get? b=some u):HOk P w H h':=fun a o e =>
  (x a o e).stay (fun b u _ q=>k b u q) (fun _ q=>q) fun _ _ q=>q
theorem HOk.laid (x:HOk P w H h) (k:∀ b u,h.get? b=some u→h'.get? b=some u) (hp:h.objs.size≤a) (new:ObjOk P w (upd H a o) h' a o):HOk P w (upd H a o) h':=fun b u e=>by
  have hn:=x.fresh hp;by_cases hb:b=a
  · subst hb;rw [ag] at e;cases e;exact new
  · rw [az hb] at e;exact (x b u e).stay (fun c v _ q=>k c v q) (fun c q=>by rw [az (aD q hn)];exact q) fun c xs q=>by rw [az (aD q hn)];exact q
end
def Rd (H:Hp) (a:Addr) (u:HO):Prop:=H a=some u∨∃ o,H a=some (.frz o u)
theorem Rd.ok {P:Program} {w:World} {H:Hp} {h:Heap} {a:Addr} {u:HO} (r:Rd H a u) (x:HOk P w H h):ObjOk P w H h a u:=by
  rcases r with r|⟨o,r⟩
  · exact x a u r
  · obtain ⟨_,q⟩:=x a _ r;exact q
def Mut:Option HO→Prop
  | some (.lst _)=>True
  | some (.dK _)=>True
  | some (.dT _)=>True
  | some (.set _ _)=>True
  | some (.ins _ _ _)=>True
  | some (.ext _)=>True
  | _=>False
section
variable {P:Program} {w:World} {H:Hp} {h h':Heap} {x e:Addr} {o':HO}
theorem HOk.write (ok:HOk P w H h) (mu:Mut (H x)) (he:e=x∨H e=some (.own x)) (k:∀ b u,b≠e→h.get? b=some u→h'.get? b=some u) (heo:∃ u,h'.get? e=some u)
    (new:ObjOk P w (upd H x o') h' x o'):HOk P w (upd H x o') h':=fun b u q=>by
  have nown:∀ c y,H c=some (.own y)→c≠x:=fun c y r z=>by subst z;rw [r] at mu;exact mu
  have ntup:∀ c xs,H c=some (.tup xs)→c≠x:=fun c xs r z=>by subst z;rw [r] at mu;exact mu
  by_cases hb:b=x
  · subst hb;rw [ag] at q;cases q;exact new
  · rw [az hb] at q;by_cases hbe:b=e
    · have q':H b=some (.own x):=by
        rcases he with z|z
        · exact absurd (hbe.trans z) hb
        · rw [hbe];exact z
      rw [q] at q';cases q';obtain ⟨v,hv⟩:=heo;exact ⟨v,by rw [hbe];exact hv⟩
    · refine (ok b u q).stay (fun c v hc r=>k c v ?_ r) (fun c r=>by rw [az (nown c b r)];exact r) fun c xs r=>by rw [az (ntup c xs r)];exact r
      rcases hc with rfl|hc
      · exact hbe
      · rintro rfl;rcases he with z|z
        · exact nown c b hc z
        · rw [hc] at z;cases z;exact hb rfl
end
structure Un (fs ex:List Addr) (H H':Hp) (h h':Heap):Prop where
  keep:∀ b o,h.get? b=some o→H b=none→b∉fs→b∉ex→h'.get? b=some o
  slot:∀ b o,h.get? b=some o→H b=none→b∈fs→b∉ex→∃ sl,h'.get? b=some { o with slots:=sl }
  free:∀ b o,h.get? b=some o→H b=none→b∉ex→H' b=none
  there:∀ b o,h.get? b=some o→b∉ex→∃ o',h'.get? b=some o'
  tups:∀ b xs,H b=some (.tup xs)→H' b=some (.tup xs)
  frzs:∀ b o u,H b=some (.frz o u)→H' b=some (.frz o u)
  tbls:∀ b ps,H b=some (.tbl ps)→∃ more,H' b=some (.tbl (ps++more))
section
variable {fs fs' ex ex':List Addr} {H H1 H2:Hp} {h h1 h2 h':Heap} {a x e:Addr} {o:HO}
theorem Un.any (u:Un fs ex H H1 h h1) {b:Addr} {ob:Obj} (q:h.get? b=some ob) (n:H b=none) (hx:b∉ex):∃ sl,h1.get? b=some { ob with slots:=sl }:=by
  by_cases hb:b∈fs
  · exact u.slot b ob q n hb hx
  · exact ⟨ob.slots,u.keep b ob q n hb hx⟩
theorem Un.kept (k:∀ b u,h.get? b=some u→h'.get? b=some u):Un fs ex H H h h' :=
  ⟨fun b ob q _ _ _=>k b ob q,fun b ob q _ _ _=>⟨ob.slots,k b ob q⟩,fun _ _ _ n _=>n,fun b ob q _=>⟨ob,k b ob q⟩,fun _ _ q=>q,fun _ _ _ q=>q,fun _ ps q=>⟨#[],by rw [q];simp⟩⟩
theorem Un.refl:Un fs ex H H h h:=Un.kept fun _ _ q=>q
theorem Un.laid (k:∀ b u,h.get? b=some u→h'.get? b=some u) (hp:h.objs.size≤a) (hn:H a=none):Un fs ex H (upd H a o) h h' where
  keep:=fun b u q _ _ _=>k b u q
  slot:=fun b u q _ _ _=>⟨u.slots,k b u q⟩
  free:=fun b u q n _=>by rw [az (aaC (aam (aas q) hp))];exact n
  there:=fun b u q _=>⟨u,k b u q⟩
  tups:=fun b xs q=>by rw [az (aD q hn)];exact q
  frzs:=fun b u xs q=>by rw [az (aD q hn)];exact q
  tbls:=fun b ps q=>⟨#[],by rw [az (aD q hn),q];simp⟩
theorem Un.write (mu:Mut (H x)) (he:e=x∨H e=some (.own x)) (k:∀ b u,b≠e→h.get? b=some u→h'.get? b=some u) (heo:∃ u,h'.get? e=some u):Un fs ex H (upd H x o) h h':=by
  have hx:∀ b,H b=none→b≠x:=fun b n z=>by subst z;rw [n] at mu;exact mu
  have hb:∀ b,H b=none→b≠e:=fun b n z=>by
    subst z;rcases he with r|r
    · exact hx b n r
    · rw [n] at r;cases r
  have hm:∀ b u,H b=some u→¬ Mut (some u)→b≠x:=fun b u q nm z=>by subst z;rw [q] at mu;exact nm mu
  refine ⟨fun b u q n _ _=>k b u (hb b n) q,fun b u q n _ _=>⟨u.slots,k b u (hb b n) q⟩,fun b u q n _=>by rw [az (hx b n)];exact n,fun b u q _=>?_,
    fun b xs q=>by rw [az (hm b _ q fun z=>z)];exact q,fun b u xs q=>by rw [az (hm b _ q fun z=>z)];exact q,fun b ps q=>⟨#[],by rw [az (hm b _ q fun z=>z),q];simp⟩⟩
  by_cases hbe:b=e
  · subst hbe;exact heo
  · exact ⟨u,k b u hbe q⟩
end
def trk (h:Heap) (H:Hp):List Addr:=(aaD h.objs.size).filter fun a=>(H a).isSome
def li (h:Heap) (H:Hp):Heap:=PySem.W.hideAll h (trk h H)
theorem pP (h:Heap) (H:Hp):(li h H).objs.size=h.objs.size:=PySem.W.hideAll_size _ _
theorem qT {h:Heap} {H:Hp} {b:Addr} {o:Obj} (e:h.get? b=some o) (n:H b=none):(li h H).get? b=some o :=
  PySem.W.hideAll_get _ e fun hm=>by
    have q:(H b).isSome=true:=(List.mem_filter.mp hm).2;rw [n] at q;simp at q
theorem sj {h:Heap} {H:Hp} {b:Addr} {o:Obj} (e:(li h H).get? b=some o):h.get? b=some o∧H b=none:=by
  have e':h.get? b=some o:=PySem.W.of_hideAll (trk h H) e;refine ⟨e',?_⟩;cases q:H b with
  | none=>rfl
  | some x =>
    have hm:b∈trk h H:=List.mem_filter.mpr ⟨aaJ.mpr (aas e'),by simp [q]⟩;have z:(li h H).get? b=none:=PySem.W.hideAll_none (trk h H) hm;rw [z] at e;cases e
def sP (g h:Heap) (L:Addr):List (Addr × Obj):=(aaD h.objs.size).filterMap fun a=>if a=L∨(g.get? a).isSome=true then none else (h.get? a).map fun o=>(a,o)
def rest (g h:Heap) (L d:Addr):List (Addr × Obj):=(sP g h L).filter fun p=>decide (p.1≠d)
open PySem PySem.Spec PyProof.Rows
structure Mod (K:aaa) (mg:Str→Option Value) (base:Heap):Prop where
  kin:K.In base
  glob:base.Ns mainGlobals mg
  blt:∃ mb,base.Ns builtinsNs mb∧∀ x:Str,x ≠ "__name__"→mb x=bootBuiltins x
  nolimit:base.NoLimit
  sysm:∃ mm,base.Ns sysModules mm
structure Cx where
  prog:Program
  w:World
  K:aaa
  mg:Str→Option Value
  base:Heap
  A:Around
  N:List Str
  s₀:Shared
  H₀:Hp
  env:Env
  outer:List Env
  stack:List Env
  ex:List Addr
  fn:Str→Bool
  calm:Bool
  pn:List (Addr × Obj)
  xe:Value→Shared→Prop
def frs (l:List Env):List Addr:=l.filterMap (·.frame)
abbrev Cx.fs (X:Cx):List Addr:=frs X.outer
def Vis (sc:Scope) (x:Str):Prop:=sc.names.lookup x=some .local∨sc.names.lookup x=some .cell∨sc.names.lookup x=some .free
def Loc (sc:Scope) (x:Str):Prop:=sc.names.lookup x=some .local∨sc.names.lookup x=some .cell
def vK (env:Env) (h:Heap) (m:Str→Option Value) (x:Str) (u:Value):Prop :=
  (env.kindOf x=some .local∧m x=some u)∨((env.kindOf x=some .cell∨env.kindOf x=some .free)∧∃ c,env.cells.lookup x=some c∧h.IsCell c (some u))
structure Cx.Ok (X:Cx):Prop where
  mod:Mod X.K X.mg X.base
  kind:X.env.scope.kind=.function
  glob:X.env.globals=mainGlobals
  blt:X.env.builtins=builtinsNs
  above:X.s₀.heap.objs.size≤X.env.locals
  inj:∀ x y c,X.env.cells.lookup x=some c→X.env.cells.lookup y=some c→x=y
  has:∀ x,(X.env.kindOf x=some .cell∨X.env.kindOf x=some .free)→∃ c,X.env.cells.lookup x=some c
  cab:∀ x c,X.fn x=true→X.env.cells.lookup x=some c→X.s₀.heap.objs.size≤c
  hd:X.calm=true→X.A.handled=none
  frames:X.A.frames=some X.stack
  stk:X.stack=X.outer∨(X.stack=X.env :: X.outer∧X.env.frame=some X.env.locals)
  exf:∀ b∈X.ex,b≠X.env.locals∧∀ x c,X.env.cells.lookup x=some c→c≠b
  bs:∀ b o,X.base.get? b=some o→X.s₀.heap.get? b=some o∧X.H₀ b=none
  bsz:X.base.objs.size≤X.s₀.heap.objs.size
  noex:∀ b o,X.base.get? b=some o→b∉X.ex
  exfs:∀ b∈X.ex,b∉X.fs
  funs:X.s₀.heap.FunFrames X.base X.outer
  frf:∀ b∈X.fs,X.H₀ b=none
structure Inv (X:Cx) (pins:List (Addr × Obj)) (σ:List (Option V)) (H:Hp) (s:Shared):Prop where
  ok:X.Ok
  os:s.os=X.s₀.os
  bare:AllBare s.gens
  base:Un X.fs X.ex X.H₀ H X.s₀.heap s.heap
  loc:∃ m,s.heap.Ns X.env.locals m∧∀ (i:Nat) (x:Str) (v:V),X.N[i]?=some x→σ[i]?=some (some v)→Vis X.env.scope x→∃ u,RelV v u∧vK X.env s.heap m x u
  cell:∀ x c,X.env.cells.lookup x=some c→∃ v,s.heap.IsCell c v
  free:H X.env.locals=none
  freeC:∀ x c,X.env.cells.lookup x=some c→H c=none
  pin:∀ p∈X.pn++pins,s.heap.get? p.1=some p.2∧H p.1=none∧p.1≠X.env.locals∧p.1∉X.fs∧∀ v,p.2.data≠.cell v
  hok:HOk X.prog X.w H s.heap
  len:σ.length=X.N.length
section
variable {X:Cx} {pins:List (Addr × Obj)} {σ:List (Option V)} {H H':Hp} {s:Shared} {h':Heap}
theorem Cx.Ok.nofr (ok:X.Ok) {b:Addr} {o:Obj} (e:X.base.get? b=some o):b∉X.fs:=fun hb=>by
  have:=(ok.funs.mem hb).1;rw [e] at this;cases this
theorem Inv.bs (I:Inv X pins σ H s):∀ b o,X.base.get? b=some o→s.heap.get? b=some o∧H b=none:=fun b o e =>
  ⟨I.base.keep b o (I.ok.bs b o e).1 (I.ok.bs b o e).2 (I.ok.nofr e) (I.ok.noex b o e),I.base.free b o (I.ok.bs b o e).1 (I.ok.bs b o e).2 (I.ok.noex b o e)⟩
theorem Inv.bk (I:Inv X pins σ H s):∀ b o,X.base.get? b=some o→s.heap.get? b=some o:=fun b o e=>(I.bs b o e).1
theorem Inv.mod (I:Inv X pins σ H s):Mod X.K X.mg X.base:=I.ok.mod
theorem Inv.kIn (I:Inv X pins σ H s):X.K.In s.heap:=I.ok.mod.kin.keeps I.bk
theorem Inv.lt (I:Inv X pins σ H s):X.env.locals < s.heap.objs.size:=let ⟨_,hn,_⟩:=I.loc;hn.lt
theorem Inv.sz (I:Inv X pins σ H s):X.s₀.heap.objs.size≤s.heap.objs.size:=aaW I.ok.above (abx I.lt)
theorem Inv.nofs (I:Inv X pins σ H s) {a:Addr} (h:s.heap.objs.size≤a):a∉X.fs:=fun hb=>by
  obtain ⟨_,o,ho,_⟩:=I.ok.funs.mem hb;exact absurd (aam (aas ho) (aaW I.sz h)) (aa6 _)
theorem Inv.cne (I:Inv X pins σ H s):∀ x c,X.env.cells.lookup x=some c→c≠X.env.locals:=fun x c e z=>by
  obtain ⟨v,o,ho,hd⟩:=I.cell x c e;obtain ⟨m,⟨o',es,ep,ho',hd',_⟩,_⟩:=I.loc;rw [z,ho'] at ho;cases ho;rw [hd'] at hd;cases hd
theorem Inv.funs (I:Inv X pins σ H s):s.heap.FunFrames X.base X.outer:=by
  have all:∀ (l:List Env),(∀ b∈frs l,b∈X.fs)→X.s₀.heap.FunFrames X.base l→s.heap.FunFrames X.base l:=by
    intro l
    induction l with
    | nil=>intro _ _;trivial
    | cons env r ih =>
      intro hs hl;obtain ⟨hk,⟨L,o,hf,hn,ho,hd⟩,hr⟩:=hl;have hL:L∈X.fs:=hs L (by unfold frs;rw [List.filterMap_cons,hf];exact aai);obtain ⟨sl,e⟩:=I.base.slot L o ho (I.ok.frf L hL) hL fun z=>I.ok.exfs L z hL;exact ⟨hk,⟨L,_,hf,hn,e,hd⟩,ih (fun b hb=>hs b (by unfold frs;rw [List.filterMap_cons,hf];exact aae _ hb)) hr⟩
  exact all X.outer (fun _ hb=>hb) I.ok.funs
theorem Inv.stack (I:Inv X pins σ H s):s.heap.FunFrames X.base X.stack:=by
  rcases I.ok.stk with e|⟨e,hf⟩
  · rw [e];exact I.funs
  · rw [e];obtain ⟨m,hn,_⟩:=I.loc;refine .cons (by rw [I.ok.kind];decide) hf hn ?_ I.funs;exact Heap.get?_none_of_le (aaW I.ok.bsz I.ok.above)
theorem Inv.stkSub (I:Inv X pins σ H s):∀ b∈frs X.stack,b∈X.env.locals :: X.fs:=fun b hb=>by
  rcases I.ok.stk with e|⟨e,hf⟩
  · rw [e] at hb;exact aae _ hb
  · rw [e] at hb;unfold frs at hb;rw [List.filterMap_cons,hf] at hb;exact hb
theorem Inv.stkFree (I:Inv X pins σ H s):∀ b∈frs X.stack,H b=none:=fun b hb=>by
  rcases aaE.mp (I.stkSub b hb) with e|hb
  · rw [e];exact I.free
  · obtain ⟨_,o,ho,_⟩:=I.ok.funs.mem hb;exact I.base.free b o ho (I.ok.frf b hb) fun z=>I.ok.exfs b z hb
theorem Inv.step {g':Array GenState} {t':Nat} {d':Drawn} {ch:List Addr} (I:Inv X pins σ H s)
    (hch:∀ b∈ch,(b∈X.ex∨X.s₀.heap.objs.size≤b)∧b≠X.env.locals∧(∀ x c,X.env.cells.lookup x=some c→c≠b)∧∀ p∈X.pn++pins,p.1≠b)
    (keep:∀ b o,b≠X.env.locals→b∉X.fs→b∉ch→s.heap.get? b=some o→H b=none→h'.get? b=some o)
    (slot:∀ b o,b≠X.env.locals→b∈X.fs→b∉ch→s.heap.get? b=some o→H b=none→∃ sl,h'.get? b=some { o with slots:=sl }) (free:∀ b o,b∉ch→s.heap.get? b=some o→H b=none→H' b=none)
    (there:∀ b o,b∉ch→s.heap.get? b=some o→∃ o',h'.get? b=some o')
    (tups:∀ b xs,H b=some (.tup xs)→H' b=some (.tup xs)) (frzs:∀ b o u,H b=some (.frz o u)→H' b=some (.frz o u)) (tbls:∀ b ps,H b=some (.tbl ps)→∃ more,H' b=some (.tbl (ps++more)))
    (ns:∀ m,s.heap.Ns X.env.locals m→h'.Ns X.env.locals m) (hok:HOk X.prog X.w H' h') (hg:AllBare g') :
    Inv X pins σ H' { s with heap:=h',gens:=g',drawn:=d',toks:=t' }:=by
  have neL:∀ b o,X.s₀.heap.get? b=some o→b≠X.env.locals:=fun b o e=>aaC (aam (aas e) I.ok.above);have neC:∀ b o,X.s₀.heap.get? b=some o→b∉X.ex→b∉ch:=fun b o e hx hb=>by
    rcases (hch b hb).1 with z|z
    · exact hx z
    · exact absurd (aam (aas e) z) (aa6 _)
  have cellK:∀ x c,X.env.cells.lookup x=some c→∀ v,s.heap.IsCell c v→h'.IsCell c v:=fun x c e v ⟨o,ho,hd⟩=>by
    have nch:c∉ch:=fun z=>(hch c z).2.2.1 x c e rfl;by_cases hc:c∈X.fs
    · obtain ⟨sl,q⟩:=slot c o (I.cne x c e) hc nch ho (I.freeC x c e);exact ⟨_,q,hd⟩
    · exact ⟨o,keep c o (I.cne x c e) hc nch ho (I.freeC x c e),hd⟩
  refine ⟨I.ok,I.os,hg,⟨fun b o e n hb hx=>?_,fun b o e n hb hx=>?_,fun b o e n hx=>?_,fun b o e hx=>?_,fun b xs e=>tups b xs (I.base.tups b xs e),fun b o xs e=>frzs b o xs (I.base.frzs b o xs e),fun b ps e=>?_⟩,?_,fun x c e=>?_,?_,fun x c e=>?_,fun p hp=>?_,hok,I.len⟩
  · exact keep b o (neL b o e) hb (neC b o e hx) (I.base.keep b o e n hb hx) (I.base.free b o e n hx)
  · obtain ⟨sl,e1⟩:=I.base.slot b o e n hb hx;obtain ⟨sl',e2⟩:=slot b _ (neL b o e) hb (neC b o e hx) e1 (I.base.free b o e n hx);exact ⟨sl',e2⟩
  · obtain ⟨o',e1⟩:=I.base.there b o e hx;exact free b o' (neC b o e hx) e1 (I.base.free b o e n hx)
  · obtain ⟨o',e1⟩:=I.base.there b o e hx;exact there b o' (neC b o e hx) e1
  · obtain ⟨m1,e1⟩:=I.base.tbls b ps e;obtain ⟨m2,e2⟩:=tbls b _ e1;exact ⟨m1++m2,by rw [e2,Array.append_assoc]⟩
  · obtain ⟨m,hn,hl⟩:=I.loc;refine ⟨m,ns m hn,fun i x v e1 e2 e3=>?_⟩;obtain ⟨u,r,l⟩:=hl i x v e1 e2 e3;refine ⟨u,r,?_⟩;rcases l with l|⟨k,c,e,z⟩
    · exact .inl l
    · exact .inr ⟨k,c,e,cellK x c e _ z⟩
  · obtain ⟨v,z⟩:=I.cell x c e;exact ⟨v,cellK x c e v z⟩
  · obtain ⟨m,⟨o,_,_,ho,_⟩,_⟩:=I.loc;exact free _ o (fun z=>(hch _ z).2.1 rfl) ho I.free
  · obtain ⟨v,o,ho,hd⟩:=I.cell x c e;exact free c o (fun z=>(hch c z).2.2.1 x c e rfl) ho (I.freeC x c e)
  · obtain ⟨e,n,ne,nf,d⟩:=I.pin p hp;have nch:p.1∉ch:=fun z=>(hch p.1 z).2.2.2 p hp rfl;exact ⟨keep p.1 p.2 ne nf nch e n,free p.1 p.2 nch e n,ne,nf,d⟩
theorem Inv.un {t':Nat} (I:Inv X pins σ H s) (u:Un X.fs [] H H' s.heap h') (hok:HOk X.prog X.w H' h'):Inv X pins σ H' { s with heap:=h',toks:=t' }:=by
  obtain ⟨m,⟨o,es,ep,ho,r⟩,_⟩:=id I.loc;obtain ⟨sl,hL⟩:=u.any ho I.free (by simp);exact I.step (g':=s.gens) (d':=s.drawn) (ch:=[]) (fun _ z=>nomatch z) (fun b o _ hb _ e n=>u.keep b o e n hb (by simp)) (fun b o _ hb _ e n=>u.slot b o e n hb (by simp)) (fun b o _ e n=>u.free b o e n (by simp)) (fun b o _ e=>u.there b o e (by simp)) u.tups u.frzs u.tbls (fun m' hm=>by
    obtain ⟨o',es',ep',ho',r'⟩:=hm;rw [ho] at ho';cases ho';exact ⟨_,es',ep',hL,r'⟩) hok I.bare
theorem Inv.call {g':Array GenState} {t':Nat} {d':Drawn} {ch:List Addr} (I:Inv X pins σ H s) (u:Un (frs X.stack) ch H H' s.heap h') (hok:HOk X.prog X.w H' h') (hg:AllBare g')
    (hch:∀ b∈ch,(b∈X.ex∨X.s₀.heap.objs.size≤b)∧b≠X.env.locals∧(∀ x c,X.env.cells.lookup x=some c→c≠b)∧∀ p∈X.pn++pins,p.1≠b) :
    Inv X pins σ H' { s with heap:=h',gens:=g',drawn:=d',toks:=t' }:=by
  obtain ⟨m,⟨o,es,ep,ho,r⟩,_⟩:=id I.loc;obtain ⟨sl,hL⟩:=u.any ho I.free fun z=>(hch _ z).2.1 rfl;exact I.step (ch:=ch) hch (fun b o hL hb hc e n=>u.keep b o e n (fun z=>(aaE.mp (I.stkSub b z)).elim hL hb) hc) (fun b o _ _ hc e n=>u.any e n hc) (fun b o hc e n=>u.free b o e n hc) (fun b o hc e=>u.there b o e hc) u.tups u.frzs u.tbls (fun m' hm=>by
    obtain ⟨o',es',ep',ho',r'⟩:=hm;rw [ho] at ho';cases ho';exact ⟨_,es',ep',hL,r'⟩) hok hg
theorem Inv.turned {t':Nat} {it:Addr} (I:Inv X pins σ H s) (k:∀ b o,b≠it→s.heap.get? b=some o→h'.get? b=some o) (hn:H it=none) (hL:it≠X.env.locals)
    (h1:it∈X.ex∨X.s₀.heap.objs.size≤it) (h2:∀ x c,X.env.cells.lookup x=some c→c≠it) (h3:∀ p∈X.pn++pins,p.1≠it):Inv X pins σ H { s with heap:=h',toks:=t' }:=by
  have nit:∀ b u,H b=some u→b≠it:=fun b u e z=>by rw [z,hn] at e;cases e
  refine I.step (g':=s.gens) (d':=s.drawn) (ch:=[it]) (fun b hb=>?_) (fun b o _ _ hc e _=>k b o (fun z=>hc (by simp [z])) e) (fun b o _ _ hc e _=>⟨o.slots,k b o (fun z=>hc (by simp [z])) e⟩) (fun _ _ _ _ n=>n)
    (fun b o hc e=>⟨o,k b o (fun z=>hc (by simp [z])) e⟩) (fun _ _ e=>e) (fun _ _ _ e=>e) (fun b ps e=>⟨#[],by rw [e];simp⟩) (fun m hm=>?_) (fun b u e=>?_) I.bare
  · have e:b=it:=by simpa using hb
    subst e;exact ⟨h1,hL,h2,h3⟩
  · obtain ⟨o,es,ep,ho,r⟩:=hm;exact ⟨o,es,ep,k _ o (abO hL) ho,r⟩
  · refine (I.hok b u e).stay (fun c v hc q=>k c v ?_ q) (fun _ q=>q) fun _ _ q=>q;rcases hc with z|z
    · rw [z];exact nit b u e
    · exact nit c _ z
theorem Inv.tok (I:Inv X pins σ H s) (t:Nat):Inv X pins σ H { s with toks:=t }:=I.un (h':=s.heap) (t':=t) Un.refl I.hok
theorem Inv.kept {t':Nat} (I:Inv X pins σ H s) (k:∀ b u,s.heap.get? b=some u→h'.get? b=some u):Inv X pins σ H { s with heap:=h',toks:=t' }:=I.un (Un.kept k) (I.hok.kept k)
theorem Inv.laid {a:Addr} {o:HO} {t':Nat} (I:Inv X pins σ H s) (k:∀ b u,s.heap.get? b=some u→h'.get? b=some u) (hp:s.heap.objs.size≤a) (new:ObjOk X.prog X.w (upd H a o) h' a o) :
    Inv X pins σ (upd H a o) { s with heap:=h',toks:=t' }:=I.un (Un.laid k hp (I.hok.fresh hp)) (I.hok.laid k hp new)
theorem Inv.write {x e:Addr} {o:HO} {t':Nat} (I:Inv X pins σ H s) (mu:Mut (H x)) (he:e=x∨H e=some (.own x)) (k:∀ b u,b≠e→s.heap.get? b=some u→h'.get? b=some u) (heo:∃ u,h'.get? e=some u)
    (new:ObjOk X.prog X.w (upd H x o) h' x o):Inv X pins σ (upd H x o) { s with heap:=h',toks:=t' }:=I.un (Un.write mu he k heo) (I.hok.write mu he k heo new)
theorem Inv.pins_of {pins':List (Addr × Obj)} (I:Inv X pins σ H s) (h:∀ p∈pins',s.heap.get? p.1=some p.2∧H p.1=none∧p.1≠X.env.locals∧p.1∉X.fs∧∀ v,p.2.data≠.cell v):Inv X pins' σ H s :=
  ⟨I.ok,I.os,I.bare,I.base,I.loc,I.cell,I.free,I.freeC,fun p hp=>(aaB.mp hp).elim (fun z=>I.pin p (abI _ z)) (h p),I.hok,I.len⟩
theorem mw {N:List Str} (hN:N.Nodup) {i j:Nat} {x:Str} (a:N[i]?=some x) (b:N[j]?=some x):i=j:=by
  obtain ⟨h1,e1⟩:=aaq.mp a;obtain ⟨h2,e2⟩:=aaq.mp b;exact (List.getElem_inj hN).mp (e1.trans e2.symm)
theorem o9 {M:Model} {A:Around} {E:Value→Shared→Prop} {i:Nat} {x:Str} {v:V} {u:Value} {Q:Unit→Shared→Prop} (I:Inv X pins σ H s) (hN:X.N.Nodup) (hi:X.N[i]?=some x) (hx:Loc X.env.scope x) (r:RelV v u)
    (h:∀ s',Inv X pins (σ.set i (some v)) H s'→(∃ a,Heap.SameBut a s.heap s'.heap∧(a=X.env.locals∨X.env.cells.lookup x=some a))→Q () s') (hf:X.fn x=true∨X.env.scope.names.lookup x=some .local:=by first|exact .inl rfl|exact .inr rfl|assumption):wpAny M A (storeName X.env x u) Q E s:=by
  obtain ⟨m,hn,hl⟩:=id I.loc;have hcls:(X.env.scope.kind == .class || (X.env.scope.kind == .module && X.env.locals != X.env.globals))=false:=by rw [I.ok.kind];rfl
  have hiσ:i < σ.length:=by rw [I.len];exact (aaq.mp hi).1
  have cne:=I.cne;have tracked:∀ {a:Addr} {h':Heap},(∃ o,s.heap.get? a=some o∧H a=none)→Heap.SameBut a s.heap h'→HOk X.prog X.w H h':=fun {a h'} ha hs b ob e=>by
    obtain ⟨_,_,hfree⟩:=ha;refine (I.hok b ob e).stay (fun c w' hc q=>(hs.2 c ?_).trans q) (fun _ q=>q) fun _ _ q=>q;rintro rfl;rcases hc with rfl|hc
    · rw [hfree] at e;cases e
    · rw [hfree] at hc;cases hc
  rcases hx with hk|hk
  · refine wpAny_storeName_local hk hn (fun h' hn' hs=>?_) hcls;obtain ⟨oL,_,_,hoL,_⟩:=id hn;refine h _ ⟨I.ok,I.os,I.bare,⟨fun b o e n hb hx=>?_,fun b o e n hb hx=>?_,I.base.free,fun b o e hx=>?_,I.base.tups,I.base.frzs,I.base.tbls⟩,⟨_,hn',fun j y v' e1 e2 e3=>?_⟩,fun y c e=>?_,I.free,I.freeC,fun p hp=>?_,tracked ⟨oL,hoL,I.free⟩ hs,by simpa using I.len⟩ ⟨_,hs,.inl rfl⟩
    · exact (hs.2 b (aaC (aam (aas e) I.ok.above))).trans (I.base.keep b o e n hb hx)
    · obtain ⟨sl,e1⟩:=I.base.slot b o e n hb hx;exact ⟨sl,(hs.2 b (aaC (aam (aas e) I.ok.above))).trans e1⟩
    · obtain ⟨o',e1⟩:=I.base.there b o e hx;exact ⟨o',(hs.2 b (aaC (aam (aas e) I.ok.above))).trans e1⟩
    · by_cases hj:j=i
      · subst hj;rw [hi] at e1;cases e1;rw [List.getElem?_set_self hiσ] at e2;cases e2;exact ⟨u,r,.inl ⟨hk,by simp⟩⟩
      · rw [List.getElem?_set_ne (abO hj)] at e2;obtain ⟨u',r',q⟩:=hl j y v' e1 e2 e3;refine ⟨u',r',?_⟩;rcases q with ⟨k,e⟩|⟨k,c,e,z⟩
        · refine .inl ⟨k,?_⟩;have : y≠x:=fun e=>hj (mw hN e1 (e ▸ hi));simp [this,e]
        · exact .inr ⟨k,c,e,z.sameBut hs (cne y c e)⟩
    · obtain ⟨w',z⟩:=I.cell y c e;exact ⟨w',z.sameBut hs (cne y c e)⟩
    · obtain ⟨e,n,ne,nf,d⟩:=I.pin p hp;exact ⟨(hs.2 p.1 ne).trans e,n,ne,nf,d⟩
  · have hfn:X.fn x=true:=by
      rcases hf with z|z
      · exact z
      · rw [z] at hk;cases hk
    obtain ⟨c,hc⟩:=I.ok.has x (.inl hk);obtain ⟨w',z⟩:=I.cell x c hc;refine wpAny_storeName_cell I.ok.kind hk hc z (fun h' hc' hs=>?_);obtain ⟨oc,hoc,hocd⟩:=id z;refine h { s with heap:=h' } ⟨I.ok,I.os,I.bare,⟨fun b o e n hb hx=>?_,fun b o e n hb hx=>?_,I.base.free,fun b o e hx=>?_,I.base.tups,I.base.frzs,I.base.tbls⟩,⟨m,hn.sameBut hs (abO (cne x c hc)),fun j y v' e1 e2 e3=>?_⟩,fun y c' e=>?_,I.free,I.freeC,fun p hp=>?_,tracked ⟨oc,hoc,I.freeC x c hc⟩ hs,by simpa using I.len⟩ ⟨c,hs,.inr hc⟩
    · exact (hs.2 b (aaC (aam (aas e) (I.ok.cab x c hfn hc)))).trans (I.base.keep b o e n hb hx)
    · obtain ⟨sl,e1⟩:=I.base.slot b o e n hb hx;exact ⟨sl,(hs.2 b (aaC (aam (aas e) (I.ok.cab x c hfn hc)))).trans e1⟩
    · obtain ⟨o',e1⟩:=I.base.there b o e hx;exact ⟨o',(hs.2 b (aaC (aam (aas e) (I.ok.cab x c hfn hc)))).trans e1⟩
    · by_cases hj:j=i
      · subst hj;rw [hi] at e1;cases e1;rw [List.getElem?_set_self hiσ] at e2;cases e2;exact ⟨u,r,.inr ⟨.inl hk,c,hc,hc'⟩⟩
      · rw [List.getElem?_set_ne (abO hj)] at e2;obtain ⟨u',r',q⟩:=hl j y v' e1 e2 e3;refine ⟨u',r',?_⟩;rcases q with q|⟨k,c',e,z'⟩
        · exact .inl q
        · refine .inr ⟨k,c',e,z'.sameBut hs ?_⟩;rintro rfl;exact hj (mw hN e1 (I.ok.inj _ _ _ e hc ▸ hi))
    · by_cases hcc:c'=c
      · subst hcc;exact ⟨_,hc'⟩
      · obtain ⟨w2,z2⟩:=I.cell y c' e;exact ⟨w2,z2.sameBut hs hcc⟩
    · obtain ⟨e,n,ne,nf,d⟩:=I.pin p hp;refine ⟨(hs.2 p.1 ?_).trans e,n,ne,nf,d⟩;intro q;rw [q,hoc] at e;have q':oc=p.2:=aaT e;exact d w' (by rw [← q'];exact hocd)
theorem gb {M:Model} {A:Around} {E:Value→Shared→Prop} {i:Nat} {x:Str} {v:V} {u:Value} {Q:Unit→Shared→Prop} (I:Inv X pins σ H s) (hN:X.N.Nodup) (hi:X.N[i]?=some x) (hx:Loc X.env.scope x) (r:RelV v u)
    (h:∀ s',Inv X pins (σ.set i (some v)) H s'→Q () s') (hf:X.fn x=true∨X.env.scope.names.lookup x=some .local:=by first|exact .inl rfl|exact .inr rfl|assumption):wpAny M A (storeName X.env x u) Q E s :=
  o9 I hN hi hx r (fun s' I' _=>h s' I') hf
theorem Inv.call' {s':Shared} {ch:List Addr} (I:Inv X pins σ H s) (ho:s'.os=s.os) (u:Un (frs X.stack) ch H H' s.heap s'.heap) (hok:HOk X.prog X.w H' s'.heap) (hg:AllBare s'.gens)
    (hch:∀ b∈ch,(b∈X.ex∨X.s₀.heap.objs.size≤b)∧b≠X.env.locals∧(∀ x c,X.env.cells.lookup x=some c→c≠b)∧∀ p∈X.pn++pins,p.1≠b):Inv X pins σ H' s':=by
  obtain ⟨h',g',d',t',o'⟩:=s';have e:o'=s.os:=ho;subst e;exact I.call (g':=g') (t':=t') (d':=d') u hok hg hch
end
abbrev XK:=Value→Option Addr→Hp→Prop
abbrev St:=List (Option V)
abbrev VK:=V→Hp→Prop
abbrev TE:=St→Hp→VK→Prop
abbrev TT:=St→Hp→(Bool→Hp→Prop)→Prop
abbrev TA:=St→Hp→(List V→Hp→Prop)→Prop
structure Ends where
  nx:St→Hp→Prop
  rt:VK
  bk:St→Hp→Prop:=fun _ _=>False
  ct:St→Hp→Prop:=fun _ _=>False
abbrev TS:=Ends→St→Hp→Prop
def EP (X:Cx) (pins:List (Addr × Obj)) (σ:St) (Q:VK) (u:Value) (s':Shared):Prop:=∃ v H',Inv X pins σ H' s'∧RelV v u∧Q v H'
def TP (X:Cx) (pins:List (Addr × Obj)) (σ:St) (Q:Bool→Hp→Prop) (b:Bool) (s':Shared):Prop:=∃ H',Inv X pins σ H' s'∧Q b H'
def AP (X:Cx) (pins:List (Addr × Obj)) (σ:St) (Q:List V→Hp→Prop) (us:List Value) (s':Shared):Prop:=∃ vs H',Inv X pins σ H' s'∧Vals vs us∧Q vs H'
def SP (X:Cx) (pins:List (Addr × Obj)) (D:Ends) (f:Flow) (s':Shared):Prop :=
  match f with
  | .next=>∃ σ' H',Inv X pins σ' H' s'∧D.nx σ' H'
  | .brk=>∃ σ' H',Inv X pins σ' H' s'∧D.bk σ' H'
  | .cont=>∃ σ' H',Inv X pins σ' H' s'∧D.ct σ' H'
  | .ret u=>∃ v σ' H',Inv X pins σ' H' s'∧RelV v u∧D.rt v H'
def PE (X:Cx) (e:Expr) (t:TE):Prop :=
  ∀ (pins:List (Addr × Obj)) (s:Shared) (σ:St) (H:Hp) (Q:VK),Inv X pins σ H s→t σ H Q→wpAny (model X.prog X.w) X.A (eval e X.env) (EP X pins σ Q) X.xe s
def PT (X:Cx) (e:Expr) (t:TT):Prop :=
  ∀ (pins:List (Addr × Obj)) (s:Shared) (σ:St) (H:Hp) (Q:Bool→Hp→Prop),Inv X pins σ H s→t σ H Q→wpAny (model X.prog X.w) X.A (isTrue e X.env (eval e X.env)) (TP X pins σ Q) X.xe s
def PW (X:Cx) (e:Expr) (t:TT):Prop :=
  ∀ (whole:Sem Value) (pins:List (Addr × Obj)) (s:Shared) (σ:St) (H:Hp) (Q:Bool→Hp→Prop),Inv X pins σ H s→t σ H Q→wpAny (model X.prog X.w) X.A (isTrue e X.env whole) (TP X pins σ Q) X.xe s
theorem PW.pt {X:Cx} {e:Expr} {t:TT} (h:PW X e t):PT X e t:=h _
def PA (X:Cx) (es:List Expr) (t:TA):Prop :=
  ∀ (pos:Pos) (pins:List (Addr × Obj)) (s:Shared) (σ:St) (H:Hp) (Q:List V→Hp→Prop),Inv X pins σ H s→t σ H Q→wpAny (model X.prog X.w) X.A (spliced (backTo pos (starEach es X.env))) (AP X pins σ Q) X.xe s
def PS (X:Cx) (st:Stmt) (t:TS):Prop :=
  ∀ (pins:List (Addr × Obj)) (s:Shared) (σ:St) (H:Hp) (D:Ends),Inv X pins σ H s→t D σ H→wpAny (model X.prog X.w) X.A (exec st X.env) (SP X pins D) X.xe s
def PSs (X:Cx) (st:List Stmt) (t:TS):Prop :=
  ∀ (pins:List (Addr × Obj)) (s:Shared) (σ:St) (H:Hp) (D:Ends),Inv X pins σ H s→t D σ H→wpAny (model X.prog X.w) X.A (execs st X.env) (SP X pins D) X.xe s
theorem thn {α:Type} {t:Sem α} {Q Q':α→Shared→Prop} {M:Model} {A:Around} {E:Value→Shared→Prop} {s:Shared} (h:wpAny M A t Q E s) (hQ:∀ a s,Q a s→Q' a s):wpAny M A t Q' E s:=wpAny_mono h hQ fun _ _ x=>x
open PySem PySem.Spec PyProof.Rows
section
variable {X:Cx}
def uS (i:Nat):TE:=fun σ H Q=>∃ v,σ[i]?=some (some v)∧Q v H
def tC (v:V):TE:=fun _ H Q=>Q v H
theorem tZ {i:Nat} {x:Str} {pos:Pos} (hN:X.N[i]?=some x) (hv:Vis X.env.scope x) (hd:(x == ("__debug__":Str))=false:=by decide) (hcd:(x == ("__classdict__":Str))=false:=by decide):PE X (.Name x pos) (uS i):=by
  intro pins s σ H Q I h;obtain ⟨v,e,h⟩:=h;obtain ⟨m,hn,hl⟩:=I.loc;obtain ⟨u,r,l⟩:=hl i x v hN e hv;have fin:EP X pins σ Q u s:=⟨v,H,I,r,h⟩
  rcases l with ⟨hk,hm⟩|⟨hk,c,hc,hcell⟩
  · exact wpAny_Name (wpAny_loadName_local I.ok.kind hk hn hm fin) hd
  · rcases hk with hk|hk
    · exact wpAny_Name (wpAny_loadName_cell I.ok.kind hk hc hcell fin) hd
    · exact wpAny_Name (wpAny_loadName_free I.ok.kind hk hc hcell fin hcd) hd
theorem ai {i j pos}:PE X (.Constant (.int i) j pos) (tC (.int i)):=fun _ _ _ H _ I h=>wpAny_Constant_int ⟨.int i,H,I.tok _,⟨_,rfl⟩,h⟩
theorem cZ {b j pos}:PE X (.Constant (.bool b) j pos) (tC (.bl b)):=fun _ _ _ H _ I h=>Constant_bool ⟨.bl b,H,I,rfl,h⟩
theorem ng {j pos}:PE X (.Constant .none j pos) (tC .non):=fun _ _ _ H _ I h=>Constant_none ⟨.non,H,I,rfl,h⟩
theorem aB {x j pos}:PE X (.Constant (.str x) j pos) (tC (.str x)):=fun _ _ _ H _ I h=>Calls.Constant_str ⟨.str x,H,I.tok _,⟨_,rfl⟩,h⟩
def Gl (X:Cx) (x:Str):Prop:=X.env.kindOf x=some .globalImplicit
theorem oH {E:Value→Shared→Prop} {pins:List (Addr × Obj)} {s:Shared} {σ:St} {H:Hp} {x:Str} {u:Value} {pos:Pos} {Q:Value→Shared→Prop} (I:Inv X pins σ H s) (hg:Gl X x) (hm:X.mg x=some u) (h:Q u s)
    (hd:(x == ("__debug__":Str))=false:=by decide):wpAny (model X.prog X.w) X.A (eval (.Name x pos) X.env) Q E s :=
  Calls.Name_function_global I.ok.kind hg (Calls.loadGlobal_global (by rw [I.ok.glob];exact I.mod.glob.keeps I.bk) hm h) hd
theorem im {E:Value→Shared→Prop} {pins:List (Addr × Obj)} {s:Shared} {σ:St} {H:Hp} {x:Str} {u:Value} {pos:Pos} {Q:Value→Shared→Prop} (I:Inv X pins σ H s) (hg:Gl X x) (hm:X.mg x=none) (hv:bootBuiltins x=some u) (h:Q u s)
    (hn:x ≠ "__name__":=by decide) (hd:(x == ("__debug__":Str))=false:=by decide):wpAny (model X.prog X.w) X.A (eval (.Name x pos) X.env) Q E s:=by
  obtain ⟨mb,h1,h2⟩:=I.mod.blt;exact Calls.Name_function_global I.ok.kind hg (Calls.loadGlobal_builtin (by rw [I.ok.glob];exact I.mod.glob.keeps I.bk) hm (by rw [I.ok.blt];exact h1.keeps I.bk) ((h2 x hn).trans hv) h) hd
theorem bi {x:Str} {v:V} {u:Value} {pos:Pos} (hg:Gl X x) (hm:X.mg x=some u) (r:RelV v u) (hd:(x == ("__debug__":Str))=false:=by decide):PE X (.Name x pos) (tC v) :=
  fun _ _ _ H _ I h=>oH I hg hm ⟨v,H,I,r,h⟩ hd
theorem bM {x:Str} {v:V} {u:Value} {pos:Pos} (hg:Gl X x) (hm:X.mg x=none) (hv:bootBuiltins x=some u) (r:RelV v u) (hn:x ≠ "__name__":=by decide) (hd:(x == ("__debug__":Str))=false:=by decide):PE X (.Name x pos) (tC v) :=
  fun _ _ _ H _ I h=>im I hg hm hv ⟨v,H,I,r,h⟩ hn hd
variable {a b:Expr} {ta tb:TE} {pos:Pos}
def tB (t:TE):TT:=fun σ H Q=>t σ H fun x H1=>∃ c,x=.bl c∧Q c H1
theorem aR {e:Expr} {t:TE} (h:PE X e t) (he:∀ whole,isTrue e X.env whole=(do let v ← whole;standAt e.pos;holding [v] (truthy v)):=by intro _;rfl):PT X e (tB t):=by
  intro pins s σ H Q I hw;refine isTrue_plain (thn (h pins s σ H _ I hw) fun v s1 ⟨x,H1,I1,r1,q1⟩=>?_) (he _);obtain ⟨d,rfl,q⟩:=q1;cases r1;exact wpAny_truthy_bool ⟨H1,I1,q⟩
variable {tA tB':TT} {rest:List Expr}
def vW (t u:TT):TT:=fun σ H Q=>t σ H fun c H1=>if c=true then u σ H1 Q else Q false H1
def tOr (t u:TT):TT:=fun σ H Q=>t σ H fun c H1=>if c=true then Q true H1 else u σ H1 Q
def vN (t:TT):TT:=fun σ H Q=>t σ H fun c H1=>Q (!c) H1
theorem iN (ha:PT X a tA):PW X (.BoolOp .And [a] pos) tA:=by
  intro wh pins s σ H Q I h;refine isTrue_and (thn (ha pins s σ H Q I h) fun c s1 e=>?_);cases c with
  | true=>exact isTrue_and_nil e
  | false=>exact e
theorem eT (ha:PT X a tA):PW X (.BoolOp .Or [a] pos) tA:=by
  intro wh pins s σ H Q I h;refine isTrue_or (thn (ha pins s σ H Q I h) fun c s1 e=>?_);cases c with
  | false=>exact isTrue_or_nil e
  | true=>exact e
theorem jg (ha:PT X a tA) (hb:PW X (.BoolOp .And (b :: rest) pos) tB'):PW X (.BoolOp .And (a :: b :: rest) pos) (vW tA tB'):=by
  intro wh pins s σ H Q I h;refine isTrue_and (thn (ha pins s σ H _ I h) fun c s1 ⟨H1,I1,q1⟩=>?_);cases c with
  | true=>exact hb wh pins s1 σ H1 Q I1 q1
  | false=>exact ⟨H1,I1,q1⟩
theorem fB (ha:PT X a tA) (hb:PW X (.BoolOp .Or (b :: rest) pos) tB'):PW X (.BoolOp .Or (a :: b :: rest) pos) (tOr tA tB'):=by
  intro wh pins s σ H Q I h;refine isTrue_or (thn (ha pins s σ H _ I h) fun c s1 ⟨H1,I1,q1⟩=>?_);cases c with
  | true=>exact ⟨H1,I1,q1⟩
  | false=>exact hb wh pins s1 σ H1 Q I1 q1
theorem bJ (ha:PT X a tA):PT X (.UnaryOp .Not a pos) (vN tA):=by
  intro pins s σ H Q I h;exact isTrue_not (ha pins s σ H (fun c H1=>Q (!c) H1) I h)
def u7 (ta tb:TE):TE:=fun σ H Q=>ta σ H fun x H1=>∃ c,x=.bl c∧if c=true then tb σ H1 Q else Q (.bl false) H1
def uW (ta:TE):TE:=fun σ H Q=>ta σ H fun x H1=>∃ c,x=.bl c∧Q (.bl (!c)) H1
theorem fV {op} {t:TE} (h:PE X a t):PE X (.BoolOp op [a] pos) t:=fun pins s σ H Q I hw=>BoolOp_one (h pins s σ H Q I hw)
theorem eW (ha:PE X a ta) (hb:PE X (.BoolOp .And (b :: rest) pos) tb):PE X (.BoolOp .And (a :: b :: rest) pos) (u7 ta tb):=by
  intro pins s σ H Q I h;refine BoolOp_and (thn (ha pins s σ H _ I h) fun v s1 ⟨x,H1,I1,r1,q1⟩=>?_);obtain ⟨c,rfl,q1⟩:=q1;cases r1;refine wpAny_truthy_bool ?_;cases c with
  | true=>exact hb pins s1 σ H1 Q I1 q1
  | false=>exact ⟨.bl false,H1,I1,rfl,q1⟩
theorem qz (ha:PE X a ta):PE X (.UnaryOp .Not a pos) (uW ta):=by
  intro pins s σ H Q I h;refine UnaryOp_ (thn (ha pins s σ H _ I h) fun v s1 ⟨x,H1,I1,r1,q1⟩=>?_);obtain ⟨c,rfl,q1⟩:=q1;cases r1;exact not_of (wpAny_truthy_bool ⟨.bl (!c),H1,I1,rfl,q1⟩)
def tIf (t:TT) (ta tb:TE):TE:=fun σ H Q=>t σ H fun c H1=>if c=true then ta σ H1 Q else tb σ H1 Q
theorem bT {c:Expr} (hc:PT X c tA) (ha:PE X a ta) (hb:PE X b tb):PE X (.IfExp c a b pos) (tIf tA ta tb):=by
  intro pins s σ H Q I h;refine wpAny_IfExp (thn (hc pins s σ H _ I h) fun d s1 ⟨H1,I1,q1⟩=>?_);cases d with
  | true=>exact ha pins s1 σ H1 Q I1 q1
  | false=>exact hb pins s1 σ H1 Q I1 q1
end
open PySem PySem.Spec PyProof.Rows
def SqL (K:aaa) (H:Hp) (a:Addr) (xs:List V):Prop :=
  Rd H a (.lst xs) ∨
    ∃ (o:Obj) (its:Array Value) (n:Nat),K.lookup a=some o∧o.cls=.type "list"∧o.dict=none∧o.data=.seq its n∧its.size≤sizeLine∧Vals xs its.toList
def SqT (K:aaa) (H:Hp) (a:Addr) (xs:List V):Prop :=
  Rd H a (.tup xs) ∨
    ∃ (o:Obj) (its:Array Value) (n:Nat),K.lookup a=some o∧o.cls=.type "tuple"∧o.data=.seq its n∧its.size≤sizeLine∧Vals xs its.toList
def we:Value→Option V
  | .none=>some .non
  | .bool b=>some (.bl b)
  | .int i _=>some (.int i)
  | .str x _=>some (.str x)
  | .bytes b _=>some (.byt b)
  | .float b _=>some (.flt b)
  | .ref a=>some (.ref a)
  | .type n=>some (.ty n)
  | _=>none
theorem RelV.abs {x:V} {u:Value} (r:RelV x u):we u=some x:=by
  cases x with
  | non=>cases r;rfl
  | bl _=>cases r;rfl
  | int _=>obtain ⟨t,rfl⟩:=r;rfl
  | str _=>obtain ⟨t,rfl⟩:=r;rfl
  | byt _=>obtain ⟨t,rfl⟩:=r;rfl
  | flt _=>obtain ⟨t,rfl⟩:=r;rfl
  | ref _=>cases r;rfl
  | ty _=>cases r;rfl
theorem RelV.inj {x y:V} {u:Value} (r:RelV x u) (q:RelV y u):x=y:=aaT (r.abs.symm.trans q.abs)
theorem Vals.inj {xs ys:List V} {us:List Value} (h:Vals xs us) (h':Vals ys us):xs=ys:=by
  induction h generalizing ys with
  | nil=>cases h';rfl
  | cons r t ih =>
    cases h' with
    | cons r' t'=>rw [r.inj r',ih t']
section
variable {X:Cx} {pins:List (Addr × Obj)} {σ:St} {H:Hp} {s:Shared} {a:Addr} {xs ys:List V}
theorem SqL.of {K:aaa} (h:H a=some (.lst xs)):SqL K H a xs:=.inl (.inl h)
theorem SqT.of {K:aaa} (h:H a=some (.tup xs)):SqT K H a xs:=.inl (.inl h)
theorem Inv.list (I:Inv X pins σ H s) (h:SqL X.K H a xs):∃ its:List Value,Vals xs its∧PlainL s.heap a its.toArray∧xs.length≤sizeLine:=by
  rcases h with h|⟨o,its,n,hk,hc,hd,hs,hz,r⟩
  · obtain ⟨z,its,n,r,e⟩:=h.ok I.hok;exact ⟨its,r,⟨_,n,e,rfl,rfl,rfl⟩,z⟩
  · refine ⟨its.toList,r,⟨o,n,I.kIn a o hk,hc,hd,by simpa using hs⟩,?_⟩;have e:=r.length;simp only [Array.length_toList] at e;lia
theorem Inv.tuple (I:Inv X pins σ H s) (h:SqT X.K H a xs):∃ its:List Value,Vals xs its∧IsTup s.heap a its.toArray∧xs.length≤sizeLine:=by
  rcases h with h|⟨o,its,n,hk,hc,hs,hz,r⟩
  · obtain ⟨z,its,r,p⟩:=h.ok I.hok;exact ⟨its,r,p,z⟩
  · refine ⟨its.toList,r,⟨o,I.kIn a o hk,hc,n,by simpa using hs⟩,?_⟩;have e:=r.length;simp only [Array.length_toList] at e;lia
theorem Inv.list_inj (I:Inv X pins σ H s) (h:SqL X.K H a xs) (h':SqL X.K H a ys):xs=ys:=by
  obtain ⟨its,r,⟨o,n,e,_,_,d⟩,_⟩:=I.list h;obtain ⟨its',r',⟨o',n',e',_,_,d'⟩,_⟩:=I.list h';rw [e] at e';cases e';rw [d] at d';injection d' with d1 _
  have : its=its':=by simpa using congrArg Array.toList d1
  subst this;exact r.inj r'
theorem Inv.tuple_inj (I:Inv X pins σ H s) (h:SqT X.K H a xs) (h':SqT X.K H a ys):xs=ys:=by
  obtain ⟨its,r,⟨o,e,_,n,d⟩,_⟩:=I.tuple h;obtain ⟨its',r',⟨o',e',_,n',d'⟩,_⟩:=I.tuple h';rw [e] at e';cases e';rw [d] at d';injection d' with d1 _
  have : its=its':=by simpa using congrArg Array.toList d1
  subst this;exact r.inj r'
end
abbrev Cx.wish (X:Cx) (E:Value→Shared→Prop):Cx:={ X with xe:=E }
abbrev Cx.nox (X:Cx):Cx:=X.wish fun _ _=>False
theorem Cx.Ok.wish {X:Cx} (ok:X.Ok) (E:Value→Shared→Prop):(X.wish E).Ok :=
  ⟨ok.mod,ok.kind,ok.glob,ok.blt,ok.above,ok.inj,ok.has,ok.cab,ok.hd,ok.frames,ok.stk,ok.exf,ok.bs,ok.bsz,ok.noex,ok.exfs,ok.funs,ok.frf⟩
theorem Cx.Ok.unwish {X:Cx} {E:Value→Shared→Prop} (ok:(X.wish E).Ok):X.Ok :=
  ⟨ok.mod,ok.kind,ok.glob,ok.blt,ok.above,ok.inj,ok.has,ok.cab,ok.hd,ok.frames,ok.stk,ok.exf,ok.bs,ok.bsz,ok.noex,ok.exfs,ok.funs,ok.frf⟩
section
variable {X:Cx} {pins:List (Addr × Obj)} {σ:St} {H:Hp} {s:Shared} {E:Value→Shared→Prop}
theorem Inv.wish (I:Inv X pins σ H s) (E:Value→Shared→Prop):Inv (X.wish E) pins σ H s:=⟨I.ok.wish E,I.os,I.bare,I.base,I.loc,I.cell,I.free,I.freeC,I.pin,I.hok,I.len⟩
theorem Inv.unwish (I:Inv (X.wish E) pins σ H s):Inv X pins σ H s:=⟨I.ok.unwish,I.os,I.bare,I.base,I.loc,I.cell,I.free,I.freeC,I.pin,I.hok,I.len⟩
theorem SP.unwish {D:Ends} {f:Flow} {s':Shared} (h:SP (X.wish E) pins D f s'):SP X pins D f s':=by
  cases f with
  | next=>obtain ⟨σ',H',I,q⟩:=h;exact ⟨σ',H',I.unwish,q⟩
  | brk=>obtain ⟨σ',H',I,q⟩:=h;exact ⟨σ',H',I.unwish,q⟩
  | cont=>obtain ⟨σ',H',I,q⟩:=h;exact ⟨σ',H',I.unwish,q⟩
  | ret u=>obtain ⟨v,σ',H',I,r,q⟩:=h;exact ⟨v,σ',H',I.unwish,r,q⟩
theorem PSs.nox {st:List Stmt} {t:TS} (h:PSs X.nox st t):PSs X st t:=fun pins s σ H D I hw =>
  wpAny_mono (h pins s σ H D (I.wish _) hw) (fun _ _ q=>q.unwish) fun _ _ z=>abG z
end
section
variable {X:Cx} {st:Stmt} {rest:List Stmt} {t u:TS} {e:Expr} {te:TE} {pos:Pos}
def uX:TS:=fun D σ H=>D.nx σ H
def vM (t u:TS):TS:=fun D σ H=>t { D with nx:=u D } σ H
theorem au:PSs X [] uX:=fun _ _ σ H _ I h=>wpAny_execs_nil ⟨σ,H,I,h⟩
theorem af (h1:PS X st t) (h2:PSs X rest u):PSs X (st :: rest) (vM t u):=by
  intro pins s σ H D I h;refine wpAny_execs_cons (thn (h1 pins s σ H { D with nx:=u D } I h) fun f s1 q=>?_);cases f with
  | next =>
    obtain ⟨σ',H',I',q⟩:=q;exact h2 pins s1 σ' H' D I' q
  | ret v=>exact q
  | brk=>exact q
  | cont=>exact q
theorem ah (h1:PS X st t):PSs X [st] t:=by
  intro pins s σ H D I h;refine wpAny_execs_cons (thn (h1 pins s σ H D I h) fun f s1 q=>?_);cases f with
  | next=>exact wpAny_execs_nil q
  | ret v=>exact q
  | brk=>exact q
  | cont=>exact q
theorem Inv.quiet {pins:List (Addr × Obj)} {σ:St} {H:Hp} {s:Shared} (I:Inv X pins σ H s):interactive X.env=false:=by simp [interactive,I.ok.kind]
def uZ (te:TE):TS:=fun D σ H=>te σ H fun _ H1=>D.nx σ H1
theorem bv (he:PE X e te) (hs:swapsWith e none pos.line X.env=pure false:=by rfl):PS X (.Expr e pos) (uZ te):=by
  intro pins s σ H D I h;exact wpAny_Expr_any (thn (he pins s σ H _ I h) fun v s1 ⟨x,H1,I1,r1,q1⟩=>⟨σ,H1,I1,q1⟩) I.quiet hs
def uT (te:TE):TS:=fun D σ H=>te σ H D.rt
theorem aq (he:PE X e te):PS X (.Return (some e) pos) (uT te):=by
  intro pins s σ H D I h;exact wpAny_Return_some (thn (he pins s σ H _ I h) fun v s1 ⟨x,H1,I1,r1,q1⟩=>⟨x,σ,H1,I1,r1,q1⟩)
def uY (c:TT) (t u:TS):TS:=fun D σ H=>c σ H fun b H1=>if b=true then t D σ H1 else u D σ H1
theorem aH {c:Expr} {a b:List Stmt} {tc:TT} (hc:PT X c tc) (ha:PSs X a t) (hb:PSs X b u):PS X (.If c a b pos) (uY tc t u):=by
  intro pins s σ H D I h;refine wpAny_If (thn (hc pins s σ H _ I h) fun d s1 ⟨H1,I1,q1⟩=>?_);cases d with
  | true=>exact ha pins s1 σ H1 D I1 q1
  | false=>exact hb pins s1 σ H1 D I1 q1
def tI:TS:=fun _ _ _=>False
theorem dE:PS X st tI:=fun _ _ _ _ _ _ h=>h.elim
end
abbrev TG:=V→St→Hp→(St→Hp→Prop)→Prop
abbrev TGs:=List V→St→Hp→(St→Hp→Prop)→Prop
def PG (X:Cx) (target:Expr) (t:TG):Prop :=
  ∀ (pins:List (Addr × Obj)) (s:Shared) (σ:St) (H:Hp) (v:V) (u:Value) (Q:St→Hp→Prop),Inv X pins σ H s→RelV v u→t v σ H Q →
    wpAny (model X.prog X.w) X.A (assign target X.env u) (fun _ s'=>∃ σ' H',Inv X pins σ' H' s'∧Q σ' H') X.xe s
def PGs (X:Cx) (ts:List Expr) (t:TGs):Prop :=
  ∀ (pins:List (Addr × Obj)) (s:Shared) (σ:St) (H:Hp) (vs:List V) (us:List Value) (Q:St→Hp→Prop),Inv X pins σ H s→Vals vs us→t vs σ H Q →
    wpAny (model X.prog X.w) X.A (assignInOrder ((assignEach ts X.env).map (·.2)) us) (fun _ s'=>∃ σ' H',Inv X pins σ' H' s'∧Q σ' H') X.xe s
abbrev uK:=V→V→V→Hp→(Hp→Prop)→Prop
def vJ (X:Cx) (t:uK):Prop :=
  ∀ (pins:List (Addr × Obj)) (s:Shared) (σ:St) (H:Hp) (o i v:V) (ov iv u:Value) (Q:Hp→Prop),Inv X pins σ H s→RelV o ov→RelV i iv→RelV v u→t o i v H Q →
    wpAny (model X.prog X.w) X.A (setItem ov iv u) (fun _ s'=>∃ H',Inv X pins σ H' s'∧Q H') X.xe s
abbrev TIp:=V→V→Hp→VK→Prop
def PIp (X:Cx) (op:Operator) (t:TIp):Prop :=
  ∀ (pins:List (Addr × Obj)) (s:Shared) (σ:St) (H:Hp) (x y:V) (v u:Value) (Q:VK),Inv X pins σ H s→RelV x v→RelV y u→t x y H Q →
    wpAny (model X.prog X.w) X.A (inplaceOp op v u) (EP X pins σ Q) X.xe s
section
variable {X:Cx} {pos:Pos}
def oP (i:Nat):TG:=fun v σ H Q=>Q (σ.set i (some v)) H
theorem am {i:Nat} {x:Str} (hN:X.N.Nodup) (hi:X.N[i]?=some x) (hx:Loc X.env.scope x) (hf:X.fn x=true∨X.env.scope.names.lookup x=some .local:=by first|exact .inl rfl|exact .inr rfl|assumption):PG X (.Name x pos) (oP i):=by
  intro pins s σ H v u Q I r h;exact wpAny_assign_Name (gb I hN hi hx r (fun s' I'=>⟨_,H,I',h⟩) hf)
def wa:TGs:=fun vs σ H Q=>vs=[]∧Q σ H
def vB (t:TG) (u:TGs):TGs:=fun vs σ H Q=>∃ v r,vs=v :: r∧t v σ H fun σ' H'=>u r σ' H' Q
theorem aV:PGs X [] wa:=by
  intro pins s σ H vs us Q I r h;obtain ⟨e,h⟩:=h;subst e;cases r;exact assignInOrder_nil ⟨σ,H,I,h⟩
theorem ao {e:Expr} {es:List Expr} {t:TG} {u:TGs} (h1:PG X e t) (h2:PGs X es u)
    (hs:(assignEach (e :: es) X.env).map (·.2)=assign e X.env :: (assignEach es X.env).map (·.2):=by rfl):PGs X (e :: es) (vB t u):=by
  intro pins s σ H vs us Q I r h;obtain ⟨v,vr,e1,h⟩:=h;subst e1;cases r with
  | cons r rr =>
    rw [hs];refine assignInOrder_cons (thn (h1 pins s σ H _ _ _ I r h) fun _ s1 ⟨σ1,H1,I1,q1⟩=>?_);exact h2 pins s1 σ1 H1 _ _ Q I1 rr q1
def vA (K:aaa) (n:Nat) (t:TGs):TG:=fun v σ H Q=>∃ a xs,v=.ref a∧SqT K H a xs∧xs.length=n∧t xs σ H Q
theorem bK {es:List Expr} {k:Nat} {t:TGs} {n:Nat} (hc:X.calm=true) (h:PGs X es t)
    (hn:(assignEach es X.env).length=n:=by rfl) (hst:(assignEach es X.env).findIdx? (·.1)=none:=by rfl):PG X (.Tuple es k pos) (vA X.K n t):=by
  intro pins s σ H v u Q I r hw;obtain ⟨a,xs,e1,hq,hl,hw⟩:=hw;subst e1;cases r;obtain ⟨its,rv,ht,hz⟩:=I.tuple hq;refine assign_Tuple_tuple (I.ok.hd hc) ht (by simp [hn,← hl,rv.length]) hst fun h' hx=>?_;have I1:Inv X pins σ H { s with heap:=h' }:=I.kept (t':=s.toks) fun b o e=>hx b o (aaC (aas e)) e;exact h pins _ σ H xs _ Q I1 (by simpa using rv) hw
def v_ (to ti:TE) (t:uK):TG:=fun v σ H Q=>to σ H fun o H1=>ti σ H1 fun i H2=>t o i v H2 fun H3=>Q σ H3
theorem qw {o i:Expr} {to ti:TE} {t:uK} (ho:PE X o to) (hi:PE X i ti) (hs:vJ X t)
    (ha:∀ v,assign (.Subscript o i pos) X.env v=(do
      let ov ← holding [v] (eval o X.env)
      let iv ← holding [v,ov] (eval i X.env)
      standAt pos
      holding [v,ov,iv] (setItem ov iv v)
      release [v,ov,iv] []):=by intro _;rfl):PG X (.Subscript o i pos) (v_ to ti t):=by
  intro pins s σ H v u Q I r h;rw [ha];refine wpAny_bind (wpAny_holding (thn (ho pins s σ H _ I h) fun ov s1 ⟨x,H1,I1,r1,q1⟩=>?_));refine wpAny_bind (wpAny_holding (thn (hi pins s1 σ H1 _ I1 q1) fun iv s2 ⟨y,H2,I2,r2,q2⟩=>?_));refine wpAny_bind (wpAny_standAt (wpAny_bind (wpAny_holding (thn (hs pins s2 σ H2 x y v ov iv u _ I2 r1 r2 r q2) fun _ s3 ⟨H3,I3,q3⟩=>?_))));exact wpAny_release ⟨σ,H3,I3,q3⟩
def rN (te:TE) (g:TG):TS:=fun D σ H=>te σ H fun x H1=>g x σ H1 D.nx
theorem cY {tg e:Expr} {te:TE} {g:TG} (he:PE X e te) (hg:PG X tg g) (hs:swapsWithSole [tg] e pos.line X.env=pure false:=by rfl) (hw:swappedStores [tg] e X.env=pure none:=by rfl)
    (h1:(assignEach [tg] X.env).map (·.2)=[assign tg X.env]:=by rfl):PS X (.Assign [tg] e pos) (rN te g):=by
  intro pins s σ H D I h;refine wpAny_Assign_stores (thn (he pins s σ H _ I h) fun v s1 ⟨x,H1,I1,r1,q1⟩=>?_) hs hw;rw [h1];exact thn (hg pins s1 σ H1 x v _ I1 r1 q1) fun _ s2 q=>q
theorem aw {i:Nat} {x:Str} {e:Expr} {te:TE} {pos':Pos} (hN:X.N.Nodup) (hi:X.N[i]?=some x) (hx:Loc X.env.scope x) (he:PE X e te) (hs:swapsWith e (some (.Name x pos')) pos.line X.env=pure false:=by rfl) (hf:X.fn x=true∨X.env.scope.names.lookup x=some .local:=by first|exact .inl rfl|exact .inr rfl|assumption) :
    PS X (.Assign [.Name x pos'] e pos) (rN te (oP i)):=by
  intro pins s σ H D I h;refine wpAny_Assign_Name (thn (he pins s σ H _ I h) fun v s1 ⟨y,H1,I1,r1,q1⟩=>?_) hs;exact gb I1 hN hi hx r1 (fun s2 I2=>⟨_,H1,I2,q1⟩) hf
def vV (i:Nat) (te:TE) (ti:TIp):TS:=fun D σ H=>∃ x,σ[i]?=some (some x)∧te σ H fun y H1=>ti x y H1 fun z H2=>D.nx (σ.set i (some z)) H2
theorem eV {i:Nat} {x:Str} {e:Expr} {te:TE} {op:Operator} {ti:TIp} {pos':Pos} (hN:X.N.Nodup) (hi:X.N[i]?=some x) (hx:Loc X.env.scope x) (he:PE X e te) (ho:PIp X op ti) (hf:X.fn x=true∨X.env.scope.names.lookup x=some .local:=by first|exact .inl rfl|exact .inr rfl|assumption) :
    PS X (.AugAssign (.Name x pos') op e pos) (vV i te ti):=by
  intro pins s σ H D I h;obtain ⟨v,e1,h⟩:=h;obtain ⟨m,hn,hl⟩:=I.loc;have vis:Vis X.env.scope x:=by rcases hx with k|k;exact .inl k;exact .inr (.inl k)
  obtain ⟨u,r,l⟩:=hl i x v hi e1 vis;refine wpAny_AugAssign_Name ?_;have go:wpAny (model X.prog X.w) X.A (eval e X.env) (fun w s₂=>wpAny (model X.prog X.w) X.A (inplaceOp op u w) (fun r s₃=>wpAny (model X.prog X.w) X.A (storeName X.env x r) (fun _=>SP X pins D .next) X.xe s₃) X.xe s₂) X.xe s:=by
    refine thn (he pins s σ H _ I h) fun w s1 ⟨y,H1,I1,r1,q1⟩=>?_;refine thn (ho pins s1 σ H1 v y u w _ I1 r r1 q1) fun z s2 ⟨zv,H2,I2,r2,q2⟩=>?_;exact gb I2 hN hi hx r2 (fun s3 I3=>⟨_,H2,I3,q2⟩) hf
  rcases l with ⟨hk,hm⟩|⟨hk,c,hc,hcell⟩
  · exact wpAny_loadName_local I.ok.kind hk hn hm go
  · rcases hk with hk|hk
    · exact wpAny_loadName_cell I.ok.kind hk hc hcell go
    · rcases hx with k|k
      · have : X.env.scope.names.lookup x=some .free:=hk;rw [k] at this;cases this
      · have : X.env.scope.names.lookup x=some .free:=hk;rw [k] at this;cases this
def ipI (f:Int→Int→Int):TIp:=fun x y H Q=>∃ i j,x=.int i∧y=.int j∧Q (.int (f i j)) H
theorem jz:PIp X .Add (ipI fun i j=>i+j):=by
  intro pins s σ H x y v u Q I r1 r2 h;obtain ⟨i,j,e1,e2,q⟩:=h;subst e1;subst e2;obtain ⟨t,rfl⟩:=r1;obtain ⟨t',rfl⟩:=r2;exact iadd_int ⟨.int _,H,I.tok _,⟨_,rfl⟩,q⟩
theorem qR:PIp X .Sub (ipI fun i j=>i - j):=by
  intro pins s σ H x y v u Q I r1 r2 h;obtain ⟨i,j,e1,e2,q⟩:=h;subst e1;subst e2;obtain ⟨t,rfl⟩:=r1;obtain ⟨t',rfl⟩:=r2;exact isub_int ⟨.int _,H,I.tok _,⟨_,rfl⟩,q⟩
end
section
variable {X:Cx} {pos:Pos}
def tH (c:TT) (tb:TS):TS:=fun D σ H=>∃ W:Nat→St→Hp→Prop,(∃ m,W m σ H)∧∀ m σ H,W m σ H →
  c σ H fun b H1=>if b=true then ∃ N:St→Hp→Prop,(∀ σ' H',N σ' H'→∃ m',m' < m∧W m' σ' H')∧tb { D with nx:=N,ct:=N,bk:=D.nx } σ H1 else D.nx σ H1
theorem ji {c:Expr} {body:List Stmt} {tc:TT} {tb:TS} (hp:PassesOwn (model X.prog X.w) X.A X.env X.xe) (hc:PT X c tc) (hb:PSs X body tb):PS X (.While c body [] pos) (tH tc tb):=by
  intro pins s σ H D I h;obtain ⟨W,⟨m0,w0⟩,turn⟩:=h;refine wpAny_While (codeAny_whileLoop (fun n s'=>∃ σ' H',Inv X pins σ' H' s'∧W n σ' H') ?_ m0 ⟨σ,H,I,w0⟩);rintro n s1 ⟨σ1,H1,I1,w1⟩;refine wpAny_passesOwn hp (thn (hc pins s1 σ1 H1 _ I1 (turn n σ1 H1 w1)) fun b s2 ⟨H2,I2,q2⟩=>?_);cases b with
  | true =>
    obtain ⟨N,hN,q2⟩:=q2;rw [if_pos rfl];refine wpAny_passesOwn hp (thn (hb pins s2 σ1 H2 _ I2 q2) fun f s3 q3=>?_);cases f with
    | next =>
      obtain ⟨σ3,H3,I3,n3⟩:=q3;obtain ⟨m',hm,w3⟩:=hN σ3 H3 n3;exact ⟨m',hm,σ3,H3,I3,w3⟩
    | cont =>
      obtain ⟨σ3,H3,I3,n3⟩:=q3;obtain ⟨m',hm,w3⟩:=hN σ3 H3 n3;exact ⟨m',hm,σ3,H3,I3,w3⟩
    | brk=>exact q3
    | ret v=>exact q3
  | false =>
    rw [if_neg aah];exact wpAny_execs_nil ⟨σ1,H2,I2,q2⟩
end
structure It where
  go:Nat→Hp→Prop
  yld:Nat→Hp→V→Hp→Prop
  stop:Nat→Hp→Prop
def dA (X:Cx) (pins:List (Addr × Obj)) (H:Hp) (b:Addr):Prop :=
  H b=none∧b≠X.env.locals∧b∉X.fs∧(b∈X.ex∨X.s₀.heap.objs.size≤b)∧(∀ x c,X.env.cells.lookup x=some c→c≠b)∧∀ p∈X.pn++pins,p.1≠b
theorem Inv.fpOk {X:Cx} {pins:List (Addr × Obj)} {σ:St} {H H':Hp} {s:Shared} {b:Addr} (I:Inv X pins σ H s) (hb:s.heap.objs.size≤b) (hn:H' b=none):dA X pins H' b:=by
  refine ⟨hn,abm (aam I.lt hb),I.nofs hb,.inr (aaW I.sz hb),fun x c e z=>?_,fun p hp z=>?_⟩
  · obtain ⟨v,q⟩:=I.cell x c e;exact absurd (aam q.lt (by rw [z];exact hb)) (aa6 _)
  · exact absurd (aam (aas (I.pin p hp).1) (by rw [z];exact hb)) (aa6 _)
structure Turn (P:Program) (w:World) (K:aaa) (tg:Expr) (J:It) (fp:List Addr) (it:Addr) (tn:Nat→Heap→Prop):Prop where
  mem:it∈fp
  obj:∀ i h,tn i h→∀ b∈fp,∃ o,h.get? b=some o∧∀ v,o.data≠.cell v
  keep:∀ i h h',tn i h→(∀ b∈fp,∀ o,h.get? b=some o→h'.get? b=some o)→tn i h'
  item:∀ (X:Cx),X.prog=P→X.w=w→X.K=K→X.calm=true→∀ (i:Nat) (pins:List (Addr × Obj)) (s:Shared) (σ:St) (H:Hp) (E:Value→Shared→Prop),Inv X pins σ H s→(∀ b∈fp,dA X pins H b)→tn i s.heap→J.go i H →
    wpAny (model P w) X.A (pyNext (.ref it)) (fun r s1=>∃ u,r=some u ∧
      wpAny (model P w) X.A (letOwnedTupleGo tg (.ref it) u) (fun _ s2=>∃ x H',Inv X pins σ H' s2∧RelV x u∧J.yld i H x H'∧tn (i+1) s2.heap∧∀ b∈fp,H' b=none) E s1) E s
  done:∀ (X:Cx),X.prog=P→X.w=w→X.K=K→X.calm=true→∀ (i:Nat) (pins:List (Addr × Obj)) (s:Shared) (σ:St) (H:Hp) (E:Value→Shared→Prop),Inv X pins σ H s→(∀ b∈fp,dA X pins H b)→tn i s.heap→J.stop i H →
    wpAny (model P w) X.A (pyNext (.ref it)) (fun r s1=>r=none∧Inv X pins σ H s1) E s
  self:∀ (A:Around) (i:Nat) (s:Shared) (Q:Value→Shared→Prop) (E:Value→Shared→Prop),tn i s.heap→Q (.ref it) s→wpAny (model P w) A (pyIter (.ref it)) Q E s
abbrev TI:=St→Hp→(It→Hp→Prop)→Prop
def PIE (X:Cx) (pins:List (Addr × Obj)) (σ:St) (tg:Expr) (R:It→Hp→Prop) (itv:Value) (s2:Shared):Prop :=
  ∃ (it:Addr) (fp:List Addr) (tn:Nat→Heap→Prop) (J:It) (H':Hp),itv=.ref it∧Inv X pins σ H' s2∧Turn X.prog X.w X.K tg J fp it tn∧tn 0 s2.heap∧(∀ b∈fp,dA X pins H' b)∧R J H'
def PI (X:Cx) (tg iter:Expr) (wi:TI):Prop :=
  ∀ (pins:List (Addr × Obj)) (s:Shared) (σ:St) (H:Hp) (R:It→Hp→Prop),Inv X pins σ H s→wi σ H R →
    wpAny (model X.prog X.w) X.A (eval iter X.env) (fun v s1=>wpAny (model X.prog X.w) X.A (pyIter v) (PIE X pins σ tg R) X.xe s1) X.xe s
theorem oN {M:Model} {A:Around} {E:Value→Shared→Prop} {s:Shared} {tg:Expr} {it:Addr} {u:Value} {o:Obj} {n:String} {vs:Array Value} {Q:Unit→Shared→Prop} (ho:s.heap.get? it=some o) (hc:o.cls=.type n) (hd:o.data=.fields vs)
    (hn:["enumerate","zip","dict_itemiterator","dict_reverseitemiterator","odict_iterator","itertools.zip_longest","itertools.pairwise"].contains n=false) (hQ:Q () s):wpAny M A (letOwnedTupleGo tg (.ref it) u) Q E s:=by
  unfold letOwnedTupleGo;cases tg <;> first
    | exact wpAny_pure hQ
    | (cases u <;> first
        | exact wpAny_pure hQ
        | (refine wpAny_bind (wpAny_load ho ?_)
           rw [hc,hd];show wpAny M A (if (["enumerate","zip","dict_itemiterator","dict_reverseitemiterator","odict_iterator","itertools.zip_longest","itertools.pairwise"].contains n && vs[0]? == some (rawInt _))=true then _ else _) Q E s;rw [if_neg (by intro h;rw [hn,Bool.false_and] at h;cases h)];exact wpAny_pure hQ))
def Itl (K:aaa) (a:Addr):It :=
  ⟨fun i H=>∃ xs x,SqL K H a xs∧xs[i]?=some x,fun i H x H'=>H'=H∧∀ xs,SqL K H a xs→xs[i]?=some x,fun i H=>∃ xs,SqL K H a xs∧xs.length≤i⟩
def Itt (K:aaa) (a:Addr):It :=
  ⟨fun i H=>∃ xs x,SqT K H a xs∧xs[i]?=some x,fun i H x H'=>H'=H∧∀ xs,SqT K H a xs→xs[i]?=some x,fun i H=>∃ xs,SqT K H a xs∧xs.length≤i⟩
def Itr (lo:Int) (n:Nat):It:=⟨fun i _=>i < n,fun i H x H'=>H'=H∧x=.int (lo+i),fun i _=>n≤i⟩
theorem o6 {P:Program} {w:World} {K:aaa} {tg:Expr} (a it:Addr):Turn P w K tg (Itl K a) [it] it (fun i h=>h.IsListIter it a i) where
  mem:=by simp
  obj:=fun i h st b hb=>by
    have e:b=it:=by simpa using hb
    subst e;obtain ⟨o,e,c,d⟩:=st;exact ⟨o,e,fun v z=>by rw [d] at z;cases z⟩
  keep:=fun i h h' st k=>st.at fun o e=>k it (by simp) o e
  item:=by
    intro X hP hw hK hc i pins s σ H E I hf st hg;subst hP hw hK;obtain ⟨xs,x,hq,hx⟩:=hg;obtain ⟨its,rv,p,hz⟩:=I.list hq;obtain ⟨u,hu,ru⟩:=rv.get hx;obtain ⟨f0,f1,f2,f3,f4,f5⟩:=hf it (by simp);refine wpAny_pyNext_list_item st p.isList (x:=u) (by simpa using hu) fun h' st' sb=>?_;have I1:Inv X pins σ H { s with heap:=h' }:=I.turned (t':=s.toks) (fun b o hb e=>(sb.2 b hb).trans e) f0 f1 f3 f4 f5;obtain ⟨o,e,c,d⟩:=id st';exact ⟨u,rfl,oN (s:={ s with heap:=h' }) e c d (by decide) ⟨x,H,I1,ru,⟨rfl,fun ys hy=>by rw [I.list_inj hy hq];exact hx⟩,st',fun b hb=>(hf b hb).1⟩⟩
  done:=by
    intro X hP hw hK hc i pins s σ H E I hf st hg;subst hP hw hK;obtain ⟨xs,hq,hx⟩:=hg;obtain ⟨its,rv,p,hz⟩:=I.list hq;obtain ⟨f0,f1,f2,f3,f4,f5⟩:=hf it (by simp);have hl:=rv.length;exact wpAny_pyNext_list_end (I.ok.hd hc) st p.isList (by simp;lia) fun h' eb=>⟨rfl,I.turned (t':=s.toks) (fun b o hb e=>eb b o hb e) f0 f1 f3 f4 f5⟩
  self:=fun _ _ _ _ _ st h=>wpAny_pyIter_listiter st h
theorem mT {P:Program} {w:World} {K:aaa} {tg:Expr} (a it:Addr):Turn P w K tg (Itt K a) [it] it (fun i h=>h.IsTupleIter it a i) where
  mem:=by simp
  obj:=fun i h st b hb=>by
    have e:b=it:=by simpa using hb
    subst e;obtain ⟨o,e,c,d⟩:=st;exact ⟨o,e,fun v z=>by rw [d] at z;cases z⟩
  keep:=fun i h h' st k=>st.at fun o e=>k it (by simp) o e
  item:=by
    intro X hP hw hK hc i pins s σ H E I hf st hg;subst hP hw hK;obtain ⟨xs,x,hq,hx⟩:=hg;obtain ⟨its,rv,p,hz⟩:=I.tuple hq;obtain ⟨u,hu,ru⟩:=rv.get hx;obtain ⟨f0,f1,f2,f3,f4,f5⟩:=hf it (by simp);refine wpAny_pyNext_tuple_item st (show s.heap.IsTuple a its.toArray from p) (x:=u) (by simpa using hu) fun h' st' sb=>?_;have I1:Inv X pins σ H { s with heap:=h' }:=I.turned (t':=s.toks) (fun b o hb e=>(sb.2 b hb).trans e) f0 f1 f3 f4 f5;obtain ⟨o,e,c,d⟩:=id st';exact ⟨u,rfl,oN (s:={ s with heap:=h' }) e c d (by decide) ⟨x,H,I1,ru,⟨rfl,fun ys hy=>by rw [I.tuple_inj hy hq];exact hx⟩,st',fun b hb=>(hf b hb).1⟩⟩
  done:=by
    intro X hP hw hK hc i pins s σ H E I hf st hg;subst hP hw hK;obtain ⟨xs,hq,hx⟩:=hg;obtain ⟨its,rv,p,hz⟩:=I.tuple hq;obtain ⟨f0,f1,f2,f3,f4,f5⟩:=hf it (by simp);have hl:=rv.length;exact wpAny_pyNext_tuple_end (I.ok.hd hc) st (show s.heap.IsTuple a its.toArray from p) (by simp;lia) fun h' eb=>⟨rfl,I.turned (t':=s.toks) (fun b o hb e=>eb b o hb e) f0 f1 f3 f4 f5⟩
  self:=fun _ _ _ _ _ st h=>wpAny_pyIter_tupleiter st h
theorem mU {P:Program} {w:World} {K:aaa} {tg:Expr} (it:Addr) (lo:Int) (n:Nat):Turn P w K tg (Itr lo n) [it] it (fun i h=>IsRangeIter h it (lo+(i:Nat) * 1) ((n:Int) - (i:Nat)) 1) where
  mem:=by simp
  obj:=fun i h st b hb=>by
    have e:b=it:=by simpa using hb
    subst e;exact ⟨_,st,fun v z=>by
      have z':Data.fields _=Data.cell v:=z;cases z'⟩
  keep:=fun i h h' st k=>k it (by simp) _ st
  item:=by
    intro X hP hw hK hc i pins s σ H E I hf st hg;subst hP hw hK;obtain ⟨f0,f1,f2,f3,f4,f5⟩:=hf it (by simp);have W:=Walks.range (prog:=X.prog) (w:=X.w) (I.ok.hd hc) it lo 1 n;refine W.item i s _ _ hg st fun v h' tk hv st' kk=>?_;obtain ⟨t,rfl⟩:=hv;have I1:Inv X pins σ H { s with heap:=h',toks:=tk }:=I.turned (fun b o hb e=>kk b o (by simpa using hb) e) f0 f1 f3 f4 f5;refine ⟨_,rfl,oN (s:={ s with heap:=h',toks:=tk }) (n:="range_iterator") st' rfl rfl (by decide) ⟨.int (lo+i),H,I1,⟨t,?_⟩,⟨rfl,rfl⟩,st',fun b hb=>(hf b hb).1⟩⟩;rw [Int.mul_one]
  done:=by
    intro X hP hw hK hc i pins s σ H E I hf st hg;subst hP hw hK;obtain ⟨f0,f1,f2,f3,f4,f5⟩:=hf it (by simp);exact wpAny_pyNext_range_end (I.ok.hd hc) st (by have : n≤i:=hg;lia) fun h' eb=>⟨rfl,I.turned (t':=s.toks) (fun b o hb e=>eb b o hb e) f0 f1 f3 f4 f5⟩
  self:=fun _ _ _ _ _ st h=>wpAny_pyIter_rangeiter st h
open PySem PySem.Spec PyProof.Rows
section
variable {X:Cx} {tg:Expr}
def vt (K:aaa) (tl:TE):TI:=fun σ H R=>tl σ H fun x H1=>∃ a,x=.ref a∧(∃ xs,SqL K H1 a xs)∧R (Itl K a) H1
def v8 (K:aaa) (tl:TE):TI:=fun σ H R=>tl σ H fun x H1=>∃ a,x=.ref a∧(∃ xs,SqT K H1 a xs)∧R (Itt K a) H1
theorem b_ {l:Expr} {tl:TE} (hl:PE X l tl):PI X tg l (vt X.K tl):=by
  intro pins s σ H R I h;refine thn (hl pins s σ H _ I h) fun v s1 ⟨x,H1,I1,r1,q1⟩=>?_;obtain ⟨a,e,⟨xs,hq⟩,q⟩:=q1;subst e;cases r1;obtain ⟨its,rv,p,hz⟩:=I1.list hq;refine wpAny_pyIter_list p.isList ?_;refine ⟨s1.heap.objs.size,[s1.heap.objs.size],_,_,H1,rfl,I1.kept (t':=s1.toks) fun b o e=>aak _ e,o6 a _,⟨_,aaN _ rfl,rfl,rfl⟩,fun b hb=>?_,q⟩;have e:b=s1.heap.objs.size:=by simpa using hb
  subst e;exact I1.fpOk (aab _) (I1.hok.fresh (aab _))
theorem dw {l:Expr} {tl:TE} (hl:PE X l tl):PI X tg l (v8 X.K tl):=by
  intro pins s σ H R I h;refine thn (hl pins s σ H _ I h) fun v s1 ⟨x,H1,I1,r1,q1⟩=>?_;obtain ⟨a,e,⟨xs,hq⟩,q⟩:=q1;subst e;cases r1;obtain ⟨its,rv,p,hz⟩:=I1.tuple hq;refine wpAny_pyIter_tuple (show s1.heap.IsTuple a its.toArray from p) ?_;refine ⟨s1.heap.objs.size,[s1.heap.objs.size],_,_,H1,rfl,I1.kept (t':=s1.toks) fun b o e=>aak _ e,mT a _,⟨_,aaN _ rfl,rfl,rfl⟩,fun b hb=>?_,q⟩;have e:b=s1.heap.objs.size:=by simpa using hb
  subst e;exact I1.fpOk (aab _) (I1.hok.fresh (aab _))
theorem l8 {pins:List (Addr × Obj)} {σ:St} {H:Hp} {s:Shared} {R:It→Hp→Prop} {E:Value→Shared→Prop} {lo hi:Int} {t u v:Tok} {tk:Nat} (I:Inv X pins σ H s) (h1:-(2 ^ 62)≤lo) (h2:lo < 2 ^ 62) (h3:-(2 ^ 62)≤hi) (h4:hi < 2 ^ 62)
    (q:R (Itr lo (hi - lo).toNat) H):wpAny (model X.prog X.w) X.A (pyIter (.ref s.heap.objs.size)) (PIE X pins σ tg R) E { s with heap:=s.heap.push { cls:=.type "range",data:=.fields #[.int lo t,.int hi u,.int 1 v] },toks:=tk }:=by
  refine wpAny_pyIter_range (IsRange.new ..) (small_one h1 h2 h3 h4) ?_;have I1:Inv X pins σ H { s with heap:=s.heap.push { cls:=.type "range",data:=.fields #[.int lo t,.int hi u,.int 1 v] },toks:=tk }:=I.kept fun b o e=>aak _ e;refine ⟨(s.heap.push { cls:=.type "range",data:=.fields #[.int lo t,.int hi u,.int 1 v] }).objs.size,[(s.heap.push { cls:=.type "range",data:=.fields #[.int lo t,.int hi u,.int 1 v] }).objs.size],_,_,H,rfl,
    I1.kept (t':=tk) fun b o e=>aak _ e,mU _ lo (hi - lo).toNat,?_,fun b hb=>?_,q⟩
  · have e1:lo+((0:Nat):Int) * 1=lo:=by simp
    have e2:(((hi - lo).toNat:Nat):Int) - ((0:Nat):Int)=Builtin.Range.rangeSize lo hi 1:=by rw [rangeSize_one];split <;> lia
    show IsRangeIter _ _ (lo+((0:Nat):Int) * 1) ((((hi - lo).toNat:Nat):Int) - ((0:Nat):Int)) 1;rw [e1,e2];exact aaN _ rfl
  · have e:b=(s.heap.push { cls:=.type "range",data:=.fields #[.int lo t,.int hi u,.int 1 v] }).objs.size:=by simpa using hb
    subst e;exact I1.fpOk (aab _) (I1.hok.fresh (aab _))
def vq (ta:TA):TI:=fun σ H R=>ta σ H fun vs H1=>∃ j:Int,vs=[.int j]∧-(2 ^ 62)≤j∧j < 2 ^ 62∧R (Itr 0 j.toNat) H1
def vp (ta:TA):TI:=fun σ H R=>ta σ H fun vs H1=>∃ i j:Int,vs=[.int i,.int j]∧(-(2 ^ 62)≤i∧i < 2 ^ 62∧-(2 ^ 62)≤j∧j < 2 ^ 62)∧R (Itr i (j - i).toNat) H1
theorem dF {a:Expr} {ta:TA} {p pos:Pos} (hg:Gl X "range") (hm:X.mg "range" = none) (ha:PA X [a] ta) (hs:starEach [a] X.env=[(false,eval a X.env)]:=by rfl):PI X tg (.Call (.Name "range" p) [a] [] pos) (vq ta):=by
  intro pins s σ H R I h;refine Call_ (im I hg hm boot_range (abk (thn (ha pos pins s σ H _ I h) fun us s1 ⟨vs,H1,I1,r1,q1⟩=>?_) hs rfl));obtain ⟨j,e,q1,q2,q⟩:=q1;subst e;cases r1 with
  | cons r rr =>
    cases rr;obtain ⟨t,rfl⟩:=r;exact call_range_1 (l8 I1 (by lia) (by lia) q1 q2 (by simpa using q))
theorem h7 {a b:Expr} {ta:TA} {p pos:Pos} (hg:Gl X "range") (hm:X.mg "range" = none) (ha:PA X [a,b] ta) (hs:starEach [a,b] X.env=[(false,eval a X.env),(false,eval b X.env)]:=by rfl) (hs2:starEach [b] X.env=[(false,eval b X.env)]:=by rfl) :
    PI X tg (.Call (.Name "range" p) [a,b] [] pos) (vp ta):=by
  intro pins s σ H R I h;refine Call_ (im I hg hm boot_range (abk (thn (ha pos pins s σ H _ I h) fun us s1 ⟨vs,H1,I1,r1,q1⟩=>?_) (by rw [hs,hs2]) (by rw [hs2];rfl)));obtain ⟨i,j,e,⟨q1,q2,q3,q4⟩,q⟩:=q1;subst e;cases r1 with
  | cons r rr =>
    cases rr with
    | cons r' rr =>
      cases rr;obtain ⟨t,rfl⟩:=r;obtain ⟨t',rfl⟩:=r';exact call_range_2 (l8 I1 q1 q2 q3 q4 q)
def vS (wi:TI) (g:TG) (tb:TS):TS:=fun D σ H=>wi σ H fun J H1=>∃ W:Nat→Nat→St→Hp→Prop,(∃ m,W 0 m σ H1)∧∀ i m σ H,W i m σ H →
  (J.stop i H∧D.nx σ H)∨(J.go i H∧∃ N:St→Hp→Prop,(∀ σ' H',N σ' H'→∃ m',m' < m∧W (i+1) m' σ' H')∧∀ x H',J.yld i H x H'→g x σ H' fun σ2 H2=>tb { D with nx:=N,ct:=N,bk:=D.nx } σ2 H2)
def cm (fp:List Addr) (h:Heap):List (Addr × Obj):=fp.filterMap fun b=>(h.get? b).map fun o=>(b,o)
theorem cu {fp:List Addr} {h:Heap} {b:Addr} {o:Obj} (hb:b∈fp) (e:h.get? b=some o):(b,o)∈cm fp h:=List.mem_filterMap.mpr ⟨b,hb,by rw [e];rfl⟩
theorem ii {fp:List Addr} {h:Heap} {p:Addr × Obj} (hp:p∈cm fp h):p.1∈fp∧h.get? p.1=some p.2:=by
  obtain ⟨b,hb,e⟩:=List.mem_filterMap.mp hp;cases q:h.get? b with
  | none=>rw [q] at e;cases e
  | some o =>
    rw [q] at e;have e':(b,o)=p:=aaT e;subst e';exact ⟨hb,q⟩
theorem Inv.pinned {pins:List (Addr × Obj)} {σ:St} {H:Hp} {s:Shared} {fp:List Addr} (I:Inv X pins σ H s) (hf:∀ b∈fp,dA X pins H b) (ho:∀ b∈fp,∃ o,s.heap.get? b=some o∧∀ v,o.data≠.cell v):Inv X (pins++cm fp s.heap) σ H s :=
  I.pins_of fun p hp=>(aaB.mp hp).elim (fun z=>I.pin p (aaj _ z)) fun z=>by
    obtain ⟨hb,e⟩:=ii z;obtain ⟨f0,f1,f2,_⟩:=hf p.1 hb;obtain ⟨o,e',d⟩:=ho p.1 hb;rw [e] at e';cases e';exact ⟨e,f0,f1,f2,d⟩
theorem Inv.unpinned {pins pl:List (Addr × Obj)} {σ:St} {H:Hp} {s:Shared} (I:Inv X (pins++pl) σ H s):Inv X pins σ H s:=I.pins_of fun p hp=>I.pin p (aaj _ (abI _ hp))
theorem bX {iter:Expr} {body:List Stmt} {wi:TI} {g:TG} {tb:TS} {pos:Pos} (hp:PassesOwn (model X.prog X.w) X.A X.env X.xe) (hc:X.calm=true) (hi:PI X tg iter wi) (hg:PG X tg g) (hb:PSs X body tb)
    (hs:∀ x,foldedSetIterable iter X.env x=pure x:=by intro _;rfl):PS X (.For tg iter body [] pos) (vS wi g tb):=by
  intro pins s σ H D I h;refine wpAny_For (thn (hi pins s σ H _ I h) fun v s1 h1=>thn h1 fun itv s2 h2=>?_) hs;obtain ⟨it,fp,tn,J,H2,e,I2,T,st2,f2,W,⟨m0,w0⟩,turn⟩:=h2;subst e;have stat:∀ {H':Hp},(∀ b∈fp,H' b=none)→∀ b∈fp,dA X pins H' b:=fun hn b hb=>⟨hn b hb,(f2 b hb).2⟩
  refine codeAny_forLoop_any (fun n s'=>∃ i σ' H',Inv X pins σ' H' s'∧tn i s'.heap∧(∀ b∈fp,H' b=none)∧W i n σ' H') ?_ m0 ⟨0,σ,H2,I2,st2,fun b hb=>(f2 b hb).1,w0⟩;rintro n s3 ⟨i,σ3,H3,I3,st3,fr3,w3⟩;rcases turn i n σ3 H3 w3 with ⟨stop,qn⟩|⟨go,N,hN,step⟩
  · refine wpAny_passesOwn hp (thn (T.done X rfl rfl rfl hc i pins s3 σ3 H3 X.xe I3 (stat fr3) st3 stop) fun r s4 ⟨hr,I4⟩=>?_);subst hr;exact wpAny_execs_nil ⟨σ3,H3,I4,qn⟩
  · refine wpAny_passesOwn hp (thn (T.item X rfl rfl rfl hc i pins s3 σ3 H3 X.xe I3 (stat fr3) st3 go) fun r s4 ⟨u,hr,h4⟩=>?_);subst hr;refine wpAny_passesOwn hp (thn h4 fun _ s5 ⟨x,H5,I5,r5,y5,st5,fr5⟩=>?_);have I5':=I5.pinned (stat fr5) (T.obj _ _ st5);refine wpAny_passesOwn hp (thn (hg _ s5 σ3 H5 x u _ I5' r5 (step x H5 y5)) fun _ s6 ⟨σ6,H6,I6,q6⟩=>?_);refine wpAny_passesOwn hp (thn (hb _ s6 σ6 H6 _ I6 q6) fun f s7 q7=>?_);have again:∀ {σ7:St} {H7:Hp},Inv X (pins++cm fp s5.heap) σ7 H7 s7→N σ7 H7→∃ m,m < n∧∃ i σ' H',Inv X pins σ' H' s7∧tn i s7.heap∧(∀ b∈fp,H' b=none)∧W i m σ' H':=fun {σ7 H7} I7 n7=>by
      obtain ⟨m',hm,w7⟩:=hN σ7 H7 n7;refine ⟨m',hm,i+1,σ7,H7,I7.unpinned,T.keep _ _ _ st5 fun b hb o e=>(I7.pin (b,o) (aaj _ (aaj _ (cu hb e)))).1,fun b hb=>?_,w7⟩;obtain ⟨o,e,d⟩:=T.obj _ _ st5 b hb;exact (I7.pin (b,o) (aaj _ (aaj _ (cu hb e)))).2.1
    cases f with
    | next=>obtain ⟨σ7,H7,I7,n7⟩:=q7;exact again I7 n7
    | cont=>obtain ⟨σ7,H7,I7,n7⟩:=q7;exact again I7 n7
    | brk=>obtain ⟨σ7,H7,I7,q7⟩:=q7;exact ⟨σ7,H7,I7.unpinned,q7⟩
    | ret v=>obtain ⟨x7,σ7,H7,I7,r7,q7⟩:=q7;exact ⟨x7,σ7,H7,I7.unpinned,r7,q7⟩
end
theorem q_ {K:aaa} {a:Addr} {xs:List V} {g:TG} {tb:TS} {D:Ends} {σ:St} {H:Hp} (Pv:Nat→St→Hp→Prop) (h0:Pv 0 σ H) (hl:∀ i σ H,i≤xs.length→Pv i σ H→SqL K H a xs)
    (hs:∀ i x σ H,xs[i]?=some x→Pv i σ H→g x σ H fun σ2 H2=>tb { D with nx:=Pv (i+1),ct:=Pv (i+1),bk:=D.nx } σ2 H2) (hd:∀ σ H,Pv xs.length σ H→D.nx σ H) :
    ∃ W:Nat→Nat→St→Hp→Prop,(∃ m,W 0 m σ H)∧∀ i m σ H,W i m σ H →
      ((Itl K a).stop i H∧D.nx σ H)∨((Itl K a).go i H∧∃ N:St→Hp→Prop,(∀ σ' H',N σ' H'→∃ m',m' < m∧W (i+1) m' σ' H')∧∀ x H',(Itl K a).yld i H x H'→g x σ H' fun σ2 H2=>tb { D with nx:=N,ct:=N,bk:=D.nx } σ2 H2):=by
  refine ⟨fun i m σ H=>m=xs.length - i∧i≤xs.length∧Pv i σ H,⟨xs.length,by simp,aaI _,h0⟩,?_⟩;rintro i m σ H ⟨rfl,hi,p⟩;have q:=hl i σ H hi p;by_cases hlt:i < xs.length
  · refine .inr ⟨⟨xs,xs[i],q,by simp [hlt]⟩,Pv (i+1),fun σ' H' p'=>⟨xs.length - (i+1),by lia,rfl,hlt,p'⟩,fun x H' y=>?_⟩;obtain ⟨e,y⟩:=y;subst e;exact hs i x σ _ (y xs q) p
  · have e:i=xs.length:=by lia
    subst e;exact .inl ⟨⟨xs,q,aab _⟩,hd σ H p⟩
theorem oR {K:aaa} {a:Addr} {xs:List V} {g:TG} {tb:TS} {D:Ends} {σ:St} {H:Hp} (Pv:Nat→St→Hp→Prop) (h0:Pv 0 σ H) (hl:∀ i σ H,i≤xs.length→Pv i σ H→SqT K H a xs)
    (hs:∀ i x σ H,xs[i]?=some x→Pv i σ H→g x σ H fun σ2 H2=>tb { D with nx:=Pv (i+1),ct:=Pv (i+1),bk:=D.nx } σ2 H2) (hd:∀ σ H,Pv xs.length σ H→D.nx σ H) :
    ∃ W:Nat→Nat→St→Hp→Prop,(∃ m,W 0 m σ H)∧∀ i m σ H,W i m σ H →
      ((Itt K a).stop i H∧D.nx σ H)∨((Itt K a).go i H∧∃ N:St→Hp→Prop,(∀ σ' H',N σ' H'→∃ m',m' < m∧W (i+1) m' σ' H')∧∀ x H',(Itt K a).yld i H x H'→g x σ H' fun σ2 H2=>tb { D with nx:=N,ct:=N,bk:=D.nx } σ2 H2):=by
  refine ⟨fun i m σ H=>m=xs.length - i∧i≤xs.length∧Pv i σ H,⟨xs.length,by simp,aaI _,h0⟩,?_⟩;rintro i m σ H ⟨rfl,hi,p⟩;have q:=hl i σ H hi p;by_cases hlt:i < xs.length
  · refine .inr ⟨⟨xs,xs[i],q,by simp [hlt]⟩,Pv (i+1),fun σ' H' p'=>⟨xs.length - (i+1),by lia,rfl,hlt,p'⟩,fun x H' y=>?_⟩;obtain ⟨e,y⟩:=y;subst e;exact hs i x σ _ (y xs q) p
  · have e:i=xs.length:=by lia
    subst e;exact .inl ⟨⟨xs,q,aab _⟩,hd σ H p⟩
theorem io {lo:Int} {n:Nat} {g:TG} {tb:TS} {D:Ends} {σ:St} {H:Hp} (Pv:Nat→St→Hp→Prop) (h0:Pv 0 σ H)
    (hs:∀ i σ H,i < n→Pv i σ H→g (.int (lo+i)) σ H fun σ2 H2=>tb { D with nx:=Pv (i+1),ct:=Pv (i+1),bk:=D.nx } σ2 H2) (hd:∀ σ H,Pv n σ H→D.nx σ H) :
    ∃ W:Nat→Nat→St→Hp→Prop,(∃ m,W 0 m σ H)∧∀ i m σ H,W i m σ H →
      ((Itr lo n).stop i H∧D.nx σ H)∨((Itr lo n).go i H∧∃ N:St→Hp→Prop,(∀ σ' H',N σ' H'→∃ m',m' < m∧W (i+1) m' σ' H')∧∀ x H',(Itr lo n).yld i H x H'→g x σ H' fun σ2 H2=>tb { D with nx:=N,ct:=N,bk:=D.nx } σ2 H2):=by
  refine ⟨fun i m σ H=>m=n - i∧i≤n∧Pv i σ H,⟨n,by simp,aaI _,h0⟩,?_⟩;rintro i m σ H ⟨rfl,hi,p⟩;by_cases hlt:i < n
  · refine .inr ⟨hlt,Pv (i+1),fun σ' H' p'=>⟨n - (i+1),by lia,rfl,hlt,p'⟩,fun x H' y=>?_⟩;obtain ⟨e,y⟩:=y;subst e y;exact hs i σ _ hlt p
  · have e:i=n:=by lia
    subst e;exact .inl ⟨aab _,hd σ H p⟩
open PySem PySem.Spec PyProof.Rows
abbrev R2:=V→V→Hp→VK→Prop
def OpR (X:Cx) (f:Value→Value→Sem Value) (r:R2):Prop :=
  ∀ (pins:List (Addr × Obj)) (s:Shared) (σ:St) (H:Hp) (x y:V) (v u:Value) (Q:VK),Inv X pins σ H s→RelV x v→RelV y u→r x y H Q →
    wpAny (model X.prog X.w) X.A (f v u) (EP X pins σ Q) X.xe s
def dh (X:Cx) (f:Value) (r:List V→Hp→VK→Prop):Prop :=
  ∀ (pins:List (Addr × Obj)) (s:Shared) (σ:St) (H:Hp) (xs:List V) (us:List Value) (Q:VK),Inv X pins σ H s→Vals xs us→r xs H Q →
    wpAny (model X.prog X.w) X.A (call f us) (EP X pins σ Q) X.xe s
def wf (X:Cx) (r:V→Hp→(Bool→Hp→Prop)→Prop):Prop :=
  ∀ (pins:List (Addr × Obj)) (s:Shared) (σ:St) (H:Hp) (x:V) (v:Value) (Q:Bool→Hp→Prop),Inv X pins σ H s→RelV x v→r x H Q →
    wpAny (model X.prog X.w) X.A (truthy v) (TP X pins σ Q) X.xe s
def tOp (r:R2) (ta tb:TE):TE:=fun σ H Q=>ta σ H fun x H1=>tb σ H1 fun y H2=>r x y H2 Q
def rI (C:Int→Int→Prop) (g:Int→Int→V):R2:=fun x y H Q=>∃ i j,x=.int i∧y=.int j∧C i j∧Q (g i j) H
def rI0 (g:Int→Int→V):R2:=fun x y H Q=>∃ i j,x=.int i∧y=.int j∧Q (g i j) H
section
variable {X:Cx} {a b c:Expr} {ta tb tc:TE} {pos:Pos}
theorem uI (ha:PE X a ta) (hb:PE X b tb) {pins:List (Addr × Obj)} {s:Shared} {σ:St} {H:Hp} {R:V→V→Hp→Prop} (I:Inv X pins σ H s)
    (h:ta σ H fun x H1=>tb σ H1 fun y H2=>R x y H2) {Q:Value→Shared→Prop} {f:Value→Value→Sem Value}
    (hf:∀ v u s2 x y H2,Inv X pins σ H2 s2→RelV x v→RelV y u→R x y H2→wpAny (model X.prog X.w) X.A (f v u) Q X.xe s2) :
    wpAny (model X.prog X.w) X.A (eval a X.env) (fun v s₁=>wpAny (model X.prog X.w) X.A (eval b X.env) (fun u s₂=>wpAny (model X.prog X.w) X.A (f v u) Q X.xe s₂) X.xe s₁) X.xe s:=by
  refine thn (ha pins s σ H _ I h) fun v s1 ⟨x,H1,I1,r1,q1⟩=>?_;refine thn (hb pins s1 σ H1 _ I1 q1) fun u s2 ⟨y,H2,I2,r2,q2⟩=>?_;exact hf v u s2 x y H2 I2 r1 r2 q2
theorem ay {op:Operator} {r:R2} (ho:OpR X (binaryOp op) r) (ha:PE X a ta) (hb:PE X b tb):PE X (.BinOp a op b pos) (tOp r ta tb):=by
  intro pins s σ H Q I h;exact wpAny_BinOp (uI ha hb I h fun v u s2 x y H2 I2 rx ry q=>ho pins s2 σ H2 x y v u Q I2 rx ry q)
theorem opI {f:Value→Value→Sem Value} {C:Int→Int→Prop} {g:Int→Int→Int}
    (rule:∀ (i j:Int) (t u:Tok) (s:Shared) (Q:Value→Shared→Prop) (E:Value→Shared→Prop),C i j→Q (.int (g i j) s.toks) { s with toks:=s.toks+1 }→wpAny (model X.prog X.w) X.A (f (.int i t) (.int j u)) Q E s) :
    OpR X f (rI C fun i j=>.int (g i j)):=by
  intro pins s σ H x y v u Q I rx ry h;obtain ⟨i,j,rfl,rfl,hc,q⟩:=h;obtain ⟨t,rfl⟩:=rx;obtain ⟨t',rfl⟩:=ry;exact rule i j t t' s _ _ hc ⟨.int (g i j),H,I.tok _,⟨_,rfl⟩,q⟩
theorem vf {f:Value→Value→Sem Value} {g:Int→Int→Int}
    (rule:∀ (i j:Int) (t u:Tok) (s:Shared) (Q:Value→Shared→Prop) (E:Value→Shared→Prop),Q (.int (g i j) s.toks) { s with toks:=s.toks+1 }→wpAny (model X.prog X.w) X.A (f (.int i t) (.int j u)) Q E s) :
    OpR X f (rI0 fun i j=>.int (g i j)):=by
  intro pins s σ H x y v u Q I rx ry h;obtain ⟨i,j,rfl,rfl,q⟩:=h;obtain ⟨t,rfl⟩:=rx;obtain ⟨t',rfl⟩:=ry;exact rule i j t t' s _ _ ⟨.int (g i j),H,I.tok _,⟨_,rfl⟩,q⟩
theorem se {f:Value→Value→Sem Value} {g:Int→Int→Bool}
    (rule:∀ (i j:Int) (t u:Tok) (s:Shared) (Q:Value→Shared→Prop) (E:Value→Shared→Prop),Q (.bool (g i j)) s→wpAny (model X.prog X.w) X.A (f (.int i t) (.int j u)) Q E s) :
    OpR X f (rI0 fun i j=>.bl (g i j)):=by
  intro pins s σ H x y v u Q I rx ry h;obtain ⟨i,j,rfl,rfl,q⟩:=h;obtain ⟨t,rfl⟩:=rx;obtain ⟨t',rfl⟩:=ry;exact rule i j t t' s _ _ ⟨.bl (g i j),H,I,rfl,q⟩
def wk (i j:Int):Prop:=0≤j∧j≤1000000∧i.natAbs < 2 ^ 64
def CMul (i j:Int):Prop:=(-(2 ^ 64) < i∧i < 2 ^ 64)∨(-(2 ^ 64) < j∧j < 2 ^ 64)
theorem CMul.ok {i j:Int} (h:CMul i j):IntMulOk i j:=by
  rcases h with ⟨h1,h2⟩|⟨h1,h2⟩
  · exact .of_left (intBits_le_64 h1 h2)
  · exact .of_right (intBits_le_64 h1 h2)
theorem bL:OpR X (binaryOp .Add) (rI0 fun i j=>.int (i+j)):=vf fun _ _ _ _ _ _ _ q=>add_int q
theorem cL:OpR X (binaryOp .Sub) (rI0 fun i j=>.int (i - j)):=vf fun _ _ _ _ _ _ _ q=>sub_int q
theorem c_:OpR X (binaryOp .Mult) (rI CMul fun i j=>.int (i * j)):=opI fun _ _ _ _ _ _ _ hc q=>mul_int q hc.ok
theorem fW:OpR X (binaryOp .Mod) (rI (fun _ j=>0 < j) fun i j=>.int (i % j)):=opI fun i j _ _ _ _ _ hc q=>by
  have h1:(0:Int) < j:=hc;exact mod_int' (by lia) (by rw [Int.fmod_eq_emod_of_nonneg i (by lia)];exact q)
theorem nh:OpR X (binaryOp .Pow) (rI wk fun i j=>.int (i ^ j.toNat)):=opI fun _ _ _ _ _ _ _ hc q=>pow_int_small hc.1 hc.2.1 hc.2.2 q
end
def u9:V→V→Bool
  | .non,.non=>true|.non,.int _=>true|.int _,.non=>true|.non,.bl _=>true|.bl _,.non=>true|.non,.str _=>true|.str _,.non=>true
  | .int _,.int _=>true|.bl _,.bl _=>true|.str _,.str _=>true|.byt _,.byt _=>true
  | .int _,.str _=>true|.str _,.int _=>true|.bl _,.str _=>true|.str _,.bl _=>true
  | _,_=>false
def rEq:R2:=fun x y H Q=>u9 x y=true∧Q (.bl (decide (x=y))) H
def rNe:R2:=fun x y H Q=>u9 x y=true∧Q (.bl (!decide (x=y))) H
theorem oY {i j:Int}:decide (V.int i=V.int j)=(i == j):=by
  rw [aaV];simp
theorem rA {i j:Bool}:decide (V.bl i=V.bl j)=(i == j):=by
  rw [aaV];simp
theorem oX {i j:Str}:decide (V.str i=V.str j)=(i == j):=by
  rw [aaV];simp
theorem oZ {i j:Array UInt8}:decide (V.byt i=V.byt j)=(i.toList == j.toList):=by
  rw [aaV];cases i;cases j;simp
section
variable {X:Cx} {a b c:Expr} {ta tb tc:TE} {pos:Pos}
theorem aN {pins:List (Addr × Obj)} {σ:St} {H:Hp} {s:Shared} {Q:VK} {k k':Bool} (I:Inv X pins σ H s) (q:Q (.bl k) H) (e:k=k'):EP X pins σ Q (.bool k') s:=by
  subst e;exact ⟨.bl k,H,I,rfl,q⟩
theorem bE:OpR X (compareOp .Eq) rEq:=by
  intro pins s σ H x y v u Q I rx ry h;obtain ⟨hs,q⟩:=h;cases x with
  | non =>
    cases rx;cases y with
    | non=>cases ry;exact PySem.EqNone.eq_none_none (aN I q (by simp))
    | bl j=>cases ry;exact PySem.EqNone.eq_none_bool (aN I q (by simp))
    | int j=>obtain ⟨t',rfl⟩:=ry;exact PySem.EqNone.eq_none_int (aN I q (by simp))
    | str j=>obtain ⟨t',rfl⟩:=ry;exact PySem.EqNone.eq_none_str (aN I q (by simp))
    | _=>exact absurd (show false=true from hs) aah
  | bl i =>
    cases rx;cases y with
    | non=>cases ry;exact PySem.EqNone.eq_bool_none (aN I q (by simp))
    | bl j=>cases ry;exact eq_bool (aN I q rA)
    | str j=>obtain ⟨t',rfl⟩:=ry;exact PySem.EqMixed.eq_bool_str (aN I q (by simp))
    | _=>exact absurd (show false=true from hs) aah
  | int i =>
    obtain ⟨t,rfl⟩:=rx;cases y with
    | non=>cases ry;exact PySem.EqNone.eq_int_none (aN I q (by simp))
    | int j=>obtain ⟨t',rfl⟩:=ry;exact eq_int (aN I q oY)
    | str j=>obtain ⟨t',rfl⟩:=ry;exact PySem.EqMixed.eq_int_str (aN I q (by simp))
    | _=>exact absurd (show false=true from hs) aah
  | str i =>
    obtain ⟨t,rfl⟩:=rx;cases y with
    | non=>cases ry;exact PySem.EqNone.eq_str_none (aN I q (by simp))
    | bl j=>cases ry;exact PySem.EqMixed.eq_str_bool (aN I q (by simp))
    | int j=>obtain ⟨t',rfl⟩:=ry;exact PySem.EqMixed.eq_str_int (aN I q (by simp))
    | str j=>obtain ⟨t',rfl⟩:=ry;exact eq_str (aN I q oX)
    | _=>exact absurd (show false=true from hs) aah
  | byt i =>
    obtain ⟨t,rfl⟩:=rx;cases y with
    | byt j=>obtain ⟨t',rfl⟩:=ry;exact PySem.W.eq_bytes (aN I q oZ)
    | _=>exact absurd (show false=true from hs) aah
  | _=>cases y <;> exact absurd (show false=true from hs) aah
theorem l_:OpR X (compareOp .NotEq) rNe:=by
  intro pins s σ H x y v u Q I rx ry h;obtain ⟨hs,q⟩:=h;cases x with
  | non =>
    cases rx;cases y with
    | non=>cases ry;exact PySem.EqNone.ne_none_none (aN I q (by simp))
    | bl j=>cases ry;exact PySem.EqNone.ne_none_bool (aN I q (by simp))
    | int j=>obtain ⟨t',rfl⟩:=ry;exact PySem.EqNone.ne_none_int (aN I q (by simp))
    | str j=>obtain ⟨t',rfl⟩:=ry;exact PySem.EqNone.ne_none_str (aN I q (by simp))
    | _=>exact absurd (show false=true from hs) aah
  | bl i =>
    cases rx;cases y with
    | non=>cases ry;exact PySem.EqNone.ne_bool_none (aN I q (by simp))
    | bl j=>cases ry;exact ne_bool (aN I q (congrArg not rA))
    | str j=>obtain ⟨t',rfl⟩:=ry;exact PySem.EqMixed.ne_bool_str (aN I q (by simp))
    | _=>exact absurd (show false=true from hs) aah
  | int i =>
    obtain ⟨t,rfl⟩:=rx;cases y with
    | non=>cases ry;exact PySem.EqNone.ne_int_none (aN I q (by simp))
    | int j=>obtain ⟨t',rfl⟩:=ry;exact ne_int (aN I q (congrArg not oY))
    | str j=>obtain ⟨t',rfl⟩:=ry;exact PySem.EqMixed.ne_int_str (aN I q (by simp))
    | _=>exact absurd (show false=true from hs) aah
  | str i =>
    obtain ⟨t,rfl⟩:=rx;cases y with
    | non=>cases ry;exact PySem.EqNone.ne_str_none (aN I q (by simp))
    | bl j=>cases ry;exact PySem.EqMixed.ne_str_bool (aN I q (by simp))
    | int j=>obtain ⟨t',rfl⟩:=ry;exact PySem.EqMixed.ne_str_int (aN I q (by simp))
    | str j=>obtain ⟨t',rfl⟩:=ry;exact ne_str (aN I q (congrArg not oX))
    | _=>exact absurd (show false=true from hs) aah
  | byt i =>
    obtain ⟨t,rfl⟩:=rx;cases y with
    | byt j=>obtain ⟨t',rfl⟩:=ry;exact PySem.W.ne_bytes (aN I q (congrArg not oZ))
    | _=>exact absurd (show false=true from hs) aah
  | _=>cases y <;> exact absurd (show false=true from hs) aah
theorem oA:OpR X (compareOp .Lt) (rI0 fun i j=>.bl (decide (i < j))):=se fun _ _ _ _ _ _ _ q=>lt_int q
theorem iA:OpR X (compareOp .LtE) (rI0 fun i j=>.bl (decide (i≤j))):=se fun _ _ _ _ _ _ _ q=>le_int q
theorem ve:OpR X (compareOp .Gt) (rI0 fun i j=>.bl (decide (j < i))):=se fun _ _ _ _ _ _ _ q=>gt_int q
theorem sX:OpR X (compareOp .GtE) (rI0 fun i j=>.bl (decide (j≤i))):=se fun _ _ _ _ _ _ _ q=>ge_int q
theorem ib:OpR X (compareOp .In) (fun x y H Q=>∃ i j,x=.str i∧y=.str j∧Q (.bl (!(aaX j i 0 j.length 1).isEmpty)) H):=by
  intro pins s σ H x y v u Q I rx ry h;obtain ⟨i,j,rfl,rfl,q⟩:=h;obtain ⟨t,rfl⟩:=rx;obtain ⟨t',rfl⟩:=ry;exact in_str (aN I q rfl)
theorem oz:OpR X (compareOp .IsNot) (fun x y H Q=>y=.non∧Q (.bl (!decide (x=.non))) H):=by
  intro pins s σ H x y v u Q I rx ry h;obtain ⟨rfl,q⟩:=h;cases ry;refine isnot_none_gen (aN I q ?_);cases x <;> first
    | (cases rx;rfl)
    | (obtain ⟨t,rfl⟩:=rx;rfl)
theorem aA (b:Expr) {op:CmpOp} (h:op≠.In:=by decide) (h2:op≠.NotIn:=by decide):behindInMarks op b=false:=by
  have e1:(op == CmpOp.In)=false:=by cases op <;> first|rfl|exact absurd rfl h
  have e2:(op == CmpOp.NotIn)=false:=by cases op <;> first|rfl|exact absurd rfl h2
  cases b <;> simp [behindInMarks,e1,e2]
theorem cA {op:CmpOp} {r:R2} (ho:OpR X (compareOp op) r) (ha:PE X a ta) (hb:PE X b tb) (hm:behindInMarks op b=false):PE X (.Compare a [op] [b] pos) (tOp r ta tb):=by
  intro pins s σ H Q I h;exact wpAny_Compare1 (uI ha hb I h fun v u s2 x y H2 I2 rx ry q=>ho pins s2 σ H2 x y v u Q I2 rx ry q) hm
def sT (t:TE):TT:=fun σ H Q=>t σ H fun x H'=>∃ k,x=.bl k∧Q k H'
theorem av {op:CmpOp} {r:R2} (ho:OpR X (compareOp op) r) (ha:PE X a ta) (hb:PE X b tb) (hm:behindInMarks op b=false):PT X (.Compare a [op] [b] pos) (sT (tOp r ta tb)):=by
  intro pins s σ H Q I h;refine wpAny_isTrue_Compare1 (thn (ha pins s σ H _ I h) fun v s1 ⟨x,H1,I1,r1,q1⟩=>thn (hb pins s1 σ H1 _ I1 q1) fun u s2 ⟨y,H2,I2,r2,q2⟩ =>
    thn (ho pins s2 σ H2 x y v u _ I2 r1 r2 q2) fun c s3 ⟨z,H3,I3,r3,k,e,q3⟩=>?_) hm
  subst e;cases r3;exact wpAny_truthy_bool ⟨H3,I3,q3⟩
def p_ (r r':R2) (ta tb tc:TE):TE:=fun σ H Q=>ta σ H fun x H1=>tb σ H1 fun y H2=>r x y H2 fun z H3=>∃ k,z=.bl k ∧
  (if k=true then tc σ H3 fun w' H4=>r' y w' H4 Q else Q (.bl false) H3)
theorem qC {op op':CmpOp} {r r':R2} (ho:OpR X (compareOp op) r) (ho':OpR X (compareOp op') r') (ha:PE X a ta) (hb:PE X b tb) (hc:PE X c tc)
    (hm:lastMarks [op,op'] [b,c]=false:=by with_unfolding_all rfl):PE X (.Compare a [op,op'] [b,c] pos) (p_ r r' ta tb tc):=by
  intro pins s σ H Q I h;refine Compare_chain (thn (ha pins s σ H _ I h) fun v s1 ⟨x,H1,I1,r1,q1⟩=>chain_link (thn (hb pins s1 σ H1 _ I1 q1) fun u s2 ⟨y,H2,I2,r2,q2⟩ =>
    thn (ho pins s2 σ H2 x y v u _ I2 r1 r2 q2) fun d s3 ⟨z,H3,I3,r3,k,e,q3⟩=>?_)) hm
  subst e;cases r3;refine wpAny_truthy_bool ?_;cases k with
  | false=>exact ite_ff ⟨.bl false,H3,I3,rfl,q3⟩
  | true=>exact ite_tt (chain_last (thn (hc pins s3 σ H3 _ I3 q3) fun w' s4 ⟨z',H4,I4,r4,q4⟩=>ho' pins s4 σ H4 y z' u w' Q I4 r2 r4 q4))
theorem jh {op op':CmpOp} {r r':R2} (ho:OpR X (compareOp op) r) (ho':OpR X (compareOp op') r') (ha:PE X a ta) (hb:PE X b tb) (hc:PE X c tc)
    (hm:lastMarks [op,op'] [b,c]=false:=by with_unfolding_all rfl):PT X (.Compare a [op,op'] [b,c] pos) (sT (p_ r r' ta tb tc)):=by
  intro pins s σ H Q I h;refine isTrue_chain (thn (ha pins s σ H _ I h) fun v s1 ⟨x,H1,I1,r1,q1⟩=>test_link (thn (hb pins s1 σ H1 _ I1 q1) fun u s2 ⟨y,H2,I2,r2,q2⟩ =>
    thn (ho pins s2 σ H2 x y v u _ I2 r1 r2 q2) fun d s3 ⟨z,H3,I3,r3,k,e,q3⟩=>?_)) hm
  subst e;cases r3;refine wpAny_truthy_bool ?_;cases k with
  | false =>
    obtain ⟨k',e',q'⟩:=q3;cases e';exact ite_ff ⟨H3,I3,q'⟩
  | true =>
    refine ite_tt (test_last (thn (hc pins s3 σ H3 _ I3 q3) fun w' s4 ⟨z',H4,I4,r4,q4⟩=>thn (ho' pins s4 σ H4 y z' u w' _ I4 r2 r4 q4) fun d' s5 ⟨z2,H5,I5,r5,k2,e2,q5⟩=>?_));subst e2;cases r5;exact wpAny_truthy_bool ⟨H5,I5,q5⟩
def uJ (K:aaa) (x:V) (H:Hp) (k:Bool):Prop :=
  match x with
  | .non=>k=false
  | .bl b=>k=b
  | .int i=>k=(i != 0)
  | .str y=>y.length≤sizeLine∧k=((y.length:Int) != 0)
  | .byt y=>y.size≤sizeLine∧k=((y.size:Int) != 0)
  | .ref p=>(∃ xs,SqL K H p xs∧k=!xs.isEmpty)∨(∃ xs,SqT K H p xs∧k=!xs.isEmpty)∨∃ kvs,H p=some (.dK kvs)∧k=!kvs.isEmpty
  | _=>False
theorem nF {κ:Type} {kvs:List (κ × V)} {vs:List (κ × Value)} (r:KV kvs vs):(!vs.isEmpty)=!kvs.isEmpty:=by
  cases r <;> rfl
theorem jy {xs:List V} {its:List Value} (r:Vals xs its):(!its.toArray.isEmpty)=!xs.isEmpty:=by
  cases r <;> simp
theorem fX:(sizeLine:Nat) < 2 ^ 63:=by rw [sizeLine_eq];decide
theorem pX:wf X (fun x H Q=>∃ k,uJ X.K x H k∧Q k H):=by
  intro pins s σ H x v Q I rx h;obtain ⟨k,e,q⟩:=h;have hl:=fX;have hs:sizeLine=16777216:=sizeLine_eq;cases x with
  | non =>
    cases rx;have e':k=false:=e;subst e';exact truthy_none ⟨H,I,q⟩
  | bl b =>
    cases rx;have e':k=b:=e;subst e';exact wpAny_truthy_bool ⟨H,I,q⟩
  | int i =>
    obtain ⟨t,rfl⟩:=rx;have e':k=(i != 0):=e;subst e';exact PySem.P.truthy_int ⟨H,I,q⟩
  | str y =>
    obtain ⟨t,rfl⟩:=rx;obtain ⟨hy,e'⟩:y.length≤sizeLine∧k=((y.length:Int) != 0):=e;subst e';exact PySem.P.truthy_str (by lia) ⟨H,I.tok _,q⟩
  | byt y =>
    obtain ⟨t,rfl⟩:=rx;obtain ⟨hy,e'⟩:y.size≤sizeLine∧k=((y.size:Int) != 0):=e;subst e';exact PySem.W.truthy_bytes (by lia) ⟨H,I.tok _,q⟩
  | ref p =>
    cases rx;have e':(∃ xs,SqL X.K H p xs∧k=!xs.isEmpty)∨(∃ xs,SqT X.K H p xs∧k=!xs.isEmpty)∨∃ kvs,H p=some (.dK kvs)∧k=!kvs.isEmpty:=e;rcases e' with ⟨xs,hx,e'⟩|⟨xs,hx,e'⟩|⟨kvs,hx,e'⟩
    · subst e';obtain ⟨its,r,pl,hz⟩:=I.list hx;have hlen:=r.length;exact wpAny_truthy_list pl.isList (by simp only [aad];lia) ⟨H,I.tok _,by rw [jy r];exact q⟩
    · subst e';obtain ⟨its,r,pl,hz⟩:=I.tuple hx;have hlen:=r.length;exact truthy_tuple pl (by simp only [aad];lia) ⟨H,I.tok _,by rw [jy r];exact q⟩
    · subst e';obtain ⟨hz,hS,vs,r,m⟩:kvs.length≤sizeLine∧(p == sysModules)=false∧∃ vs,KV kvs vs∧s.heap.DictOf (aG X.prog X.w) p vs:=I.hok p _ hx;have hlen:kvs.length=vs.length:=aav r;exact wpAny_truthy_dict hS m (by lia) ⟨H,I.tok _,by rw [nF r];exact q⟩
  | _=>exact (show False from e).elim
theorem qm (ha:PE X a ta) (he:∀ whole,isTrue a X.env whole=(do let v ← whole;standAt a.pos;holding [v] (truthy v))) :
    PT X a (fun σ H Q=>ta σ H fun x H'=>∃ k,uJ X.K x H' k∧Q k H'):=by
  intro pins s σ H Q I h;exact isTrue_plain (thn (ha pins s σ H _ I h) fun v s1 ⟨x,H1,I1,r1,q1⟩=>pX pins s1 σ H1 x v Q I1 r1 q1) (he _)
theorem jl:OpR X (binaryOp .Add) (fun x y H Q=>∃ i j,x=.str i∧y=.str j∧i.length+j.length≤sizeLine∧Q (.str (i++j)) H):=by
  intro pins s σ H x y v u Q I rx ry h;obtain ⟨i,j,rfl,rfl,hz,q⟩:=h;obtain ⟨t,rfl⟩:=rx;obtain ⟨t',rfl⟩:=ry;exact add_str (fun t' tk=>⟨.str (i++j),H,I.tok _,⟨_,rfl⟩,q⟩) hz
theorem fZ {x:V} {us:List Value} (r:Vals [x] us):∃ u,us=[u]∧RelV x u:=by
  cases r with
  | cons r1 r2=>cases r2;exact ⟨_,rfl,r1⟩
theorem sS {x y:V} {us:List Value} (r:Vals [x,y] us):∃ u w',us=[u,w']∧RelV x u∧RelV y w':=by
  cases r with
  | cons r1 r2 =>
    cases r2 with
    | cons r3 r4=>cases r4;exact ⟨_,_,rfl,r1,r3⟩
theorem dL (hc:X.calm=true):dh X (.builtin "min") (fun xs H Q=>∃ i j,xs=[.int i,.int j]∧Q (.int (if j < i then j else i)) H):=by
  intro pins s σ H xs us Q I r h;obtain ⟨i,j,rfl,q⟩:=h;obtain ⟨u,w',rfl,⟨t,rfl⟩,⟨t',rfl⟩⟩:=sS r;refine min_two_ints (I.ok.hd hc) fun h' tk k=>⟨_,H,I.kept k,?_,q⟩
  by_cases hj:j < i
  · rw [if_pos hj,if_pos hj];exact ⟨_,rfl⟩
  · rw [if_neg hj,if_neg hj];exact ⟨_,rfl⟩
theorem iu:dh X (.type "int") (fun xs H Q=>(∃ i,xs=[.int i]∧Q (.int i) H)∨∃ k,xs=[.bl k]∧Q (.int (if k then 1 else 0)) H):=by
  intro pins s σ H xs us Q I r h;rcases h with ⟨i,rfl,q⟩|⟨k,rfl,q⟩
  · obtain ⟨u,rfl,t,rfl⟩:=fZ r;exact call_int_int ⟨.int i,H,I,⟨_,rfl⟩,q⟩
  · obtain ⟨u,rfl,r1⟩:=fZ r;cases r1;exact call_int_bool ⟨.int (if k then 1 else 0),H,I.tok _,⟨_,rfl⟩,q⟩
end
open PySem PySem.Spec PyProof.Rows
structure ObjM (h:Heap) (x dx C:Addr) (mA:Str→Option Value):Prop where
  obj:h.get? x=some (PySem.W.instObj C dx)
  ns:h.Ns1 dx mA
  ne:dx≠x
theorem pI {h:Heap} {dx:Addr} {mA:Str→Option Value} (n:h.Ns1 dx mA):∃ od,h.get? dx=some od∧∀ name,PySem.W.lookIn name od=some (mA name):=by
  obtain ⟨o,es,ep,ho,hd,hk,_,hm⟩:=n;refine ⟨o,ho,fun name=>?_⟩;have e:=hm name;unfold nsFind findBy at e;rw [← Array.find?_toList] at e;unfold PySem.W.lookIn;rw [hd];dsimp only;split
  · rename_i y q;rw [q] at e;exact congrArg some e
  · rename_i q;rw [q] at e;have a:es.toList.any (·.refKey)=false:=by
      rw [List.any_eq_false];intro y hy;obtain ⟨z,t,hkey⟩:=hk y (Array.mem_toList_iff.mp hy);simp [DictEntry.refKey,hkey]
    have a':¬ es.toList.any (·.refKey)=true:=by rw [a];exact aah
    rw [if_neg a'];exact congrArg some e
theorem ObjM.look {h:Heap} {x dx C:Addr} {mA:Str→Option Value} (I:ObjM h x dx C mA):∃ od,PySem.W.InstAt h x (PySem.W.instObj C dx) C (some od)∧∀ name,PySem.W.lookIn name od=some (mA name) :=
  let ⟨od,ho,hl⟩:=pI I.ns
  ⟨od,⟨I.obj,rfl,rfl,ho⟩,hl⟩
section
variable {prog:Program} {w:World} {A:Around} {E:Value→Shared→Prop} {s:Shared} {K:aaa} {x dx C f:Addr} {mA:Str→Option Value} {name:Str} {v:Value}
end
theorem RelO.some_of {v:V} {o:Option Value} (r:RelO (some v) o):∃ u,o=some u∧RelV v u:=by
  cases o with
  | none=>exact (show False from r).elim
  | some u=>exact ⟨u,rfl,r⟩
section
variable {P:Program} {w:World} {H H':Hp} {h h':Heap} {a C dx:Addr} {fs fs':List (Str × V)}
theorem sC (hok:HOk P w H h) (e:H a=some (.ins C dx fs)):∃ mA,ObjM h a dx C mA∧(∀ f,RelO (fs.lookup f) (mA f))∧PySem.Within mA (fs.map (·.1))∧fs.length≤1000∧H dx=some (.own a):=by
  obtain ⟨d,z,ne,ob,mA,n,r,q⟩:=(show ObjOk P w H h a (.ins C dx fs) from hok a _ e)
  exact ⟨mA,⟨ob,n,ne⟩,r,q,z,d⟩
end
structure Cls (K:aaa) (C:Addr):Prop where
  pg:PySem.W.plainGet K C Str.empty=true
  hd:PySem.W.hasDictIn K C=true
  po:PySem.W.plainOver K C=true
  sa:abT K (.ref C) "__setattr__" = some (some (.builtin "object.__setattr__"))
theorem Cls.get {K:aaa} {C:Addr} (c:Cls K C) (f:Str):PySem.W.plainGet K C f=true:=c.pg
structure Con (K:aaa) (C:Addr) (f:Str) (v:V) (u:Value):Prop where
  at_:abT K (.ref C) f=some (some u)
  rel:RelV v u
  get:PySem.W.specialIn K u "__get__" = some none
  cp:PySem.W.copiedNames.contains f=false
structure Meth (K:aaa) (C:Addr) (m:Str) (f:Addr):Prop where
  at_:abT K (.ref C) m=some (some (.ref f))
  fn:PySem.W.isFn K (.ref f)=true
  kp:aa7 K (.ref f)=true
section
variable {X:Cx} {pins:List (Addr × Obj)} {σ:St} {H:Hp} {s:Shared} {a C dx:Addr} {fs:List (Str × V)} {f:Str} {v:V} {A:Around} {E:Value→Shared→Prop}
end
section
variable {X:Cx} {o e value:Expr} {f:Str} {pos pos' tpos:Pos} {ta tv:TE}
end
section
variable {X:Cx} {pins:List (Addr × Obj)} {σ:St} {H:Hp} {s:Shared} {A:Around} {E:Value→Shared→Prop} {Q:Value→Shared→Prop} {c:Value} {b:Bool}
inductive TyOf (K:aaa) (H:Hp):V→Value→Prop where
  | non:TyOf K H .non (.type "NoneType")
  | bl (x:Bool):TyOf K H (.bl x) (.type "bool")
  | int (i:Int):TyOf K H (.int i) (.type "int")
  | str (x:Str):TyOf K H (.str x) (.type "str")
  | flt (x:UInt64):TyOf K H (.flt x) (.type "float")
  | lst {a:Addr} {xs:List V} (e:H a=some (.lst xs)):TyOf K H (.ref a) (.type "list")
  | frz {a:Addr} {o:Obj} {xs:List V} (e:H a=some (.frz o (.lst xs))):TyOf K H (.ref a) (.type "list")
  | tup {a:Addr} {xs:List V} (e:H a=some (.tup xs)):TyOf K H (.ref a) (.type "tuple")
  | dK {a:Addr} {kvs:List (Key × V)} (e:H a=some (.dK kvs)):TyOf K H (.ref a) (.type "dict")
  | dT {a:Addr} {kvs:List (List Key × V)} (e:H a=some (.dT kvs)):TyOf K H (.ref a) (.type "dict")
  | ins {a C dx:Addr} {fs:List (Str × V)} (e:H a=some (.ins C dx fs)) (cl:Cls K C) (ha:abT K (.ref C) "__class__" = some (some (.builtin "object.__class__")))
      (hn:PySem.W.specialIn K (.builtin "object.__class__") "__get__" = some (some (.builtin "getset_descriptor.__get__"))) (htk:PySem.W.takesIn K (.builtin "object.__class__")=some true)
      (hm:PySem.W.mroIn K C (.type "object")=some true):TyOf K H (.ref a) (.ref C)
theorem pN {x:V} {u t:Value} (I:Inv X pins σ H s) (rx:RelV x u) (ty:TyOf X.K H x t) (e:PySem.W.kitOne X.K t c=some b) (h:∀ tk,Q (.bool b) { s with toks:=tk }) :
    wpAny (model X.prog X.w) A (call (.builtin "isinstance") [u,c]) Q E s:=by
  cases ty with
  | non=>cases (show u=Value.none from rx);exact aaZ PySem.W.kitx_none I.kIn True.intro e (fun z=>nomatch z) h
  | bl y=>cases (show u=Value.bool y from rx);exact aaZ PySem.W.kitx_bool I.kIn True.intro e (fun z=>nomatch z) h
  | int i=>obtain ⟨t,q⟩:=(show ∃ t,u=Value.int i t from rx);cases q;exact aaZ PySem.W.kitx_int I.kIn True.intro e (fun z=>nomatch z) h
  | str y=>obtain ⟨t,q⟩:=(show ∃ t,u=Value.str y t from rx);cases q;exact aaZ PySem.W.kitx_str I.kIn True.intro e (fun z=>nomatch z) h
  | flt y=>obtain ⟨t,q⟩:=(show ∃ t,u=Value.float y t from rx);cases q;exact aaZ PySem.W.kitx_float I.kIn True.intro e (fun z=>nomatch z) h
  | @lst a xs ea =>
    cases (show u=Value.ref a from rx);obtain ⟨_,_,n,_,h1⟩:=(show ObjOk X.prog X.w H s.heap a (.lst xs) from I.hok a _ ea)
    exact aaZ PySem.W.kitx_list I.kIn ⟨_,h1,rfl⟩ e (fun z=>nomatch z) h
  | @frz a ob xs ea =>
    cases (show u=Value.ref a from rx);obtain ⟨_,_,_,n,_,h1⟩:=(show ObjOk X.prog X.w H s.heap a (.frz ob (.lst xs)) from I.hok a _ ea)
    exact aaZ PySem.W.kitx_list I.kIn ⟨_,h1,rfl⟩ e (fun z=>nomatch z) h
  | @tup a xs ea =>
    cases (show u=Value.ref a from rx);obtain ⟨_,_,_,p⟩:=(show ObjOk X.prog X.w H s.heap a (.tup xs) from I.hok a _ ea)
    obtain ⟨o,h1,h2,_⟩:=p;exact aaZ PySem.W.kitx_tuple I.kIn ⟨o,h1,h2⟩ e (fun z=>nomatch z) h
  | @dK a kvs ea =>
    cases (show u=Value.ref a from rx);obtain ⟨_,_,vs,_,p⟩:=(show ObjOk X.prog X.w H s.heap a (.dK kvs) from I.hok a _ ea)
    obtain ⟨o,es,ep,h1,h2,_⟩:=p;exact aaZ PySem.W.kitx_dict I.kIn ⟨o,h1,h2.1⟩ e (fun z=>nomatch z) h
  | @dT a kvs ea =>
    cases (show u=Value.ref a from rx);obtain ⟨_,_,xs,_,o,es,ep,h1,h2,_⟩:=(show ObjOk X.prog X.w H s.heap a (.dT kvs) from I.hok a _ ea)
    exact aaZ PySem.W.kitx_dict I.kIn ⟨o,h1,h2.1⟩ e (fun z=>nomatch z) h
  | @ins a C dx fs ea cl ha hn htk hm =>
    cases (show u=Value.ref a from rx);obtain ⟨mA,O,_⟩:=sC I.hok ea;obtain ⟨od,J,_⟩:=O.look;exact aaZ (PySem.W.kitx_own (cl.get _) cl.hd ha hn htk hm) I.kIn J e (fun z=>nomatch z) h
end
open PySem PySem.Spec PyProof.Rows
structure Room (k:Nat) (A:Around):Prop where
  hd:A.handled=none
  dp:A.depth+3 * k+5 < recursionLimit
  un:A.units+16 * k+200 < cLine
  gd:A.guards=some []
theorem Room.mono {j k:Nat} {A:Around} (r:Room k A) (h:j≤k):Room j A:=⟨r.hd,by have:=r.dp;lia,by have:=r.un;lia,r.gd⟩
theorem Room.deeper {k:Nat} {A:Around} (r:Room (k+1) A) (env:Env):Room k (A.deeper env) :=
  ⟨r.hd,by have:=r.dp;show A.depth+1+3 * k+5 < _;lia,by have:=r.un;show A.units+3+16 * k+200 < _;lia,r.gd⟩
theorem Room.depth {k:Nat} {A:Around} (r:Room k A):A.depth < recursionLimit:=by have:=r.dp;lia
theorem Room.units {k:Nat} {A:Around} (r:Room k A):A.units+64 < cLine:=by have:=r.un;lia
def vO:TA:=fun _ H Q=>Q [] H
def u6 (ta:TE) (tr:TA):TA:=fun σ H Q=>ta σ H fun x H1=>tr σ H1 fun xs H2=>Q (x :: xs) H2
section
variable {X:Cx} {e:Expr} {es:List Expr} {te:TE} {t:TA} {pos:Pos}
theorem ad:PA X [] vO:=fun _ _ _ _ H Q I h=>Calls.spliced_nil ⟨[],H,I,.nil,h⟩
theorem aa (ha:PE X e te) (hr:PA X es t) (hs:starEach (e :: es) X.env=(false,eval e X.env) :: starEach es X.env:=by rfl):PA X (e :: es) (u6 te t):=by
  intro pos pins s σ H Q I h;rw [hs];show wpAny _ _ (spliced ((false,eval e X.env) :: backTo pos (starEach es X.env))) _ _ s;refine Calls.spliced_cons (thn (ha pins s σ H _ I h) fun u s1 ⟨x,H1,I1,r1,q1⟩=>?_);exact thn (hr pos pins s1 σ H1 _ I1 q1) fun us s2 ⟨xs,H2,I2,r2,q2⟩=>⟨x :: xs,H2,I2,.cons r1 r2,q2⟩
def vL (t:TA):TE:=fun σ H Q=>t σ H fun xs H1=>xs.length≤sizeLine∧∀ p,H1 p=none→Q (.ref p) (upd H1 p (.tup xs))
def vP (t:TA):TE:=fun σ H Q=>t σ H fun xs H1=>xs.length≤sizeLine∧∀ p,H1 p=none→Q (.ref p) (upd H1 p (.lst xs))
theorem aQ {x1} (h:PA X es t):PE X (.Tuple es x1 pos) (vL t):=by
  intro pins s σ H Q I hq;refine wpAny_Tuple_spliced (thn (h pos pins s σ H _ I hq) fun us s1 ⟨xs,H1,I1,r,z,q⟩=>⟨by rw [← r.length];exact z,?_⟩);have hf:H1 s1.heap.objs.size=none:=I1.hok.fresh (aab _);refine ⟨.ref s1.heap.objs.size,upd H1 s1.heap.objs.size (.tup xs),I1.laid (t':=s1.toks) (fun b u e=>aak _ e) (aab _) ?_,rfl,q _ hf⟩;exact ⟨z,us,r,⟨_,aaN _ rfl,rfl,_,rfl⟩⟩
theorem bt (h:PA X es t):PE X (.List es pos) (vP t):=by
  intro pins s σ H Q I hq;refine wpAny_List_spliced (thn (h pos pins s σ H _ I hq) fun us s1 ⟨xs,H1,I1,r,z,q⟩=>⟨by rw [← r.length];exact z,?_⟩);have hf:H1 s1.heap.objs.size=none:=I1.hok.fresh (aab _);refine ⟨.ref s1.heap.objs.size,upd H1 s1.heap.objs.size (.lst xs),I1.laid (t':=s1.toks) (fun b u e=>aak _ e) (aab _) ?_,rfl,q _ hf⟩;exact ⟨z,us,0,r,aaN _ rfl⟩
end
abbrev Sp:=List V→Hp→VK→XK→Prop
abbrev CXT:=List Env→Hp→Shared→XK→Value→Shared→Prop
structure Env0 (P:Program) (w:World) (K:aaa) (mg:Str→Option Value) (base:Heap) (A:Around) (outer:List Env) (s:Shared) (H:Hp):Prop where
  frames:A.frames=some outer
  mod:Mod K mg base
  bs:∀ b o,base.get? b=some o→s.heap.get? b=some o∧H b=none
  bsz:base.objs.size≤s.heap.objs.size
  funs:s.heap.FunFrames base outer
  frf:∀ b∈frs outer,H b=none
  hok:HOk P w H s.heap
  bare:AllBare s.gens
def CE (outer:List Env) (P:Program) (w:World) (H:Hp) (s:Shared) (Q:VK) (u:Value) (s':Shared):Prop :=
  ∃ v H',s'.os=s.os∧AllBare s'.gens∧Un (frs outer) [] H H' s.heap s'.heap∧HOk P w H' s'.heap∧RelV v u∧Q v H'
def CR (CX:CXT) (outer:List Env) (P:Program) (w:World) (H:Hp) (s:Shared) (Q:VK) (E:XK) (r:Result) (s':Shared):Prop :=
  match r with
  | .ok (.ret u)=>CE outer P w H s Q u s'
  | .ok _=>False
  | .error e=>CX outer H s E e s'
structure FnOk (P:Program) (w:World) (K:aaa) (mg:Str→Option Value) (base:Heap) (CX:CXT) (k:Nat) (f:Addr) (fd:FuncData) (ps:List Str) (sp:Sp):Prop where
  len:∀ vs H Q E,sp vs H Q E→vs.length=ps.length
  run:∀ (A:Around) (outer:List Env) (s:Shared) (H:Hp) (args:Args) (us:List Value) (vs:List V) (Q:VK) (E:XK),Room k A→Env0 P w K mg base A outer s H→BindsTo s fd args (ps.zip us)→Vals vs us→sp vs H Q E →
    codeAny (model P w) A (.call (.ref f) args) (CR CX outer P w H s Q E) s
section
variable {X:Cx} {pins:List (Addr × Obj)} {σ:St} {H:Hp} {s s':Shared}
theorem Inv.env0 (I:Inv X pins σ H s):Env0 X.prog X.w X.K X.mg X.base X.A X.stack s H :=
  ⟨I.ok.frames,I.ok.mod,I.bs,aaW I.ok.bsz I.sz,I.stack,I.stkFree,I.hok,I.bare⟩
theorem Inv.after {Q:VK} {u:Value} (I:Inv X pins σ H s) (h:CE X.stack X.prog X.w H s Q u s'):EP X pins σ Q u s':=by
  obtain ⟨v,H',os,bare,un,hok,r,q⟩:=h;obtain ⟨hh,g,d,t,os'⟩:=s';obtain rfl:os'=s.os:=os;exact ⟨v,H',I.call (h':=hh) (g':=g) (d':=d) (t':=t) (ch:=[]) un hok bare (fun b z=>absurd z (by simp)),r,q⟩
end
def sU (sp:Sp) (dvs:List V) (E:XK) (t:TA):TE:=fun σ H Q=>t σ H fun vs H1=>sp (vs++dvs) H1 Q E
def Binds (K:aaa) (fd:FuncData) (ps:List Str) (ds:List Value):Prop :=
  ∀ (s:Shared) (us:List Value),K.In s.heap→(us++ds).length=ps.length→BindsTo s fd ⟨us,[]⟩ (ps.zip (us++ds))
theorem Binds.all {K:aaa} {fd:FuncData} {ps:List Str} (h:∀ us:List Value,us.length=ps.length→bindArgs fd ⟨us,[]⟩=pure (ps.zip us)):Binds K fd ps []:=fun s us _ hl=>by
  rw [List.append_nil] at hl ⊢;exact .of_eq (h us hl)
def nR (CX:CXT) (X:Cx) (E:XK):Prop:=∀ (pins:List (Addr × Obj)) (σ:St) (H:Hp) (s:Shared) (e:Value) (s':Shared),Inv X pins σ H s→CX X.stack H s E e s'→X.xe e s'
section
variable {X:Cx} {CX:CXT} {k:Nat} {f C:Addr} {fd:FuncData} {ps:List Str} {sp:Sp} {dvs:List V} {ds:List Value} {E:XK} {x m:Str} {p pos apos:Pos} {e o:Expr} {es:List Expr} {ta:TE} {t:TA}
theorem tW {pins:List (Addr × Obj)} {σ:St} {H:Hp} {s:Shared} {Q:VK} {us:List Value} {vs:List V} (F:FnOk X.prog X.w X.K X.mg X.base CX k f fd ps sp) (hr:Room k X.A) (hb:Binds X.K fd ps ds) (hd:Vals dvs ds) (hx:nR CX X E)
    (I:Inv X pins σ H s) (r:Vals vs us) (h:sp (vs++dvs) H Q E):wpAny (model X.prog X.w) X.A (call (.ref f) us) (EP X pins σ Q) X.xe s:=by
  have r2:Vals (vs++dvs) (us++ds):=r.append hd;have hl:(us++ds).length=ps.length:=by rw [← r2.length];exact F.len _ _ _ _ h
  refine wpAny_call (codeAny_mono (F.run X.A X.stack s H ⟨us,[]⟩ (us++ds) (vs++dvs) Q E hr I.env0 (hb s us I.kIn hl) r2 h) fun r s' hq=>?_);cases r with
  | error e=>exact hx pins σ H s e s' I hq
  | ok fl =>
    cases fl with
    | ret u=>exact I.after hq
    | next=>exact abG hq
    | brk=>exact abG hq
    | cont=>exact abG hq
theorem r_ (F:FnOk X.prog X.w X.K X.mg X.base CX k f fd ps sp) (hr:Room k X.A) (hg:Gl X x) (hm:X.mg x=some (.ref f)) (hk:aa7 X.K (.ref f)=true) (hb:Binds X.K fd ps ds) (hd:Vals dvs ds) (hx:nR CX X E)
    (ha:PA X (e :: es) t) (hdb:(x == ("__debug__":Str))=false:=by decide) (he:starEach (e :: es) X.env=(false,eval e X.env) :: starEach es X.env:=by rfl) (hpl:(backTo pos (starEach es X.env)).any (·.1)=false:=by rfl) :
    PE X (.Call (.Name x p) (e :: es) [] pos) (sU sp dvs E t):=by
  intro pins s σ H Q I h;refine wpAny_Call_Name_kw (oH I hg hm ?_ hdb);refine PySem.W.callWith_K (h₀:=X.base) I.ok.mod.kin hk (thn (ha pos pins s σ H _ I h) fun us s1 ⟨vs,H1,I1,r,q⟩=>⟨I1.kIn,?_⟩) he hpl;exact tW F hr hb hd hx I1 r q
structure Mk (K:aaa) (C f:Addr):Prop where
  makes:PySem.W.makesIn K C=true
  init:abT K (.ref C) "__init__" = some (some (.ref f))
  fn:PySem.W.isFn K (.ref f)=true
  kp:aa7 K (.ref C)=true
end
section
variable {X:Cx} {CX:CXT} {k:Nat} {f C:Addr} {fd:FuncData} {ps ks:List Str} {sp:Sp} {E:XK} {x m:Str} {p pos apos kpos:Pos} {e o:Expr} {es:List Expr} {kws:List Keyword} {te ta:TE} {t tk:TA} {nm:Option Str}
structure KBinds (K:aaa) (fd:FuncData) (ps ks:List Str) (g:List Value→List Value→List Value) (gV:List V→List V→List V):Prop where
  to:∀ (s:Shared) (us ws:List Value),K.In s.heap→(g us ws).length=ps.length→BindsTo s fd ⟨us,ks.zip ws⟩ (ps.zip (g us ws))
  rel:∀ {vs:List V} {us:List Value} {zs:List V} {ws:List Value},Vals vs us→Vals zs ws→Vals (gV vs zs) (g us ws)
variable {g:List Value→List Value→List Value} {gV:List V→List V→List V}
end
structure FnScope (N P:List Str) (sc:Scope):Prop where
  kind:sc.kind=.function
  co:sc.isCoroutine=false
  gen:sc.isGenerator=false
  nd:N.Nodup
  pre:N.take P.length=P
  par:∀ x∈P,sc.names.lookup x=some .local∨sc.names.lookup x=some .cell
  nofree:∀ y∈sc.names,y.2≠.free
theorem kh {kindOf:Str→Option NameKind} {x:Str}:∀ {binds:List (Str × Value)} {m:Str→Option Value},(∀ v,(x,v)∉binds)→bindL kindOf binds m x=m x
  | [],_,_=>rfl
  | (n,v) :: r,m,h=>by
    unfold bindL;rw [kh fun w hw=>h w (aae _ hw)];split
    · have : x≠n:=by rintro rfl;exact h v aai
      simp [this]
    · rfl
theorem kj {kindOf:Str→Option NameKind} {x:Str}:∀ {binds:List (Str × Value)} {m:Str→Option Value},(∀ v,(x,v)∉binds)→bindC kindOf binds m x=m x
  | [],_,_=>rfl
  | (n,v) :: r,m,h=>by
    unfold bindC;rw [kj fun w hw=>h w (aae _ hw)];split
    · rfl
    · have : x≠n:=by rintro rfl;exact h v aai
      simp [this]
theorem ki {kindOf:Str→Option NameKind} {x:Str} {v:Value}:∀ {P:List Str} {vs:List Value} {i:Nat} {m:Str→Option Value},P.Nodup→P[i]?=some x→vs[i]?=some v→kindOf x=some .local →
    bindL kindOf (P.zip vs) m x=some v
  | [],_,_,_,_,h,_,_=>by simp at h
  | _ :: _,[],_,_,_,_,h,_=>by simp at h
  | p :: P,w :: vs,0,m,nd,h1,h2,hk=>by
    simp at h1 h2;subst h1;subst h2;show bindL kindOf ((p,w) :: P.zip vs) m p=_;unfold bindL;rw [kh fun v hv=>(ab3.mp nd).1 (List.of_mem_zip hv).1,if_pos hk];simp
  | p :: P,w :: vs,i+1,m,nd,h1,h2,hk=>by
    show bindL kindOf ((p,w) :: P.zip vs) m x=_;unfold bindL;exact ki (i:=i) (ab3.mp nd).2 (by simpa using h1) (by simpa using h2) hk
theorem kl {kindOf:Str→Option NameKind} {x:Str} {v:Value}:∀ {P:List Str} {vs:List Value} {i:Nat} {m:Str→Option Value},P.Nodup→P[i]?=some x→vs[i]?=some v→kindOf x≠some .local →
    bindC kindOf (P.zip vs) m x=some v
  | [],_,_,_,_,h,_,_=>by simp at h
  | _ :: _,[],_,_,_,_,h,_=>by simp at h
  | p :: P,w :: vs,0,m,nd,h1,h2,hk=>by
    simp at h1 h2;subst h1;subst h2;show bindC kindOf ((p,w) :: P.zip vs) m p=_;unfold bindC;rw [kj fun v hv=>(ab3.mp nd).1 (List.of_mem_zip hv).1,if_neg hk];simp
  | p :: P,w :: vs,i+1,m,nd,h1,h2,hk=>by
    show bindC kindOf ((p,w) :: P.zip vs) m x=_;unfold bindC;exact kl (i:=i) (ab3.mp nd).2 (by simpa using h1) (by simpa using h2) hk
def start (N:List Str) (vs:List V):St:=vs.map some++aaw (N.length - vs.length) none
def pS (CX:CXT) (P:Program) (w:World) (K:aaa) (mg:Str→Option Value) (base:Heap) (N:List Str) (qual:Str) (scope:Scope) (f:Addr) (cd:Value) (A:Around) (outer:List Env) (s:Shared) (H:Hp) (E:XK):Cx where
  prog:=P
  w:=w
  K:=K
  mg:=mg
  base:=base
  A:=A.deeper (envOfC qual scope s.heap.objs.size f cd)
  N:=N
  s₀:=s
  H₀:=H
  env:=envOfC qual scope s.heap.objs.size f cd
  outer:=outer
  stack:=envOfC qual scope s.heap.objs.size f cd :: outer
  ex:=[]
  calm:=true
  fn:=fun _=>true
  pn:=[]
  xe:=fun e s'=>wpAny (model P w) (A.deeper (envOfC qual scope s.heap.objs.size f cd)) (leaving (envOfC qual scope s.heap.objs.size f cd) e) (fun _ s''=>CX outer H s E e s'') (fun e' s''=>CX outer H s E e' s'') s'
theorem mO {sc:Scope} {n:Nat} {x:Str} (h:sc.names.lookup x=some .cell):∃ c,(cellsFrom n sc.names []).lookup x=some c:=by
  have q:=PySem.W.cellsFrom_some sc.names n [] (.inl h);exact aba.mp q
theorem pO {CX:CXT} {P:Program} {w:World} {K:aaa} {mg:Str→Option Value} {base:Heap} {N ps:List Str} {qual:Str} {scope:Scope} {f:Addr} {cd:Value} {A:Around} {outer:List Env} {s s1:Shared} {H:Hp} {E:XK} {us:List Value} {vs:List V}
    (S:FnScope N ps scope) (hd:A.handled=none) (e0:Env0 P w K mg base A outer s H) (hl:vs.length=ps.length) (r:Vals vs us)
    (x:InCallC s s.heap.objs.size (bindL (envOfC qual scope s.heap.objs.size f cd).kindOf (ps.zip us) fun _=>none) (cellsFrom (s.heap.objs.size+1) scope.names []) (bindC (envOfC qual scope s.heap.objs.size f cd).kindOf (ps.zip us) fun _=>none) s1) :
    Inv (pS CX P w K mg base N qual scope f cd A outer s H E) [] (start N vs) H s1:=by
  have hpl:ps.length≤N.length:=by have:=congrArg List.length S.pre;rw [aap] at this;lia
  obtain ⟨h1,tk,rfl,hk⟩:=x.done;have noA:∀ b:Addr,b∉(pS CX P w K mg base N qual scope f cd A outer s H E).ex:=fun b z=>absurd (show b∈([]:List Addr) from z) (by simp);refine ⟨⟨e0.mod,S.kind,rfl,rfl,aab _,fun y z c h1 h2=>?_,fun y hy=>?_,fun y c _ h=>?_,fun _=>hd,Around.frames_deeper e0.frames,.inr ⟨rfl,rfl⟩,fun b z=>absurd z (noA b),e0.bs,e0.bsz,fun b _ _=>noA b,fun b z=>absurd z (noA b),e0.funs,e0.frf⟩,
    rfl,e0.bare,Un.kept hk,⟨_,x.toInCall.ns,fun i y v h1 h2 h3=>?_⟩,fun y c h=>⟨_,x.cell y c h⟩,e0.hok.fresh (aab _),fun y c h=>?_,fun p hp=>absurd (show p∈([]:List (Addr × Obj)) from hp) (by simp),e0.hok.kept hk,?_⟩
  · exact name_of_addr x.apart (aa4 h1) (aa4 h2)
  · have hy:scope.names.lookup y=some .cell∨scope.names.lookup y=some .free:=hy;rcases hy with hy|hy
    · exact mO hy
    · exact absurd rfl (S.nofree _ (aa4 hy))
  · exact abx (x.above y c (aa4 h))
  · have hi:i < vs.length:=by
      unfold start at h2;by_cases hi:i < vs.length
      · exact hi
      · rw [aa1 (by simpa using hi)] at h2;rw [List.getElem?_replicate] at h2;split at h2 <;> cases h2
    have ha:vs[i]?=some v:=by
      unfold start at h2;rw [aa5 (by simpa using hi),aao] at h2;cases e:vs[i]? with
      | none=>rw [e] at h2;cases h2
      | some a=>rw [e] at h2;cases h2;rfl
    obtain ⟨u,hu,rv⟩:=r.get ha;have hp:ps[i]?=some y:=by
      rw [← S.pre,aa9 (by lia)];exact h1
    have ndP:ps.Nodup:=by rw [← S.pre];exact S.nd.sublist (List.take_sublist _ _)
    refine ⟨u,rv,?_⟩;rcases S.par y (aaf hp) with k|k
    · exact .inl ⟨k,ki ndP hp hu k⟩
    · obtain ⟨c,e⟩:=mO (n:=s.heap.objs.size+1) k;refine .inr ⟨.inl k,c,e,?_⟩;have q:=x.cell y c e;rw [kl ndP hp hu (by show scope.names.lookup y≠_;rw [k];decide)] at q;exact q
  · exact e0.hok.fresh (abx (x.above y c (aa4 h)))
  · unfold start;show _=N.length;rw [aal,aac,List.length_replicate];lia
theorem vC {CX:CXT} {P:Program} {w:World} {K:aaa} {mg:Str→Option Value} {base:Heap} {k:Nat} {f:Addr} {name qual:Str} {params:Arguments} {body:List Stmt} {scope:Scope} {dV kV doc pm cdv ct oc:Value} {an od:Option Addr}
    {osl:Array (Option Value)} {N ps:List Str} {sp:Sp} (lk:K.lookup f=some ⟨oc,od,.func (aa8 name qual params body scope dV kV doc pm an cdv ct),osl⟩) (hcd:abB K cdv qual=true) (S:FnScope N ps scope)
    (len:∀ vs H Q E,sp vs H Q E→vs.length=ps.length)
    (hbody:∀ (A:Around) (outer:List Env) (s:Shared) (H:Hp) (vs:List V) (Q:VK) (E:XK),Room k (A.deeper (envOfC qual scope s.heap.objs.size f cdv))→sp vs H Q E →
      ∃ t,PSs (pS CX P w K mg base N qual scope f cdv A outer s H E) body t∧t { nx:=fun _ H'=>Q .non H',rt:=Q } (start N vs) H) :
    FnOk P w K mg base CX (k+1) f (aa8 name qual params body scope dV kV doc pm an cdv ct) ps sp:=by
  refine ⟨len,fun A outer s H args us vs Q E hr e0 hb r hsp=>?_⟩;have hl:=len _ _ _ _ hsp;have KX:K.In s.heap:=e0.mod.kin.keeps fun b o e=>(e0.bs b o e).1;have lim:s.heap.NoLimit:=e0.mod.nolimit.keeps fun b o e=>(e0.bs b o e).1;have hkind:∀ y∈ps.zip us,scope.names.lookup y.1=some .local∨(scope.names.lookup y.1=some .cell∧((cellsFrom (s.heap.objs.size+1) scope.names []).lookup y.1).isSome=true):=fun ⟨n,v⟩ hy=>by
    rcases S.par n (List.of_mem_zip hy).1 with q|q
    · exact .inl q
    · exact .inr ⟨q,PySem.W.cellsFrom_some _ _ _ (.inl q)⟩
  refine codeAny_call_function hr.depth (KX _ _ lk) rfl S.co S.gen rfl (PySem.W.codeRec_of KX hcd) (hb _ _ _ _ ?_);refine wpAny_newFunctionEnv_cells S.kind hkind fun env he s1 x=>?_;subst he;refine ⟨lim.keeps x.toInCall.keep,codeAny_func ?_⟩;obtain ⟨t,ht,hq⟩:=hbody A outer s H vs Q E (hr.deeper _) hsp;have I:Inv (pS CX P w K mg base N qual scope f cdv A outer s H E) [] (start N vs) H s1:=pO S hr.hd e0 hl r x;refine wpAny_mono (ht [] s1 (start N vs) H _ I hq) (fun fl s' hs=>?_) fun e s' hs=>hs;have fin:∀ {σ':St} {H':Hp} {v:V} {u:Value},Inv (pS CX P w K mg base N qual scope f cdv A outer s H E) [] σ' H' s'→RelV v u→Q v H'→CE outer P w H s Q u s' :=
    fun {σ' H' v u} J rv q=>⟨v,H',J.os,J.bare,J.base,J.hok,rv,q⟩
  cases fl with
  | ret u =>
    obtain ⟨v,σ',H',J,rv,q⟩:=hs;exact fin J rv q
  | next =>
    obtain ⟨σ',H',J,q⟩:=hs;exact fin (v:=V.non) (u:=Value.none) J rfl q
  | brk =>
    obtain ⟨_,_,_,q⟩:=hs;exact abG q
  | cont =>
    obtain ⟨_,_,_,q⟩:=hs;exact abG q
open PySem PySem.Spec PyProof.Rows
section
variable {X:Cx} {x:Str} {p pos:Pos} {e:Expr} {es:List Expr} {t:TA} {id T:String} {r:List V→Hp→VK→Prop}
def tCB (r:List V→Hp→VK→Prop) (t:TA):TE:=fun σ H Q=>t σ H fun vs H1=>r vs H1 Q
theorem ap (hc:dh X (.builtin id) r) (hg:Gl X x) (hm:X.mg x=none) (hv:bootBuiltins x=some (.builtin id)) (ha:PA X (e :: es) t) (hn:x ≠ "__name__":=by decide) (hdb:(x == ("__debug__":Str))=false:=by decide)
    (he:starEach (e :: es) X.env=(false,eval e X.env) :: starEach es X.env:=by rfl) (hpl:(backTo pos (starEach es X.env)).any (·.1)=false:=by rfl):PE X (.Call (.Name x p) (e :: es) [] pos) (tCB r t):=by
  intro pins s σ H Q I h;refine wpAny_Call_Name_kw (im I hg hm hv ?_ hn hdb);exact PyProof.Rows.callWith_builtin1 (thn (ha pos pins s σ H _ I h) fun us s1 ⟨vs,H1,I1,r1,q1⟩=>hc pins s1 σ H1 vs us Q I1 r1 q1) he hpl
theorem cq (hc:dh X (.type T) r) (hg:Gl X x) (hm:X.mg x=none) (hv:bootBuiltins x=some (.type T)) (ha:PA X (e :: es) t) (hn:x ≠ "__name__":=by decide) (hdb:(x == ("__debug__":Str))=false:=by decide)
    (he:starEach (e :: es) X.env=(false,eval e X.env) :: starEach es X.env:=by rfl) (hpl:(backTo pos (starEach es X.env)).any (·.1)=false:=by rfl):PE X (.Call (.Name x p) (e :: es) [] pos) (tCB r t):=by
  intro pins s σ H Q I h;refine wpAny_Call_Name_kw (im I hg hm hv ?_ hn hdb);exact abk (thn (ha pos pins s σ H _ I h) fun us s1 ⟨vs,H1,I1,r1,q1⟩=>hc pins s1 σ H1 vs us Q I1 r1 q1) he hpl
end
end L2
namespace HT
open PySem PyProof.Rows
theorem rcLt_int (A:Around) (s:Shared) (a:Int) (t:Tok) (c:Int) (u:Tok) (prog:Program) (w:World) (E:Value→Shared→Prop) (Q:Value→Shared→Prop) (h:Q (.bool (decide (a < c))) s) :
    wpAny (model prog w) A (richCompare .Lt (.int a t) (.int c u)) Q E s :=
  (PyProof.Rows.lt_int h:wpAny (model prog w) A (compareOp .Lt (.int a t) (.int c u)) Q E s)
section
open PySem.SeqAt
open PySem.AutoSeq1 (wpAny_loadPart')
open PySem.MeetsSeq PySem.MeetsSeq2 PySem.MeetsSeq3
end
section
variable {prog:Program} {w:World} {A:Around} {E:Value→Shared→Prop} {s:Shared}
theorem cat_tup {t b:Addr} {vs ws:List Value} {Q:Value→Shared→Prop} (ht:IsTup s.heap t vs.toArray) (hb:IsTup s.heap b ws.toArray) (hv:vs≠[])
    (h1:ws=[]→Q (.ref t) s) (h2:ws≠[]→Q (.ref s.heap.objs.size) { s with heap:=s.heap.push { cls:=.type "tuple",data:=.seq (vs++ws).toArray } })
    (hsz:vs.length+ws.length≤sizeLine):wpAny (model prog w) A (binaryOp .Add (.ref t) (.ref b)) Q E s:=by
  obtain ⟨⟨cls,dd,data,sl⟩,ho,hc,n,hd⟩:=id ht;obtain ⟨⟨cls2,dd2,data2,sl2⟩,ho2,hc2,n2,hd2⟩:=id hb;simp only at hc hd hc2 hd2;subst hc hd hc2 hd2;have e:vs.toArray++ws.toArray=(vs++ws).toArray:=by simp
  by_cases hw:ws=[]
  · exact concat_meets ⟨_,ho,rfl⟩ ⟨_,ho2,rfl⟩ noFill_tuple_add seq_tuple_add PySem.F.slot_tuple_add PySem.F.entry_tuple_add (PySem.F.args_tuple_add_2 _ _)
      (tuple_addW1 t b vs.toArray ws.toArray n n2 dd dd2 sl sl2 (by simpa using hv) (by simp [hw])) ⟨ho,ho2,h1 hw⟩
  · refine concat_meets ⟨_,ho,rfl⟩ ⟨_,ho2,rfl⟩ noFill_tuple_add seq_tuple_add PySem.F.slot_tuple_add PySem.F.entry_tuple_add (PySem.F.args_tuple_add_2 _ _)
      (tuple_addW2 t b vs.toArray ws.toArray n n2 dd dd2 sl sl2 (by simpa using hv) (by simpa using hw) (by rw [aad,aad];exact hsz)) ⟨ho,ho2,?_⟩
    rw [e];exact h2 hw
def sIx (n d:Nat):Option Int→Nat
  | none=>d
  | some v=>if v < 0 then (v+(n:Int)).toNat else min v.toNat n
end
end HT
namespace L2
open PySem PySem.Spec PyProof.Rows
abbrev TO:=St→Hp→(Option Int→Hp→Prop)→Prop
def PO (X:Cx) (e:Option Expr) (t:TO):Prop :=
  ∀ (pins:List (Addr × Obj)) (s:Shared) (σ:St) (H:Hp) (Q:Option Int→Hp→Prop),Inv X pins σ H s→t σ H Q →
    wpAny (model X.prog X.w) X.A (evalPart e X.env) (fun u s'=>∃ o H',Inv X pins σ H' s'∧IsPart u o∧Q o H') X.xe s
def rM:TO:=fun _ H Q=>Q none H
def uV (t:TE):TO:=fun σ H Q=>t σ H fun x H1=>∃ i,x=.int i∧Q (some i) H1
section
variable {X:Cx} {e:Expr} {te:TE} {lo hi:Option Expr} {tl th:TO} {pos p2:Pos}
theorem kR:PO X none rM:=by
  intro pins s σ H Q I h;rw [evalPart_none];exact wpAny_pure ⟨none,H,I,.none,h⟩
theorem gr (h:PE X e te):PO X (some e) (uV te):=by
  intro pins s σ H Q I hw;rw [evalPart_some];refine thn (h pins s σ H _ I hw) fun u s1 ⟨x,H1,I1,r1,q1⟩=>?_;obtain ⟨i,rfl,q⟩:=q1;obtain ⟨t,rfl⟩:=r1;exact ⟨some i,H1,I1,.int i t,q⟩
def SlR (X:Cx) (r:V→Option Int→Option Int→Hp→VK→Prop):Prop :=
  ∀ (pins:List (Addr × Obj)) (s:Shared) (σ:St) (H:Hp) (x:V) (v vl vu:Value) (lo hi:Option Int) (sl:Addr) (Q:VK),Inv X pins σ H s→RelV x v→s.heap.IsSliceOf sl vl vu .none→IsPart vl lo→IsPart vu hi→r x lo hi H Q →
    ∃ T id,typeLookup (.type T) "__getitem__" = pure (some (.builtin id))∧s.TypeIs v T∧wpAny (model X.prog X.w) X.A (getItem v (.ref sl)) (EP X pins σ Q) X.xe s
def tSl (r:V→Option Int→Option Int→Hp→VK→Prop) (te:TE) (tl th:TO):TE:=fun σ H Q=>te σ H fun x H1=>tl σ H1 fun l H2=>th σ H2 fun u H3=>r x l u H3 Q
theorem gu {r:V→Option Int→Option Int→Hp→VK→Prop} (hr:SlR X r) (he:PE X e te) (hl:PO X lo tl) (hu:PO X hi th):PE X (.Subscript e (.Slice lo hi none p2) pos) (tSl r te tl th):=by
  intro pins s σ H Q I h;refine Subscript_ (thn (he pins s σ H _ I h) fun v s1 ⟨x,H1,I1,r1,q1⟩=>?_);refine wpAny_Slice (thn (hl pins s1 σ H1 _ I1 q1) fun vl s2 ⟨l,H2,I2,pl,q2⟩=>thn (hu pins s2 σ H2 _ I2 q2) fun vu s3 ⟨u,H3,I3,pu,q3⟩=>?_);rw [evalPart_none];refine wpAny_pure ?_;have I4:Inv X pins σ H3 { s3 with heap:=s3.heap.push { cls:=.type "slice",data:=.fields #[vl,vu,.none] } }:=I3.kept (t':=s3.toks) fun b ob q=>aak _ q;obtain ⟨T,id,hT,ht,hg⟩:=hr pins { s3 with heap:=s3.heap.push { cls:=.type "slice",data:=.fields #[vl,vu,.none] } } σ H3 x v vl vu l u s3.heap.objs.size Q I4 r1 (Heap.IsSliceOf.new ..) pl pu q3;show wpAny (model X.prog X.w) X.A (subscriptTail e (.Slice lo hi none p2) v (.ref s3.heap.objs.size)) (EP X pins σ Q) X.xe { s3 with heap:=s3.heap.push { cls:=.type "slice",data:=.fields #[vl,vu,.none] } };exact tail_any (ops:=[.ref s3.heap.objs.size,v]) ht hT hg (by with_unfolding_all rfl)
def iH (xs:List V) (lo hi:Option Int):List V:=(xs.drop (HT.sIx xs.length 0 lo)).take (HT.sIx xs.length xs.length hi - HT.sIx xs.length 0 lo)
theorem mL (xs:List V) (lo hi:Option Int):(iH xs lo hi).length≤xs.length:=by
  unfold iH;rw [aap,aaR];lia
def vc (K:aaa):R2:=fun x y H Q=>∃ a b xs ys,x=.ref a∧y=.ref b∧SqT K H a xs∧SqT K H b ys∧xs≠[]∧xs.length+ys.length≤sizeLine ∧
  (ys=[]→Q (.ref a) H)∧(ys≠[]→∀ p,H p=none→Q (.ref p) (upd H p (.tup (xs++ys))))
theorem Vals.nil_iff {xs:List V} {us:List Value} (r:Vals xs us):us=[]↔xs=[]:=by
  cases r with
  | nil=>simp
  | cons _ _=>simp
theorem oB:OpR X (binaryOp .Add) (vc X.K):=by
  intro pins s σ H x y v u Q I rx ry h;obtain ⟨a,b,xs,ys,rfl,rfl,ha,hb,hx,hz,q1,q2⟩:=h;cases rx;cases ry;obtain ⟨its,r1,p1,_⟩:=I.tuple ha;obtain ⟨its2,r2,p2,_⟩:=I.tuple hb;refine HT.cat_tup p1 p2 (fun z=>hx (r1.nil_iff.mp z)) (fun z=>⟨.ref a,H,I,rfl,q1 (r2.nil_iff.mp z)⟩) (fun z=>?_) (by rw [← r1.length,← r2.length];exact hz);refine ⟨.ref s.heap.objs.size,_,I.laid (t':=s.toks) (o:=.tup (xs++ys)) (fun b ob q=>aak _ q) (aab _) ?_,rfl,q2 (fun w=>z (r2.nil_iff.mpr w)) _ (I.hok.fresh (aab _))⟩;exact ⟨by rw [aal];exact hz,_,r1.append r2,IsTup.new _ _⟩
end
open PySem PySem.Spec PyProof.Rows
def ixN (n:Nat) (i:Int):Option Nat:=if 0≤i then (if i < n then some i.toNat else none) else if -(n:Int)≤i then some (i+n).toNat else none
def atI {α:Type} (xs:List α) (i:Int):Option α:=(ixN xs.length i).bind fun j=>xs[j]?
theorem oI {n:Nat} {i:Int} {j:Nat} (h:ixN n i=some j):seqIndex? i n=some j∧j < n∧-(n:Int)≤i∧i < n:=by
  unfold ixN at h;by_cases h0:0≤i
  · rw [if_pos h0] at h;by_cases h1:i < n
    · rw [if_pos h1] at h;have e:i.toNat=j:=aaT h;exact ⟨by rw [seqIndex_of h0 h1,e],by lia,by lia,h1⟩
    · rw [if_neg h1] at h;cases h
  · rw [if_neg h0] at h;by_cases h1:-(n:Int)≤i
    · rw [if_pos h1] at h;have e:(i+n).toNat=j:=aaT h;exact ⟨by rw [seqIndex_neg (by lia) h1,e],by lia,h1,by lia⟩
    · rw [if_neg h1] at h;cases h
theorem lD {α:Type} {xs:List α} {i:Int} {v:α} (h:atI xs i=some v):∃ j,seqIndex? i xs.length=some j∧xs[j]?=some v∧j < xs.length∧-(xs.length:Int)≤i∧i < xs.length:=by
  unfold atI at h;cases e:ixN xs.length i with
  | none=>rw [e] at h;cases h
  | some j =>
    rw [e] at h;obtain ⟨h1,h2,h3,h4⟩:=oI e;exact ⟨j,h1,h,h2,h3,h4⟩
theorem fA {α:Type} {xs:List α} {j:Nat} {v:α} (h:xs[j]?=some v):atI xs (j:Int)=some v:=by
  have hj:j < xs.length:=(aaq.mp h).1;have e:ixN xs.length (j:Int)=some j:=by
    unfold ixN;rw [if_pos (by lia),if_pos (by lia)];simp
  unfold atI;rw [e];exact h
def sQ (b:Expr):Prop:=∀ o i,subscripted b false o i=operate [o,i] (getItem o i)
def IxR (X:Cx) (r:R2):Prop :=
  ∀ (value slice:Expr) (pins:List (Addr × Obj)) (s:Shared) (σ:St) (H:Hp) (x y:V) (v u:Value) (Q:VK),Inv X pins σ H s→RelV x v→RelV y u→r x y H Q →
    subscripted slice false v u=operate [v,u] (getItem v u)→wpAny (model X.prog X.w) X.A (subscriptTail value slice v u) (EP X pins σ Q) X.xe s
def MtR (X:Cx) (id:String) (r:V→List V→Hp→VK→Prop):Prop :=
  ∀ (pins:List (Addr × Obj)) (s:Shared) (σ:St) (H:Hp) (x:V) (xs:List V) (v:Value) (us:List Value) (Q:VK),Inv X pins σ H s→RelV x v→Vals xs us→r x xs H Q →
    wpAny (model X.prog X.w) X.A (call (.builtin id) (v :: us)) (EP X pins σ Q) X.xe s
section
variable {X:Cx} {a b:Expr} {ta tb:TE} {pos:Pos}
theorem aC {r:R2} (hr:IxR X r) (ha:PE X a ta) (hb:PE X b tb) (hs:sQ b):PE X (.Subscript a b pos) (tOp r ta tb):=by
  intro pins s σ H Q I h;exact Subscript_ (uI ha hb I h fun v u s2 x y H2 I2 rx ry q=>hr a b pins s2 σ H2 x y v u Q I2 rx ry q (hs _ _))
def v4 (K:aaa):R2:=fun x y H Q=>∃ p xs i v,x=.ref p∧y=.int i∧SqL K H p xs∧atI xs i=some v∧Q v H
def v0 (K:aaa):R2:=fun x y H Q=>∃ p xs i v,x=.ref p∧y=.int i∧SqT K H p xs∧atI xs i=some v∧Q v H
def v3:R2:=fun x y H Q=>∃ z i c,x=.str z∧y=.int i∧z.length≤sizeLine∧atI z.cps.toList i=some c∧Q (.str ⟨#[c]⟩) H
theorem aF:IxR X (v4 X.K):=by
  intro value slice pins s σ H x y v u Q I rx ry h hs;obtain ⟨p,xs,i,z,rfl,rfl,hq,he,q⟩:=h;cases rx;obtain ⟨t,rfl⟩:=ry;obtain ⟨its,r,pl,hz⟩:=I.list hq;obtain ⟨j,h1,h2,h3,h4,h5⟩:=lD he;obtain ⟨w,ew,rw'⟩:=r.get h2;have hl:=r.length;have hn:=fX;have fin:EP X pins σ Q w s:=⟨z,H,I,rw',q⟩
  by_cases h0:0≤i
  · have hj:i.toNat=j:=by
      rw [seqIndex_of h0 h5] at h1;exact aaT h1
    exact item_listR pl.isList h0 (by lia) (by rw [hj];simpa using ew) fin hs
  · have hj:(i+(its.toArray.size:Int)).toNat=j:=by
      rw [seqIndex_neg (by lia) h4] at h1;rw [aad,← hl];exact aaT h1
    exact subscriptTail_builtinR (x:=w) pl.isList.typeIs slot_list_getitem.lookup
      (wpAny_getItem_list_neg (Q:=fun r s'=>r=w∧EP X pins σ Q r s') pl.isList (by lia) (by rw [aad] <;> lia) (by lia) (by rw [hj];simpa using ew) ⟨rfl,fin⟩) hs
theorem bc:IxR X (v0 X.K):=by
  intro value slice pins s σ H x y v u Q I rx ry h hs;obtain ⟨p,xs,i,z,rfl,rfl,hq,he,q⟩:=h;cases rx;obtain ⟨t,rfl⟩:=ry;obtain ⟨its,r,pl,hz⟩:=I.tuple hq;obtain ⟨j,h1,h2,h3,h4,h5⟩:=lD he;obtain ⟨w,ew,rw'⟩:=r.get h2;have hl:=r.length;have hn:=fX;have fin:EP X pins σ Q w s:=⟨z,H,I,rw',q⟩
  exact subscriptTail_builtinR (x:=w) pl.typeIs slot_tuple_getitem.lookup
    (getItem_tuple (j:=j) (Q:=fun r s'=>r=w∧EP X pins σ Q r s') pl (by lia) (by lia) (by rw [aad,← hl];exact h1) (by simpa using ew) ⟨rfl,fin⟩) hs
theorem uv:IxR X v3:=by
  intro value slice pins s σ H x y v u Q I rx ry h hs;obtain ⟨z,i,c,rfl,rfl,hz,he,q⟩:=h;obtain ⟨t,rfl⟩:=rx;obtain ⟨t',rfl⟩:=ry;obtain ⟨j,h1,h2,h3,h4,h5⟩:=lD he;have hl:z.cps.toList.length=z.length:=by simp [Str.length]
  rw [hl] at h1 h4 h5;have hn:=fX;exact tail_any (typeIs_str s z t) slot_str_getitem.lookup (getItem_str (c:=c) (by
    have e1:decide (i < -(2 ^ 63:Int))=false:=decide_eq_false (by lia);have e2:decide (i ≥ 2 ^ 63)=false:=decide_eq_false (by lia);rw [e1,e2,Bool.or_false]) (by rw [h1];simpa using h2) ⟨.str ⟨#[c]⟩,H,I.tok _,⟨_,rfl⟩,q⟩) hs
theorem nE (its:List Value) (n j:Nat) (u:Value):Obj.mapSeq (·.setIfInBounds j u) { cls:=.type "list",data:=.seq its.toArray n }={ cls:=.type "list",data:=.seq (its.set j u).toArray n }:=by
  simp [Obj.mapSeq]
theorem Inv.lst {pins:List (Addr × Obj)} {σ:St} {H:Hp} {s:Shared} {p:Addr} {xs:List V} (I:Inv X pins σ H s) (h:H p=some (.lst xs)) :
    ∃ (its:List Value) (n:Nat),Vals xs its∧s.heap.get? p=some { cls:=.type "list",data:=.seq its.toArray n }∧xs.length≤sizeLine:=by
  obtain ⟨z,its,n,r,e⟩:=I.hok p _ h;exact ⟨its,n,r,e,z⟩
theorem Inv.lstUpd {pins:List (Addr × Obj)} {σ:St} {H:Hp} {s:Shared} {p:Addr} {xs ys:List V} {its its':List Value} {n n':Nat} {f:Obj→Obj} (I:Inv X pins σ H s) (h:H p=some (.lst xs))
    (ho:s.heap.get? p=some { cls:=.type "list",data:=.seq its.toArray n }) (hf:f { cls:=.type "list",data:=.seq its.toArray n }={ cls:=.type "list",data:=.seq its'.toArray n' }) (r:Vals ys its') (hz:ys.length≤sizeLine) (t:Nat) :
    Inv X pins σ (upd H p (.lst ys)) { s with heap:=s.heap.update p f,toks:=t }:=by
  have e:(s.heap.update p f).get? p=some { cls:=.type "list",data:=.seq its'.toArray n' }:=by
    rw [Heap.get?_update_self f ho (by rw [hf] <;> rfl),hf]
  refine I.write (x:=p) (e:=p) (by rw [h];trivial) (.inl rfl) (fun b u hb q=>(Heap.get?_update_other _ _ (abO hb)).trans q) ⟨_,e⟩ ?_;exact ⟨hz,its',n',r,e⟩
def vb:V→V→V→Hp→(Hp→Prop)→Prop:=fun o i v H Q=>∃ p xs k j,o=.ref p∧i=.int k∧H p=some (.lst xs)∧ixN xs.length k=some j∧Q (upd H p (.lst (xs.set j v)))
theorem lR:vJ X vb:=by
  intro pins s σ H o i v ov iv u Q I ro ri rv h;obtain ⟨p,xs,k,j,rfl,rfl,hp,hj,q⟩:=h;cases ro;obtain ⟨t,rfl⟩:=ri;obtain ⟨its,n,r,ho,hz⟩:=I.lst hp;obtain ⟨h1,h2,h3,h4⟩:=oI hj;have hl:=r.length;have hn:=fX;have I':Inv X pins σ (upd H p (.lst (xs.set j v))) { s with heap:=s.heap.update p (Obj.mapSeq (·.setIfInBounds j u)) } :=
    I.lstUpd hp ho (nE its n j u) (r.set rv j) (by rw [List.length_set];exact hz) s.toks
  by_cases h0:0≤k
  · have hk:k.toNat=j:=by
      rw [seqIndex_of h0 h4] at h1;exact aaT h1
    exact PySem.W.ki_setAt ho h0 (by lia) (by rw [aad,← hl];exact h4) (by rw [hk];exact ⟨_,I',q⟩)
  · have hk:(k+(its.toArray.size:Int)).toNat=j:=by
      rw [seqIndex_neg (by lia) h3] at h1;rw [aad,← hl];exact aaT h1
    exact PySem.W.ki_setBack ho (by lia) (by rw [aad,← hl];exact h3) (by lia) (by rw [hk];exact ⟨_,I',q⟩)
theorem kG (lo hi:Option Int) (n:Nat):(sliceBounds lo hi none n).1=((HT.sIx n 0 lo:Nat):Int)∧(sliceBounds lo hi none n).2.1=((HT.sIx n n hi:Nat):Int)∧(sliceBounds lo hi none n).2.2=1:=by
  refine ⟨?_,?_,rfl⟩
  · cases lo with
    | none=>simp [sliceBounds,HT.sIx]
    | some i =>
      simp only [sliceBounds,HT.sIx,Option.getD_none,show (1:Int) > 0 by decide,if_true];by_cases h:i < 0
      · simp only [h,if_true] <;> lia
      · simp only [h,if_false] <;> lia
  · cases hi with
    | none=>simp [sliceBounds,HT.sIx]
    | some i =>
      simp only [sliceBounds,HT.sIx,Option.getD_none,show (1:Int) > 0 by decide,if_true];by_cases h:i < 0
      · simp only [h,if_true] <;> lia
      · simp only [h,if_false] <;> lia
theorem jE (its:List Value) (lo hi:Option Int):slicePick its.toArray lo hi none=((its.drop (HT.sIx its.length 0 lo)).take (HT.sIx its.length its.length hi - HT.sIx its.length 0 lo)).toArray:=by
  obtain ⟨h1,h2,h3⟩:=kG lo hi its.toArray.size;unfold slicePick;rw [h1,h2,h3];simp only [sliceRange_one,pick_run,aad] <;> rfl
def vX (K:aaa):V→Option Int→Option Int→Hp→VK→Prop:=fun x lo hi H Q=>∃ a xs,x=.ref a∧SqL K H a xs∧∀ p,H p=none→Q (.ref p) (upd H p (.lst (iH xs lo hi)))
theorem iL:SlR X (vX X.K):=by
  intro pins s σ H x v vl vu lo hi sl Q I rx hs pl pu h;obtain ⟨a,xs,rfl,hx,q⟩:=h;cases rx;obtain ⟨its,r,ht,hz⟩:=I.list hx;have hlen:=r.length;refine ⟨"list",_,slot_list_getitem.lookup,ht.isList.typeIs,?_⟩;refine wpAny_getItem_list_slice ht.isList hs pl pu .none (by simp) ?_ (by rw [aad] <;> lia);rw [jE,← hlen];refine ⟨.ref s.heap.objs.size,_,I.laid (t':=s.toks) (o:=.lst (iH xs lo hi)) (fun b ob q=>aak _ q) (aab _) ?_,rfl,q _ (I.hok.fresh (aab _))⟩;exact ⟨aaW (mL xs lo hi) hz,_,0,(r.drop (HT.sIx xs.length 0 lo)).take (HT.sIx xs.length xs.length hi - HT.sIx xs.length 0 lo),aaN _ rfl⟩
def df:V→Bool
  | .non=>true
  | .bl _=>true
  | .int _=>true
  | .str _=>true
  | _=>false
def eqV:V→V→Bool
  | .non,.non=>true
  | .bl a,.bl b=>a == b
  | .bl a,.int b=>(if a then 1 else 0) == b
  | .int a,.bl b=>a == (if b then 1 else 0)
  | .int a,.int b=>a == b
  | .str a,.str b=>a == b
  | _,_=>false
theorem rl {A:Around} {s:Shared} {y x:V} {u v:Value} (ry:RelV y u) (rx:RelV x v) (fy:df y=true) (fx:df x=true):SeqAt.EqAt A s u v (eqV y x):=by
  cases y with
  | non =>
    cases ry;cases x with
    | non=>cases rx;exact SeqAt.EqAt.same _
    | bl b=>cases rx;exact SeqAt.EqAt.none_bool b
    | int b=>obtain ⟨t,rfl⟩:=rx;exact SeqAt.EqAt.none_int b t
    | str b=>obtain ⟨t,rfl⟩:=rx;exact SeqAt.EqAt.none_str b t
    | _=>exact absurd (show false=true from fx) aah
  | bl a =>
    cases ry;cases x with
    | non=>cases rx;exact SeqAt.EqAt.bool_none a
    | bl b=>cases rx;exact SeqAt.EqAt.bool_bool a b
    | int b=>obtain ⟨t,rfl⟩:=rx;exact SeqAt.EqAt.bool_int a b t
    | str b=>obtain ⟨t,rfl⟩:=rx;exact SeqAt.EqAt.bool_str a b t
    | _=>exact absurd (show false=true from fx) aah
  | int a =>
    obtain ⟨t',rfl⟩:=ry;cases x with
    | non=>cases rx;exact SeqAt.EqAt.int_none a t'
    | bl b=>cases rx;exact SeqAt.EqAt.int_bool a t' b
    | int b=>obtain ⟨t,rfl⟩:=rx;exact SeqAt.EqAt.int_int a t' b t
    | str b=>obtain ⟨t,rfl⟩:=rx;exact SeqAt.EqAt.int_str a t' b t
    | _=>exact absurd (show false=true from fx) aah
  | str a =>
    obtain ⟨t',rfl⟩:=ry;cases x with
    | non=>cases rx;exact SeqAt.EqAt.str_none a t'
    | bl b=>cases rx;exact SeqAt.EqAt.str_bool a t' b
    | int b=>obtain ⟨t,rfl⟩:=rx;exact SeqAt.EqAt.str_int a t' b t
    | str b=>obtain ⟨t,rfl⟩:=rx;exact SeqAt.EqAt.str_str a t' b t
    | _=>exact absurd (show false=true from fx) aah
  | _=>exact absurd (show false=true from fy) aah
def eqU (x:V) (u:Value):Bool:=match u with
  | .none=>eqV .non x
  | .bool b=>eqV (.bl b) x
  | .int i _=>eqV (.int i) x
  | .str z _=>eqV (.str z) x
  | _=>false
theorem rj {x y:V} {u:Value} (r:RelV y u) (f:df y=true):eqU x u=eqV y x:=by
  cases y with
  | non=>cases r;rfl
  | bl b=>cases r;rfl
  | int i=>obtain ⟨t,rfl⟩:=r;rfl
  | str z=>obtain ⟨t,rfl⟩:=r;rfl
  | _=>exact absurd (show false=true from f) aah
theorem gO {x:V}:∀ {xs:List V} {us:List Value},Vals xs us→xs.all df=true→us.any (eqU x)=xs.any fun y=>eqV y x
  | _,_,.nil,_=>rfl
  | y :: xs,u :: us,.cons r t,f=>by
    rw [List.all_cons,abd] at f;rw [abZ,abZ,rj r f.1,gO t f.2]
theorem eY {A:Around} {s:Shared} {x:V} {v:Value} (rx:RelV x v) (fx:df x=true):∀ {xs:List V} {us:List Value},Vals xs us→xs.all df=true→∀ u∈us,SeqAt.EqAt A s u v (eqU x u)
  | _,_,.nil,_=>fun u hu=>by cases hu
  | y :: xs,u :: us,.cons r t,f=>fun u' hu=>by
    rw [List.all_cons,abd] at f;rcases aaE.mp hu with rfl|hu
    · rw [rj r f.1];exact rl r rx f.1 fx
    · exact eY rx fx t f.2 u' hu
def inV (x:V) (xs:List V):Bool:=xs.any fun y=>eqV y x
def rIn (K:aaa) (neg:Bool):R2:=fun x y H Q=>∃ p xs,y=.ref p∧(SqL K H p xs∨SqT K H p xs)∧df x=true∧xs.all df=true∧Q (.bl (if neg then !inV x xs else inV x xs)) H
theorem j6:OpR X (compareOp .In) (rIn X.K false):=by
  intro pins s σ H x y v u Q I rx ry h;obtain ⟨p,xs,rfl,hq,fx,fs,q⟩:=h;cases ry;rcases hq with hq|hq
  · obtain ⟨its,r,pl,hz⟩:=I.list hq;refine SeqAt.in_listAt (eqU x) pl.isList (fun w hw=>eY rx fx r fs w (by simpa using hw)) ⟨.bl _,H,I,rfl,?_⟩;rw [show its.toArray.any (eqU x)=its.any (eqU x) by simp,gO r fs];exact q
  · obtain ⟨its,r,pl,hz⟩:=I.tuple hq;refine SeqAt.in_tupleAt (eqU x) pl (fun w hw=>eY rx fx r fs w (by simpa using hw)) ⟨.bl _,H,I,rfl,?_⟩;rw [show its.toArray.any (eqU x)=its.any (eqU x) by simp,gO r fs];exact q
theorem kU:OpR X (compareOp .NotIn) (rIn X.K true):=by
  intro pins s σ H x y v u Q I rx ry h;obtain ⟨p,xs,rfl,hq,fx,fs,q⟩:=h;cases ry;rcases hq with hq|hq
  · obtain ⟨its,r,pl,hz⟩:=I.list hq;refine SeqAt.notIn_listAt (eqU x) pl.isList (fun w hw=>eY rx fx r fs w (by simpa using hw)) ⟨.bl _,H,I,rfl,?_⟩;rw [show its.toArray.any (eqU x)=its.any (eqU x) by simp,gO r fs];exact q
  · obtain ⟨its,r,pl,hz⟩:=I.tuple hq;refine SeqAt.notIn_tupleAt (eqU x) pl (fun w hw=>eY rx fx r fs w (by simpa using hw)) ⟨.bl _,H,I,rfl,?_⟩;rw [show its.toArray.any (eqU x)=its.any (eqU x) by simp,gO r fs];exact q
theorem gx:OpR X (compareOp .NotIn) (fun x y H Q=>∃ i j,x=.str i∧y=.str j∧Q (.bl (!(!(aaX j i 0 j.length 1).isEmpty))) H):=by
  intro pins s σ H x y v u Q I rx ry h;obtain ⟨i,j,rfl,rfl,q⟩:=h;obtain ⟨t,rfl⟩:=rx;obtain ⟨t',rfl⟩:=ry;exact notIn_str ⟨.bl _,H,I,rfl,q⟩
theorem ar:dh X (.builtin "len") (fun xs H Q=>∃ p ys,xs=[.ref p]∧(SqL X.K H p ys∨SqT X.K H p ys)∧Q (.int ys.length) H):=by
  intro pins s σ H xs us Q I r h;obtain ⟨p,ys,rfl,hq,q⟩:=h;obtain ⟨u,rfl,rx⟩:=fZ r;cases rx;have hn:=fX;rcases hq with hq|hq
  · obtain ⟨its,r',pl,hz⟩:=I.list hq;have hlen:=r'.length;exact Calls.call_len_list pl.isList (by simp only [aad] <;> lia) ⟨.int ys.length,H,I.tok _,⟨s.toks+1,by rw [aad,hlen]⟩,q⟩
  · obtain ⟨its,r',pl,hz⟩:=I.tuple hq;have hlen:=r'.length;exact len_tuple pl (by simp only [aad] <;> lia) ⟨.int ys.length,H,I.tok _,⟨s.toks+1,by rw [aad,hlen]⟩,q⟩
theorem lB:dh X (.builtin "len") (fun xs H Q=>∃ z,xs=[.str z]∧z.length≤sizeLine∧Q (.int z.length) H):=by
  intro pins s σ H xs us Q I r h;obtain ⟨z,rfl,hz,q⟩:=h;obtain ⟨u,rfl,t,rfl⟩:=fZ r;have hn:=fX;exact len_str (by lia) ⟨.int z.length,H,I.tok _,⟨_,rfl⟩,q⟩
theorem lA:dh X (.type "list") (fun xs H Q=>∃ p ys,xs=[.ref p]∧(SqL X.K H p ys∨SqT X.K H p ys)∧∀ l,H l=none→Q (.ref l) (upd H l (.lst ys))):=by
  intro pins s σ H xs us Q I r h;obtain ⟨p,ys,rfl,hq,q⟩:=h;obtain ⟨u,rfl,rx⟩:=fZ r;cases rx;have fin:∀ (its:List Value),Vals ys its→ys.length≤sizeLine→∀ (h':Heap) (c':Nat),(∀ b o',s.heap.get? b=some o'→h'.get? b=some o') →
      h'.get? s.heap.objs.size=some { cls:=.type "list",dict:=none,data:=.seq its.toArray c',slots:=#[] }→EP X pins σ Q (.ref s.heap.objs.size) { s with heap:=h' }:=fun its r' hz h' c' kp e =>
    ⟨.ref s.heap.objs.size,_,I.laid (t':=s.toks) kp (aab _) (show ObjOk X.prog X.w _ h' _ (.lst ys) from ⟨hz,its,c',r',e⟩),rfl,q _ (I.hok.fresh (aab _))⟩
  rcases hq with hq|hq
  · obtain ⟨its,r',pl,hz⟩:=I.list hq;have hlen:=r'.length;obtain ⟨o,ho,hc,n,hd⟩:=pl.isList;exact call_list_seq p (.inl rfl) ho hc hd (fun h' c' kp e=>fin its r' hz h' c' kp e) (by simp only [aad] <;> lia)
  · obtain ⟨its,r',pl,hz⟩:=I.tuple hq;have hlen:=r'.length;obtain ⟨o,ho,hc,n,hd⟩:=pl;exact call_list_seq p (.inr rfl) ho hc hd (fun h' c' kp e=>fin its r' hz h' c' kp e) (by simp only [aad] <;> lia)
theorem dz:dh X (.type "tuple") (fun xs H Q=>∃ p ys,xs=[.ref p]∧((SqL X.K H p ys∧∀ l,H l=none→Q (.ref l) (upd H l (.tup ys)))∨(SqT X.K H p ys∧Q (.ref p) H))):=by
  intro pins s σ H xs us Q I r h;obtain ⟨p,ys,rfl,h⟩:=h;obtain ⟨u,rfl,rx⟩:=fZ r;cases rx;rcases h with ⟨hq,q⟩|⟨hq,q⟩
  · obtain ⟨its,r',pl,hz⟩:=I.list hq;have hlen:=r'.length;refine call_tuple_list pl.isList (fun h' kp=>?_) (by simp only [aad] <;> lia);have I1:Inv X pins σ H { s with heap:=h' }:=I.kept (t':=s.toks) kp;have I2:Inv X pins σ (upd H h'.objs.size (.tup ys)) { s with heap:=h'.push { cls:=.type "tuple",data:=.seq its.toArray } } :=
      I1.laid (t':=s.toks) (fun b o e=>aak _ e) (aab _) (show ObjOk X.prog X.w _ _ _ (.tup ys) from ⟨hz,its,r',IsTup.new _ _⟩)
    exact ⟨.ref h'.objs.size,_,I2,rfl,q _ (I1.hok.fresh (aab _))⟩
  · obtain ⟨its,r',pl,hz⟩:=I.tuple hq;exact call_tuple_same pl ⟨.ref p,H,I,rfl,q⟩
def tyV (K:aaa) (T:String) (x:V) (H:Hp):Prop:=match x with
  | .str _=>T = "str"
  | .int _=>T = "int"
  | .ref p=>(T = "list"∧∃ xs,SqL K H p xs)∨(T = "tuple"∧∃ o,K.lookup p=some o∧o.cls=.type "tuple"∧o.dict=none) ∨
      (T = "dict"∧((∃ kvs,H p=some (.dK kvs))∨∃ kvs,H p=some (.dT kvs)))∨(T = "set"∧∃ S n,H p=some (.set S n))
  | _=>False
theorem mS {pins:List (Addr × Obj)} {σ:St} {H:Hp} {s:Shared} {T:String} {x:V} {v:Value} (I:Inv X pins σ H s) (r:RelV x v) (ty:tyV X.K T x H) :
    s.TypeIs v T∧∀ a,v=.ref a→∃ ob,s.heap.get? a=some ob∧ob.dict=none:=by
  cases x with
  | str z =>
    obtain ⟨t,rfl⟩:=r;cases (show T = "str" from ty);exact ⟨typeIs_str s z t,fun _ e=>nomatch e⟩
  | int i =>
    obtain ⟨t,rfl⟩:=r;cases (show T = "int" from ty);exact ⟨typeIs_int s i t,fun _ e=>nomatch e⟩
  | ref p =>
    cases r;rcases ty with ⟨rfl,xs,hq⟩|⟨rfl,o,hk,hc,hd⟩|⟨rfl,hk⟩|⟨rfl,S,n,hk⟩
    · obtain ⟨its,_,pl,_⟩:=I.list hq;refine ⟨pl.isList.typeIs,fun a e=>?_⟩;cases e;obtain ⟨o,n,e,c,hd,_⟩:=pl;exact ⟨o,e,hd⟩
    · refine ⟨⟨o,I.kIn p o hk,hc⟩,fun a e=>?_⟩;cases e;exact ⟨o,I.kIn _ o hk,hd⟩
    · have z:∃ o,s.heap.get? p=some o∧o.ExactDict:=by
        rcases hk with ⟨kvs,hk⟩|⟨kvs,hk⟩
        · obtain ⟨_,_,_,_,o,_,_,e,ex,_⟩:=I.hok p _ hk;exact ⟨o,e,ex⟩
        · obtain ⟨_,_,_,_,o,_,_,e,ex,_⟩:=I.hok p _ hk;exact ⟨o,e,ex⟩
      obtain ⟨o,e,ex⟩:=z;refine ⟨⟨o,e,ex.1⟩,fun a e2=>?_⟩;cases e2;exact ⟨o,e,ex.2.1⟩
    · obtain ⟨o,_,_,_,e,ex,_⟩:=I.hok p _ hk;refine ⟨⟨o,e,ex.1⟩,fun a e2=>?_⟩;cases e2;exact ⟨o,e,ex.2.1⟩
  | _=>exact abG ty
def vU (K:aaa) (T:String) (r:V→List V→Hp→VK→Prop) (to:TE):TE:=fun σ H Q=>to σ H fun x H1=>tyV K T x H1∧r x [] H1 Q
def tBM (K:aaa) (T:String) (r:V→List V→Hp→VK→Prop) (to:TE) (t:TA):TE:=fun σ H Q=>to σ H fun x H1=>tyV K T x H1∧t σ H1 fun xs H2=>r x xs H2 Q
variable {o e:Expr} {es:List Expr} {to:TE} {t:TA} {name:Str} {apos cpos:Pos} {T id:String} {r:V→List V→Hp→VK→Prop}
theorem t8 (pa:PlainAttrs T) (slot:Slot T name id) (hty:typeOf (.builtin id)=pure (.type "method_descriptor")) (hm:MtR X id r) (ho:PE X o to)
    (hbase:attributeBase o name X.env (eval o X.env)=eval o X.env:=by rfl) (hline:(apos.endLine == cpos.line)=true:=by rfl):PE X (.Call (.Attribute o name apos) [] [] cpos) (vU X.K T r to):=by
  intro pins s σ H Q I h;refine wpAny_Call_method0_late hbase hline (thn (ho pins s σ H _ I h) fun v s1 ⟨x,H1,I1,r1,ty,q1⟩=>?_);obtain ⟨h1,h2⟩:=mS I1 r1 ty;exact ⟨T,id,pa,slot,hty,h1,h2,abR rfl (PySem.evalArgs_none (hm pins s1 σ H1 x [] v [] Q I1 r1 .nil q1))⟩
theorem l9 (pa:PlainAttrs T) (slot:Slot T name id) (hty:typeOf (.builtin id)=pure (.type "method_descriptor")) (hm:MtR X id r) (ho:PE X o to) (ha:PA X (e :: es) t)
    (hbase:attributeBase o name X.env (eval o X.env)=eval o X.env:=by rfl)
    (hfew:((backTo cpos (starEach (e :: es) X.env)).all (fun x=>!x.1) && (backToKw cpos (keywordEach [] X.env)).all (fun x=>x.1.isSome)
      && decide ((e :: es).length+([]:List Keyword).length+(if ([]:List Keyword).isEmpty then 0 else 1) < 30))=true:=by rfl)
    (hline:(apos.endLine == cpos.line)=true:=by rfl) (hs:starEach (e :: es) X.env=(false,eval e X.env) :: starEach es X.env:=by rfl) (hplain:(backTo cpos (starEach es X.env)).any (·.1)=false:=by rfl) :
    PE X (.Call (.Attribute o name apos) (e :: es) [] cpos) (tBM X.K T r to t):=by
  intro pins s σ H Q I h;refine wpAny_Call_method_late hbase hfew hline rfl (thn (ho pins s σ H _ I h) fun v s1 ⟨x,H1,I1,r1,ty,q1⟩=>?_);obtain ⟨h1,h2⟩:=mS I1 r1 ty;refine ⟨T,id,pa,slot,hty,h1,h2,?_⟩;have hA:=ha cpos pins s1 σ H1 _ I1 q1;rw [hs] at hA ⊢;refine abR (by show (false || (backTo cpos (starEach es X.env)).any (·.1))=false;rw [hplain] <;> rfl) (Calls.evalArgs_plain ?_);exact thn hA fun us s2 ⟨vs,H2,I2,r2,q2⟩=>hm pins s2 σ H2 x vs v us Q I2 r1 r2 q2
end
open PySem PySem.Spec PyProof.Rows
def MtM (X:Cx) (id:String) (r:V→List V→Hp→VK→Prop):Prop :=
  ∀ (pins:List (Addr × Obj)) (s:Shared) (σ:St) (H:Hp) (x:V) (xs:List V) (v:Value) (us:List Value) (Q:VK),Inv X pins σ H s→RelV x v→Vals xs us→r x xs H Q →
    wpAny (model X.prog X.w) X.A (call (.builtin id) (v :: us)) (EP X pins σ Q) X.xe s
theorem Vals.one {x:V} {us:List Value} (h:Vals [x] us):∃ u,us=[u]∧RelV x u:=by
  cases h with
  | cons r t=>cases t;exact ⟨_,rfl,r⟩
theorem Vals.zero:∀ {us:List Value},Vals [] us→us=[]
  | _,.nil=>rfl
theorem Vals.dropLast {xs:List V} {us:List Value} (h:Vals xs us):Vals xs.dropLast us.dropLast:=by
  induction h with
  | nil=>exact .nil
  | cons r t ih =>
    cases t with
    | nil=>exact .nil
    | cons q t'=>exact .cons r ih
theorem Vals.rep {xs:List V} {us:List Value} (h:Vals xs us):∀ k:Nat,Vals (aaw k xs).flatten (aaw k us).flatten
  | 0=>.nil
  | k+1=>by
    rw [abi,abi,aa3,aa3];exact Vals.append h (Vals.rep h k)
theorem nI {α:Type} (l:List α):l.eraseIdx (l.length - 1)=l.dropLast:=by
  induction l with
  | nil=>rfl
  | cons a r ih =>
    cases r with
    | nil=>rfl
    | cons b r =>
      have e:(a :: b :: r).length - 1=((b :: r).length - 1)+1:=by
        have h1:(a :: b :: r).length=r.length+2:=rfl;have h2:(b :: r).length=r.length+1:=rfl;lia
      rw [e,List.eraseIdx_cons_succ,ih]
      all_goals rfl
theorem ke (its:List Value):∀ (k:Nat) (acc:List Value),
    List.foldl (fun x1 x2=>x1++x2) acc.toArray (aaw k its.toArray)=(acc++(aaw k its).flatten).toArray
  | 0,acc=>by simp
  | k+1,acc=>by
    have e:acc.toArray++its.toArray=(acc++its).toArray:=by simp
    have e2:(acc++its)++(aaw k its).flatten=acc++(aaw (k+1) its).flatten:=by
      rw [abi,aa3,abH]
    rw [← e2,← ke its k (acc++its),← e,abi,List.foldl_cons]
section
variable {X:Cx} {pins:List (Addr × Obj)} {σ:St} {H:Hp} {s:Shared} {l b:Addr} {xs ys zs:List V}
theorem Inv.lset {its its':List Value} {n:Nat} {f:Array Value→Array Value} {t':Nat} (I:Inv X pins σ H s) (hH:H l=some (.lst xs))
    (e:s.heap.get? l=some { cls:=.type "list",data:=.seq its.toArray n }) (hf:f its.toArray=its'.toArray) (hv:Vals ys its') (hz:ys.length≤sizeLine) :
    Inv X pins σ (upd H l (.lst ys)) { s with heap:=s.heap.update l (Obj.mapSeq f),toks:=t' }:=by
  have q:=PySem.IsL.update e f;rw [hf] at q;refine I.write (x:=l) (e:=l) (by rw [hH];exact trivial) (.inl rfl) (fun b' u hb hu=>(Heap.get?_update_other s.heap (Obj.mapSeq f) (abO hb)).trans hu) ⟨_,q⟩ ?_;exact ⟨hz,its',_,hv,q⟩
theorem Inv.lnew {its:List Value} {t':Nat} (I:Inv X pins σ H s) (hv:Vals ys its) (hz:ys.length≤sizeLine) :
    Inv X pins σ (upd H s.heap.objs.size (.lst ys)) { s with heap:=s.heap.push { cls:=.type "list",data:=.seq its.toArray },toks:=t' } :=
  I.laid (fun _ _ q=>aak _ q) (aab _) ⟨hz,its,0,hv,aaN _ rfl⟩
theorem Inv.fresh (I:Inv X pins σ H s):H s.heap.objs.size=none:=I.hok.fresh (aab _)
theorem Inv.lstM (I:Inv X pins σ H s) (hH:H l=some (.lst xs)):xs.length≤sizeLine∧∃ (its:List Value) (n:Nat),Vals xs its∧xs.length=its.length∧s.heap.get? l=some { cls:=.type "list",data:=.seq its.toArray n }:=by
  obtain ⟨z,its,n,r,e⟩:=I.hok l _ hH;exact ⟨z,its,n,r,r.length,e⟩
theorem mv {n:Nat} (h:n≤sizeLine):abu n=false:=by
  unfold abu;exact decide_eq_false (by lia)
end
section
variable {X:Cx}
def rX:V→List V→Hp→VK→Prop:=fun x vs H Q=>∃ l xs y,x=.ref l∧vs=[y]∧H l=some (.lst xs)∧xs.length < sizeLine∧Q .non (upd H l (.lst (xs++[y])))
theorem dH:MtM X "list.append" rX:=by
  intro pins s σ H x vs v us Q I rx rv h;obtain ⟨l,xs,y,rfl,rfl,hH,hz,q⟩:=h;cases rx;obtain ⟨u,rfl,ru⟩:=rv.one;obtain ⟨z,its,n,r,hl,e⟩:=I.lstM hH;refine call_meets F.slot_list_append ⟨_,e,rfl⟩ F.entry_list_append (F.args_list_append_2 _ _) (PySem.list_append l its.toArray n u (by rw [aad];lia)) ⟨e,?_⟩;refine ⟨.non,_,I.lset (its':=its++[u]) hH e (by simp) (r.append (.cons ru .nil)) ?_,rfl,q⟩;rw [aal,abD];lia
def vZ:V→List V→Hp→VK→Prop:=fun x vs H Q=>∃ l xs y,x=.ref l∧vs=[]∧H l=some (.lst xs)∧xs[xs.length - 1]?=some y∧Q y (upd H l (.lst xs.dropLast))
theorem ue:MtM X "list.pop" vZ:=by
  intro pins s σ H x vs v us Q I rx rv h;obtain ⟨l,xs,y,rfl,rfl,hH,hy,q⟩:=h;cases rx;have hus:=rv.zero;subst hus;obtain ⟨z,its,n,r,hl,e⟩:=I.lstM hH;obtain ⟨u,hu,ru⟩:=r.get hy;have hy':its.toArray[its.toArray.size - 1]?=some u:=by
    show its.toArray[its.length - 1]?=some u;rw [← Array.getElem?_toList,← hl];exact hu
  refine call_meets F.slot_list_pop ⟨_,e,rfl⟩ F.entry_list_pop (F.args_list_pop_1 _) (MeetsSeq.list_pop_last l its.toArray n u hy' (by rw [aad];lia)) ⟨e,?_⟩;refine ⟨y,_,I.lset (its':=its.dropLast) hH e ?_ r.dropLast ?_,ru,q⟩
  · show its.toArray.eraseIdxIfInBounds (its.toArray.size - 1)=its.dropLast.toArray;rw [aad,List.eraseIdxIfInBounds_toArray,nI]
  · rw [List.length_dropLast];lia
def v5:R2:=fun x y H Q=>∃ l b xs zs,x=.ref l∧y=.ref b∧H l=some (.lst xs)∧H b=some (.lst zs)∧xs.length+zs.length≤sizeLine∧∀ p,H p=none→Q (.ref p) (upd H p (.lst (xs++zs)))
theorem jk:OpR X (binaryOp .Add) v5:=by
  intro pins s σ H x y v u Q I rx ry h;obtain ⟨l,b,xs,zs,rfl,rfl,hH,hB,hz,q⟩:=h;cases rx;cases ry;obtain ⟨z,its,n,r,hl,e⟩:=I.lstM hH;obtain ⟨z2,its2,n2,r2,hl2,e2⟩:=I.lstM hB;refine PySem.P.add_list e e2 ?_ (by rw [aad,aad];lia);have ea:its.toArray++its2.toArray=(its++its2).toArray:=by simp
  rw [ea];exact ⟨.ref _,_,I.lnew (t':=s.toks) (r.append r2) (by rw [aal];lia),rfl,q _ I.fresh⟩
def vY:R2:=fun x y H Q=>∃ l k xs,x=.ref l∧y=.int k∧H l=some (.lst xs)∧-(2 ^ 63)≤k∧k < 2 ^ 63∧xs.length * k.toNat≤sizeLine ∧
  ∀ p,H p=none→Q (.ref p) (upd H p (.lst (aaw k.toNat xs).flatten))
theorem sw {α:Type} (xs:List α) (k:Nat):(aaw k xs).flatten.length=k * xs.length:=by
  induction k with
  | zero=>simp
  | succ k ih=>rw [abi,aa3,aal,ih,Nat.succ_mul,Nat.add_comm]
theorem t9:OpR X (binaryOp .Mult) vY:=by
  intro pins s σ H x y v u Q I rx ry h;obtain ⟨l,k,xs,rfl,rfl,hH,h1,h2,hz,q⟩:=h;cases rx;obtain ⟨t,rfl⟩:=ry;obtain ⟨z,its,n,r,hl,e⟩:=I.lstM hH;have hlen:its.toArray.size * k.toNat≤sizeLine:=by rw [aad,← hl];exact hz
  have hcap:¬ its.toArray.size * k.toNat > (2 ^ 63 - 1) / 8:=by
    have : (sizeLine:Nat)≤(2 ^ 63 - 1) / 8:=by decide
    lia
  have hfit:¬ (!Builtin.List.listFitsIndex k)=true:=by
    rw [fitsIndex_both h1 h2];exact aah
  have hlong:¬ abu (its.toArray.size * k.toNat)=true:=by
    rw [mv hlen];exact aah
  have hnew:List.foldl (fun x1 x2=>x1++x2) #[] (aaw (if its.toArray.isEmpty=true then 0 else k.toNat) its.toArray)=(aaw k.toNat its).flatten.toArray:=by
    have f0:∀ m:Nat,List.foldl (fun x1 x2=>x1++x2) #[] (aaw m its.toArray)=(aaw m its).flatten.toArray:=fun m=>by
      have:=ke its m [];rw [List.nil_append] at this;exact this
    rw [f0];cases its with
    | nil=>simp
    | cons a r'=>rw [if_neg (by simp)]
  refine wpAny_binaryOp_repeat_ref (T:="list") (U:="int") (by decide) ⟨_,e,rfl⟩ (fun s'=>typeIs_int s' k t) noFill_list_mul F.fills_int_mul F.slot_int_rmul repeat_list F.slot_int_index.lookup
    (call_meets F.slot_int_rmul (typeIs_int s k t) F.entry_int_rmul (F.args_int_rmul_2 _ _) (int___rmul___int_list k t l its.toArray n)
      ⟨e,rfl,⟨_,e,rfl⟩,call_meets F.slot_list_mul ⟨_,e,rfl⟩ F.entry_list_mul (F.args_list_mul_2 _ _) (AutoListH.list___mul___list_int_3 l its.toArray n k t hfit hcap hlong) ⟨e,?_⟩⟩)
  rw [hnew];exact ⟨.ref _,_,I.lnew (t':=s.toks) (r.rep k.toNat) (by rw [sw,abV];exact hz),rfl,q _ I.fresh⟩
end
section
variable {prog:Program} {w:World} {A:Around} {E:Value→Shared→Prop} {s:Shared}
end
section
variable {X:Cx}
end
end L2
namespace Att
open PySem PySem.W PySem.Calls PyProof.Rows
theorem iG {P:Params} {h:Heap}:∀ (ns:List Int) (vs:List Value),WellAll P h vs (ns.map WData.int)→IntsAre vs ns:=by
  intro ns
  induction ns with
  | nil =>
    intro vs w;rw [abE] at w;cases w;exact .nil
  | cons n ns ih =>
    intro vs w;rw [aaz] at w;cases w with
    | cons a b =>
      cases a;exact .cons _ _ (ih _ b)
theorem pA {l:OpenLaw} {n:Nat} (hn:l.most=some n) {P:Params} {h:Heap} {args:List WData} {vals:List Value}
    (hpre:l.row.toRowW.claim.pre args=true) (hwl:WellAll P h vals args) :
    ∃ a vs ns,vals=[Value.ref a]∧args=[WData.list (ns.map WData.int)]∧h.get? a=some { cls:=.type "list",data:=.seq vs.toArray }∧IntsAre vs ns∧ns.length≤n:=by
  have hsh:WShape.hasAll [] args [.list .int]=true:=(pre_splitW hpre).1;have hc:l.pre.holds [] { args:=args }=true:=(pre_splitW hpre).2;obtain ⟨d,r,rfl,h1,h2⟩:=hasAllW_cons hsh;obtain rfl:=hasAllW_nil h2;obtain ⟨xs,rfl,h3⟩:=hasW_list h1;obtain ⟨ns,rfl⟩:=items_int h3;have hlen:ns.length≤n:=by
    unfold OpenLaw.pre at hc;have h4:(WTm.not (.lt (.lit (.int (n:Int))) (.len (.arg 0)))).holds [] { args:=[.list (ns.map .int)] }=true:=by
      have h4:=(holds_andW hc).1;rw [hn] at h4;exact h4
    have h5:=condW_of h4 (w_not (w_lt w_lit (w_len_list (w_arg rfl))));rw [aac] at h5;refine Nat.le_of_not_lt fun q=>?_;have q':(n:Int) < ((ns.length:Nat):Int):=by lia
    first
      | (rw [decide_eq_true q'] at h5;exact absurd h5 (by decide))
      | (simp at h5;lia)
  cases hwl with
  | cons w1 w2 =>
    cases w2;cases w1 with
    | list ho hall=>exact ⟨_,_,ns,rfl,rfl,ho,iG ns _ hall,hlen⟩
theorem pE (l:OpenLaw) (args:List WData):l.row.toRowW.claim.post args (.bool true) args=true :=
  postW_of (r:=l.row.toRowW) (X:=(true == true))
    (show WShape.has [] (.bool true) .bool=true by first|rfl|decide|simp [WShape.has,WShape.arms,WShape.armsAll])
    (show (WTm.eq .res (.lit (.bool true))).value [] { args:=args,res:=some (.bool true),after:=args }=some (.bool (true == true)) from w_eq_bool (w_res rfl) w_lit) rfl
theorem attach_call {l:OpenLaw} {n:Nat} {q:Program} {loose:List Str} {XP:(Str→Option Value)→Heap→Prop} {YP:World→Heap→Prop} {d:DefRec}
    (hn:l.most=some n) (hdf:d.params.defaults=[])
    (call:∀ (w:World) (s₀ s₁:Shared) (mg mb:Str→Option Value) (fa:Addr) (o:Obj) (pm cd doc:Value) (a:Addr) (vs:List Value) (ns:List Int),
      Ground q loose [] XP w s₀ mg mb s₁.heap→YP w s₁.heap →
      s₁.heap.get? fa=some o→o.data=.func (docDef d.name d.params d.body d.scope pm cd doc)→s₁.heap.CodeRec cd d.name→mg d.name=some (.ref fa) →
      s₁.heap.get? a=some { cls:=.type "list",data:=.seq vs.toArray }→IntsAre vs ns→ns.length≤n→s₁.gens=#[] →
      codeAny (model l.prog w) callerA (.call (.ref fa) ⟨[.ref a],[]⟩) (fun r s'=>r=.ok (.ret (.bool true))∧OldK s₁.heap s'.heap∧s'.os=s₁.os∧AllBare s'.gens) s₁) :
    WalkO q loose XP YP l.row.toRowW d [] (fun f vs=>PySem.call f vs):=by
  intro w s₀ s₁ mg mb G Y fa o pm cd doc dV kV ho hd hcd hD hmg hg args vals as hpre hlay hrd hwl hlo;obtain rfl:dV=.none:=Dflts.none hD hdf;obtain rfl:kV=.none:=Dflts.noKw hD;obtain ⟨a,vs,ns,rfl,rfl,hobj,hints,hlen⟩:=pA hn hpre hwl;refine enter_call (codeAny_mono (call w s₀ s₁ mg mb fa o pm cd doc a vs ns G Y ho (fd_plain hd) hcd hmg hobj hints hlen hg) fun r s' hq=>?_);obtain ⟨rfl,h2,h3,h4⟩:=hq;exact ⟨.inl ⟨.bool true,.bool true,[],rfl,fun _=>rfl,.bool true,pE l _,fun _=>⟨List.Pairwise.nil,fun _ hm=>(nomatch hm)⟩⟩,h2,h3,h4⟩
section
variable {prog:Program} {w:World} {A:Around} {E:Value→Shared→Prop} {s:Shared} {K:Frag}
end
end Att
namespace L2
open PySem PySem.Spec PyProof.Rows
theorem jX:∀ {vs:List Value} {ns:List Int},IntsAre vs ns→Vals (ns.map V.int) vs
  | _,_,.nil=>.nil
  | _,_,.cons n t h=>.cons ⟨t,rfl⟩ (jX h)
def uL (H:Hp):Prop:=∀ b,H b=none∨∃ o xs,H b=some (.frz o (.lst xs))
theorem qM {P:Program} {w:World} {K:aaa} {mg mb:Str→Option Value} {CX:CXT} {k:Nat} {fa a:Addr} {fd:FuncData} {x:Str} {sp:Sp} {s₁:Shared} {vs:List Value} {ns:List Int}
    (KX:K.In s₁.heap) (hns:s₁.heap.Ns mainGlobals mg) (hb:s₁.heap.Ns builtinsNs mb) (hbb:∀ x:Str,x ≠ "__name__"→mb x=bootBuiltins x) (hlim:s₁.heap.NoLimit) (hsm:∃ mm,s₁.heap.Ns sysModules mm) (hg:s₁.gens=#[])
    (ha:s₁.heap.get? a=some { cls:=.type "list",data:=.seq vs.toArray }) (hi:IntsAre vs ns) (hl:ns.length≤sizeLine) (hr:Room k callerA)
    (F:∀ base:Heap,K.In base→base.Ns mainGlobals mg→FnOk P w K mg base CX k fa fd [x] sp) (hbind:∀ (s:Shared) (u:Value),BindsTo s fd ⟨[u],[]⟩ [(x,u)])
    (hsp:∀ H:Hp,uL H→SqL K H a (ns.map V.int)→sp [.ref a] H (fun v _=>v=.bl true) fun _ _ _=>False)
    (hCX:∀ H e s',CX [] H s₁ (fun _ _ _=>False) e s'→False) :
    codeAny (model P w) callerA (.call (.ref fa) ⟨[.ref a],[]⟩) (fun r s'=>r=.ok (.ret (.bool true))∧OldK s₁.heap s'.heap∧s'.os=s₁.os∧AllBare s'.gens) s₁:=by
  have rv:=jX hi;have lenV:=hi.length;have core:∀ H:Hp,uL H→SqL K H a (ns.map V.int)→HOk P w H s₁.heap→(∀ b,H b≠none→b=a)→(H a≠none→K.lookup a=none) →
      codeAny (model P w) callerA (.call (.ref fa) ⟨[.ref a],[]⟩) (fun r s'=>r=.ok (.ret (.bool true))∧OldK s₁.heap s'.heap∧s'.os=s₁.os∧AllBare s'.gens) s₁:=by
    intro H hO hS hok hA hK;have base_of:∀ {b:Addr} {o:Obj},s₁.heap.get? b=some o→H b=none→(li s₁.heap H).get? b=some o:=fun e n=>qT e n;have noA:∀ {b:Addr} {o:Obj} {es:Array DictEntry} {ep:Nat},s₁.heap.get? b=some o→o.data=.dict es ep→H b=none:=fun {b o es ep} e d=>by
      cases q:H b with
      | none=>rfl
      | some u =>
        have e':b=a:=hA b (by rw [q];simp);subst e';rw [ha] at e;cases e;have d':Data.seq vs.toArray _=Data.dict es ep:=d;cases d'
    have nsK:∀ {b:Addr} {m:Str→Option Value},s₁.heap.Ns b m→(li s₁.heap H).Ns b m:=fun {b m} ⟨o,es,ep,e,d,r⟩=>⟨o,es,ep,base_of e (noA e d),d,r⟩
    have hKb:K.In (li s₁.heap H):=fun b o e=>base_of (KX b o e) (by
      cases q:H b with
      | none=>rfl
      | some u =>
        have e':b=a:=hA b (by rw [q];simp);subst e';rw [hK (by rw [q];simp)] at e;cases e)
    have hM:Mod K mg (li s₁.heap H):=⟨hKb,nsK hns,⟨mb,nsK hb,hbb⟩,let ⟨mc,h1,h2⟩:=hlim;⟨mc,nsK h1,h2⟩,let ⟨mm,h1⟩:=hsm;⟨mm,nsK h1⟩⟩
    have e0:Env0 P w K mg (li s₁.heap H) callerA [] s₁ H:=⟨rfl,hM,fun b o e=>sj e,Nat.le_of_eq (pP _ _),trivial,fun b hb=>absurd (show b∈([]:List Addr) from hb) (by simp),hok,.of_eq hg⟩
    refine codeAny_mono ((F _ hKb (nsK hns)).run callerA [] s₁ H ⟨[.ref a],[]⟩ [.ref a] [.ref a] _ _ hr e0 (hbind s₁ (.ref a)) (.cons rfl .nil) (hsp H hO hS)) fun r s' h=>?_;cases r with
    | error e=>exact (hCX H e s' h).elim
    | ok fl =>
      cases fl with
      | next=>exact abG h
      | brk=>exact abG h
      | cont=>exact abG h
      | ret u =>
        obtain ⟨v,H',os,bare,un,hok',r',q⟩:=h;have q':v=.bl true:=q;subst q';obtain rfl:u=Value.bool true:=r';refine ⟨rfl,OldK.of_keep fun b o e=>?_,os,bare⟩;cases q:H b with
        | none=>exact un.keep b o e q (by intro z;exact absurd (show b∈([]:List Addr) from z) (by simp)) (by simp)
        | some u =>
          rcases hO b with z|⟨ob,xs,z⟩
          · rw [q] at z;cases z
          · have z2:=un.frzs b ob _ z;obtain ⟨e1,_⟩:=hok b _ z;obtain ⟨e2,_⟩:=hok' b _ z2;rw [e] at e1;cases e1;exact e2
  cases hk:K.lookup a with
  | some o =>
    have e:=KX a o hk;rw [ha] at e;cases e;refine core (fun _=>none) (fun _=>.inl rfl) (.inr ⟨_,vs.toArray,_,hk,rfl,rfl,rfl,by rw [aad,lenV];exact hl,by simpa using rv⟩) (fun b u z=>by have z':(none:Option HO)=some u:=z;cases z') (fun b z=>absurd rfl z) fun z=>absurd rfl z
  | none =>
    refine core (fun b=>if b=a then some (.frz { cls:=.type "list",data:=.seq vs.toArray } (.lst (ns.map V.int))) else none) (fun b=>?_) (.inl (.inr ⟨{ cls:=.type "list",data:=.seq vs.toArray },if_pos rfl⟩)) (fun b u z=>?_) (fun b z=>?_) fun _=>hk
    · by_cases hb:b=a
      · exact .inr ⟨_,_,if_pos hb⟩
      · exact .inl (if_neg hb)
    · by_cases hb:b=a
      · have z':=(if_pos hb).symm.trans z;cases z';subst hb;exact ⟨ha,by rw [aac];exact hl,vs,_,rv,ha⟩
      · have z':=(if_neg hb).symm.trans z;cases z'
    · by_cases hb:b=a
      · exact hb
      · exact absurd (if_neg hb) z
open PySem PySem.Spec PyProof.Rows
theorem walk_of {l:PySem.W.OpenLaw} {n k:Nat} {q:Program} {loose:List Str} {XP:(Str→Option Value)→Heap→Prop} {YP:World→Heap→Prop} {d:DefRec} {K:Params→aaa} {CX:World→CXT} {sp:World→Sp} {x:Str}
    (hn:l.most=some n) (hn2:n≤sizeLine) (hdf:d.params.defaults=[]) (hr:Room k callerA) (hi:PyProof.Rows.importsNone q=true)
    (hY:∀ (w:World) (h:Heap),YP w h→(K w.params).In h)
    (F:∀ (w:World) (mg:Str→Option Value) (fa:Addr) (h:Heap),(K w.params).In h→h.Ns mainGlobals mg→mg d.name=some (.ref fa) →
      ∃ fd:FuncData,(∀ (s:Shared) (u:Value),BindsTo s fd ⟨[u],[]⟩ [(x,u)]) ∧
        ∀ base:Heap,(K w.params).In base→base.Ns mainGlobals mg→FnOk l.prog w (K w.params) mg base (CX w) k fa fd [x] (sp w))
    (hsp:∀ (w:World) (H:Hp) (a:Addr) (ns:List Int),ns.length≤n→uL H→SqL (K w.params) H a (ns.map V.int)→sp w [.ref a] H (fun v _=>v=.bl true) fun _ _ _=>False)
    (hCX:∀ (w:World) (H:Hp) (s:Shared) (e:Value) (s':Shared),CX w [] H s (fun _ _ _=>False) e s'→False) :
    PySem.W.WalkO q loose XP YP l.row.toRowW d [] (fun f vs=>PySem.call f vs):=by
  refine Att.attach_call hn hdf fun w s₀ s₁ mg mb fa o pm cd doc a vs ns G Y ho hd hcd hmg hobj hints hlen hg=>?_;have KX:=hY w _ Y;obtain ⟨fd,hb,hF⟩:=F w mg fa _ KX G.T.g hmg;exact qM KX G.T.g G.T.b G.T.builtins G.T.nolimit (let ⟨mm,h1,_⟩:=(G.T.seer hi).mods;⟨mm,h1⟩) hg hobj hints (aaW hlen hn2) hr hF hb (fun H hO hS=>hsp w H a ns hlen hO hS) fun H e s'=>hCX w H s₁ e s'
open PySem PySem.Spec PyProof.Rows
def cB (s:Stmt):Arguments:=match s with
  | .FunctionDef _ a _ _ _ _ _ _ _ _=>a
  | _=>{ posonlyargs:=[],args:=[],vararg:=none,kwonlyargs:=[],kw_defaults:=[],kwarg:=none,defaults:=[] }
def cf (s:Stmt):List Stmt:=match s with
  | .FunctionDef _ _ b _ _ _ _ _ _ _=>b
  | _=>[]
def al (s:Stmt):Scope:=match s with
  | .FunctionDef _ _ _ _ _ _ sc _ _ _=>sc
  | _=>{ kind:=.function,names:=[],isGenerator:=false,isCoroutine:=false }
abbrev CX0:CXT:=fun _ _ _ _ _ _=>False
abbrev E0:XK:=fun _ _ _=>False
theorem vd {X:Cx}:nR CX0 X E0:=fun _ _ _ _ _ _ _ h=>h.elim
structure Fun (K:aaa) (x qual:Str) (st:Stmt) (f:Addr) (fd:FuncData):Prop where
  ex:∃ (oc:Value) (od:Option Addr) (kV doc pm:Value) (an:Option Addr) (cdv ct:Value) (osl:Array (Option Value)),
    fd=aa8 x qual (cB st) (cf st) (al st) .none kV doc pm an cdv ct∧K.lookup f=some ⟨oc,od,.func fd,osl⟩∧abB K cdv qual=true
  kp:aa7 K (.ref f)=true
section
variable {P:Program} {w:World} {K:aaa} {mg:Str→Option Value} {base:Heap}
theorem Fun.ok {x qual:Str} {st:Stmt} {f:Addr} {fd:FuncData} {N ps:List Str} {k:Nat} {sp:Sp} (F:Fun K x qual st f fd) (S:FnScope N ps (al st)) (len:∀ vs H Q E,sp vs H Q E→vs.length=ps.length)
    (hbody:∀ (cdv:Value) (A:Around) (outer:List Env) (s:Shared) (H:Hp) (vs:List V) (Q:VK) (E:XK),Room k (A.deeper (envOfC qual (al st) s.heap.objs.size f cdv))→sp vs H Q E →
      ∃ t,PSs (pS CX0 P w K mg base N qual (al st) f cdv A outer s H E).nox (cf st) t∧t { nx:=fun _ H'=>Q .non H',rt:=Q } (start N vs) H):FnOk P w K mg base CX0 (k+1) f fd ps sp:=by
  obtain ⟨oc,od,kV,doc,pm,an,cdv,ct,osl,rfl,lk,hcd⟩:=F.ex;refine vC lk hcd S len fun A outer s H vs Q E hr hsp=>?_;obtain ⟨t,h,q⟩:=hbody cdv A outer s H vs Q E hr hsp;exact ⟨t,h.nox,q⟩
theorem Fun.binds {x qual:Str} {st:Stmt} {f:Addr} {fd:FuncData} {ps:List Str} (F:Fun K x qual st f fd)
    (h:∀ (kV doc pm:Value) (an:Option Addr) (cdv ct:Value) (us:List Value),us.length=ps.length→bindArgs (aa8 x qual (cB st) (cf st) (al st) .none kV doc pm an cdv ct) ⟨us,[]⟩=pure (ps.zip us)):Binds K fd ps []:=by
  obtain ⟨oc,od,kV,doc,pm,an,cdv,ct,osl,rfl,lk,hcd⟩:=F.ex;exact .all (h kV doc pm an cdv ct)
theorem qY {x qual:Str} {st:Stmt} {f:Addr} {oc:Value} {od an:Option Addr} {osl:Array (Option Value)} {kV doc pm cdv ct:Value} (l:K.lookup f=some ⟨oc,od,.func (aa8 x qual (cB st) (cf st) (al st) .none kV doc pm an cdv ct),osl⟩)
    (c:abB K cdv qual=true) (k:aa7 K (.ref f)=true):Fun K x qual st f (aa8 x qual (cB st) (cf st) (al st) .none kV doc pm an cdv ct):=⟨⟨oc,od,kV,doc,pm,an,cdv,ct,osl,rfl,l,c⟩,k⟩
end
theorem aE {n:Nat} (h:n≤1000):n < sizeLine:=Nat.lt_of_le_of_lt h (by decide)
section
variable {X:Cx}
theorem pv (i:Nat) {x:Str} {pos:Pos} (hN:X.N[i]?=some x:=by rfl) (hv:Vis X.env.scope x:=by first|exact Or.inl rfl|exact Or.inr (Or.inl rfl)|exact Or.inr (Or.inr rfl)) (hd:(x == ("__debug__":Str))=false:=by decide)
    (hcd:(x == ("__classdict__":Str))=false:=by decide):PE X (.Name x pos) (uS i):=tZ hN hv hd hcd
end
theorem aM {A B:Prop} (h:B):if false=true then A else B:=by
  rw [if_neg aah];exact h
theorem bA {A B:Prop} (h:A):if true=true then A else B:=by
  rw [if_pos rfl];exact h
theorem qP {c A B:Prop} [Decidable c] (h1:c→A) (h2:¬ c→B):if c then A else B:=by
  by_cases h:c
  · rw [if_pos h];exact h1 h
  · rw [if_neg h];exact h2 h
def Same (H H':Hp):Prop:=∀ b o,H b=some o→H' b=some o
theorem Same.refl (H:Hp):Same H H:=fun _ _ h=>h
theorem Same.trans {H H1 H2:Hp} (a:Same H H1) (b:Same H1 H2):Same H H2:=fun c o h=>b c o (a c o h)
theorem Same.free {H H':Hp} (e:Same H H') {l:Addr} (h:H' l=Option.none):H l=Option.none:=by
  cases q:H l with
  | none=>rfl
  | some o =>
    rw [e l o q] at h;cases h
theorem Same.seq {K:aaa} {H H':Hp} {a:Addr} {xs:List V} (e:Same H H') (h:SqL K H a xs):SqL K H' a xs:=by
  rcases h with (h|⟨o,h⟩)|h
  · exact .inl (.inl (e _ _ h))
  · exact .inl (.inr ⟨o,e _ _ h⟩)
  · exact .inr h
open PySem PySem.Spec PyProof.Rows
section
variable {κ:Type} [DecidableEq κ]
def bW (kvs:List (κ × V)) (k:κ):Option V:=(kvs.find? fun kv=>decide (kv.1=k)).map (·.2)
def db (kvs:List (κ × V)) (k:κ) (v:V):List (κ × V) :=
  if (kvs.any fun kv=>decide (kv.1=k))=true then kvs.map (fun kv=>if kv.1=k then (kv.1,v) else kv) else kvs++[(k,v)]
theorem bC {p:κ × V} {r:List (κ × V)} {k:κ} (e:p.1=k):bW (p :: r) k=some p.2:=by simp [bW,abg,e]
theorem bD {p:κ × V} {r:List (κ × V)} {k:κ} (e:¬ p.1=k):bW (p :: r) k=bW r k:=by simp [bW,abg,e]
theorem d_ (k:κ):∀ kvs:List (κ × V),(kvs.any fun kv=>decide (kv.1=k))=(bW kvs k).isSome
  | []=>rfl
  | p :: r=>by
    rw [abZ];by_cases e:p.1=k
    · simp only [bC e,decide_eq_true e,Bool.true_or,Option.isSome_some]
    · rw [bD e,decide_eq_false e,Bool.false_or];exact d_ k r
theorem lH (k j:κ) (y:V):∀ kvs:List (κ × V),bW (kvs.map fun kv=>if kv.1=k then (kv.1,y) else kv) j=(bW kvs j).map fun x=>if j=k then y else x
  | []=>rfl
  | p :: r=>by
    have ih:=lH k j y r;rw [aaz];by_cases h:p.1=k
    · rw [if_pos h];by_cases e:p.1=j
      · rw [bC (p:=(p.1,y)) e,bC e,abP,if_pos (e.symm.trans h)]
      · rw [bD (p:=(p.1,y)) e,bD e,ih]
    · rw [if_neg h];by_cases e:p.1=j
      · rw [bC (p:=p) e,bC e,abP,if_neg (fun z=>h (e.trans z))]
      · rw [bD (p:=p) e,bD e,ih]
theorem jY (k j:κ) (y:V):∀ kvs:List (κ × V),bW kvs k=none→bW (kvs++[(k,y)]) j=if j=k then some y else bW kvs j
  | [],_=>by
    by_cases e:k=j
    · rw [if_pos e.symm];exact bC (p:=(k,y)) e
    · rw [if_neg (fun z=>e z.symm)];exact bD (p:=(k,y)) e
  | p :: r,hn=>by
    rw [List.cons_append];have hk:¬ p.1=k:=fun z=>by rw [bC z] at hn;cases hn
    rw [bD hk] at hn;have ih:=jY k j y r hn;by_cases e:p.1=j
    · rw [bC e,bC e,if_neg (fun z=>hk (e.trans z))]
    · rw [bD e,bD e,ih]
theorem pV (kvs:List (κ × V)) (k j:κ) (y:V):bW (db kvs k y) j=if j=k then some y else bW kvs j:=by
  unfold db;by_cases a:(kvs.any fun kv=>decide (kv.1=k))=true
  · rw [if_pos a,lH];rw [d_] at a;by_cases e:j=k
    · obtain ⟨x,hx⟩:=aba.mp a;rw [if_pos e,e,hx,abP,if_pos rfl]
    · rw [if_neg e];cases bW kvs j with
      | none=>rfl
      | some x=>rw [abP,if_neg e]
  · rw [if_neg a];refine jY k j y kvs ?_;rw [d_] at a;cases q:bW kvs k with
    | none=>rfl
    | some x=>rw [q] at a;exact (a rfl).elim
theorem cE (kvs:List (κ × V)) (k:κ) (v:V):(db kvs k v).length≤kvs.length+1:=by
  unfold db;split
  · rw [aac];lia
  · rw [aal,aaQ,abv];lia
theorem ql {kvs:List (κ × V)} {k:κ} (v:V) (h:bW kvs k=none):db kvs k v=kvs++[(k,v)]:=by
  unfold db;rw [d_,h];exact if_neg (by decide)
theorem RelO.isSome_eq {o:Option V} {u:Option Value} (r:RelO o u):o.isSome=u.isSome:=by
  cases o with
  | none=>cases u with
    | none=>rfl
    | some _=>exact (show False from r).elim
  | some _=>cases u with
    | none=>exact (show False from r).elim
    | some _=>rfl
theorem KV.val {kvs:List (κ × V)} {vs:List (κ × Value)} (r:KV kvs vs) (k:κ):RelO (bW kvs k) (valueAt vs k):=by
  unfold KV at r
  induction r with
  | nil=>exact True.intro
  | @cons p q ps qs h t ih =>
    obtain ⟨h1,h2⟩:=h;by_cases e:p.1=k
    · have e':q.1=k:=h1.symm.trans e;have b:valueAt (q :: qs) k=some q.2:=by simp [valueAt,abg,e']
      rw [bC e,b];exact h2
    · have e':¬ q.1=k:=fun z=>e (h1.trans z);have b:valueAt (q :: qs) k=valueAt qs k:=by simp [valueAt,abg,e']
      rw [bD e,b];exact ih
theorem KV.any {kvs:List (κ × V)} {vs:List (κ × Value)} (r:KV kvs vs) (k:κ):(kvs.any fun kv=>decide (kv.1=k))=vs.any fun kv=>decide (kv.1=k):=by
  unfold KV at r
  induction r with
  | nil=>rfl
  | cons h t ih=>rw [abZ,abZ,ih,h.1]
theorem KV.repl {kvs:List (κ × V)} {vs:List (κ × Value)} (r:KV kvs vs) (k:κ) {y:V} {u:Value} (ry:RelV y u) :
    KV (kvs.map fun kv=>if kv.1=k then (kv.1,y) else kv) (vs.map fun kv=>if kv.1=k then (kv.1,u) else kv):=by
  unfold KV at r ⊢
  induction r with
  | nil=>exact .nil
  | @cons p q ps qs h t ih =>
    rw [aaz,aaz];refine .cons ?_ ih;obtain ⟨h1,h2⟩:=h;by_cases e:p.1=k
    · rw [if_pos e,if_pos (h1.symm.trans e)];exact ⟨h1,ry⟩
    · rw [if_neg e,if_neg (fun z=>e (h1.trans z))];exact ⟨h1,h2⟩
theorem KV.put {kvs:List (κ × V)} {vs:List (κ × Value)} (r:KV kvs vs) (k:κ) {y:V} {u:Value} (ry:RelV y u):KV (db kvs k y) (stored vs k u):=by
  unfold db stored;rw [r.any k];by_cases e:(vs.any fun kv=>decide (kv.1=k))=true
  · rw [if_pos e,if_pos e];exact r.repl k ry
  · rw [if_neg e,if_neg e];exact Paired.snoc r ⟨rfl,ry⟩
theorem KV.length {kvs:List (κ × V)} {vs:List (κ × Value)} (r:KV kvs vs):kvs.length=vs.length:=aav r
end
theorem mC {P:Program} {w:World} {k:Key} {u:Value} (r:RelV (kV k) u):(aG P w).is k u=true:=by
  cases k with
  | inl i=>obtain ⟨t,e⟩:=(show ∃ t,u=Value.int i t from r);subst e;exact mz P w i t
  | inr x=>obtain ⟨t,e⟩:=(show ∃ t,u=Value.str x t from r);subst e;exact my P w x t
theorem j_ {P:Program} {w:World}:∀ {ks:List Key} {us:List Value},Vals (ks.map kV) us→ItemsAre (aG P w) ks us
  | [],_,r=>by rw [abE] at r;cases r;exact .nil
  | k :: ks,_,r=>by
    rw [aaz] at r;cases r with
    | cons h t=>exact .cons (mC h) (j_ t)
abbrev KT (H:Hp):List (List Key × V)→List (List Key × Addr × Value)→Prop:=Paired fun p q=>p.1=q.1∧H q.2.1=some (.tup (p.1.map kV))∧RelV p.2 q.2.2
theorem KT.val {H:Hp} {kvs:List (List Key × V)} {xs:List (List Key × Addr × Value)} (r:KT H kvs xs) (k:List Key):RelO (bW kvs k) ((atKey xs k).map (·.2)):=by
  induction r with
  | nil=>exact True.intro
  | @cons p q ps qs h t ih =>
    obtain ⟨h1,_,h2⟩:=h;by_cases e:p.1=k
    · have e':q.1=k:=h1.symm.trans e;have b:atKey (q :: qs) k=some q.2:=by simp [atKey,abg,e']
      rw [bC e,b];exact h2
    · have e':¬ q.1=k:=fun z=>e (h1.trans z);have b:atKey (q :: qs) k=atKey qs k:=by simp [atKey,abg,e']
      rw [bD e,b];exact ih
theorem KT.repl {H:Hp} {kvs:List (List Key × V)} {xs:List (List Key × Addr × Value)} (r:KT H kvs xs) (k:List Key) {y:V} {u:Value} (ry:RelV y u) :
    KT H (kvs.map fun kv=>if kv.1=k then (kv.1,y) else kv) (xs.map (putAt k u)):=by
  induction r with
  | nil=>exact .nil
  | @cons p q ps qs h t ih =>
    rw [aaz,aaz];refine .cons ?_ ih;obtain ⟨h1,h2,h3⟩:=h;unfold putAt;by_cases e:p.1=k
    · rw [if_pos e,if_pos (h1.symm.trans e)];exact ⟨h1,h2,ry⟩
    · rw [if_neg e,if_neg (fun z=>e (h1.trans z))];exact ⟨h1,h2,h3⟩
theorem KT.put {H:Hp} {kvs:List (List Key × V)} {xs:List (List Key × Addr × Value)} (r:KT H kvs xs) (k:List Key) {b:Addr} {y:V} {u:Value} (hb:H b=some (.tup (k.map kV))) (ry:RelV y u) :
    KT H (db kvs k y) (storedH xs k b u):=by
  have e:(kvs.any fun kv=>decide (kv.1=k))=(atKey xs k).isSome:=by
    rw [d_,(r.val k).isSome_eq,Option.isSome_map]
  unfold db storedH;rw [e];by_cases q:(atKey xs k).isSome=true
  · rw [if_pos q,if_pos q];exact r.repl k ry
  · rw [if_neg q,if_neg q];exact Paired.snoc r ⟨rfl,hb,ry⟩
theorem KT.keeps {H H':Hp} {kvs:List (List Key × V)} {xs:List (List Key × Addr × Value)} (r:KT H kvs xs) (ht:∀ b ys,H b=some (.tup ys)→H' b=some (.tup ys)):KT H' kvs xs :=
  Paired.mapP r fun _ _ z=>⟨z.1,ht _ _ z.2.1,z.2.2⟩
section
variable {P:Program} {w:World} {H:Hp} {h:Heap} {a:Addr}
theorem sW {u:HO} (ok:HOk P w H h) (e:Rd H a u):ObjOk P w H h a u:=e.ok ok
theorem rn {kvs:List (Key × V)} (ok:HOk P w H h) (e:Rd H a (.dK kvs)):kvs.length≤sizeLine∧(a == sysModules)=false∧∃ vs,KV kvs vs∧h.DictOf (aG P w) a vs :=
  show ObjOk P w H h a (.dK kvs) from sW ok e
theorem rp {kvs:List (Key × V)} (ok:HOk P w H h) (e:H a=some (.dK kvs)):kvs.length≤sizeLine∧(a == sysModules)=false∧∃ vs,KV kvs vs∧h.DictOf (aG P w) a vs:=rn ok (.inl e)
theorem lg {ks:List Key} (ok:HOk P w H h) (e:H a=some (.tup (ks.map kV))):(tupleKind (aG P w)).is h ks a:=by
  obtain ⟨_,its,r,o,h1,h2,n,h3⟩:=(show ObjOk P w H h a (.tup (ks.map kV)) from ok a _ e)
  exact ⟨o,its.toArray,n,h1,h2,h3,by simpa using j_ r⟩
theorem rm {kvs:List (List Key × V)} (ok:HOk P w H h) (e:Rd H a (.dT kvs)):kvs.length≤sizeLine∧(a == sysModules)=false ∧
    ∃ xs,KT H kvs xs∧h.DictOfH (tupleKind (aG P w)) a xs:=by
  obtain ⟨z,y,xs,r,o,es,ep,h1,h2,h3,h4,h5⟩:=(show ObjOk P w H h a (.dT kvs) from sW ok e)
  refine ⟨z,y,xs,r,o,es,ep,h1,h2,h3,h4,fun x hx=>?_,h5⟩;have all:∀ {l:List (List Key × V)} {m:List (List Key × Addr × Value)},KT H l m→∀ x∈m,(tupleKind (aG P w)).is h x.1 x.2.1:=by
    intro l m q
    induction q with
    | nil=>intro x hx;exact nomatch hx
    | @cons p q ps qs hq t ih =>
      intro x hx;rcases aaE.mp hx with e|hx
      · subst e;exact lg ok (by rw [← hq.1];exact hq.2.1)
      · exact ih x hx
  exact all r x hx
theorem tm {kvs:List (List Key × V)} (ok:HOk P w H h) (e:H a=some (.dT kvs)):kvs.length≤sizeLine∧(a == sysModules)=false ∧
    ∃ xs,KT H kvs xs∧h.DictOfH (tupleKind (aG P w)) a xs:=rm ok (.inl e)
end
def DGet (H:Hp) (a:Addr) (y:V) (r:Option V):Prop :=
  (∃ kvs k,Rd H a (.dK kvs)∧y=kV k∧r=bW kvs k)∨∃ kvs k b,Rd H a (.dT kvs)∧y=.ref b∧H b=some (.tup (k.map kV))∧r=bW kvs k
def DPut (H:Hp) (a:Addr) (y v:V) (H':Hp):Prop :=
  (∃ kvs k,H a=some (.dK kvs)∧y=kV k∧kvs.length < sizeLine∧H'=upd H a (.dK (db kvs k v))) ∨
  ∃ kvs k b,H a=some (.dT kvs)∧y=.ref b∧H b=some (.tup (k.map kV))∧kvs.length < sizeLine∧H'=upd H a (.dT (db kvs k v))
theorem DGet.t {H:Hp} {a b:Addr} {kvs:List (List Key × V)} {k:List Key} (e:H a=some (.dT kvs)) (eb:H b=some (.tup (k.map kV))):DGet H a (.ref b) (bW kvs k):=.inr ⟨kvs,k,b,.inl e,rfl,eb,rfl⟩
theorem DPut.t {H:Hp} {a b:Addr} {kvs:List (List Key × V)} {k:List Key} {v:V} (e:H a=some (.dT kvs)) (eb:H b=some (.tup (k.map kV))) (hl:kvs.length < sizeLine) :
    DPut H a (.ref b) v (upd H a (.dT (db kvs k v))):=.inr ⟨kvs,k,b,e,rfl,eb,hl,rfl⟩
section
variable {X:Cx} {pins:List (Addr × Obj)} {σ:St} {H:Hp} {s:Shared} {a:Addr} {y v:V} {u r:Value} {o:Option V} {A:Around} {E:Value→Shared→Prop}
theorem Inv.big (I:Inv X pins σ H s):sysModules < s.heap.objs.size:=by
  have h:mainGlobals < s.heap.objs.size:=(I.mod.glob.keeps I.bk).lt;exact Nat.lt_trans (by decide) h
theorem pR {Q:Value→Shared→Prop} (hu:A.units+1 < cLine) (I:Inv X pins σ H s) (g:DGet H a y (some v)) (ry:RelV y u) (h:∀ w' s',Inv X pins σ H s'→RelV v w'→Q w' s') :
    wpAny (model X.prog X.w) A (getItem (.ref a) u) Q E s:=by
  rcases g with ⟨kvs,k,e,ey,l⟩|⟨kvs,k,b,e,ey,eb,l⟩
  · subst ey;obtain ⟨z,hd,vs,rel,dd⟩:=rn I.hok e;obtain ⟨w',hw,rw'⟩:=RelO.some_of (v:=v) (o:=valueAt vs k) (by rw [l];exact rel.val k);exact wpAny_getItem_of (mC ry) dd.mapOf hw (h w' _ (I.tok _) rw')
  · subst ey;cases (show u=Value.ref b from ry);obtain ⟨z,hd,xs,rel,dd⟩:=rm I.hok e;obtain ⟨w',hw,rw'⟩:=RelO.some_of (v:=v) (o:=(atKey xs k).map (·.2)) (by rw [l];exact rel.val k);obtain ⟨p,hp,hp2⟩:=aaG.mp hw;refine wpAny_getItem_heap (tupleKind_room_in1 hu) (lg I.hok eb) dd hp ?_;rw [hp2];exact h w' _ (I.tok _) rw'
theorem iS {h':Heap} {t':Nat} {ob:HO} (I:Inv X pins σ H s) (mu:Mut (H a)) (hs:Heap.SameBut a s.heap h') (he:∃ q,h'.get? a=some q) (new:ObjOk X.prog X.w (upd H a ob) h' a ob) :
    Inv X pins σ (upd H a ob) { s with heap:=h',toks:=t' } :=
  I.write (x:=a) (e:=a) mu (.inl rfl) (fun b q hb z=>(hs.2 b hb).trans z) he new
theorem rq {P:Program} {w:World} {H':Hp} {h':Heap} {kvs:List (Key × V)} {vs:List (Key × Value)} (z:kvs.length≤sizeLine) (hd:(a == sysModules)=false) (rel:KV kvs vs) (dd:h'.DictOf (aG P w) a vs) :
    ObjOk P w H' h' a (.dK kvs):=⟨z,hd,vs,rel,dd⟩
theorem pQ {H':Hp} {Q:Unit→Shared→Prop} (hu:A.units+1 < cLine) (I:Inv X pins σ H s) (g:DPut H a y v H') (ry:RelV y u) (rv:RelV v r) (h:∀ s',Inv X pins σ H' s'→Q () s') :
    wpAny (model X.prog X.w) A (setItem (.ref a) u r) Q E s:=by
  rcases g with ⟨kvs,k,e,ey,l,eH⟩|⟨kvs,k,b,e,ey,eb,l,eH⟩
  · subst ey eH;obtain ⟨z,hd,vs,rel,dd⟩:=rp I.hok e;have hz:vs.length≤sizeLine:=by rw [← rel.length];exact z
    have hl:(db kvs k v).length≤sizeLine:=by have:=cE kvs k v;lia
    refine wpAny_setItem_pairs (hsz:=hz) (mC ry) dd fun h' dd' hs=>h _ ?_;have he:∃ q,h'.get? a=some q:=let ⟨q,_,_,hq,_⟩:=dd';⟨q,hq⟩;exact iS I (by rw [e];exact True.intro) hs he (rq hl hd (rel.put k rv) dd')
  · subst ey eH;cases (show u=Value.ref b from ry);obtain ⟨z,hd,xs,rel,dd⟩:=tm I.hok e;have hz:xs.length≤sizeLine:=by rw [← aav rel];exact z
    have hl:(db kvs k v).length≤sizeLine:=by have:=cE kvs k v;lia
    refine wpAny_setItem_heap (hsz:=hz) (tupleKind_room_in1 hu) (lg I.hok eb) dd fun h' dd' hs=>h _ ?_;obtain ⟨q,es,ep,hq,h2,h3,h4,_,h5⟩:=dd';refine iS I (by rw [e];exact True.intro) hs ⟨q,hq⟩ ⟨hl,hd,_,(rel.put k eb rv).keeps fun c ys ec=>?_,q,es,ep,hq,h2,h3,h4,h5⟩;rw [az (sY ec e (fun z=>nomatch z))];exact ec
end
section
variable {X:Cx} {pins:List (Addr × Obj)} {σ:St} {H:Hp} {s:Shared} {a:Addr} {kvs:List (Key × V)} {k:Key} {u:Value} {A:Around} {E:Value→Shared→Prop}
end
def uN (i:Expr):Prop:=∀ ov iv,subscripted i false ov iv=operate [ov,iv] (getItem ov iv)
theorem n_ {prog:Program} {w:World} {A:Around} {E:Value→Shared→Prop} {s:Shared} {env:Env} {value slice:Expr} {pos:Pos} {T id:String} {Q:Value→Shared→Prop}
    (hl:typeLookup (.type T) "__getitem__" = pure (some (.builtin id))) (hs:uN slice)
    (h:wpAny (model prog w) A (eval value env) (fun o s₁=>wpAny (model prog w) A (eval slice env) (fun i s₂=>s₂.TypeIs o T∧wpAny (model prog w) A (getItem o i) Q E s₂) E s₁) E s) :
    wpAny (model prog w) A (eval (.Subscript value slice pos) env) Q E s:=by
  refine Subscript_ (wpAny_mono h (fun o s₁ h₁=>wpAny_mono h₁ (fun i s₂ h₂=>?_) fun _ _ x=>x) fun _ _ x=>x);obtain ⟨hT,h₂⟩:=h₂;unfold subscriptTail;refine wpAny_bind ?_;rw [getitemInPython_of_ne hT.not_modules];refine wpAny_bind (wpAny_specialOf hT hl ?_);have fin:wpAny (model prog w) A (subscripted slice false o i) (fun r s₃=>wpAny (model prog w) A (letTemporaryGo value o r >>= fun _=>pure r) Q E s₃) E s₂:=by
    rw [hs o i];exact wpAny_operating (wpAny_mono h₂ (fun r s₃ h₃=>wpAny_bind (wpAny_letTemporaryGo (wpAny_pure h₃))) fun _ _ x=>x)
  first
    | exact wpAny_pure (wpAny_bind fin)
    | exact wpAny_bind (wpAny_pure (wpAny_bind fin))
    | exact wpAny_bind fin
theorem mK {X:Cx} {pins:List (Addr × Obj)} {σ:St} {H:Hp} {s:Shared} {a:Addr} {y:V} {o:Option V} (I:Inv X pins σ H s) (g:DGet H a y o):s.TypeIs (.ref a) "dict":=by
  rcases g with ⟨kvs,k,e,_,_⟩|⟨kvs,k,b,e,_,_,_⟩
  · obtain ⟨_,_,vs,_,dd⟩:=rn I.hok e;exact dd.typeIs
  · obtain ⟨_,_,xs,_,dd⟩:=rm I.hok e;exact dd.typeIs
def u5 (td ty:TE):TE:=fun σ H Q=>td σ H fun x H1=>ty σ H1 fun y H2=>∃ a v,x=.ref a∧DGet H2 a y (some v)∧Q v H2
def u_ (td ty tv:TE):TS:=fun D σ H=>tv σ H fun v H1=>td σ H1 fun x H2=>ty σ H2 fun y H3=>∃ a H4,x=.ref a∧DPut H3 a y v H4∧D.nx σ H4
section
variable {X:Cx} {o i e value:Expr} {pos pos' tpos:Pos} {td ty tv:TE}
theorem cz (hu:X.A.units+1 < cLine) (ho:PE X o td) (hi:PE X i ty) (hs:uN i):PE X (.Subscript o i pos) (u5 td ty):=by
  intro pins s σ H Q I h;refine n_ ab5.lookup hs (thn (ho pins s σ H _ I h) fun u s1 ⟨x,H1,I1,rx,q1⟩=>thn (hi pins s1 σ H1 _ I1 q1) fun iv s2 ⟨y,H2,I2,ry,a,v,ex,g,q2⟩=>?_);subst ex;obtain rfl:u=Value.ref a:=rx;exact ⟨mK I2 g,pR hu I2 g ry fun w' s3 I3 rw'=>⟨v,H2,I3,rw',q2⟩⟩
theorem kQ (hu:X.A.units+1 < cLine) (ho:PE X o td) (hi:PE X i ty) (hv:PE X value tv) (hs:swapsWith value (some (.Subscript o i pos')) pos.line X.env=pure false) :
    PS X (.Assign [.Subscript o i pos'] value pos) (u_ td ty tv):=by
  intro pins s σ H D I h;refine wpAny_Assign_Subscript (thn (hv pins s σ H _ I h) fun r s1 ⟨v,H1,I1,rv,q1⟩=>thn (ho pins s1 σ H1 _ I1 q1) fun u s2 ⟨x,H2,I2,rx,q2⟩=>thn (hi pins s2 σ H2 _ I2 q2) fun iv s3 ⟨y,H3,I3,ry,a,H4,ex,g,q3⟩=>?_) hs;subst ex;obtain rfl:u=Value.ref a:=rx;exact pQ hu I3 g ry rv fun s4 I4=>⟨σ,H4,I4,q3⟩
end
theorem rz {P:Program} {w:World} {H:Hp} (h:Heap) (hb:sysModules < h.objs.size):ObjOk P w H (h.push { cls:=.type "dict",data:=.dict #[] }) h.objs.size (.dK []) :=
  ⟨aaI _,beq_eq_false_iff_ne.mpr (abO (aaC hb)),[],.nil,Heap.DictOf.new h⟩
theorem mJ {P:Program} {w:World} {H:Hp} (h:Heap) (hb:sysModules < h.objs.size):ObjOk P w H (h.push { cls:=.type "dict",data:=.dict #[] }) h.objs.size (.dT []) :=
  ⟨aaI _,beq_eq_false_iff_ne.mpr (abO (aaC hb)),[],.nil,_,#[],0,aaN _ rfl,⟨rfl,rfl,rfl⟩,rfl,rfl,List.nodup_nil⟩
def tJ:TE:=fun _ H Q=>∀ p,H p=none→Q (.ref p) (upd H p (.dT []))
section
variable {X:Cx} {pos:Pos}
theorem qB:PE X (.Dict [] [] pos) tJ:=fun pins s σ H Q I h =>
  wpAny_Dict_empty ⟨.ref s.heap.objs.size,_,I.laid (a:=s.heap.objs.size) (o:=.dT []) (t':=s.toks) (fun _ _ q=>aak _ q) (aab _) (mJ s.heap I.big),rfl,h _ (I.hok.fresh (aab _))⟩
end
structure M1 (X:Cx) (o:Expr) (m:Str) (apos:Pos) (e:Expr) (cpos:Pos):Prop where
  base:attributeBase o m X.env (eval o X.env)=eval o X.env
  few:((backTo cpos (starEach [e] X.env)).all (fun x=>!x.1) && (backToKw cpos (keywordEach [] X.env)).all (fun x=>x.1.isSome)
    && decide (([e]:List Expr).length+([]:List Keyword).length+(if ([]:List Keyword).isEmpty then 0 else 1) < 30))=true
  line:(apos.endLine == cpos.line)=true
  trees:backTo cpos (starEach [e] X.env)=[(false,eval e X.env)]
structure M2 (X:Cx) (o:Expr) (m:Str) (apos:Pos) (e f:Expr) (cpos:Pos):Prop where
  base:attributeBase o m X.env (eval o X.env)=eval o X.env
  few:((backTo cpos (starEach [e,f] X.env)).all (fun x=>!x.1) && (backToKw cpos (keywordEach [] X.env)).all (fun x=>x.1.isSome)
    && decide (([e,f]:List Expr).length+([]:List Keyword).length+(if ([]:List Keyword).isEmpty then 0 else 1) < 30))=true
  line:(apos.endLine == cpos.line)=true
  trees:backTo cpos (starEach [e,f] X.env)=[(false,eval e X.env),(false,eval f X.env)]
section
variable {X:Cx} {pins:List (Addr × Obj)} {σ:St} {H:Hp} {s:Shared} {a:Addr} {y d:V} {u r:Value} {o:Option V} {A:Around} {E:Value→Shared→Prop}
end
section
variable {X:Cx} {o e f:Expr} {apos cpos:Pos} {td ty tx:TE}
end
section
variable {X:Cx} {pins:List (Addr × Obj)} {σ:St} {H:Hp} {s:Shared} {a:Addr} {kvs:List (Key × V)} {A:Around} {E:Value→Shared→Prop}
end
section
variable {X:Cx} {pins:List (Addr × Obj)} {σ:St} {H:Hp} {s:Shared} {a:Addr} {y:V} {u:Value} {A:Around} {E:Value→Shared→Prop}
end
open PySem PySem.Spec PyProof.Rows
section
variable {X:Cx}
end
section
variable {κ:Type} [DecidableEq κ]
end
end L2
set_option maxHeartbeats 4000000
namespace L2
open PySem PySem.Spec PyProof.Rows
theorem Inv.adopt {X:Cx} {pins:List (Addr × Obj)} {σ:St} {H:Hp} {s:Shared} {a:Addr} {o:HO} (I:Inv X pins σ H s) (hn:H a=none) (hs:X.s₀.heap.objs.size≤a) (hL:a≠X.env.locals) (hC:∀ x c,X.env.cells.lookup x=some c→c≠a) (hp:∀ p∈X.pn++pins,p.1≠a)
    (new:ObjOk X.prog X.w (upd H a o) s.heap a o):Inv X pins σ (upd H a o) s:=by
  have ne:∀ b u,X.s₀.heap.get? b=some u→b≠a:=fun b u e=>aaC (aam (aas e) hs);refine ⟨I.ok,I.os,I.bare,⟨I.base.keep,I.base.slot,fun b u e n hx=>?_,I.base.there,fun b xs e=>?_,fun b u xs e=>?_,fun b ps e=>?_⟩,I.loc,I.cell,?_,fun x c e=>?_,fun p hq=>?_,fun b u e=>?_,I.len⟩
  · rw [az (ne b u e)];exact I.base.free b u e n hx
  · have q:=I.base.tups b xs e;rw [az (aD q hn)];exact q
  · have q:=I.base.frzs b u xs e;rw [az (aD q hn)];exact q
  · obtain ⟨m,q⟩:=I.base.tbls b ps e;exact ⟨m,by rw [az (aD q hn)];exact q⟩
  · rw [az (abO hL)];exact I.free
  · rw [az (hC x c e)];exact I.freeC x c e
  · obtain ⟨h1,h2,h3⟩:=I.pin p hq;exact ⟨h1,by rw [az (hp p hq)];exact h2,h3⟩
  · by_cases hb:b=a
    · subst hb;rw [ag] at e;cases e;exact new
    · rw [az hb] at e;exact (I.hok b u e).stay (fun c v _ q=>q) (fun c q=>by rw [az (aD q hn)];exact q) fun c xs q=>by rw [az (aD q hn)];exact q
def CellsIn (E:Env):List (Str × Addr)→Prop
  | []=>True
  | p :: r=>E.cells.lookup p.1=some p.2∧CellsIn E r
theorem CellsIn.get {E:Env}:∀ {cl:List (Str × Addr)} {x:Str} {c:Addr},CellsIn E cl→cl.lookup x=some c→E.cells.lookup x=some c:=by
  intro cl x c h e;have hm:=aa4 e;clear e
  induction cl with
  | nil=>exact nomatch hm
  | cons p r ih =>
    rcases aaE.mp hm with q|q
    · have:=h.1;rw [← q] at this;exact this
    · exact ih h.2 q
def CapOk (XE:Env) (sc:Scope) (XN:List Str):List Str→List (Option Nat)→Prop
  | [],[]=>True
  | _ :: n,none :: c=>CapOk XE sc XN n c
  | x :: n,some i :: c=>(XN[i]?=some x∧(XE.kindOf x=some .cell∨XE.kindOf x=some .free)∧(sc.names.lookup x=some .cell∨sc.names.lookup x=some .free))∧CapOk XE sc XN n c
  | _,_=>False
def vF (σ:St) (o:Option Nat):Option V:=match o with
  | none=>none
  | some i=>(σ[i]?).join
def bO (cap:List (Option Nat)) (σ:St):St:=cap.map (vF σ)
theorem CapOk.len {XE:Env} {sc:Scope} {XN:List Str}:∀ {n:List Str} {c:List (Option Nat)},CapOk XE sc XN n c→c.length=n.length
  | [],[],_=>rfl
  | _ :: _,none :: _,h=>congrArg (·+1) (CapOk.len (n:=_) (c:=_) h)
  | _ :: _,some _ :: _,h=>congrArg (·+1) (CapOk.len h.2)
  | [],_ :: _,h=>(show False from h).elim
  | _ :: _,[],h=>(show False from h).elim
theorem CapOk.get {XE:Env} {sc:Scope} {XN:List Str} {σ:St} {n:List Str} {c:List (Option Nat)} {j:Nat} {x:Str} {v:V} (h:CapOk XE sc XN n c) (h1:n[j]?=some x) (e:(bO c σ)[j]?=some (some v)) :
    ∃ i:Nat,XN[i]?=some x∧σ[i]?=some (some v)∧(XE.kindOf x=some .cell∨XE.kindOf x=some .free)∧(sc.names.lookup x=some .cell∨sc.names.lookup x=some .free):=by
  induction n generalizing c j with
  | nil=>cases h1
  | cons y n ih =>
    cases c with
    | nil=>exact h.elim
    | cons o c =>
      cases j with
      | zero =>
        cases h1;cases o with
        | none=>cases e
        | some i =>
          refine ⟨i,h.1.1,?_,h.1.2⟩;have e:some ((σ[i]?).join)=some (some v):=e;cases q:σ[i]? with
          | none=>rw [q] at e;cases e
          | some w=>rw [q] at e;injection e with e;exact congrArg some e
      | succ j =>
        cases o with
        | none=>exact ih (c:=c) (j:=j) h h1 e
        | some i=>exact ih (c:=c) (j:=j) h.2 h1 e
def dJ (X:Cx) (E:Env) (fn:Str→Bool) (NY:List Str) (fp:List Addr) (s:Shared) (H:Hp):Cx where
  prog:=X.prog
  w:=X.w
  K:=X.K
  mg:=X.mg
  base:=X.base
  A:=X.A
  N:=NY
  s₀:=s
  H₀:=H
  env:=E
  outer:=X.stack
  stack:=X.stack
  ex:=fp
  fn:=fn
  calm:=X.calm
  pn:=[]
  xe:=fun _ _=>False
abbrev aO (X:Cx) (scope:Scope) (cl:List (Str × Addr)) (NY:List Str) (fp:List Addr) (s:Shared) (H:Hp) (C:Addr):Cx:=dJ X (compEnvC scope cl C X.env) (fun _=>false) NY fp s H
def iI (X:Cx) (ifs:List Expr) (t:TT):Prop :=
  ∀ (pins:List (Addr × Obj)) (s:Shared) (σ:St) (H:Hp) (Q:Bool→Hp→Prop),Inv X pins σ H s→t σ H Q →
    wpAny (model X.prog X.w) X.A (forIn ifs true fun c r=>if r=true then do let ok ← isTrue c X.env (eval c X.env);pure (ForInStep.yield ok) else pure (ForInStep.yield r)) (TP X pins σ Q) X.xe s
theorem aU {X:Cx}:iI X [] (fun _ H Q=>Q true H):=fun _ _ _ H _ I h=>wpAny_tests_nil ⟨H,I,h⟩
theorem qu {X:Cx} {c:Expr} {t:TT} (h:PT X c t):iI X [c] t:=fun pins s σ H Q I q=>wpAny_tests_one (h pins s σ H Q I q)
theorem jV {elt tg2 iter2:Expr} {ifs2:List Expr} {G:List Comprehension} {k:Nat} (hk:G[k]?=some ⟨tg2,iter2,ifs2,0⟩) (hk2:G[k+1]?=none) {scope:Scope} {pos:Pos} {it acc:Value} {env:Env} :
    compTurn (.ListComp elt G scope pos) k it acc env=(do
      standAt iter2.pos
      match ← pyNext it with
      | none=>pure (.done .next)
      | some v =>
        letOwnedTupleGo tg2 it v
        assign tg2 env v
        let mut ok:=true
        for c in ifs2 do
          if ok then ok ← isTrue c env (eval c env)
        if ok then
          (do let _ ← call (.builtin "list.append") [acc,← eval elt env])
        again (.compLoop (.ListComp elt G scope pos) k it acc env)):=by
  unfold compTurn;simp only [hk,hk2];rfl
theorem nM {prog:Program} {w:World} {A:Around} {R:Result→Shared→Prop} {s:Shared} {elt tg2 iter2:Expr} {ifs2:List Expr} {G:List Comprehension} {k:Nat} (hk:G[k]?=some ⟨tg2,iter2,ifs2,0⟩) (hk2:G[k+1]?=none) {scope:Scope} {pos:Pos} {it acc:Value} {env:Env} (J:Nat→Shared→Prop)
    (turn:∀ n s,J n s→wpAny (model prog w) A (pyNext it) (fun r s₁=>match r with
      | none=>R (.ok .next) s₁
      | some v=>wpAny (model prog w) A (letOwnedTupleGo tg2 it v) (fun _ s₁'=>wpAny (model prog w) A (assign tg2 env v) (fun _ s₂ =>
          wpAny (model prog w) A (forIn ifs2 true fun c r=>if r=true then do let ok ← isTrue c env (eval c env);pure (ForInStep.yield ok) else pure (ForInStep.yield r)) (fun ok s₃ =>
            if ok=true then wpAny (model prog w) A (eval elt env) (fun x s₄ =>
              wpAny (model prog w) A (call (.builtin "list.append") [acc,x]) (fun _ s₅=>∃ m,m < n∧J m s₅) (fun _ _=>False) s₄) (fun _ _=>False) s₃
            else ∃ m,m < n∧J m s₃) (fun _ _=>False) s₂) (fun _ _=>False) s₁') (fun _ _=>False) s₁) (fun _ _=>False) s)
    (n:Nat) (h:J n s) :
    codeAny (model prog w) A (.compLoop (.ListComp elt G scope pos) k it acc env) R s:=by
  refine codeAny_loop rfl J (fun n s hI=>?_) n h;show wpAny _ A ((compTurn (.ListComp elt G scope pos) k it acc env).onRaise (fun x=>do noteFrame x env;theTreesLotGoes x)) _ _ s;refine wpAny_noted ?_;rw [jV hk hk2];refine wpAny_bind (wpAny_standAt (wpAny_bind (wpAny_mono (turn n s hI) (fun r s₁ h₁=>?_) fun _ _ h'=>h'.elim)));cases r with
  | none=>exact wpAny_pure h₁
  | some v =>
    refine wpAny_bind (wpAny_mono h₁ (fun _ s₁' h₁'=>?_) fun _ _ h'=>h'.elim);refine wpAny_bind (wpAny_mono h₁' (fun _ s₂ h₂=>wpAny_bind (wpAny_mono h₂ (fun ok s₃ h₃=>?_) fun _ _ h'=>h'.elim)) fun _ _ h'=>h'.elim);cases ok with
    | false=>exact wpAny_pure ⟨rfl,h₃⟩
    | true =>
      exact wpAny_bind (wpAny_bind (wpAny_mono h₃ (fun x s₄ h₄=>wpAny_bind (wpAny_mono h₄ (fun _ s₅ h₅=>wpAny_pure (wpAny_pure ⟨rfl,h₅⟩)) fun _ _ h'=>h'.elim)) fun _ _ h'=>h'.elim))
abbrev Lp (D:Addr) (its:List Value) (k:Nat):Addr × Obj:=(D,{ cls:=.type "list",data:=.seq its.toArray k })
section
variable {X:Cx} {pins:List (Addr × Obj)} {σ:St} {H2:Hp} {s2:Shared}
theorem Inv.cellLt (I2:Inv X pins σ H2 s2):∀ x c,X.env.cells.lookup x=some c→c < s2.heap.objs.size:=fun x c e=>by
  obtain ⟨v,q⟩:=I2.cell x c e;exact q.lt
theorem Inv.notStk (I2:Inv X pins σ H2 s2) {b:Addr} (hb:s2.heap.objs.size≤b):b∉frs X.stack:=fun hz=>by
  rcases aaE.mp (I2.stkSub b hz) with z|z
  · have:=I2.lt;rw [← z] at this;exact absurd (aam this hb) (aa6 _)
  · exact I2.nofs hb z
theorem Inv.offC (I2:Inv X pins σ H2 s2) {C:Addr} (hC:s2.heap.objs.size≤C) {σ':St} {H:Hp} {s:Shared} {h':Heap} (I:Inv X pins σ' H s) (hn:H C=none) (he:∀ b o,b≠C→s.heap.get? b=some o→h'.get? b=some o):Inv X pins σ' H { s with heap:=h' } :=
  I.turned (t':=s.toks) (it:=C) he hn (abm (aam I2.lt hC)) (.inr (aaW I2.sz hC)) (fun x c e z=>absurd (I2.cellLt x c e) (by rw [z];exact ab7.mpr hC)) (fun p hp z=>absurd (aas (I2.pin p hp).1) (by rw [z];exact ab7.mpr hC))
theorem Inv.takeD (I2:Inv X pins σ H2 s2) {D:Addr} (hD:s2.heap.objs.size≤D) {σ':St} {H:Hp} {s:Shared} {o:HO} (I:Inv X pins σ' H s) (hn:H D=none) (ok:ObjOk X.prog X.w (upd H D o) s.heap D o):Inv X pins σ' (upd H D o) s :=
  I.adopt hn (aaW I2.sz hD) (abm (aam I2.lt hD)) (fun x c e=>aaC (aam (I2.cellLt x c e) hD)) (fun p hp=>aaC (aam (aas (I2.pin p hp).1) hD)) ok
variable {E:Env} {fn:Str→Bool} {NY:List Str} {fp:List Addr}
theorem Inv.outB (I2:Inv X pins σ H2 s2) (f2:∀ b∈fp,dA X pins H2 b) {P:List (Addr × Obj)} {σ':St} {H3:Hp} {s4:Shared} (I4:Inv (dJ X E fn NY fp s2 H2) P σ' H3 s4):Inv X pins σ H3 s4 :=
  I2.call' (ch:=fp) I4.os (show Un (frs X.stack) fp H2 H3 s2.heap s4.heap from I4.base) I4.hok I4.bare fun b hb=>⟨(f2 b hb).2.2.2.1,(f2 b hb).2.1,(f2 b hb).2.2.2.2.1,(f2 b hb).2.2.2.2.2⟩
structure BlkC (X:Cx) (s2:Shared) (h₁:Heap) (E:Env) (fn:Str→Bool):Prop where
  kind:E.scope.kind=.function
  glob:E.globals=X.env.globals
  blt:E.builtins=X.env.builtins
  loc:s2.heap.objs.size≤E.locals
  old:∀ b o,s2.heap.get? b=some o→h₁.get? b=some o
  ns:∃ m,h₁.Ns E.locals m
  cell:∀ x c,E.cells.lookup x=some c→(fn x=false∧X.env.cells.lookup x=some c)∨(fn x=true∧s2.heap.objs.size≤c∧c≠E.locals∧h₁.get? c=some { cls:=.type "cell",data:=.cell none }∧∀ y,E.cells.lookup y=some c→y=x)
  has:∀ x,E.kindOf x=some .cell∨E.kindOf x=some .free→∃ c,E.cells.lookup x=some c
theorem CapOk.noFn {fn:Str→Bool} {n:List Str} {c:List (Option Nat)} {j:Nat} {x:Str} {v:V} {σ:St} (h:((n.zip c).all fun p=>!fn p.1 || p.2 == none)=true) (h1:n[j]?=some x) (e:(bO c σ)[j]?=some (some v)):fn x=false:=by
  rw [bO,aao] at e;cases q:c[j]? with
  | none=>rw [q] at e;cases e
  | some o =>
    rw [q] at e;cases o with
    | none=>simp [vF] at e
    | some i =>
      have m:(x,some i)∈n.zip c:=aaf (i:=j) (by rw [List.getElem?_zip_eq_some];exact ⟨h1,q⟩);have:=aaH.mp h _ m;simpa using this
variable {h₁:Heap}
theorem Inv.fps (I2:Inv X pins σ H2 s2) (f2:∀ b∈fp,dA X pins H2 b) (fpl:∀ b∈fp,b < s2.heap.objs.size) (B:BlkC X s2 h₁ E fn) {P:List (Addr × Obj)} (hP:∀ p∈P,s2.heap.objs.size≤p.1) {H':Hp} (hn:∀ b∈fp,H' b=none):∀ b∈fp,dA (dJ X E fn NY fp s2 H2) P H' b:=fun b hb=>by
  refine ⟨hn b hb,aaC (aam (fpl b hb) B.loc),fun hz=>?_,.inl hb,fun x c e=>?_,fun p hp=>?_⟩
  · rcases aaE.mp (I2.stkSub b hz) with z|z
    · exact (f2 b hb).2.1 z
    · exact (f2 b hb).2.2.1 z
  · rcases B.cell x c e with z|z
    · exact (f2 b hb).2.2.2.2.1 x c z.2
    · exact abm (aam (fpl b hb) z.2.1)
  · exact abm (aam (fpl b hb) (hP p hp))
theorem Inv.blkLoc (I2:Inv X pins σ H2 s2) (B:BlkC X s2 h₁ E fn) {cap:List (Option Nat)} (hcap:CapOk X.env E.scope X.N NY cap) (hx:((NY.zip cap).all fun p=>!fn p.1 || p.2 == none)=true) {h:Heap} (hk:∀ x c o,X.env.cells.lookup x=some c→s2.heap.get? c=some o→∃ o',h.get? c=some o'∧o'.data=o.data) {m:Str→Option Value} :
    ∀ (i:Nat) (x:Str) (v:V),NY[i]?=some x→(bO cap σ)[i]?=some (some v)→∃ u,RelV v u∧vK E h m x u:=fun j x v e1 e2=>by
  obtain ⟨i,h1,h2,h3,h4⟩:=CapOk.get (σ:=σ) hcap e1 e2;have nf:=CapOk.noFn hx e1 e2;obtain ⟨m',hn,hl⟩:=I2.loc;have vis:Vis X.env.scope x:=by rcases h3 with z|z;exact .inr (.inl z);exact .inr (.inr z)
  obtain ⟨u,r,l⟩:=hl i x v h1 h2 vis;refine ⟨u,r,.inr ⟨h4,?_⟩⟩;rcases l with ⟨k,_⟩|⟨_,c,e,z⟩
  · rcases h3 with z|z <;> (rw [k] at z;cases z)
  · obtain ⟨c',e'⟩:=B.has x h4;rcases B.cell x c' e' with q|q
    · have e'':=q.2;rw [e] at e'';cases e'';obtain ⟨o,ho,hd⟩:=z;obtain ⟨o',h',d'⟩:=hk x c o e ho;exact ⟨c,e',o',h',d'.trans hd⟩
    · rw [nf] at q;exact absurd q.1 aah
theorem Inv.blk (I2:Inv X pins σ H2 s2) (f2:∀ b∈fp,dA X pins H2 b) (fpl:∀ b∈fp,b < s2.heap.objs.size) (B:BlkC X s2 h₁ E fn) {cap:List (Option Nat)} (hcap:CapOk X.env E.scope X.N NY cap) (hx:((NY.zip cap).all fun p=>!fn p.1 || p.2 == none)=true)
    {P:List (Addr × Obj)} (hP:∀ p∈P,h₁.get? p.1=some p.2∧s2.heap.objs.size≤p.1∧p.1≠E.locals∧∀ v,p.2.data≠.cell v) {t':Nat}:Inv (dJ X E fn NY fp s2 H2) P (bO cap σ) H2 { s2 with heap:=h₁,toks:=t' }:=by
  refine ⟨⟨I2.ok.mod,B.kind,B.glob.trans I2.ok.glob,B.blt.trans I2.ok.blt,B.loc,fun x y c e1 e2=>?_,B.has,fun x c hf e=>?_,I2.ok.hd,I2.ok.frames,.inl rfl,fun b hb=>⟨aaC (aam (fpl b hb) B.loc),fun x c e z=>?_⟩,I2.bs,aaW I2.ok.bsz I2.sz,fun b o e hb=>?_,fun b hb hz=>?_,I2.stack,I2.stkFree⟩,
    rfl,I2.bare,Un.kept B.old,⟨B.ns.choose,B.ns.choose_spec,fun j x v e1 e2 _=>I2.blkLoc B hcap hx (fun x c o _ ho=>⟨o,B.old _ _ ho,rfl⟩) j x v e1 e2⟩,fun x c e=>?_,I2.hok.fresh B.loc,fun x c e=>?_,fun p hp=>?_,I2.hok.kept B.old,?_⟩
  · rcases B.cell x c e1 with z|z
    · rcases B.cell y c e2 with q|q
      · exact I2.ok.inj x y c z.2 q.2
      · exact absurd (I2.cellLt x c z.2) (ab7.mpr q.2.1)
    · exact (z.2.2.2.2 y e2).symm
  · rcases B.cell x c e with z|z
    · have hf:fn x=true:=hf;rw [z.1] at hf;cases hf
    · exact z.2.1
  · rcases B.cell x c e with q|q
    · exact (f2 b hb).2.2.2.2.1 x c q.2 z
    · exact absurd (fpl b hb) (by rw [← z];exact ab7.mpr q.2.1)
  · rcases (f2 b hb).2.2.2.1 with z|z
    · exact I2.ok.noex b o e z
    · exact absurd (aam (aas (I2.ok.bs b o e).1) z) (aa6 _)
  · rcases aaE.mp (I2.stkSub b hz) with z|z
    · exact (f2 b hb).2.1 z
    · exact (f2 b hb).2.2.1 z
  · rcases B.cell x c e with q|q
    · obtain ⟨v,o,ho,hd⟩:=I2.cell x c q.2;exact ⟨v,o,B.old _ _ ho,hd⟩
    · exact ⟨none,_,q.2.2.2.1,rfl⟩
  · rcases B.cell x c e with q|q
    · exact I2.freeC x c q.2
    · exact I2.hok.fresh q.2.1
  · obtain ⟨h1,h2,h3,h4⟩:=hP p hp;exact ⟨h1,I2.hok.fresh h2,h3,I2.notStk h2,h4⟩
  · show (bO cap σ).length=NY.length;unfold bO;rw [aac];exact hcap.len
theorem Inv.recap (I2:Inv X pins σ H2 s2) (f2:∀ b∈fp,dA X pins H2 b) (B:BlkC X s2 h₁ E fn) {cap:List (Option Nat)} (hcap:CapOk X.env E.scope X.N NY cap) (hx:((NY.zip cap).all fun p=>!fn p.1 || p.2 == none)=true) {pn:List (Addr × Obj)} {σ':St} {H':Hp} {s':Shared} (Z:Inv (dJ X E fn NY fp s2 H2) pn σ' H' s'):Inv (dJ X E fn NY fp s2 H2) pn (bO cap σ) H' s':=by
  refine ⟨Z.ok,Z.os,Z.bare,Z.base,?_,Z.cell,Z.free,Z.freeC,Z.pin,Z.hok,?_⟩
  · obtain ⟨m,hn,_⟩:=Z.loc;refine ⟨m,hn,fun j x v e1 e2 _=>I2.blkLoc B hcap hx (fun x c o e ho=>?_) j x v e1 e2⟩;have nfp:c∉fp:=fun hz=>(f2 c hz).2.2.2.2.1 x c e rfl;obtain ⟨sl,q⟩:=Z.base.any (show s2.heap.get? c=some o from ho) (I2.freeC x c e) nfp;exact ⟨_,q,rfl⟩
  · show (bO cap σ).length=NY.length;unfold bO;rw [aac];exact hcap.len
theorem Inv.blkC (I2:Inv X pins σ H2 s2) {scope:Scope} {cl:List (Str × Addr)} (hci:CellsIn X.env cl) (hkind:scope.kind=.function) (hhas:((relabel scope X.env).names.all fun p=>(p.2 != .cell && p.2 != .free) || (cl.lookup p.1).isSome)=true) {C:Addr} (hC:s2.heap.objs.size≤C)
    (old:∀ b o,s2.heap.get? b=some o→h₁.get? b=some o) (hns:∃ m,h₁.Ns C m):BlkC X s2 h₁ (compEnvC scope cl C X.env) (fun _=>false):=by
  refine ⟨hkind,rfl,rfl,hC,old,hns,fun x c e=>.inl ⟨rfl,hci.get e⟩,fun x hx=>?_⟩;have hx':(relabel scope X.env).names.lookup x=some .cell∨(relabel scope X.env).names.lookup x=some .free:=hx;have key:∀ k,(relabel scope X.env).names.lookup x=some k→(k=.cell∨k=.free)→∃ c,cl.lookup x=some c:=fun k e hk=>by
    have q:=aaH.mp hhas (x,k) (aa4 e);have q':(cl.lookup x).isSome=true:=by
      rcases hk with rfl|rfl <;> simpa using q
    exact aba.mp q'
  rcases hx' with e|e
  · exact key _ e (.inl rfl)
  · exact key _ e (.inr rfl)
theorem cr {NY:List Str} {cap:List (Option Nat)}:((NY.zip cap).all fun p=>!(fun _:Str=>false) p.1 || p.2 == none)=true:=List.all_eq_true.mpr fun _ _=>rfl
theorem lE {scope:Scope} (h:(scope.names.all fun y=>y.2 != .cell)=true):∀ y∈scope.names,y.2≠.cell:=fun y hy=>by
  have q:=aaH.mp h y hy;simpa using q
theorem iT {scope:Scope} (h:(scope.names.all fun y=>y.2 != .local || scope.names.lookup y.1 == some .local)=true):∀ y∈scope.names,y.2=.local→scope.names.lookup y.1=some .local:=fun y hy e=>by
  have q:=aaH.mp h y hy;rw [e] at q;simpa using q
theorem Inv.lstDone (I2:Inv X pins σ H2 s2) (f2:∀ b∈fp,dA X pins H2 b) {D C:Addr} (hD:s2.heap.objs.size≤D) (hC:s2.heap.objs.size≤C) (eC:E.locals=C) {P:List (Addr × Obj)} {σ':St} {H3:Hp} {s4:Shared} {ys:List V} {its:List Value} {k:Nat} (I4:Inv (dJ X E fn NY fp s2 H2) (Lp D its k :: P) σ' H3 s4) (rv:Vals ys its) (hz:ys.length≤sizeLine) :
    Inv X pins σ (upd H3 D (.lst ys)) s4∧H3 D=none∧upd H3 D (.lst ys) C=none∧∃ m,s4.heap.Ns C m:=by
  subst eC;have pD:=I4.pin (Lp D its k) (aaj _ aai);obtain ⟨m,hnC,_⟩:=id I4.loc;refine ⟨I2.takeD hD (I2.outB f2 I4) pD.2.1 ⟨hz,its,k,rv,pD.1⟩,pD.2.1,?_,m,hnC⟩;have z:D≠E.locals:=pD.2.2.1;rw [az (abO z)];exact I4.free
theorem Inv.lstEnd (I2:Inv X pins σ H2 s2) (f2:∀ b∈fp,dA X pins H2 b) {D C:Addr} (hD:s2.heap.objs.size≤D) (hC:s2.heap.objs.size≤C) (eC:E.locals=C) {P:List (Addr × Obj)} {σ':St} {H3:Hp} {s4:Shared} {ys:List V} {its:List Value} {k:Nat} (I4:Inv (dJ X E fn NY fp s2 H2) (Lp D its k :: P) σ' H3 s4) (rv:Vals ys its) (hz:ys.length≤sizeLine)
    {Q:VK} (qn:∀ p,H3 p=none→Q (.ref p) (upd H3 p (.lst ys))):compPost (model X.prog X.w) X.A X.xe none (EP X pins σ Q) (.ref D) C (.ok .next) s4:=by
  obtain ⟨I5,hD3,hC3,m,hn⟩:=I2.lstDone f2 hD hC eC I4 rv hz;exact ⟨m,hn,fun h' hsb=>⟨.ref D,_,I2.offC hC I5 hC3 fun b o hb e=>hsb.extBut b o hb e,rfl,qn D hD3⟩⟩
end
theorem oO {Y:Cx} {τ:Type} {val:τ→St} {nx:St→τ} (hc:Y.calm=true) (hxe:Y.xe=fun _ _=>False) (hrs:∀ {pn:List (Addr × Obj)} {σ':St} {H':Hp} {s':Shared},Inv Y pn σ' H' s'→Inv Y pn (val (nx σ')) H' s')
    {D:Addr} (hDx:D∈Y.ex∨Y.s₀.heap.objs.size≤D) (hDc:∀ x c,Y.env.cells.lookup x=some c→c≠D) (hDp:∀ p∈Y.pn,p.1≠D)
    {elt tg iter:Expr} {ifs:List Expr} {te:TE} {g:TG} {tt:TT} {G:List Comprehension} {scope:Scope} {pos:Pos} {k:Nat} (hbe:PE Y elt te) (hk:G[k]?=some ⟨tg,iter,ifs,0⟩) (hk2:G[k+1]?=none) (htg:PG Y tg g) (hfs:iI Y ifs tt)
    {P:List (Addr × Obj)} (hP:∀ p∈P,p.1≠D) {it:Addr} {fp:List Addr} {tn:Nat→Heap→Prop} {J:It} (T:Turn Y.prog Y.w Y.K tg J fp it tn) (neD:∀ b∈fp,D≠b) (fpY:∀ {H':Hp} {n:Nat} {its:List Value},(∀ b∈fp,H' b=none)→∀ b∈fp,dA Y (Lp D its n :: P) H' b)
    {R:Result→Shared→Prop} {Fin:List V→τ→Hp→Prop} (hR:∀ ys its k t H s,Inv Y (Lp D its k :: P) (val t) H s→Vals ys its→ys.length≤sizeLine→Fin ys t H→R (.ok .next) s)
    {W:Nat→Nat→List V→τ→Hp→Prop} (turn:∀ i m ys t H,W i m ys t H→(J.stop i H∧Fin ys t H) ∨
      (J.go i H∧ys.length < sizeLine∧∀ x H',J.yld i H x H'→g x (val t) H' fun σ3 H5=>tt σ3 H5 fun b H6=>if b=true then te σ3 H6 fun v H7=>∃ m',m' < m∧W (i+1) m' (ys++[v]) (nx σ3) H7 else ∃ m',m' < m∧W (i+1) m' ys (nx σ3) H6))
    {m0 kk:Nat} {ys:List V} {its:List Value} {t:τ} {H:Hp} {s:Shared} (I:Inv Y (Lp D its kk :: P) (val t) H s) (rv:Vals ys its) (hz:ys.length≤sizeLine) (st:tn 0 s.heap) (fr:∀ b∈fp,H b=none) (w0:W 0 m0 ys t H) :
    codeAny (model Y.prog Y.w) Y.A (.compLoop (.ListComp elt G scope pos) k (.ref it) (.ref D) Y.env) R s:=by
  have xe:∀ e s,Y.xe e s→False:=fun e s z=>by rw [hxe] at z;exact z
  refine nM hk hk2 (fun n s'=>∃ i ys its k t H',Inv Y (Lp D its k :: P) (val t) H' s'∧Vals ys its∧ys.length≤sizeLine∧tn i s'.heap∧(∀ b∈fp,H' b=none)∧W i n ys t H') ?_ m0 ⟨0,ys,its,kk,t,H,I,rv,hz,st,fr,w0⟩;rintro n s3 ⟨i,ys3,its3,k3,t3,H3,I3,rv3,hz3,st3,fr3,w3⟩;rcases turn i n ys3 t3 H3 w3 with ⟨stop,qn⟩|⟨go,hlt,step⟩
  · refine wpAny_mono (T.done Y rfl rfl rfl hc i _ s3 _ H3 (fun _ _=>False) I3 (fpY fr3) st3 stop) (fun r s4 ⟨hr,I4⟩=>?_) fun _ _ z=>z;subst hr;exact hR ys3 its3 k3 t3 H3 s4 I4 rv3 hz3 qn
  · refine wpAny_mono (T.item Y rfl rfl rfl hc i _ s3 _ H3 (fun _ _=>False) I3 (fpY fr3) st3 go) (fun r s4 ⟨u,hr,h4⟩=>?_) fun _ _ z=>z;subst hr;refine wpAny_mono h4 (fun _ s5 ⟨x,H5,I5,r5,y5,st5,fr5⟩=>?_) fun _ _ z=>z;have I5':=I5.pinned (fpY fr5) (T.obj _ _ st5);refine wpAny_mono (htg _ s5 _ H5 x u _ I5' r5 (step x H5 y5)) (fun _ s6 ⟨σ6,H6,I6,q6⟩=>?_) fun e s z=>(xe e s z).elim;refine wpAny_mono (hfs _ s6 σ6 H6 _ I6 q6) (fun ok s7 ⟨H7,I7,q7⟩=>?_) fun e s z=>(xe e s z).elim;have again:∀ {ys':List V} {its':List Value} {k':Nat} {σ':St} {H':Hp} {s':Shared},Inv Y (Lp D its' k' :: (P++cm fp s5.heap)) σ' H' s'→Vals ys' its'→ys'.length≤sizeLine→(∃ m',m' < n∧W (i+1) m' ys' (nx σ') H') →
        ∃ m,m < n∧∃ i ys its k t H',Inv Y (Lp D its k :: P) (val t) H' s'∧Vals ys its∧ys.length≤sizeLine∧tn i s'.heap∧(∀ b∈fp,H' b=none)∧W i m ys t H':=fun {ys' its' k' σ' H' s'} Z rv' hz' hw=>by
      obtain ⟨m',hm,w'⟩:=hw;have pn:∀ {b:Addr} {o:Obj},b∈fp→s5.heap.get? b=some o→_:=fun {b o} hb e=>Z.pin (b,o) (aaj _ (aae _ (aaj _ (cu hb e))));refine ⟨m',hm,i+1,ys',its',k',nx σ',H',hrs (Inv.unpinned (pl:=cm fp s5.heap) Z),rv',hz',T.keep _ _ _ st5 fun b hb o e=>(pn hb e).1,fun b hb=>?_,w'⟩;obtain ⟨o,e,d⟩:=T.obj _ _ st5 b hb;exact (pn hb e).2.1
    cases ok with
    | false =>
      rw [if_neg aah] at q7 ⊢;exact again I7 rv3 hz3 q7
    | true =>
      rw [if_pos rfl] at q7 ⊢;refine wpAny_mono (hbe _ s7 σ6 H7 _ I7 q7) (fun xv s15 ⟨v,H15,I15,r15,q15⟩=>?_) fun e s z=>(xe e s z).elim;have pD:=I15.pin (Lp D its3 k3) (aaj _ aai);have hlen:=rv3.length;refine append_at pD.1 (fun h16 hs16 hD16=>?_) (by rw [aad];lia);have I16:Inv Y (P++cm fp s5.heap) σ6 H15 s15:=I15.pins_of fun p hp=>I15.pin p (aaj _ (aae _ hp));have I17:Inv Y (P++cm fp s5.heap) σ6 H15 { s15 with heap:=h16 }:=I16.turned (t':=s15.toks) (it:=D) (fun b o hb e=>hs16.extBut b o hb e) pD.2.1 pD.2.2.1 hDx hDc fun p hp=>by
        rcases aaB.mp hp with z|z
        · exact hDp p z
        · rcases aaB.mp z with z|z
          · exact hP p z
          · exact abO (neD _ (ii z).1)
      have I18:Inv Y (Lp D (its3++[xv]) (k3+1) :: (P++cm fp s5.heap)) σ6 H15 { s15 with heap:=h16 }:=I17.pins_of fun p hp=>by
        rcases aaE.mp hp with z|z
        · rw [z];refine ⟨?_,pD.2.1,pD.2.2.1,pD.2.2.2.1,fun v z=>by cases z⟩;rw [List.push_toArray] at hD16;exact hD16
        · exact I17.pin p (aaj _ z)
      exact again I18 (rv3.append (.cons r15 .nil)) (by rw [aal,abD];exact hlt) q15
theorem Turn.lt {P:Program} {w:World} {K:aaa} {tg:Expr} {J:It} {fp:List Addr} {it:Addr} {tn:Nat→Heap→Prop} (T:Turn P w K tg J fp it tn) {h:Heap} {i:Nat} (st:tn i h):∀ b∈fp,b < h.objs.size:=fun b hb=>by
  obtain ⟨o,e,_⟩:=T.obj _ _ st b hb;exact aas e
theorem BlkC.neD {X:Cx} {s2:Shared} {h₁:Heap} {E:Env} {fn:Str→Bool} (B:BlkC X s2 h₁ E fn) (hc:∀ x c,X.env.cells.lookup x=some c→c < s2.heap.objs.size) {D:Addr} (hD:s2.heap.objs.size≤D) {o:Obj} (h:h₁.get? D=some o) (ho:∀ v,o.data≠.cell v):∀ x c,E.cells.lookup x=some c→c≠D:=fun x c e z=>by
  rcases B.cell x c e with q|q
  · exact absurd (hc x c q.2) (by rw [z];exact ab7.mpr hD)
  · have:=q.2.2.2.1;rw [z,h] at this;cases this;exact ho _ rfl
theorem Inv.newC {X:Cx} {pins:List (Addr × Obj)} {σ:St} {H2:Hp} {s2:Shared} {h₁:Heap} (I2:Inv X pins σ H2 s2) {scope:Scope} {cl:List (Str × Addr)} (hci:CellsIn X.env cl) (hkind:scope.kind=.function) (hhas:((relabel scope X.env).names.all fun p=>(p.2 != .cell && p.2 != .free) || (cl.lookup p.1).isSome)=true) {o:Obj}
    {m:Str→Option Value} (hns:h₁.Ns (s2.heap.push o).objs.size m) (ext:∀ b u,b≠(s2.heap.push o).objs.size→(s2.heap.push o).get? b=some u→h₁.get? b=some u) (hof:o.isFreed=false:=by rfl) :
    s2.heap.objs.size < (s2.heap.push o).objs.size∧BlkC X s2 h₁ (compEnvC scope cl (s2.heap.push o).objs.size X.env) (fun _=>false)∧h₁.get? s2.heap.objs.size=some o:=by
  have hC:s2.heap.objs.size < (s2.heap.push o).objs.size:=by rw [Heap.size_push];exact Nat.lt_succ_self _
  exact ⟨hC,I2.blkC hci hkind hhas (abx hC) (fun b u e=>ext b u (aaC (Nat.lt_trans (aas e) hC)) (aak _ e)) ⟨m,hns⟩,ext _ _ (aaC hC) (aaN _ hof)⟩
theorem Inv.goLast {X:Cx} {pins:List (Addr × Obj)} {σ:St} {H2:Hp} {s2:Shared} {h₁:Heap} {E:Env} {fn:Str→Bool} {NY:List Str} {fp:List Addr} (I2:Inv X pins σ H2 s2) (f2:∀ b∈fp,dA X pins H2 b) (fpl:∀ b∈fp,b < s2.heap.objs.size) (B:BlkC X s2 h₁ E fn) {cap:List (Option Nat)} (hcap:CapOk X.env E.scope X.N NY cap)
    (hx:((NY.zip cap).all fun p=>!fn p.1 || p.2 == none)=true) (hc:X.calm=true) {C:Addr} (hC:s2.heap.objs.size < C) (eC:E.locals=C) (hD:h₁.get? s2.heap.objs.size=some { cls:=.type "list",dict:=none,data:=.seq ([]:List Value).toArray })
    {tg elt iter:Expr} {ifs:List Expr} {g:TG} {tt:TT} {te:TE} {J:It} {it:Addr} {tn:Nat→Heap→Prop} (T:Turn X.prog X.w X.K tg J fp it tn) (st:tn 0 h₁) (hbe:PE (dJ X E fn NY fp s2 H2) elt te) (hbg:PG (dJ X E fn NY fp s2 H2) tg g) (hbt:iI (dJ X E fn NY fp s2 H2) ifs tt)
    {G:List Comprehension} (hk:G[0]?=some ⟨tg,iter,ifs,0⟩) (hk2:G[1]?=none) {scope:Scope} {pos:Pos} {t':Nat} {W:Nat→Nat→List V→Hp→Prop} {Fin:List V→Hp→Prop}
    (turn:∀ i m ys H,W i m ys H→(J.stop i H∧Fin ys H)∨(J.go i H∧ys.length < sizeLine∧∀ x H',J.yld i H x H'→g x (bO cap σ) H' fun σ2 H2=>tt σ2 H2 fun b H3=>if b=true then te σ2 H3 fun v H4=>∃ m',m' < m∧W (i+1) m' (ys++[v]) H4 else ∃ m',m' < m∧W (i+1) m' ys H3))
    {m0:Nat} (w0:W 0 m0 [] H2) {R:Result→Shared→Prop} (hR:∀ ys its k H s,Inv (dJ X E fn NY fp s2 H2) [Lp s2.heap.objs.size its k] (bO cap σ) H s→Vals ys its→ys.length≤sizeLine→Fin ys H→R (.ok .next) s) :
    codeAny (model X.prog X.w) X.A (.compLoop (.ListComp elt G scope pos) 0 (.ref it) (.ref s2.heap.objs.size) E) R { s2 with heap:=h₁,toks:=t' }:=by
  subst eC;exact oO (τ:=Unit) (val:=fun _=>bO cap σ) (nx:=fun _=>()) (Y:=dJ X E fn NY fp s2 H2) hc rfl (fun Z=>I2.recap f2 B hcap hx Z) (.inr (aab _)) (B.neD I2.cellLt (aab _) hD fun v z=>by cases z) (fun p hp=>by cases hp) hbe hk hk2 hbg hbt (P:=[]) (fun p hp=>by cases hp) T
    (fun b hb=>abm (fpl b hb)) (fun hn=>I2.fps f2 fpl B (fun p hp=>by rw [aau.mp hp];exact aab _) hn) (Fin:=fun ys _ H=>Fin ys H) (fun ys its k _ H s=>hR ys its k H s)
    (W:=fun i m ys _ H=>W i m ys H) (fun i m ys _ H=>turn i m ys H) (t:=()) (I2.blk f2 fpl B hcap hx (fun p hp=>by rw [aau.mp hp];exact ⟨hD,aab _,aaC hC,fun v z=>by cases z⟩)) .nil (aaI _) st (fun b hb=>(f2 b hb).1) w0
abbrev sR (cap:List (Option Nat)) (g:TG) (tt:TT) (te:TE) (σ:St) (Q:VK) (J:It) (H1:Hp):Prop:=∃ W:Nat→Nat→List V→Hp→Prop,(∃ m,W 0 m [] H1)∧∀ i m ys H,W i m ys H →
  (J.stop i H∧∀ p,H p=none→Q (.ref p) (upd H p (.lst ys))) ∨
  (J.go i H∧ys.length < sizeLine∧∀ x H',J.yld i H x H'→g x (bO cap σ) H' fun σ2 H2=>tt σ2 H2 fun b H3=>if b=true then te σ2 H3 fun v H4=>∃ m',m' < m∧W (i+1) m' (ys++[v]) H4 else ∃ m',m' < m∧W (i+1) m' ys H3)
def tLc (cap:List (Option Nat)) (wi:TI) (g:TG) (tt:TT) (te:TE):TE:=fun σ H Q=>wi σ H (sR cap g tt te σ Q)
section
variable {X:Cx}
theorem dG {elt tg iter:Expr} {ifs:List Expr} {scope:Scope} {pos:Pos} {cl:List (Str × Addr)} {NY:List Str} {cap:List (Option Nat)} {wi:TI} {g:TG} {tt:TT} {te:TE} (hc:X.calm=true) (hi:PI X tg iter wi)
    (hclos:closureFor scope X.env=pure cl) (hci:CellsIn X.env cl) (hcap:CapOk X.env (relabel scope X.env) X.N NY cap)
    (hb:∀ fp s H C,PG (aO X scope cl NY fp s H C) tg g∧iI (aO X scope cl NY fp s H C) ifs tt∧PE (aO X scope cl NY fp s H C) elt te)
    (hkind:scope.kind=.function:=by rfl) (hnc:(scope.names.all fun y=>y.2 != .cell)=true:=by rfl)
    (hnames:(scope.names.all fun y=>y.2 != .local || scope.names.lookup y.1 == some .local)=true:=by rfl)
    (hhas:((relabel scope X.env).names.all fun p=>(p.2 != .cell && p.2 != .free) || (cl.lookup p.1).isSome)=true:=by rfl)
    (hs:∀ x,foldedSetIterable iter X.env x=pure x:=by intro _;rfl) :
    PE X (.ListComp elt [⟨tg,iter,ifs,0⟩] scope pos) (tLc cap wi g tt te):=by
  intro pins s σ H Q I h;rw [eval_ListComp];refine wpAny_comprehension_free (use:=none) rfl hs hclos hkind (iT hnames) (wpAny_mono (hi pins s σ H _ I h) (fun v s1 h1=>wpAny_mono h1 (fun itv s2 h2=>?_) fun _ _ e=>e) fun _ _ e=>e);obtain ⟨it,fp,tn,J,H2,e,I2,T,st2,f2,W,⟨m0,w0⟩,turn⟩:=h2;subst e;refine wpAny_newObj_type (wpAny_newFunctionEnv (lE hnc) (by intro y hy;simp at hy) (fun h₁ hns₁ hsb₁=>?_) hkind);dsimp only at hns₁ hsb₁ ⊢;obtain ⟨hC,B,hD⟩:=I2.newC hci hkind hhas hns₁ fun b o hb e=>hsb₁.extBut b o hb (aak _ e);generalize (s2.heap.push { cls:=.type "list",dict:=none,data:=.seq ([]:List Value).toArray }).objs.size=C at hC B ⊢;obtain ⟨hbg,hbt,hbe⟩:=hb fp s2 H2 C;have stW:=T.keep _ _ h₁ st2 fun b _ o e=>B.old b o e;have loop:=I2.goLast f2 (T.lt st2) B hcap cr hc hC rfl hD T stW hbe hbg hbt (G:=[⟨tg,iter,ifs,0⟩]) rfl rfl (scope:=scope) (pos:=pos) (iter:=iter) (t':=s2.toks+([]:List (Str × Value)).length) turn w0 (R:=compPost (model X.prog X.w) X.A X.xe none (EP X pins σ Q) (.ref s2.heap.objs.size) C) fun ys its k H s I4 rv hz fin=>I2.lstEnd f2 (aab _) (abx hC) rfl I4 rv hz fin;exact codeAny_compStart_list loop (T.self _ 0 _ _ _ stW loop)
end
open PySem PySem.Spec PyProof.Rows
section
variable {X:Cx}
theorem aI {n:String}:dh X (.builtin "isinstance") (fun xs H Q=>∃ x t b,xs=[x,.ty n]∧TyOf X.K H x t∧PySem.W.kitOne X.K t (.type n)=some b∧Q (.bl b) H):=by
  intro pins s σ H xs us Q I r h;obtain ⟨x,t,b,rfl,ty,e,q⟩:=h;obtain ⟨u,w',rfl,rx,rt⟩:=sS r;cases rt;exact pN I rx ty e fun tk=>⟨.bl b,H,I.tok _,rfl,q⟩
theorem eX:OpR X (binaryOp .FloorDiv) (rI (fun _ j=>0 < j∧j < 2 ^ 64) fun i j=>.int (i / j)):=opI fun i j _ _ _ _ _ hc q=>by
  have h1:(0:Int) < j:=hc.1;have h2:j < 2 ^ 64:=hc.2;refine floordiv_int (by lia) (by rw [Int.fdiv_eq_ediv_of_nonneg i (by lia)];exact q) (.inl (PyProof.noPylong_of_log2 ?_));have h3:j.natAbs < 2 ^ 64:=by lia
  have h4:j.natAbs≠0:=by lia
  have h5:j.natAbs.log2 < 64:=(Nat.log2_lt h4).mpr h3;lia
def Cal (P:Program) (w:World) (K:aaa) (mg:Str→Option Value) (base:Heap) (x:Str) (k:Nat) (ps:List Str) (sp:Sp):Prop :=
  ∃ f fd,FnOk P w K mg base CX0 k f fd ps sp∧Binds K fd ps []∧aa7 K (.ref f)=true∧mg x=some (.ref f)
theorem aj {x:Str} {k k':Nat} {ps:List Str} {sp:Sp} {e:Expr} {es:List Expr} {t:TA} {p pos:Pos} (C:Cal X.prog X.w X.K X.mg X.base x k ps sp) (hr:Room k' X.A) (hk:k≤k') (hg:Gl X x) (ha:PA X (e :: es) t)
    (hdb:(x == ("__debug__":Str))=false:=by decide) (he:starEach (e :: es) X.env=(false,eval e X.env) :: starEach es X.env:=by rfl) (hpl:(backTo pos (starEach es X.env)).any (·.1)=false:=by rfl) :
    PE X (.Call (.Name x p) (e :: es) [] pos) (sU sp [] E0 t):=by
  obtain ⟨f,fd,F,b,kp,m⟩:=C;exact r_ F (hr.mono hk) hg m kp b .nil vd ha hdb he hpl
end
theorem Same.new {H:Hp} {p:Addr} (h:H p=none) (o:HO):Same H (upd H p o):=fun b u q=>by rw [az (aD q h)];exact q
def But (w:Addr) (H H':Hp):Prop:=∀ b o,b≠w→H b=some o→H' b=some o
theorem But.refl {w:Addr} {H:Hp}:But w H H:=fun _ _ _ h=>h
theorem But.trans {w:Addr} {H H1 H2:Hp} (a:But w H H1) (b:But w H1 H2):But w H H2:=fun c o n h=>b c o n (a c o n h)
theorem But.of {w:Addr} {H H':Hp} (a:Same H H'):But w H H':=fun c o _ h=>a c o h
theorem But.new {w:Addr} {H:Hp} {p:Addr} (h:H p=none) (o:HO):But w H (upd H p o):=But.of (Same.new h o)
theorem But.put {w:Addr} {H:Hp} {o:HO}:But w H (upd H w o):=fun b u n q=>by rw [az n];exact q
end L2
namespace Srt
open PySem PySem.W PyProof.Rows
def run {α:Type} (lt:Nat→Nat→Bool):KasT α→α
  | .ret a=>a
  | .ask i j k=>run lt (k (lt i j))
section
variable (key:Nat→Int)
abbrev lt:Nat→Nat→Bool:=fun i j=>decide (key i < key j)
def kp (p:Array Nat) (x:Nat):Int:=key (p.getD x 0)
variable {key}
end
end Srt
namespace Srt
open PySem PySem.W PyProof.Rows
def Ent (n:Nat) (p:Array Nat):Prop:=∀ x,p.getD x 0 < n
section
variable {prog:Program} {w:World} {A:Around} {E:Value→Shared→Prop} {s:Shared}
end
end Srt
set_option maxHeartbeats 2000000
namespace L2
open PySem PySem.Spec PyProof.Rows
inductive EqR (K:aaa) (H:Hp):Nat→V→V→Bool→Prop
  | flat {n:Nat} {x y:V} (fx:df x=true) (fy:df y=true):EqR K H n x y (eqV x y)
  | lens {n:Nat} {a b:Addr} {xs ys:List V} (ha:SqL K H a xs) (hb:SqL K H b ys) (hl:xs.length≠ys.length):EqR K H (n+1) (.ref a) (.ref b) false
  | lst {n:Nat} {a b:Addr} {xs ys:List V} {e:Nat→Bool} (ha:SqL K H a xs) (hb:SqL K H b ys) (hl:xs.length=ys.length) (h:∀ (j:Nat) x y,xs[j]?=some x→ys[j]?=some y→EqR K H n x y (e j)):EqR K H (n+1) (.ref a) (.ref b) ((aaD xs.length).all e)
  | tup {n:Nat} {a b:Addr} {xs ys:List V} {e:Nat→Bool} (ha:SqT K H a xs) (hb:SqT K H b ys) (h:∀ (j:Nat) x y,xs[j]?=some x→ys[j]?=some y→EqR K H n x y (e j)) :
      EqR K H (n+1) (.ref a) (.ref b) ((aaD (min xs.length ys.length)).all e && xs.length == ys.length)
theorem mI {x:V} (f:df x=true):eqV x x=true:=by
  cases x <;> first|rfl|(simp [eqV];done)|exact absurd (show false=true from f) aah
section
variable {X:Cx} {pins:List (Addr × Obj)} {σ:St} {H:Hp} {s:Shared}
theorem EqR.self (I:Inv X pins σ H s) {n:Nat} {x y:V} {b:Bool} (h:EqR X.K H n x y b):x=y→b=true:=by
  induction h with
  | flat fx fy=>intro e;subst e;exact mI fx
  | lens ha hb hl =>
    intro e;injection e with e;subst e
    exact absurd (by rw [I.list_inj ha hb]) hl
  | @lst n a b xs ys e ha hb hl h ih =>
    intro q;injection q with q;subst q
    obtain rfl:=I.list_inj ha hb;rw [aaH];intro j hj;have hj':j < xs.length:=aaJ.mp hj;exact ih j _ _ (aag hj') (aag hj') rfl
  | @tup n a b xs ys e ha hb h ih =>
    intro q;injection q with q;subst q
    obtain rfl:=I.tuple_inj ha hb;rw [abd,aaH];refine ⟨fun j hj=>?_,beq_self_eq_true _⟩;have hj':j < xs.length:=by have:=aaJ.mp hj;lia
    exact ih j _ _ (aag hj') (aag hj') rfl
theorem a_ {xs:List V} {its:List Value} (r:Vals xs its) {j:Nat} (h:j < its.toArray.size):∃ x,xs[j]?=some x∧RelV x its.toArray[j]:=by
  have hl:=r.length;have h':j < xs.length:=by rw [hl];simpa using h
  obtain ⟨u,hu,ru⟩:=r.get (aag h');refine ⟨_,aag h',?_⟩;have e:its.toArray[j]=u:=by
    have : its[j]?=some u:=hu;rw [aag (by simpa using h)] at this;simpa using aaT this
  rw [e];exact ru
theorem EqR.at (I:Inv X pins σ H s) {n:Nat} {x y:V} {b:Bool} (h:EqR X.K H n x y b):∀ {A:Around} {u v:Value},RelV x u→RelV y v→A.units+n < cLine→SeqAt.EqAt A s u v b:=by
  induction h with
  | flat fx fy=>intro A u v rx ry hu;exact rl rx ry fx fy
  | @lens n a b xs ys ha hb hl =>
    intro A u v rx ry hu;cases rx;cases ry;obtain ⟨its,r,pl,_⟩:=I.list ha;obtain ⟨its2,r2,pl2,_⟩:=I.list hb;have ne:a≠b:=fun e=>by subst e;exact hl (by rw [I.list_inj ha hb])
    refine .of_refs ne (.lists_lengths pl.isList pl2.isList ?_ (by lia));rw [aad,aad,← r.length,← r2.length];exact bne_iff_ne.mpr hl
  | @lst n a b xs ys e ha hb hl h ih =>
    intro A u v rx ry hu;by_cases q:a=b
    · have:=(EqR.lst ha hb hl h).self I (by rw [q]);cases rx;cases ry;rw [this];subst q;exact SeqAt.EqAt.same _
    · cases rx;cases ry;obtain ⟨its,r,pl,_⟩:=I.list ha;obtain ⟨its2,r2,pl2,_⟩:=I.list hb;have e1:its.toArray.size=xs.length:=by rw [aad,r.length]
      rw [← e1];refine .of_refs q (.lists pl.isList pl2.isList (by rw [aad,aad,← r.length,← r2.length];exact hl) (by lia) fun j h1 h2=>?_);obtain ⟨x,hx,rx⟩:=a_ r h1;obtain ⟨y,hy,ry⟩:=a_ r2 h2;exact ih j x y hx hy rx ry (by show A.units+1+n < cLine;lia)
  | @tup n a b xs ys e ha hb h ih =>
    intro A u v rx ry hu;by_cases q:a=b
    · have:=(EqR.tup ha hb h).self I (by rw [q]);cases rx;cases ry;rw [this];subst q;exact SeqAt.EqAt.same _
    · cases rx;cases ry;obtain ⟨its,r,pl,_⟩:=I.tuple ha;obtain ⟨its2,r2,pl2,_⟩:=I.tuple hb;have e1:its.toArray.size=xs.length:=by rw [aad,r.length]
      have e2:its2.toArray.size=ys.length:=by rw [aad,r2.length]
      rw [← e1,← e2];refine .of_refs q (.tuples pl pl2 (by lia) fun j h1 h2=>?_);obtain ⟨x,hx,rx⟩:=a_ r h1;obtain ⟨y,hy,ry⟩:=a_ r2 h2;exact ih j x y hx hy rx ry (by show A.units+1+n < cLine;lia)
def tX (K:aaa) (neg:Bool):R2:=fun x y H Q=>∃ n a b xs ys,n≤60∧x=.ref a∧y=.ref b∧SqL K H a xs∧SqL K H b ys ∧
  ((xs.length≠ys.length∧Q (.bl neg) H)∨∃ e:Nat→Bool,xs.length=ys.length∧(∀ (j:Nat) x y,xs[j]?=some x→ys[j]?=some y→EqR K H n x y (e j))∧Q (.bl (if neg then !(aaD xs.length).all e else (aaD xs.length).all e)) H)
theorem ni (hu:X.A.units+64 < cLine):OpR X (compareOp .NotEq) (tX X.K true):=by
  intro pins s σ H x y v u Q I rx ry h;obtain ⟨n,a,b,xs,ys,hn,rfl,rfl,ha,hb,h⟩:=h;cases rx;cases ry;obtain ⟨its,r,pl,_⟩:=I.list ha;obtain ⟨its2,r2,pl2,_⟩:=I.list hb;have e1:its.toArray.size=xs.length:=by rw [aad,r.length]
  have e2:its2.toArray.size=ys.length:=by rw [aad,r2.length]
  rcases h with ⟨hl,q⟩|⟨e,hl,he,q⟩
  · exact SeqAt.RcNeAt.lists_lengths pl.isList pl2.isList (by rw [e1,e2];exact bne_iff_ne.mpr hl) (by lia) _ _ _ _ ⟨.bl true,H,I,rfl,q⟩
  · refine SeqAt.RcNeAt.lists (e:=e) pl.isList pl2.isList (by rw [e1,e2];exact hl) (by lia) (fun j h1 h2=>?_) _ _ _ _ ?_
    · obtain ⟨x,hx,rx⟩:=a_ r h1;obtain ⟨y,hy,ry⟩:=a_ r2 h2;exact (he j x y hx hy).at I rx ry (by show X.A.units+1+n < cLine;lia)
    · rw [e1];exact ⟨.bl _,H,I,rfl,q⟩
end
abbrev PairIn (H:Hp) (p:Int × Int) (v:V):Prop:=∃ a,v=.ref a∧H a=some (.tup [.int p.1,.int p.2])
abbrev PairsIn (H:Hp):List (Int × Int)→List V→Prop:=Paired (PairIn H)
open PySem PySem.Spec PyProof.Rows
section
variable {X:Cx}
end
open PySem PySem.Spec PyProof.Rows
theorem fD {c A B:Prop} [Decidable c] (hc:c) (h:A):if decide c=true then A else B:=by
  rw [if_pos (decide_eq_true hc)];exact h
theorem e_ {c A B:Prop} [Decidable c] (hc:¬ c) (h:B):if decide c=true then A else B:=by
  rw [if_neg (fun e=>hc (of_decide_eq_true e))];exact h
section
variable {X:Cx} {K:aaa}
theorem lC {n:String} (hK:X.K=K):dh X (.builtin "isinstance") (fun xs H Q=>∃ x t b,xs=[x,.ty n]∧TyOf K H x t∧PySem.W.kitOne K t (.type n)=some b∧Q (.bl b) H):=by subst hK;exact aI
theorem jW (hK:X.K=K):dh X (.builtin "len") (fun xs H Q=>∃ p ys,xs=[.ref p]∧(SqL K H p ys∨SqT K H p ys)∧Q (.int ys.length) H):=by subst hK;exact ar
theorem fe {es:List Expr} {k:Nat} {pos:Pos} {t:TGs} {n:Nat} (hK:X.K=K) (hc:X.calm=true) (h:PGs X es t)
    (hn:(assignEach es X.env).length=n:=by rfl) (hst:(assignEach es X.env).findIdx? (·.1)=none:=by rfl):PG X (.Tuple es k pos) (vA K n t):=by subst hK;exact bK hc h hn hst
end
def Nxt (n i:Nat) (P:Prop):Prop:=∃ m',m' < n - i∧m'=n - (i+1)∧i+1≤n∧P
theorem sx {K:aaa} {a:Addr} {xs:List V} {cap:List (Option Nat)} {g:TG} {tt:TT} {te:TE} {σ:St} {H:Hp} {Q:VK} (Pv:Nat→List V→Hp→Prop) (h0:Pv 0 [] H) (hl:∀ i ys H,i≤xs.length→Pv i ys H→SqL K H a xs∧ys.length < sizeLine)
    (hs:∀ i x ys H,xs[i]?=some x→Pv i ys H→(∀ {P:Prop},P→Nxt xs.length i P)→g x (bO cap σ) H fun σ2 H2=>tt σ2 H2 fun b H3=>if b=true then te σ2 H3 fun v H4=>Nxt xs.length i (Pv (i+1) (ys++[v]) H4) else Nxt xs.length i (Pv (i+1) ys H3)) (hd:∀ ys H,Pv xs.length ys H→∀ p,H p=none→Q (.ref p) (upd H p (.lst ys))) :
    sR cap g tt te σ Q (Itl K a) H:=by
  refine ⟨fun i m ys H=>m=xs.length - i∧i≤xs.length∧Pv i ys H,⟨xs.length,by simp,aaI _,h0⟩,?_⟩;rintro i m ys H ⟨rfl,hi,p⟩;have q:=hl i ys H hi p;by_cases hlt:i < xs.length
  · refine .inr ⟨⟨xs,xs[i],q.1,by simp [hlt]⟩,q.2,fun x H' y=>?_⟩;obtain ⟨e,y⟩:=y;subst e;exact hs i x ys _ (y xs q.1) p fun h=>⟨_,by lia,rfl,hlt,h⟩
  · have e:i=xs.length:=by lia
    subst e;exact .inl ⟨⟨xs,q.1,aab _⟩,hd ys H p⟩
theorem qL {K:aaa} {a:Addr} {xs:List V} {cap:List (Option Nat)} {g:TG} {tt:TT} {te:TE} {σ:St} {H:Hp} {Q:VK} (Pv:Nat→List V→Hp→Prop) (h0:Pv 0 [] H) (hl:∀ i ys H,i≤xs.length→Pv i ys H→SqT K H a xs∧ys.length < sizeLine)
    (hs:∀ i x ys H,xs[i]?=some x→Pv i ys H→(∀ {P:Prop},P→Nxt xs.length i P)→g x (bO cap σ) H fun σ2 H2=>tt σ2 H2 fun b H3=>if b=true then te σ2 H3 fun v H4=>Nxt xs.length i (Pv (i+1) (ys++[v]) H4) else Nxt xs.length i (Pv (i+1) ys H3)) (hd:∀ ys H,Pv xs.length ys H→∀ p,H p=none→Q (.ref p) (upd H p (.lst ys))) :
    sR cap g tt te σ Q (Itt K a) H:=by
  refine ⟨fun i m ys H=>m=xs.length - i∧i≤xs.length∧Pv i ys H,⟨xs.length,by simp,aaI _,h0⟩,?_⟩;rintro i m ys H ⟨rfl,hi,p⟩;have q:=hl i ys H hi p;by_cases hlt:i < xs.length
  · refine .inr ⟨⟨xs,xs[i],q.1,by simp [hlt]⟩,q.2,fun x H' y=>?_⟩;obtain ⟨e,y⟩:=y;subst e;exact hs i x ys _ (y xs q.1) p fun h=>⟨_,by lia,rfl,hlt,h⟩
  · have e:i=xs.length:=by lia
    subst e;exact .inl ⟨⟨xs,q.1,aab _⟩,hd ys H p⟩
theorem EqR.flat_same {K:aaa} {H:Hp} {n:Nat} {x:V} (f:df x=true):EqR K H n x x true:=by
  have:=EqR.flat (K:=K) (H:=H) (n:=n) f f;rw [mI f] at this;exact this
theorem qD {H:Hp} {ps:List (Int × Int)} {vs:List V} (p:PairsIn H ps vs):∀ {j:Nat} {x:V},vs[j]?=some x→∃ p,ps[j]?=some p∧PairIn H p x:=by
  induction p with
  | nil=>intro j x h;cases h
  | cons a b ih =>
    intro j x h;cases j with
    | zero=>cases h;exact ⟨_,rfl,a⟩
    | succ j=>exact ih (j:=j) h
open PySem PySem.Spec PyProof.Rows
def vk:Key→PyData
  | .inl i=>.int i
  | .inr x=>.str x
mutual
def Dat (H:Hp):PyData→V→Prop
  | .none,v=>v=.non
  | .bool b,v=>v=.bl b
  | .int i,v=>v=.int i
  | .str x,v=>v=.str x
  | .list ds,v=>∃ a xs,v=.ref a∧H a=some (.lst xs)∧DatAll H ds xs
  | .tuple ds,v=>∃ a xs,v=.ref a∧H a=some (.tup xs)∧DatAll H ds xs
  | .dict kvs,v=>∃ a ks,v=.ref a∧H a=some (.dK ks)∧DatKv H kvs ks
def DatAll (H:Hp):List PyData→List V→Prop
  | [],vs=>vs=[]
  | d :: ds,vs=>∃ v r,vs=v :: r∧Dat H d v∧DatAll H ds r
def DatKv (H:Hp):List (PyData × PyData)→List (Key × V)→Prop
  | [],ks=>ks=[]
  | (k,d) :: r,ks=>∃ q v t,ks=(q,v) :: t∧k=vk q∧Dat H d v∧DatKv H r t
end
mutual
theorem Dat.mono {H H':Hp} (g:Same H H'):∀ (d:PyData) (v:V),Dat H d v→Dat H' d v
  | .none,v,h=>h
  | .bool b,v,h=>h
  | .int i,v,h=>h
  | .str x,v,h=>h
  | .list ds,v,h=>by
    simp only [Dat] at h ⊢;obtain ⟨a,xs,e,h1,h2⟩:=h;exact ⟨a,xs,e,g _ _ h1,DatAll.mono g ds xs h2⟩
  | .tuple ds,v,h=>by
    simp only [Dat] at h ⊢;obtain ⟨a,xs,e,h1,h2⟩:=h;exact ⟨a,xs,e,g _ _ h1,DatAll.mono g ds xs h2⟩
  | .dict kvs,v,h=>by
    simp only [Dat] at h ⊢;obtain ⟨a,xs,e,h1,h2⟩:=h;exact ⟨a,xs,e,g _ _ h1,DatKv.mono g kvs xs h2⟩
theorem DatAll.mono {H H':Hp} (g:Same H H'):∀ (ds:List PyData) (vs:List V),DatAll H ds vs→DatAll H' ds vs
  | [],vs,h=>h
  | d :: ds,vs,h=>by
    simp only [DatAll] at h ⊢;obtain ⟨v,r,e,h1,h2⟩:=h;exact ⟨v,r,e,Dat.mono g d v h1,DatAll.mono g ds r h2⟩
theorem DatKv.mono {H H':Hp} (g:Same H H'):∀ (kvs:List (PyData × PyData)) (ks:List (Key × V)),DatKv H kvs ks→DatKv H' kvs ks
  | [],ks,h=>h
  | (k,d) :: r,ks,h=>by
    simp only [DatKv] at h ⊢;obtain ⟨q,v,t,e1,e2,h1,h2⟩:=h;exact ⟨q,v,t,e1,e2,Dat.mono g d v h1,DatKv.mono g r t h2⟩
end
theorem DatAll.len {H:Hp}:∀ {ds:List PyData} {vs:List V},DatAll H ds vs→ds.length=vs.length
  | [],vs,h=>by simp only [DatAll] at h;rw [h];rfl
  | d :: ds,vs,h=>by
    simp only [DatAll] at h;obtain ⟨v,r,rfl,_,h2⟩:=h;rw [aaQ,aaQ,DatAll.len h2]
theorem DatAll.app {H:Hp}:∀ {as:List PyData} {vs:List V} {bs:List PyData} {us:List V},DatAll H as vs→DatAll H bs us→DatAll H (as++bs) (vs++us)
  | [],vs,bs,us,h,k=>by simp only [DatAll] at h;subst h;exact k
  | d :: as,vs,bs,us,h,k=>by
    simp only [DatAll] at h;obtain ⟨v,r,rfl,h1,h2⟩:=h;show DatAll H (d :: (as++bs)) (v :: (r++us));simp only [DatAll];exact ⟨v,_,rfl,h1,DatAll.app h2 k⟩
theorem DatAll.one {H:Hp} {d:PyData} {v:V} (h:Dat H d v):DatAll H [d] [v]:=by simp only [DatAll];exact ⟨v,[],rfl,h,rfl⟩
section
variable {X:Cx} {pins:List (Addr × Obj)} {σ:St} {H:Hp} {s:Shared}
theorem Inv.nosys (I:Inv X pins σ H s) {a:Addr} {o:HO} (h:H a=some o):a≠sysModules:=fun e=>by
  obtain ⟨mm,ob,es,ep,g,_⟩:=I.mod.sysm;have:=(I.bs _ _ g).2;rw [← e,h] at this;cases this
theorem pK {P:Program} {w:World} {h:Heap} {q:Key} {v:Value} (e:(aG P w).is q v=true):Reads h v (vk q) []:=by
  rw [nD] at e;rcases bg e with ⟨i,t,rfl,rfl⟩|⟨x,t,rfl,rfl⟩
  · exact .int i t
  · exact .str x t
mutual
theorem Dat.reads (I:Inv X pins σ H s):∀ (d:PyData) (v:V) (u:Value),Dat H d v→RelV v u→∃ as,Reads s.heap u d as∧sysModules∉as
  | .none,v,u,h,r=>by
    simp only [Dat] at h;subst h;cases r;exact ⟨_,.none,by simp⟩
  | .bool b,v,u,h,r=>by
    simp only [Dat] at h;subst h;cases r;exact ⟨_,.bool b,by simp⟩
  | .int i,v,u,h,r=>by
    simp only [Dat] at h;subst h;obtain ⟨t,rfl⟩:=r;exact ⟨_,.int i t,by simp⟩
  | .str x,v,u,h,r=>by
    simp only [Dat] at h;subst h;obtain ⟨t,rfl⟩:=r;exact ⟨_,.str x t,by simp⟩
  | .list ds,v,u,h,r=>by
    simp only [Dat] at h;obtain ⟨a,xs,rfl,hr,hd⟩:=h;cases r;obtain ⟨its,rv,⟨o,n,e1,e2,_,e3⟩,_⟩:=I.list (SqL.of hr);obtain ⟨as,ra,na⟩:=DatAll.reads I ds xs its hd rv;have ho:=hr;refine ⟨_,.list e1 e2 e3 (by simpa using ra),fun z=>?_⟩;rcases aaE.mp z with z|z
    · exact I.nosys ho z.symm
    · exact na z
  | .tuple ds,v,u,h,r=>by
    simp only [Dat] at h;obtain ⟨a,xs,rfl,hr,hd⟩:=h;cases r;obtain ⟨its,rv,⟨o,e1,e2,n,e3⟩,_⟩:=I.tuple (SqT.of hr);obtain ⟨as,ra,na⟩:=DatAll.reads I ds xs its hd rv;exact ⟨_,.tuple e1 e2 e3 (by simpa using ra),na⟩
  | .dict kvs,v,u,h,r=>by
    simp only [Dat] at h;obtain ⟨a,ks,rfl,hr,hd⟩:=h;cases r;obtain ⟨_,_,vs,rel,o,es,ep,e1,ex,e3,_,pr,_⟩:=rp I.hok hr;obtain ⟨as,bs,ra,rb,na,nb⟩:=DatKv.reads I kvs ks vs es.toList hd rel pr;have ho:=hr;refine ⟨_,.dict e1 ex.1 e3 ra rb,fun z=>?_⟩;rcases aaB.mp z with z|z
    · rcases aaE.mp z with z|z
      · exact I.nosys ho z.symm
      · exact na z
    · exact nb z
theorem DatAll.reads (I:Inv X pins σ H s):∀ (ds:List PyData) (vs:List V) (us:List Value),DatAll H ds vs→Vals vs us→∃ as,ReadsAll s.heap us ds as∧sysModules∉as
  | [],vs,us,h,r=>by
    simp only [DatAll] at h;subst h;cases r;exact ⟨_,.nil,by simp⟩
  | d :: ds,vs,us,h,r=>by
    simp only [DatAll] at h;obtain ⟨v,t,rfl,h1,h2⟩:=h;cases r with
    | cons r1 r2 =>
      obtain ⟨as,ra,na⟩:=Dat.reads I d v _ h1 r1;obtain ⟨bs,rb,nb⟩:=DatAll.reads I ds t _ h2 r2;exact ⟨_,.cons ra rb,fun z=>(aaB.mp z).elim na nb⟩
theorem DatKv.reads (I:Inv X pins σ H s):∀ (kvs:List (PyData × PyData)) (ks:List (Key × V)) (vs:List (Key × Value)) (es:List DictEntry),DatKv H kvs ks→KV ks vs→Pairs (aG X.prog X.w) es vs →
    ∃ as bs,ReadsAll s.heap (es.map (·.key)) (kvs.map (·.1)) as∧ReadsAll s.heap (es.map (·.val)) (kvs.map (·.2)) bs∧sysModules∉as∧sysModules∉bs
  | [],ks,vs,es,h,r,p=>by
    simp only [DatKv] at h;subst h;cases r;cases p;exact ⟨_,_,.nil,.nil,by simp,by simp⟩
  | (k,d) :: kr,ks,vs,es,h,r,p=>by
    simp only [DatKv] at h;obtain ⟨q,v,t,rfl,rfl,h1,h2⟩:=h;cases r with
    | cons r1 r2 =>
      cases p with
      | cons p1 p2 p3 =>
        obtain ⟨rk,rv⟩:=r1;obtain ⟨as,bs,ra,rb,na,nb⟩:=DatKv.reads I kr t _ _ h2 r2 p3;obtain ⟨cs,rc,nc⟩:=Dat.reads I d v _ h1 rv;have rk':q=_:=rk;subst rk';have kd:=pK (h:=s.heap) p1;refine ⟨[]++as,cs++bs,.cons kd ra,.cons (by dsimp only;rw [p2];exact rc) rb,by simpa using na,fun z=>(aaB.mp z).elim nc nb⟩
end
theorem fz (hg:X.A.guards=some []) (hu:X.A.units+64 < cLine):dh X (.builtin "repr") (fun xs H Q=>∃ x d,xs=[x]∧Dat H d x∧d.showable=true∧d.depth≤60∧d.shown.length≤sizeLine∧Q (.str d.shown) H):=by
  intro pins s σ H xs us Q I r h;obtain ⟨x,d,rfl,hd,hs,hdp,hl,q⟩:=h;obtain ⟨u,rfl,ru⟩:=fZ r;have key:∀ a,u=.ref a→wpAny (model X.prog X.w) X.A (call (.builtin "repr") [u]) (EP X pins σ Q) X.xe s:=fun a e=>by
    subst e;obtain ⟨as,ra,na⟩:=Dat.reads I d x _ hd ru;refine repr_of_reads' ra hs (fun _=>na) hg (by lia) (fun _ _ e=>e) (fun h' u tk hk=>?_) hl;exact ⟨.str d.shown,H,I.kept hk,⟨u,rfl⟩,q⟩
  cases d with
  | none =>
    simp only [Dat] at hd;subst hd;cases ru;rw [PyData.shown_none] at q;exact PySem.P.repr_of_none ⟨.str "None",H,I.tok _,⟨_,rfl⟩,q⟩
  | bool b =>
    simp only [Dat] at hd;subst hd;cases ru;rw [PyData.shown_bool] at q;exact PySem.P.repr_of_bool ⟨.str _,H,I.tok _,⟨_,rfl⟩,q⟩
  | int i =>
    simp only [Dat] at hd;subst hd;obtain ⟨t,rfl⟩:=ru;rw [PyData.shown_int] at q;exact PySem.P.repr_of_int (by simpa [PyData.showable] using hs) ⟨.str _,H,I.tok _,⟨_,rfl⟩,q⟩
  | str z =>
    simp only [Dat] at hd;subst hd;obtain ⟨t,rfl⟩:=ru;rw [PyData.shown_str] at q hl;exact PySem.P.repr_of_str ⟨.str _,H,I.tok _,⟨_,rfl⟩,q⟩ hl
  | list ds =>
    have hd':=hd;simp only [Dat] at hd';obtain ⟨a,_,rfl,_⟩:=hd';exact key a ru
  | tuple ds =>
    have hd':=hd;simp only [Dat] at hd';obtain ⟨a,_,rfl,_⟩:=hd';exact key a ru
  | dict kvs =>
    have hd':=hd;simp only [Dat] at hd';obtain ⟨a,_,rfl,_⟩:=hd';exact key a ru
end
open PySem PySem.Spec PyProof.Rows
section
variable {X:Cx}
end
open PySem PySem.Spec PyProof.Rows
theorem Inv.turnedL {X:Cx} {pins:List (Addr × Obj)} {σ:St} {H:Hp} {s:Shared} {h':Heap} {t':Nat} {fp:List Addr} (I:Inv X pins σ H s) (k:∀ b o,b∉fp→s.heap.get? b=some o→h'.get? b=some o) (hf:∀ b∈fp,dA X pins H b):Inv X pins σ H { s with heap:=h',toks:=t' }:=by
  have nit:∀ b u,H b=some u→b∉fp:=fun b u e z=>by rw [(hf b z).1] at e;cases e
  refine I.step (g':=s.gens) (d':=s.drawn) (ch:=fp) (fun b hb=>⟨(hf b hb).2.2.2.1,(hf b hb).2.1,(hf b hb).2.2.2.2.1,(hf b hb).2.2.2.2.2⟩) (fun b o _ _ hc e _=>k b o hc e) (fun b o _ _ hc e _=>⟨o.slots,k b o hc e⟩) (fun _ _ _ _ n=>n)
    (fun b o hc e=>⟨o,k b o hc e⟩) (fun _ _ e=>e) (fun _ _ _ e=>e) (fun b ps e=>⟨#[],by rw [e];simp⟩) (fun m hm=>?_) (fun b u e=>?_) I.bare
  · obtain ⟨o,es,ep,ho,r⟩:=hm;exact ⟨o,es,ep,k _ o (fun z=>(hf _ z).2.1 rfl) ho,r⟩
  · refine (I.hok b u e).stay (fun c v hc q=>k c v ?_ q) (fun _ q=>q) fun _ _ q=>q;rcases hc with z|z
    · rw [z];exact nit b u e
    · exact nit c _ z
def pT (K:aaa) (a:Addr):It :=
  ⟨fun i H=>∃ xs x,SqL K H a xs∧xs[i]?=some x,fun i H x H'=>∃ p y,H p=none∧x=.ref p∧H'=upd H p (.tup [.int i,y])∧∀ xs,SqL K H a xs→xs[i]?=some y,fun i H=>∃ xs,SqL K H a xs∧xs.length≤i⟩
theorem o7 {P:Program} {w:World} {K:aaa} {elts:List Expr} {k:Nat} {pos:Pos} (a e it:Addr) (hei:e≠it):Turn P w K (.Tuple elts k pos) (pT K a) [e,it] e (fun i h=>(∃ old,IsEnum h e it i old)∧h.IsListIter it a i) where
  mem:=by simp
  obj:=fun i h st b hb=>by
    obtain ⟨⟨old,he⟩,o,e1,c,d⟩:=st;rcases aaE.mp hb with z|z
    · subst z;exact ⟨_,he,fun v z=>by cases z⟩
    · have z:b=it:=by simpa using z
      subst z;exact ⟨o,e1,fun v z=>by rw [d] at z;cases z⟩
  keep:=fun i h h' st kp=>⟨let ⟨old,he⟩:=st.1;⟨old,kp e (by simp) _ he⟩,st.2.at fun o x=>kp it (by simp) o x⟩
  item:=by
    intro X hP hw hK hc i pins s σ H E I hf st hg;subst hP hw hK;obtain ⟨xs,x,hq,hx⟩:=hg;obtain ⟨its,rv,p,hz⟩:=I.list hq;obtain ⟨u,hu,ru⟩:=rv.get hx;obtain ⟨⟨old,he⟩,hit⟩:=st;have helt:e < s.heap.objs.size:=aas he;have hilt:it < s.heap.objs.size:=by obtain ⟨_,x,_⟩:=hit;exact aas x
    refine wpAny_pyNext_enum_item he hit p.isList (x:=u) (by simpa using hu) hei fun h' ho hit' hT hsz hk=>?_;refine ⟨_,rfl,wpAny_letOwnedTupleGo_enum ho fun h'' he' hs'=>?_⟩;have hs2:Heap.SameBut e h' h'':=hs';have keep:∀ b o,b∉[e,it]→s.heap.get? b=some o→h''.get? b=some o:=fun b o hb q=>by
      have b1:b≠e:=fun z=>hb (by simp [z]);have b2:b≠it:=fun z=>hb (by simp [z]);exact (hs2.2 b b1).trans (hk b o b1 b2 q)
    have I1:Inv X pins σ H { s with heap:=h'',toks:=s.toks+1 }:=I.turnedL keep hf;have gT:h''.get? s.heap.objs.size=some { cls:=.type "tuple",data:=.seq #[.int i s.toks,u] }:=(hs2.2 _ (abm helt)).trans hT;have fresh:H s.heap.objs.size=none:=I.hok.fresh (aab _);have I2:=I1.adopt (a:=s.heap.objs.size) (o:=.tup [.int i,x]) fresh I.sz (abm I.lt) (fun y c e1=>by
        obtain ⟨v,q⟩:=I.cell y c e1;exact aaC q.lt) (fun q hq=>aaC (aas (I.pin q hq).1)) ⟨by show 2≤sizeLine;decide,[.int i s.toks,u],.cons ⟨_,rfl⟩ (.cons ru .nil),⟨_,gT,rfl,_,rfl⟩⟩
    refine ⟨.ref s.heap.objs.size,_,I2,rfl,⟨_,x,fresh,rfl,rfl,fun ys hy=>by rw [I.list_inj hy hq];exact hx⟩,⟨⟨u,by simpa using he'⟩,hit'.at fun o y=>(hs2.2 it hei.symm).trans y⟩,fun b hb=>?_⟩;rw [az]
    · exact (hf b hb).1
    · rcases aaE.mp hb with z|z
      · rw [z];exact aaC helt
      · have z:b=it:=by simpa using z
        rw [z];exact aaC hilt
  done:=by
    intro X hP hw hK hc i pins s σ H E I hf st hg;subst hP hw hK;obtain ⟨xs,hq,hx⟩:=hg;obtain ⟨its,rv,p,hz⟩:=I.list hq;obtain ⟨⟨old,he⟩,hit⟩:=st;have hl:=rv.length;refine wpAny_pyNext_enum_end (I.ok.hd hc) he hit p.isList (by simp;lia) fun h' eb=>⟨rfl,I.turnedL (t':=s.toks) (fp:=[e,it]) (fun b o hb q=>eb b o (fun z=>hb (by simp [z])) q) hf⟩
  self:=fun _ _ _ _ _ st h=>by
    obtain ⟨⟨old,he⟩,_⟩:=st;exact wpAny_pyIter_enum he h
def vw (K:aaa) (ta:TA):TI:=fun σ H R=>ta σ H fun vs H1=>∃ a,vs=[.ref a]∧(∃ xs,SqL K H1 a xs)∧R (pT K a) H1
theorem iO {X:Cx} {elts:List Expr} {k:Nat} {tpos:Pos} {a:Expr} {ta:TA} {p pos:Pos} (hg:Gl X "enumerate") (hm:X.mg "enumerate" = none) (ha:PA X [a] ta) (hs:starEach [a] X.env=[(false,eval a X.env)]:=by rfl):PI X (.Tuple elts k tpos) (.Call (.Name "enumerate" p) [a] [] pos) (vw X.K ta):=by
  intro pins s σ H R I h;refine Call_ (im I hg hm boot_enumerate (abk (thn (ha pos pins s σ H _ I h) fun us s1 ⟨vs,H1,I1,r1,q1⟩=>?_) hs rfl));obtain ⟨l,e,⟨xs,hq⟩,q⟩:=q1;subst e;cases r1 with
  | cons r rr =>
    cases rr;cases r;obtain ⟨its,rv,pl,hz⟩:=I1.list hq;refine call_enumerate_list pl.isList fun h' he hit hsz hk=>?_;refine wpAny_pyIter_enum (s:={ s1 with heap:=h' }) he ?_;have I2:Inv X pins σ H1 { s1 with heap:=h' }:=I1.kept (t':=s1.toks) hk;refine ⟨s1.heap.objs.size+1,[s1.heap.objs.size+1,s1.heap.objs.size],_,_,H1,rfl,I2,o7 l _ _ (Nat.succ_ne_self _),⟨⟨_,he⟩,hit⟩,fun b hb=>?_,q⟩;have hb2:s1.heap.objs.size≤b:=by
      rcases aaE.mp hb with z|z
      · rw [z];exact Nat.le_succ _
      · have z:b=s1.heap.objs.size:=by simpa using z
        rw [z];exact aab _
    exact I1.fpOk hb2 (I1.hok.fresh hb2)
theorem mH {K:aaa} {a:Addr} {xs:List V} {g:TG} {tb:TS} {D:Ends} {σ:St} {H:Hp} (Pv:Nat→St→Hp→Prop) (h0:Pv 0 σ H) (hl:∀ i σ H,i≤xs.length→Pv i σ H→SqL K H a xs)
    (hs:∀ i x p σ H,xs[i]?=some x→Pv i σ H→H p=none→g (.ref p) σ (upd H p (.tup [.int i,x])) fun σ2 H2=>tb { D with nx:=Pv (i+1),ct:=Pv (i+1),bk:=D.nx } σ2 H2) (hd:∀ σ H,Pv xs.length σ H→D.nx σ H) :
    ∃ W:Nat→Nat→St→Hp→Prop,(∃ m,W 0 m σ H)∧∀ i m σ H,W i m σ H →
      ((pT K a).stop i H∧D.nx σ H)∨((pT K a).go i H∧∃ N:St→Hp→Prop,(∀ σ' H',N σ' H'→∃ m',m' < m∧W (i+1) m' σ' H')∧∀ x H',(pT K a).yld i H x H'→g x σ H' fun σ2 H2=>tb { D with nx:=N,ct:=N,bk:=D.nx } σ2 H2):=by
  refine ⟨fun i m σ H=>m=xs.length - i∧i≤xs.length∧Pv i σ H,⟨xs.length,by simp,aaI _,h0⟩,?_⟩;rintro i m σ H ⟨rfl,hi,p⟩;have q:=hl i σ H hi p;by_cases hlt:i < xs.length
  · refine .inr ⟨⟨xs,xs[i],q,by simp [hlt]⟩,Pv (i+1),fun σ' H' p'=>⟨xs.length - (i+1),by lia,rfl,hlt,p'⟩,fun x H' y=>?_⟩;obtain ⟨pa,z,n,e1,e2,y⟩:=y;subst e1 e2;exact hs i z pa σ _ (y xs q) p n
  · have e:i=xs.length:=by lia
    subst e;exact .inl ⟨⟨xs,q,aab _⟩,hd σ H p⟩
open PySem PySem.Spec PyProof.Rows
section
variable {prog:Program} {w:World} {κ:Type} [DecidableEq κ] {knd:HeapKind prog w κ} {A:Around} {E:Value→Shared→Prop} {s:Shared}
end
open PySem PySem.Spec PyProof.Rows
section
variable {prog:Program} {w:World} {κ:Type} [DecidableEq κ] {knd:HeapKind prog w κ} {A:Around} {E:Value→Shared→Prop} {s:Shared}
inductive HitsH (A:Around) (s:Shared) (kb:List (κ × Addr × Value)):List (κ × Addr × Value)→Bool→Prop
  | nil:HitsH A s kb [] true
  | miss {k:κ} {a:Addr} {v:Value} {r:List (κ × Addr × Value)}:atKey kb k=none→HitsH A s kb ((k,a,v) :: r) false
  | hit {k:κ} {a c:Addr} {v y:Value} {r:List (κ × Addr × Value)} {e b:Bool}:atKey kb k=some (c,y)→SeqAt.EqAt A s v y e→HitsH A s kb r b→HitsH A s kb ((k,a,v) :: r) (e && b)
end
open PySem PySem.Spec PyProof.Rows
inductive HitsV (K:aaa) (H:Hp) (n:Nat) (kb:List (List Key × V)):List (List Key × V)→Bool→Prop
  | nil:HitsV K H n kb [] true
  | miss {k:List Key} {v:V} {r:List (List Key × V)}:bW kb k=none→HitsV K H n kb ((k,v) :: r) false
  | hit {k:List Key} {v y:V} {r:List (List Key × V)} {e b:Bool}:bW kb k=some y→EqR K H n v y e→HitsV K H n kb r b→HitsV K H n kb ((k,v) :: r) (e && b)
open PySem PySem.Spec PyProof.Rows
section
variable {prog:Program} {w:World} {κ:Type} [DecidableEq κ] {knd:HeapKind prog w κ} {A:Around} {E:Value→Shared→Prop}
variable {s:Shared}
end
open PySem PySem.Spec PyProof.Rows
section
variable {prog:Program} {w:World} {A:Around} {E:Value→Shared→Prop} {s:Shared}
end
end L2
namespace L2
open PySem PySem.Spec PyProof.Rows PySem.W
section
variable {prog:Program} {w:World} {A:Around} {E:Value→Shared→Prop} {s:Shared}
end
end L2
namespace L2
theorem u1 {a:Nat} (h:a+64 < PySem.cLine):a+1 < PySem.cLine:=by lia
open PySem PySem.Spec PyProof.Rows
section
variable {prog:Program} {w:World} {A:Around} {E:Value→Shared→Prop} {s:Shared}
end
open PySem PySem.Spec PyProof.Rows
def KD (P:Program) (w:World) (K:aaa) (a:Addr) (kvs:List (Key × V)):Prop :=
  ∃ o es ep vs,K.lookup a=some o∧o.ExactDict∧o.data=.dict es ep∧KeysOf (aG P w) es∧Pairs (aG P w) es.toList vs∧(vs.map (·.1)).Nodup∧KV kvs vs
theorem KD.in {X:Cx} {pins:List (Addr × Obj)} {σ:St} {H:Hp} {s:Shared} {a:Addr} {kvs:List (Key × V)} (I:Inv X pins σ H s) (h:KD X.prog X.w X.K a kvs):∃ vs,KV kvs vs∧s.heap.DictOf (aG X.prog X.w) a vs:=by
  obtain ⟨o,es,ep,vs,hk,hx,hd,h1,h2,h3,h4⟩:=h;exact ⟨vs,h4,o,es,ep,I.kIn a o hk,hx,hd,h1,h2,h3⟩
def tK (kvs:List (Key × V)) (ty:TE):TE:=fun σ H Q=>ty σ H fun y H2=>∃ k v,y=kV k∧bW kvs k=some v∧Q v H2
theorem gw {X:Cx} {P:Program} {w:World} {K:aaa} {a:Addr} {kvs:List (Key × V)} {o i:Expr} {pos:Pos} {td ty:TE} (hd:KD P w K a kvs) (e1:X.prog=P) (e2:X.w=w) (e3:X.K=K) (ho:PE X o td) (et:td=fun σ H Q=>Q (.ref a) H) (hi:PE X i ty) (hs:uN i):PE X (.Subscript o i pos) (tK kvs ty):=by
  subst e1 e2 e3 et;intro pins s σ H Q I h;refine n_ ab5.lookup hs (thn (ho pins s σ H (fun x H1=>x=.ref a∧H1=H) I ⟨rfl,rfl⟩) fun u s1 ⟨x,H1,I1,rx,ex,eH⟩=>?_);subst ex eH;refine thn (hi pins s1 σ H1 _ I1 h) fun iv s2 ⟨y,H2,I2,ry,k,v,ey,l,q2⟩=>?_;obtain rfl:u=Value.ref a:=rx;subst ey;obtain ⟨vs,rel,dd⟩:=KD.in I2 hd;obtain ⟨w',hw,rw'⟩:=RelO.some_of (v:=v) (o:=valueAt vs k) (by rw [← l];exact rel.val k);exact ⟨dd.typeIs,wpAny_getItem_of (mC ry) dd.mapOf hw ⟨v,H2,I2.tok _,rw',q2⟩⟩
theorem KD.two {P:Program} {w:World} {K:aaa} {a:Addr} {x y x' y':Str} {t1 t2 t3 t4:Tok} {ep:Nat} (h:K.lookup a=some ⟨.type "dict",none,.dict #[⟨abr w.params x,.str x t1,.str x' t2⟩,⟨abr w.params y,.str y t3,.str y' t4⟩] ep,#[]⟩) (ne:x≠y) (hx:x.cps.isEmpty=false) (hy:y.cps.isEmpty=false) :
    KD P w K a [(.inr x,.str x'),(.inr y,.str y')]:=by
  refine ⟨_,_,_,[(.inr x,.str x' t2),(.inr y,.str y' t4)],h,⟨rfl,rfl,rfl⟩,rfl,?_,?_,?_,?_⟩
  · intro e he;simp at he;rcases he with rfl|rfl
    · exact ⟨.inr x,by simp [aG,e8,abQ],by simp [aG,uq,hashStr,abr,hx]⟩
    · exact ⟨.inr y,by simp [aG,e8,abQ],by simp [aG,uq,hashStr,abr,hy]⟩
  · exact .cons (by simp [aG,e8,abQ]) rfl (.cons (by simp [aG,e8,abQ]) rfl .nil)
  · simp [ne]
  · exact .cons ⟨rfl,⟨_,rfl⟩⟩ (.cons ⟨rfl,⟨_,rfl⟩⟩ .nil)
open PySem PySem.Spec PyProof.Rows
def Its (z:Str):It :=
  ⟨fun i _=>i < z.cps.size,fun i H x H'=>H'=H∧∃ c,z.cps[i]?=some c∧x=.str ⟨#[c]⟩,fun i _=>z.cps.size≤i⟩
theorem pW {P:Program} {w:World} {K:aaa} {tg:Expr} (it:Addr) (z:Str) (t:Tok):Turn P w K tg (Its z) [it] it (fun i h=>h.IsStrIter it "str_ascii_iterator" z t i) where
  mem:=by simp
  obj:=fun i h st b hb=>by
    have e:b=it:=by simpa using hb
    subst e;obtain ⟨o,e,c,d⟩:=st;exact ⟨o,e,fun v z=>by rw [d] at z;cases z⟩
  keep:=fun i h h' st k=>by
    obtain ⟨o,e,r⟩:=st;exact ⟨o,k it (by simp) o e,r⟩
  item:=by
    intro X hP hw hK hc i pins s σ H E I hf st hg;subst hP hw hK;have hg:i < z.cps.size:=hg;obtain ⟨f0,f1,f2,f3,f4,f5⟩:=hf it (by simp);have hx:z.cps[i]?=some z.cps[i]:=by simp [hg]
    refine wpAny_pyNext_ascii_item st (c:=z.cps[i]) hx fun h' st' sb=>?_;have I1:Inv X pins σ H { s with heap:=h',toks:=s.toks+1 }:=I.turned (t':=s.toks+1) (fun b o hb e=>(sb.2 b hb).trans e) f0 f1 f3 f4 f5;obtain ⟨o,e,c,d⟩:=id st';exact ⟨_,rfl,oN (s:={ s with heap:=h',toks:=s.toks+1 }) e c d (by decide) ⟨.str ⟨#[z.cps[i]]⟩,H,I1,⟨_,rfl⟩,⟨rfl,_,hx,rfl⟩,st',fun b hb=>(hf b hb).1⟩⟩
  done:=by
    intro X hP hw hK hc i pins s σ H E I hf st hg;subst hP hw hK;have hg:z.cps.size≤i:=hg;obtain ⟨f0,f1,f2,f3,f4,f5⟩:=hf it (by simp);exact wpAny_pyNext_ascii_end (I.ok.hd hc) st (by simp [hg]) fun h' eb=>⟨rfl,I.turned (t':=s.toks) (fun b o hb e=>eb b o hb e) f0 f1 f3 f4 f5⟩
  self:=fun _ _ _ _ _ st h=>wpAny_pyIter_striter_ascii st h
def v9 (tl:TE):TI:=fun σ H R=>tl σ H fun x H1=>∃ z,x=.str z∧z.cps.all (· < 128)=true∧R (Its z) H1
theorem qv {X:Cx} {tg l:Expr} {tl:TE} (hl:PE X l tl):PI X tg l (v9 tl):=by
  intro pins s σ H R I h;refine thn (hl pins s σ H _ I h) fun v s1 ⟨x,H1,I1,r1,q1⟩=>?_;obtain ⟨z,e,ha,q⟩:=q1;subst e;obtain ⟨t,rfl⟩:=r1;refine wpAny_pyIter_ascii ha ?_;refine ⟨s1.heap.objs.size,[s1.heap.objs.size],_,_,H1,rfl,I1.kept (t':=s1.toks) fun b o e=>aak _ e,pW _ z t,⟨_,aaN _ rfl,rfl,rfl⟩,fun b hb=>?_,q⟩;have e:b=s1.heap.objs.size:=by simpa using hb
  subst e;exact I1.fpOk (aab _) (I1.hok.fresh (aab _))
def vT (t u:TS):TS:=fun D σ H=>∃ J:St→Hp→Prop,t { D with nx:=J } σ H∧∀ σ' H',J σ' H'→u D σ' H'
theorem kP {X:Cx} {st:Stmt} {rest:List Stmt} {t u:TS} (h1:PS X st t) (h2:PSs X rest u):PSs X (st :: rest) (vT t u):=by
  intro pins s σ H D I h;obtain ⟨J,h,hJ⟩:=h;refine wpAny_execs_cons (thn (h1 pins s σ H { D with nx:=J } I h) fun f s1 q=>?_);cases f with
  | next =>
    obtain ⟨σ',H',I',q⟩:=q;exact h2 pins s1 σ' H' D I' (hJ σ' H' q)
  | ret v=>exact q
  | brk=>exact q
  | cont=>exact q
end L2
namespace PySem
open Sem (wp)
namespace F
end F
section
variable {prog:Program} {w:World} {A:Around} {E:Value→Shared→Prop} {h:Heap} {g:Array GenState} {d:Drawn} {t:Nat} {os:OsState} {a:Addr} {vs:Array Value}
end
end PySem
namespace L2
open PySem PySem.Spec PyProof.Rows
section
variable {prog:Program} {w:World} {A:Around} {E:Value→Shared→Prop} {s:Shared}
end
theorem Paired.app {α β:Type} {R:α→β→Prop} {a c:List α} {b d:List β} (h:Paired R a b) (k:Paired R c d):Paired R (a++c) (b++d):=by
  induction h with
  | nil=>exact k
  | cons x _ ih=>exact .cons x ih
open PySem PySem.Spec PyProof.Rows
theorem jC {X:Cx} (hc:X.calm=true):dh X (.builtin "all") (fun xs H Q=>∃ (p:Addr) (bs:List Bool),xs=[.ref p]∧SqL X.K H p (bs.map V.bl)∧Q (.bl (bs.all id)) H):=by
  intro pins s σ H xs us Q I r h;obtain ⟨p,bs,rfl,hq,q⟩:=h;obtain ⟨u,rfl,rx⟩:=fZ r;cases rx;obtain ⟨its,r',pl,hz⟩:=I.list hq;have hlen:=r'.length;rw [aac] at hlen;have hps:p < s.heap.objs.size:=by obtain ⟨o,n,ho,_⟩:=pl;exact aas ho
  refine call_all_walk (wpAny_pyIter_list pl.isList ?_);refine ⟨s.heap.objs.size,_,_,_,_,_,fun i=>bs.getD i true,rfl,Walks.list (A:=X.A.in1) (I.ok.hd hc) s.heap.objs.size p (aaC hps) its.toArray,⟨⟨_,aaN _ rfl,rfl,rfl⟩,pl.isList.at fun o x=>aak _ x⟩,?_,?_⟩
  · intro i v s' Q' E' hP hQ';have hv:its.toArray[i]?=some v:=hP;have hv2:its[i]?=some v:=by simpa using hv
    have hi:i < bs.length:=by
      have:=(aaq.mp hv2).1;lia
    have hb:(bs.map V.bl)[i]?=some (.bl bs[i]):=by rw [aao,aag hi];rfl
    obtain ⟨u,hu,ru⟩:=r'.get hb;rw [hv2] at hu;cases hu;cases ru;have e:bs.getD i true=bs[i]:=by rw [aaA,aag hi];rfl
    have hQ2:Q' (bs.getD i true) s':=hQ';rw [e] at hQ2;exact wpAny_pure hQ2
  · intro h' tk k;have I2:Inv X pins σ H { s with heap:=h',toks:=tk }:=by
      refine I.turnedL (fp:=[s.heap.objs.size]) (t':=tk) (fun b o hb x=>k b o (by simpa using hb) (aak _ x)) fun b hb=>?_;have e:b=s.heap.objs.size:=by simpa using hb
      subst e;exact I.fpOk (aab _) (I.hok.fresh (aab _))
    have e:(aaD its.toArray.size).all (fun i=>bs.getD i true)=bs.all id:=by
      have e1:its.toArray.size=bs.length:=by simp;lia
      rw [e1];apply Bool.eq_iff_iff.mpr;rw [aaH,aaH];constructor
      · intro hh b hb;obtain ⟨i,hi,e⟩:=abL hb;have:=hh i (aaJ.mpr hi);rw [aaA,aag hi] at this;rw [← e];exact this
      · intro hh i hi;have hi:=aaJ.mp hi;rw [aaA,aag hi];exact hh _ (List.getElem_mem hi)
    rw [e];exact ⟨.bl (bs.all id),H,I2,rfl,q⟩
open PySem PySem.Spec PyProof.Rows
open PySem PySem.Spec PyProof.Rows
theorem lw {elt tg iter tg2 iter2:Expr} {ifs ifs2:List Expr} {G:List Comprehension} {k:Nat} (hk:G[k]?=some ⟨tg,iter,ifs,0⟩) (hk2:G[k+1]?=some ⟨tg2,iter2,ifs2,0⟩) {scope:Scope} {pos:Pos} {it acc:Value} {env:Env} :
    compTurn (.ListComp elt G scope pos) k it acc env=(do
      standAt iter.pos
      match ← pyNext it with
      | none=>pure (.done .next)
      | some v =>
        letOwnedTupleGo tg it v
        assign tg env v
        let mut ok:=true
        for c in ifs do
          if ok then ok ← isTrue c env (eval c env)
        if ok then do
          let x ← eval iter2 env
          standAt iter2.pos
          let x ← foldedSetIterable iter2 env x
          let i ← holding [x] (pyIter x)
          let _ ← runOwn (.compStart (.ListComp elt G scope pos) (k+1) i acc env) env
          again (.compLoop (.ListComp elt G scope pos) k it acc env)
        else again (.compLoop (.ListComp elt G scope pos) k it acc env)):=by
  unfold compTurn;simp only [hk,hk2];rfl
theorem nN {prog:Program} {w:World} {A:Around} {R:Result→Shared→Prop} {s:Shared} {elt tg iter tg2 iter2:Expr} {ifs ifs2:List Expr} {G:List Comprehension} {k:Nat} (hk:G[k]?=some ⟨tg,iter,ifs,0⟩) (hk2:G[k+1]?=some ⟨tg2,iter2,ifs2,0⟩) {scope:Scope} {pos:Pos} {it acc:Value} {env:Env} (J:Nat→Shared→Prop) (hs2:∀ x,foldedSetIterable iter2 env x=pure x)
    (turn:∀ n s,J n s→wpAny (model prog w) A (pyNext it) (fun r s₁=>match r with
      | none=>R (.ok .next) s₁
      | some v=>wpAny (model prog w) A (letOwnedTupleGo tg it v) (fun _ s₁'=>wpAny (model prog w) A (assign tg env v) (fun _ s₂ =>
          wpAny (model prog w) A (forIn ifs true fun c r=>if r=true then do let ok ← isTrue c env (eval c env);pure (ForInStep.yield ok) else pure (ForInStep.yield r)) (fun ok s₃ =>
            if ok=true then wpAny (model prog w) A (eval iter2 env) (fun x s₄=>wpAny (model prog w) A (pyIter x) (fun it2 s₅ =>
              codeAny (model prog w) A (.compStart (.ListComp elt G scope pos) (k+1) it2 acc env) (fun r s₆=>match r with|.ok _=>∃ m,m < n∧J m s₆|.error _=>False) s₅) (fun _ _=>False) s₄) (fun _ _=>False) s₃
            else ∃ m,m < n∧J m s₃) (fun _ _=>False) s₂) (fun _ _=>False) s₁') (fun _ _=>False) s₁) (fun _ _=>False) s)
    (n:Nat) (h:J n s) :
    codeAny (model prog w) A (.compLoop (.ListComp elt G scope pos) k it acc env) R s:=by
  refine codeAny_loop rfl J (fun n s hI=>?_) n h;show wpAny _ A ((compTurn (.ListComp elt G scope pos) k it acc env).onRaise (fun x=>do noteFrame x env;theTreesLotGoes x)) _ _ s;refine wpAny_noted ?_;rw [lw hk hk2];refine wpAny_bind (wpAny_standAt (wpAny_bind (wpAny_mono (turn n s hI) (fun r s₁ h₁=>?_) fun _ _ h'=>h'.elim)));cases r with
  | none=>exact wpAny_pure h₁
  | some v =>
    refine wpAny_bind (wpAny_mono h₁ (fun _ s₁' h₁'=>?_) fun _ _ h'=>h'.elim);refine wpAny_bind (wpAny_mono h₁' (fun _ s₂ h₂=>wpAny_bind (wpAny_mono h₂ (fun ok s₃ h₃=>?_) fun _ _ h'=>h'.elim)) fun _ _ h'=>h'.elim);cases ok with
    | false=>exact wpAny_pure ⟨rfl,h₃⟩
    | true =>
      refine wpAny_bind (wpAny_mono h₃ (fun x s₄ h₄=>?_) fun _ _ h'=>h'.elim);refine wpAny_bind (wpAny_standAt (wpAny_bind (wpAny_of_eq (hs2 x) (wpAny_bind (wpAny_holding (wpAny_mono h₄ (fun it2 s₅ h₅=>?_) fun _ _ h'=>h'.elim))))));refine wpAny_bind (wpAny_runOwn (codeAny_mono h₅ fun r s₆ h₆=>?_));cases r with
      | ok f=>exact wpAny_pure ⟨rfl,h₆⟩
      | error e=>exact h₆.elim
theorem jA {prog:Program} {w:World} {A:Around} {R:Result→Shared→Prop} {s:Shared} {elt tg2 iter2:Expr} {ifs2:List Expr} {G:List Comprehension} {k:Nat} (hk:G[k]?=some ⟨tg2,iter2,ifs2,0⟩) {scope:Scope} {pos:Pos} {it acc:Value} {env:Env}
    (h0:codeAny (model prog w) A (.compLoop (.ListComp elt G scope pos) k it acc env) R s)
    (h:wpAny (model prog w) A (pyIter it) (fun it' s'=>codeAny (model prog w) A (.compLoop (.ListComp elt G scope pos) k it' acc env) R s')
      (notedBy (model prog w) A env fun x s'=>R (.error x) s') s) :
    codeAny (model prog w) A (.compStart (.ListComp elt G scope pos) k it acc env) R s:=by
  refine codeAny_of_tree ?_;show wpAny _ _ ((compStart (.ListComp elt G scope pos) k it acc env).onRaise (fun x=>do noteFrame x env;standAt theWindowsPlace)) _ _ s;refine wpAny_notedAt ?_;unfold compStart;rw [show (clausesOf (.ListComp elt G scope pos))[k]?=some ⟨tg2,iter2,ifs2,0⟩ from hk];show wpAny _ _ (ask >>= _) _ _ s;refine wpAny_bind (wpAny_askSetting (wpAny_ite ?_));split
  · first
      | exact wpAny_bind (wpAny_pure (wpAny_pure (And.intro rfl h0)))
      | exact wpAny_pure (And.intro rfl h0)
  · first
      | exact wpAny_bind (wpAny_rule (wpAny_bind (wpAny_standAt (wpAny_bind (wpAny_mono h (fun it' s' h'=>wpAny_pure (And.intro rfl h')) fun _ _ x=>x)))))
      | (refine wpAny_bind (wpAny_rule ?_);show wpAny _ _ (standAt iter2.pos >>= _) _ _ s;exact wpAny_bind (wpAny_standAt (wpAny_bind (wpAny_mono h (fun it' s' h'=>wpAny_pure (And.intro rfl h')) fun _ _ x=>x))))
structure PCl (Y:Cx) (c:Comprehension) (r:TI × TG × TT):Prop where
  as:c.is_async=0
  it:PI Y c.target c.iter r.1
  tg:PG Y c.target r.2.1
  fs:iI Y c.ifs r.2.2
  st:∀ E x,foldedSetIterable c.iter E x=pure x
abbrev rJ (g2:TG) (tt2:TT) (te:TE) (ys:List V) (σ2:St) (Fin:List V→St→Hp→Prop) (J2:It) (H4:Hp):Prop:=∃ W2:Nat→Nat→List V→St→Hp→Prop,(∃ m,W2 0 m ys σ2 H4)∧∀ i m ys σ H,W2 i m ys σ H →
  (J2.stop i H∧Fin ys σ H) ∨
  (J2.go i H∧ys.length < sizeLine∧∀ x H',J2.yld i H x H'→g2 x σ H' fun σ3 H5=>tt2 σ3 H5 fun b H6=>if b=true then te σ3 H6 fun v H7=>∃ m',m' < m∧W2 (i+1) m' (ys++[v]) σ3 H7 else ∃ m',m' < m∧W2 (i+1) m' ys σ3 H6)
abbrev LcT:List (TI × TG × TT)→TG→TT→TE→List V→St→(List V→St→Hp→Prop)→It→Hp→Prop
  | [],g,tt,te,ys,σ,Fn,J,H=>rJ g tt te ys σ Fn J H
  | r :: rs,g,tt,te,ys,σ2,Fn,J2,H4=>∃ W2:Nat→Nat→List V→St→Hp→Prop,(∃ m,W2 0 m ys σ2 H4)∧∀ i m ys σ H,W2 i m ys σ H →
    (J2.stop i H∧Fn ys σ H) ∨
    (J2.go i H∧∀ x H',J2.yld i H x H'→g x σ H' fun σ3 H5=>tt σ3 H5 fun b H6=>if b=true then r.1 σ3 H6 (LcT rs r.2.1 r.2.2 te ys σ3 fun ys' σ' H7=>∃ m',m' < m∧W2 (i+1) m' ys' σ' H7) else ∃ m',m' < m∧W2 (i+1) m' ys σ3 H6)
def uO (Y:Cx) (D:Addr) (P:List (Addr × Obj)) (Fin:List V→St→Hp→Prop) (s:Shared):Prop:=∃ ys its k σ H,Inv Y (Lp D its k :: P) σ H s∧Vals ys its∧ys.length≤sizeLine∧Fin ys σ H
def tF (Y:Cx) (D:Addr) (elt:Expr) (te:TE) (G:List Comprehension) (scope:Scope) (pos:Pos) (rs:List (TI × TG × TT)) (c:Comprehension) (r:TI × TG × TT) (k:Nat):Prop :=
    ∀ (P:List (Addr × Obj)),(∀ p∈P,p.1≠D)→∀ {σ:St} {H:Hp} {s:Shared} {ys:List V} {its:List Value} {kk:Nat} {Fin:List V→St→Hp→Prop},Inv Y (Lp D its kk :: P) σ H s→Vals ys its→ys.length≤sizeLine →
      r.1 σ H (LcT rs r.2.1 r.2.2 te ys σ Fin) →
      wpAny (model Y.prog Y.w) Y.A (eval c.iter Y.env) (fun x s₄=>wpAny (model Y.prog Y.w) Y.A (pyIter x) (fun it2 s₅ =>
        codeAny (model Y.prog Y.w) Y.A (.compStart (.ListComp elt G scope pos) k it2 (.ref D) Y.env) (fun r s₆=>match r with|.ok _=>uO Y D P Fin s₆|.error _=>False) s₅) (fun _ _=>False) s₄) (fun _ _=>False) s
theorem qW {Y:Cx} {τ:Type} {val:τ→St} {nx:St→τ} (hc:Y.calm=true) (hxe:Y.xe=fun _ _=>False) (hrs:∀ {pn:List (Addr × Obj)} {σ':St} {H':Hp} {s':Shared},Inv Y pn σ' H' s'→Inv Y pn (val (nx σ')) H' s')
    {D:Addr} (hDx:D∈Y.ex∨Y.s₀.heap.objs.size≤D) (hDc:∀ x c,Y.env.cells.lookup x=some c→c≠D) (hDp:∀ p∈Y.pn,p.1≠D)
    {elt tg iter tg2 iter2:Expr} {ifs ifs2:List Expr} {te:TE} {g:TG} {tt:TT} {G:List Comprehension} {scope:Scope} {pos:Pos} {k:Nat} {r2:TI × TG × TT} {rs:List (TI × TG × TT)} (hk:G[k]?=some ⟨tg,iter,ifs,0⟩) (hk2:G[k+1]?=some ⟨tg2,iter2,ifs2,0⟩) (hst:∀ x,foldedSetIterable iter2 Y.env x=pure x) (htg:PG Y tg g) (hfs:iI Y ifs tt)
    {P:List (Addr × Obj)} (hP:∀ p∈P,p.1≠D) (inn:tF Y D elt te G scope pos rs ⟨tg2,iter2,ifs2,0⟩ r2 (k+1)) {it:Addr} {fp:List Addr} {tn:Nat→Heap→Prop} {J:It} (T:Turn Y.prog Y.w Y.K tg J fp it tn) (neD:∀ b∈fp,D≠b) (fpY:∀ {H':Hp} {n:Nat} {its:List Value},(∀ b∈fp,H' b=none)→∀ b∈fp,dA Y (Lp D its n :: P) H' b)
    {R:Result→Shared→Prop} {Fin:List V→τ→Hp→Prop} (hR:∀ ys its k t H s,Inv Y (Lp D its k :: P) (val t) H s→Vals ys its→ys.length≤sizeLine→Fin ys t H→R (.ok .next) s)
    {W:Nat→Nat→List V→τ→Hp→Prop} (turn:∀ i m ys t H,W i m ys t H→(J.stop i H∧Fin ys t H) ∨
      (J.go i H∧∀ x H',J.yld i H x H'→g x (val t) H' fun σ3 H5=>tt σ3 H5 fun b H6=>if b=true then r2.1 σ3 H6 (LcT rs r2.2.1 r2.2.2 te ys σ3 fun ys' σ' H7=>∃ m',m' < m∧W (i+1) m' ys' (nx σ') H7) else ∃ m',m' < m∧W (i+1) m' ys (nx σ3) H6))
    {m0 kk:Nat} {ys:List V} {its:List Value} {t:τ} {H:Hp} {s:Shared} (I:Inv Y (Lp D its kk :: P) (val t) H s) (rv:Vals ys its) (hz:ys.length≤sizeLine) (st:tn 0 s.heap) (fr:∀ b∈fp,H b=none) (w0:W 0 m0 ys t H) :
    codeAny (model Y.prog Y.w) Y.A (.compLoop (.ListComp elt G scope pos) k (.ref it) (.ref D) Y.env) R s:=by
  have xe:∀ e s,Y.xe e s→False:=fun e s z=>by rw [hxe] at z;exact z
  refine nN hk hk2 (fun n s'=>∃ i ys its k t H',Inv Y (Lp D its k :: P) (val t) H' s'∧Vals ys its∧ys.length≤sizeLine∧tn i s'.heap∧(∀ b∈fp,H' b=none)∧W i n ys t H') hst ?_ m0 ⟨0,ys,its,kk,t,H,I,rv,hz,st,fr,w0⟩;rintro n s3 ⟨i,ys3,its3,k3,t3,H3,I3,rv3,hz3,st3,fr3,w3⟩;rcases turn i n ys3 t3 H3 w3 with ⟨stop,qn⟩|⟨go,step⟩
  · refine wpAny_mono (T.done Y rfl rfl rfl hc i _ s3 _ H3 (fun _ _=>False) I3 (fpY fr3) st3 stop) (fun r s4 ⟨hr,I4⟩=>?_) fun _ _ z=>z;subst hr;exact hR ys3 its3 k3 t3 H3 s4 I4 rv3 hz3 qn
  · refine wpAny_mono (T.item Y rfl rfl rfl hc i _ s3 _ H3 (fun _ _=>False) I3 (fpY fr3) st3 go) (fun r s4 ⟨u,hr,h4⟩=>?_) fun _ _ z=>z;subst hr;refine wpAny_mono h4 (fun _ s5 ⟨x,H5,I5,r5,y5,st5,fr5⟩=>?_) fun _ _ z=>z;have I5':=I5.pinned (fpY fr5) (T.obj _ _ st5);refine wpAny_mono (htg _ s5 _ H5 x u _ I5' r5 (step x H5 y5)) (fun _ s6 ⟨σ6,H6,I6,q6⟩=>?_) fun e s z=>(xe e s z).elim;refine wpAny_mono (hfs _ s6 σ6 H6 _ I6 q6) (fun ok s7 ⟨H7,I7,q7⟩=>?_) fun e s z=>(xe e s z).elim;have again:∀ {ys':List V} {its':List Value} {k':Nat} {σ':St} {H':Hp} {s':Shared},Inv Y (Lp D its' k' :: (P++cm fp s5.heap)) σ' H' s'→Vals ys' its'→ys'.length≤sizeLine→(∃ m',m' < n∧W (i+1) m' ys' (nx σ') H') →
        ∃ m,m < n∧∃ i ys its k t H',Inv Y (Lp D its k :: P) (val t) H' s'∧Vals ys its∧ys.length≤sizeLine∧tn i s'.heap∧(∀ b∈fp,H' b=none)∧W i m ys t H':=fun {ys' its' k' σ' H' s'} Z rv' hz' hw=>by
      obtain ⟨m',hm,w'⟩:=hw;have pn:∀ {b:Addr} {o:Obj},b∈fp→s5.heap.get? b=some o→_:=fun {b o} hb e=>Z.pin (b,o) (aaj _ (aae _ (aaj _ (cu hb e))));refine ⟨m',hm,i+1,ys',its',k',nx σ',H',hrs (Inv.unpinned (pl:=cm fp s5.heap) Z),rv',hz',T.keep _ _ _ st5 fun b hb o e=>(pn hb e).1,fun b hb=>?_,w'⟩;obtain ⟨o,e,d⟩:=T.obj _ _ st5 b hb;exact (pn hb e).2.1
    cases ok with
    | false =>
      rw [if_neg aah] at q7 ⊢;exact again I7 rv3 hz3 q7
    | true =>
      rw [if_pos rfl] at q7 ⊢;refine wpAny_mono (inn (P++cm fp s5.heap) (fun p hp=>?_) I7 rv3 hz3 q7) (fun x s8 h8=>wpAny_mono h8 (fun it2 s9 h9=>codeAny_mono h9 fun r s10 h10=>?_) fun _ _ z=>z) fun _ _ z=>z
      · rcases aaB.mp hp with z|z
        · exact hP p z
        · exact abO (neD _ (ii z).1)
      · cases r with
        | error e=>exact h10.elim
        | ok f =>
          obtain ⟨ys',its',k',σ',H',Z,rv',hz',w'⟩:=h10;exact again Z rv' hz' w'
theorem qS {Y:Cx} (hc:Y.calm=true) (hxe:Y.xe=fun _ _=>False) {D:Addr} (hDx:D∈Y.ex∨Y.s₀.heap.objs.size≤D) (hDc:∀ x c,Y.env.cells.lookup x=some c→c≠D) (hDp:∀ p∈Y.pn,p.1≠D)
    {elt:Expr} {te:TE} {G:List Comprehension} {scope:Scope} {pos:Pos} (hbe:PE Y elt te) :
    ∀ (rs:List (TI × TG × TT)) (c:Comprehension) (r:TI × TG × TT) (k:Nat),G[k]?=some c→PCl Y c r→Paired (PCl Y) (G.drop (k+1)) rs →
    tF Y D elt te G scope pos rs c r k:=by
  intro rs;have xe:∀ e s,Y.xe e s→False:=fun e s z=>by rw [hxe] at z;exact z
  have fpx:∀ {fp:List Addr} {P:List (Addr × Obj)} {its:List Value} {kk:Nat} {H2:Hp},(∀ b∈fp,dA Y (Lp D its kk :: P) H2 b)→(∀ b∈fp,D≠b)∧∀ {H':Hp} {n:Nat} {its':List Value},(∀ b∈fp,H' b=none)→∀ b∈fp,dA Y (Lp D its' n :: P) H' b:=fun {fp P its kk H2} f2=>by
    have neD:∀ b∈fp,D≠b:=fun b hb=>(f2 b hb).2.2.2.2.2 (Lp D its kk) (aaj _ aai);refine ⟨neD,fun {H' n its'} hn b hb=>⟨hn b hb,(f2 b hb).2.1,(f2 b hb).2.2.1,(f2 b hb).2.2.2.1,(f2 b hb).2.2.2.2.1,fun p hp=>?_⟩⟩;rcases aaB.mp hp with z|z
    · exact (f2 b hb).2.2.2.2.2 p (abI _ z)
    · rcases aaE.mp z with z|z
      · rw [z];exact neD b hb
      · exact (f2 b hb).2.2.2.2.2 p (aaj _ (aae _ z))
  induction rs with
  | nil =>
    intro c r k hk hcl hG P hP σ H s ys its kk Fin I rv hz h;have hk2:G[k+1]?=none:=by
      have l:=aav hG;rw [aaR] at l;exact abU (by simp at l;lia)
    obtain ⟨tg,iter,ifs,as⟩:=c;have as0:as=0:=hcl.as;subst as0;refine wpAny_mono (hcl.it _ s σ H _ I h) (fun v s1 h1=>wpAny_mono h1 (fun itv s2 h2=>?_) fun e s z=>(xe e s z).elim) fun e s z=>(xe e s z).elim;obtain ⟨it,fp,tn,J,H2,e,I2,T,st2,f2,W,⟨m0,w0⟩,turn⟩:=h2;subst e;have loop:=oO (τ:=St) (val:=fun z=>z) (nx:=fun z=>z) hc hxe (fun Z=>Z) hDx hDc hDp (scope:=scope) (pos:=pos) hbe hk hk2 hcl.tg hcl.fs hP T (fpx f2).1 (fpx f2).2 (R:=fun r s₆=>match r with|.ok _=>uO Y D P Fin s₆|.error _=>False) (fun ys its k t H s I4 rv hz fin=>⟨ys,its,k,t,H,I4,rv,hz,fin⟩) turn I2 rv hz st2 (fun b hb=>(f2 b hb).1) w0;exact jA hk loop (T.self _ 0 _ _ _ st2 loop)
  | cons r2 rs ih =>
    intro c r k hk hcl hG P hP σ H s ys its kk Fin I rv hz h;obtain ⟨c2,hk2,hcl2,hG2⟩:∃ c2,G[k+1]?=some c2∧PCl Y c2 r2∧Paired (PCl Y) (G.drop (k+1+1)) rs:=by
      cases e:G.drop (k+1) with
      | nil=>rw [e] at hG;cases hG
      | cons c2 l =>
        rw [e] at hG;have e1:G[k+1]?=some c2:=by
          have:=congrArg (·[0]?) e;simpa using this
        have e2:G.drop (k+1+1)=l:=by rw [← List.drop_drop,e];rfl
        cases hG with
        | cons a b=>exact ⟨c2,e1,a,by rw [e2];exact b⟩
    obtain ⟨tg,iter,ifs,as⟩:=c;have as0:as=0:=hcl.as;subst as0;obtain ⟨tg2,iter2,ifs2,as2⟩:=c2;have as20:as2=0:=hcl2.as;subst as20;refine wpAny_mono (hcl.it _ s σ H _ I h) (fun v s1 h1=>wpAny_mono h1 (fun itv s2 h2=>?_) fun e s z=>(xe e s z).elim) fun e s z=>(xe e s z).elim;obtain ⟨it,fp,tn,J,H2,e,I2,T,st2,f2,W,⟨m0,w0⟩,turn⟩:=h2;subst e;have loop:=qW (τ:=St) (val:=fun z=>z) (nx:=fun z=>z) hc hxe (fun Z=>Z) hDx hDc hDp (scope:=scope) (pos:=pos) hk hk2 (hcl2.st _) hcl.tg hcl.fs hP (ih _ r2 (k+1) hk2 hcl2 hG2) T (fpx f2).1 (fpx f2).2 (R:=fun r s₆=>match r with|.ok _=>uO Y D P Fin s₆|.error _=>False) (fun ys its k t H s I4 rv hz fin=>⟨ys,its,k,t,H,I4,rv,hz,fin⟩) turn I2 rv hz st2 (fun b hb=>(f2 b hb).1) w0;exact jA hk loop (T.self _ 0 _ _ _ st2 loop)
abbrev tz (cap:List (Option Nat)) (g:TG) (tt:TT) (r2:TI × TG × TT) (rs:List (TI × TG × TT)) (te:TE) (σ:St) (Q:VK) (J:It) (H1:Hp):Prop:=∃ W:Nat→Nat→List V→Hp→Prop,(∃ m,W 0 m [] H1)∧∀ i m ys H,W i m ys H →
  (J.stop i H∧∀ p,H p=none→Q (.ref p) (upd H p (.lst ys))) ∨
  (J.go i H∧∀ x H',J.yld i H x H'→g x (bO cap σ) H' fun σ2 H2=>tt σ2 H2 fun b H3=>if b=true then r2.1 σ2 H3 (LcT rs r2.2.1 r2.2.2 te ys σ2 fun ys' _ H4=>∃ m',m' < m∧W (i+1) m' ys' H4) else ∃ m',m' < m∧W (i+1) m' ys H3)
def vQ (cap:List (Option Nat)) (wi:TI) (g:TG) (tt:TT) (r2:TI × TG × TT) (rs:List (TI × TG × TT)) (te:TE):TE:=fun σ H Q=>wi σ H (tz cap g tt r2 rs te σ Q)
section
variable {X:Cx}
theorem t7 {elt tg iter:Expr} {ifs:List Expr} {G:List Comprehension} {r2:TI × TG × TT} {rs:List (TI × TG × TT)} {scope:Scope} {pos:Pos} {cl:List (Str × Addr)} {NY:List Str} {cap:List (Option Nat)} {wi:TI} {g:TG} {tt:TT} {te:TE} (hc:X.calm=true) (hi:PI X tg iter wi)
    (hclos:closureFor scope X.env=pure cl) (hci:CellsIn X.env cl) (hcap:CapOk X.env (relabel scope X.env) X.N NY cap)
    (hb:∀ fp s H C,PG (aO X scope cl NY fp s H C) tg g∧iI (aO X scope cl NY fp s H C) ifs tt∧Paired (PCl (aO X scope cl NY fp s H C)) G (r2 :: rs)∧PE (aO X scope cl NY fp s H C) elt te)
    (hkind:scope.kind=.function:=by rfl) (hnc:(scope.names.all fun y=>y.2 != .cell)=true:=by rfl)
    (hnames:(scope.names.all fun y=>y.2 != .local || scope.names.lookup y.1 == some .local)=true:=by rfl)
    (hhas:((relabel scope X.env).names.all fun p=>(p.2 != .cell && p.2 != .free) || (cl.lookup p.1).isSome)=true:=by rfl)
    (hs:∀ x,foldedSetIterable iter X.env x=pure x:=by intro _;rfl) :
    PE X (.ListComp elt (⟨tg,iter,ifs,0⟩ :: G) scope pos) (vQ cap wi g tt r2 rs te):=by
  intro pins s σ H Q I h;rw [eval_ListComp];refine wpAny_comprehension_free (use:=none) rfl hs hclos hkind (iT hnames) (wpAny_mono (hi pins s σ H _ I h) (fun v s1 h1=>wpAny_mono h1 (fun itv s2 h2=>?_) fun _ _ e=>e) fun _ _ e=>e);obtain ⟨it,fp,tn,J,H2,e,I2,T,st2,f2,W,⟨m0,w0⟩,turn⟩:=h2;subst e;refine wpAny_newObj_type (wpAny_newFunctionEnv (lE hnc) (by intro y hy;simp at hy) (fun h₁ hns₁ hsb₁=>?_) hkind);dsimp only at hns₁ hsb₁ ⊢;obtain ⟨hC,B,hD⟩:=I2.newC hci hkind hhas hns₁ fun b o hb e=>hsb₁.extBut b o hb (aak _ e);generalize (s2.heap.push { cls:=.type "list",dict:=none,data:=.seq ([]:List Value).toArray }).objs.size=C at hC B ⊢;obtain ⟨hbg,hbt,hbG,hbe⟩:=hb fp s2 H2 C;obtain ⟨c2,G',eG,hcl2,hG'⟩:∃ c2 G',G=c2 :: G'∧PCl (aO X scope cl NY fp s2 H2 C) c2 r2∧Paired (PCl (aO X scope cl NY fp s2 H2 C)) G' rs:=by
    cases hbG with
    | cons a b=>exact ⟨_,_,rfl,a,b⟩
  obtain ⟨tg2,iter2,ifs2,as2⟩:=c2;have as20:as2=0:=hcl2.as;subst as20;have stW:=T.keep _ _ h₁ st2 fun b _ o e=>B.old b o e;have fpl:=T.lt st2;have hDc:=B.neD I2.cellLt (aab _) hD fun v z=>by cases z
  have loop:=qW (τ:=Unit) (val:=fun _=>bO cap σ) (nx:=fun _=>()) (Y:=aO X scope cl NY fp s2 H2 C) hc rfl (fun Z=>I2.recap f2 B hcap cr Z) (.inr (aab _)) hDc (fun p hp=>by cases hp) (elt:=elt) (te:=te) (G:=⟨tg,iter,ifs,0⟩ :: G) (scope:=scope) (pos:=pos) (k:=0) rfl (show (⟨tg,iter,ifs,0⟩ :: G:List Comprehension)[1]?=some ⟨tg2,iter2,ifs2,0⟩ by rw [eG];rfl) (hcl2.st _) hbg hbt (P:=[]) (fun p hp=>by cases hp)
    (qS (Y:=aO X scope cl NY fp s2 H2 C) hc rfl (.inr (aab _)) hDc (fun p hp=>by cases hp) hbe rs _ r2 1 (by rw [eG];rfl) hcl2 (by rw [eG];exact hG')) T
    (fun b hb=>abm (fpl b hb)) (fun hn=>I2.fps f2 fpl B (fun p hp=>by rw [aau.mp hp];exact aab _) hn) (R:=compPost (model X.prog X.w) X.A X.xe none (EP X pins σ Q) (.ref s2.heap.objs.size) C) (fun ys its k _ H s I4 rv hz fin=>I2.lstEnd f2 (aab _) (abx hC) rfl I4 rv hz fin)
    (W:=fun i m ys _ H=>W i m ys H) (fun i m ys _ H=>turn i m ys H) (t:=()) (I2.blk f2 fpl B hcap cr (fun p hp=>by rw [aau.mp hp];exact ⟨hD,aab _,aaC hC,fun v z=>by cases z⟩) (t':=s2.toks+([]:List (Str × Value)).length)) .nil (aaI _) stW (fun b hb=>(f2 b hb).1) w0
  exact codeAny_compStart_list loop (T.self _ 0 _ _ _ stW loop)
end
abbrev tw (g2:TG) (tt2:TT) (te:TE) (ys:List V) (σ2:St) (Fin:List V→Hp→Prop) (J2:It) (H4:Hp):Prop:=rJ g2 tt2 te ys σ2 (fun ys _ H=>Fin ys H) J2 H4
abbrev tE (cap:List (Option Nat)) (g:TG) (tt:TT) (wi2:TI) (g2:TG) (tt2:TT) (te:TE) (σ:St) (Q:VK) (J:It) (H1:Hp):Prop:=tz cap g tt (wi2,g2,tt2) [] te σ Q J H1
def vR (cap:List (Option Nat)) (wi:TI) (g:TG) (tt:TT) (wi2:TI) (g2:TG) (tt2:TT) (te:TE):TE:=fun σ H Q=>wi σ H (tE cap g tt wi2 g2 tt2 te σ Q)
section
variable {X:Cx}
theorem qA {elt tg iter tg2 iter2:Expr} {ifs ifs2:List Expr} {scope:Scope} {pos:Pos} {cl:List (Str × Addr)} {NY:List Str} {cap:List (Option Nat)} {wi wi2:TI} {g g2:TG} {tt tt2:TT} {te:TE} (hc:X.calm=true) (hi:PI X tg iter wi)
    (hclos:closureFor scope X.env=pure cl) (hci:CellsIn X.env cl) (hcap:CapOk X.env (relabel scope X.env) X.N NY cap)
    (hb:∀ fp s H C,PG (aO X scope cl NY fp s H C) tg g∧iI (aO X scope cl NY fp s H C) ifs tt∧PI (aO X scope cl NY fp s H C) tg2 iter2 wi2∧PG (aO X scope cl NY fp s H C) tg2 g2∧iI (aO X scope cl NY fp s H C) ifs2 tt2∧PE (aO X scope cl NY fp s H C) elt te)
    (hkind:scope.kind=.function:=by rfl) (hnc:(scope.names.all fun y=>y.2 != .cell)=true:=by rfl)
    (hnames:(scope.names.all fun y=>y.2 != .local || scope.names.lookup y.1 == some .local)=true:=by rfl)
    (hhas:((relabel scope X.env).names.all fun p=>(p.2 != .cell && p.2 != .free) || (cl.lookup p.1).isSome)=true:=by rfl)
    (hs:∀ x,foldedSetIterable iter X.env x=pure x:=by intro _;rfl) (hs2:∀ E x,foldedSetIterable iter2 E x=pure x:=by intro _ _;rfl) :
    PE X (.ListComp elt [⟨tg,iter,ifs,0⟩,⟨tg2,iter2,ifs2,0⟩] scope pos) (vR cap wi g tt wi2 g2 tt2 te) :=
  t7 (r2:=(wi2,g2,tt2)) (rs:=[]) hc hi hclos hci hcap (fun fp s H C=>by obtain ⟨hbg,hbt,i2,t2,f2,hbe⟩:=hb fp s H C;exact ⟨hbg,hbt,(.cons ⟨rfl,i2,t2,f2,hs2⟩ .nil),hbe⟩) hkind hnc hnames hhas hs
end
open PySem PySem.Spec PyProof.Rows
section
variable {M:Model} {A:Around} {E:Value→Shared→Prop} {s:Shared}
structure Lft (l:List Env) (e:Addr) (x:List Addr) (h h':Heap):Prop where
  keep:∀ b o,b∉l.filterMap (·.frame)→b≠e→b∉x→h.get? b=some o→h'.get? b=some o
  slot:∀ b o,b∈l.filterMap (·.frame)→h.get? b=some o→∃ sl,h'.get? b=some { o with slots:=sl }
end
section
variable {P:Program} {w:World} {K:aaa} {mg:Str→Option Value} {base:Heap} {N:List Str} {qual:Str} {scope:Scope} {f:Addr} {cd:Value} {A:Around} {outer:List Env} {s0:Shared} {H0:Hp} {E:XK}
end
structure EC (K:aaa) (C:Addr):Prop where
  ex:∃ nm q N bs bm hdct sn sub ab col dd k0 k1 k2 k3 k5 B newId initId bmB mN,ExcBaseFacts B newId initId bmB∧bm.contains (.type "BaseException")=true∧mN ("__init__":Str)=none ∧
    ∀ h,K.In h→h.get? C=some (excClassObj nm q C N bs bm hdct sn sub ab col dd k0 k1 k2 k3 k5 newId)∧h.Ns N mN∧OwnTail h bmB bm
section
variable {X:Cx} {pins0 pins:List (Addr × Obj)} {Cat:St→Addr→Hp→Prop} {σ:St} {H:Hp} {s:Shared}
end
section
variable {M:Model} {A:Around} {E:Value→Shared→Prop} {s:Shared}
end
structure Und (K:aaa) (C P:Addr):Prop where
  ex:∃ nm q N bs bm hdct sn sub ab col dd k0 k1 k2 k3 k5 newId nm' q' N' bs' bm' hdct' sn' sub' ab' col' dd' k0' k1' k2' k3' k5' newId',(Value.ref C :: bm).contains (.ref P)=true∧bm'.contains (.type "BaseException")=true ∧
    ∀ h,K.In h→h.get? C=some (excClassObj nm q C N bs bm hdct sn sub ab col dd k0 k1 k2 k3 k5 newId)∧h.get? P=some (excClassObj nm' q' P N' bs' bm' hdct' sn' sub' ab' col' dd' k0' k1' k2' k3' k5' newId')
section
variable {X:Cx} {pins:List (Addr × Obj)} {σ:St} {H:Hp} {s:Shared}
end
section
variable {M:Model} {A:Around} {E:Value→Shared→Prop} {s:Shared}
end
section
variable {X:Cx} {pins:List (Addr × Obj)} {σ:St} {H:Hp} {s:Shared}
end
open PySem PySem.Spec PyProof.Rows
structure Lkp (M:Model) (h:Heap) (C:Addr):Prop where
  ga:ab2 M h (typeLookup (.ref C) "__getattribute__") (some (.builtin "BaseException.__getattribute__"))
  no:ab2 M h (typeLookup (.ref C) "__getattr__") none
  cls:ab2 M h (typeLookup (.ref C) "__class__") (some (.builtin "object.__class__"))
  be:ab2 M h (isSubtype (.ref C) (.type "BaseException")) true
  obj:ab2 M h (isSubtype (.ref C) (.type (".".intercalate ("object.__class__".cutAt '.').dropLast))) true
section
variable {prog:Program} {w:World} {A:Around} {E:Value→Shared→Prop} {h:Heap} {g:Array GenState} {d:Drawn} {t:Nat} {os:OsState} {a C:Addr} {o:Obj}
end
structure ExC (K:aaa) (C:Addr):Prop where
  lk:∀ (M:Model) (h:Heap),K.In h→Lkp M h C
  cl:(PySem.W.clsIn K C).isSome=true
  sl:∃ B,Slot B "__getattribute__" "BaseException.__getattribute__"
open PySem PySem.Spec PyProof.Rows
theorem iU:∀ {ns:List Int} {its:List Value},Vals (ns.map V.int) its→∃ ts:List (Int × Tok),its=ts.map (fun p=>Value.int p.1 p.2)∧ts.map (·.1)=ns
  | [],_,.nil=>⟨[],rfl,rfl⟩
  | i :: r,_,.cons h t=>by
    obtain ⟨k,rfl⟩:=(show ∃ k,_=Value.int i k from h)
    obtain ⟨ts,e1,e2⟩:=iU t;exact ⟨(i,k) :: ts,by rw [e1];rfl,by rw [aaz,e2]⟩
theorem gN {X:Cx} (hc:X.calm=true):dh X (.builtin "sum") (fun xs H Q=>∃ (p:Addr) (ns:List Int),xs=[.ref p]∧SqL X.K H p (ns.map V.int)∧Q (.int ns.sum) H):=by
  intro pins s σ H xs us Q I r h;obtain ⟨p,ns,rfl,hq,q⟩:=h;obtain ⟨u,rfl,rx⟩:=fZ r;cases rx;obtain ⟨its,r',pl,hz⟩:=I.list hq;obtain ⟨ts,e1,e2⟩:=iU r';subst e1;have el:(ts.map (fun p=>Value.int p.1 p.2)).toArray=intItems ts.toArray:=by unfold intItems;simp
  refine sum_intListG (xs:=ts.toArray) (I.ok.hd hc) (by rw [← el];exact pl.isList) fun h' tk t' hk=>?_;have e:preSum (numAt ts.toArray) ts.toArray.size=ns.sum:=by
    rw [preSum_eq,aaL (by simp),← e2]
  rw [e];exact ⟨.int ns.sum,H,I.kept (t':=tk) hk,⟨t',rfl⟩,q⟩
open PySem PySem.Spec PyProof.Rows
open PySem PySem.Spec PyProof.Rows
section
variable {K:aaa} {C Pa N N':Addr} {nm nm' q q':Str} {bs bs' sub sub':List Value} {hdct hdct':Bool} {sn sn':List Str} {ab ab':Bool} {col col':Option Bool} {dd dd':Option Addr} {k0 k1 k2 k3 k5 k0' k1' k2' k3' k5' oc oc':Option Value}
  {c1 c2:Value} {od od':Option Addr} {es es':Array DictEntry} {n n':Nat} {sl sl':Array (Option Value)}
end
end L2
namespace L2
open PySem
open PySem PySem.Spec PyProof.Rows
open PySem PySem.Spec PyProof.Rows
section
variable {X:Cx}
theorem Inv.useEnd {pins:List (Addr × Obj)} {σ:St} {H2 H3:Hp} {s2 s4:Shared} {C Dd:Addr} {i₀:Nat} {x:Str} {px:Pos} (I2:Inv X pins σ H2 s2) (hC:s2.heap.objs.size≤C) (hN:X.N.Nodup) (hiN:X.N[i₀]?=some x) (hx:Loc X.env.scope x) (hf:X.fn x=true∨X.env.scope.names.lookup x=some .local)
    (I7:Inv X pins σ H3 s4) (cC:H3 C=none) (hnC:∃ m,s4.heap.Ns C m) {Nx:St→Hp→Prop} (qn:Nx (σ.set i₀ (some (.ref Dd))) H3) :
    compPost (model X.prog X.w) X.A X.xe (some (assign (.Name x px) X.env)) (fun _ s'=>∃ σ' H',Inv X pins σ' H' s'∧Nx σ' H') (.ref Dd) C (.ok .next) s4:=by
  obtain ⟨m,oC,es,ep,hoC,hdC,rC⟩:=hnC;have nL:C≠X.env.locals:=abm (aam I2.lt hC);have I8:Inv X ((C,oC) :: pins) σ H3 s4:=I7.pins_of fun p hp=>by
    rcases aaE.mp hp with z|z
    · rw [z];exact ⟨hoC,cC,nL,fun hz=>I2.nofs hC hz,fun v z=>by rw [hdC] at z;cases z⟩
    · exact I7.pin p (aaj _ z)
  show wpAny _ X.A (assign (.Name x px) X.env (.ref Dd)) _ _ s4;refine wpAny_assign_Name (gb (v:=.ref Dd) I8 hN hiN hx rfl (fun s5 I9=>?_) hf);have pC:=I9.pin (C,oC) (aaj _ aai);exact ⟨m,⟨oC,es,ep,pC.1,hdC,rC⟩,fun h' hsb=>⟨_,_,I2.offC hC (I9.pins_of fun p hp=>I9.pin p (aaj _ (aae _ hp))) cC fun b o hb e=>hsb.extBut b o hb e,qn⟩⟩
theorem ow {i₀:Nat} {x:Str} {px spos:Pos} {elt tg iter:Expr} {ifs:List Expr} {scope:Scope} {pos:Pos} {cl:List (Str × Addr)} {NY:List Str} {cap:List (Option Nat)} {wi:TI} {g:TG} {tt:TT} {te:TE} (hN:X.N.Nodup) (hiN:X.N[i₀]?=some x) (hx:Loc X.env.scope x) (hc:X.calm=true) (hi:PI X tg iter wi)
    (hclos:closureFor scope X.env=pure cl) (hci:CellsIn X.env cl) (hcap:CapOk X.env (relabel scope X.env) X.N NY cap)
    (hb:∀ fp s H C,PG (aO X scope cl NY fp s H C) tg g∧iI (aO X scope cl NY fp s H C) ifs tt∧PE (aO X scope cl NY fp s H C) elt te)
    (hkind:scope.kind=.function:=by rfl) (hnc:(scope.names.all fun y=>y.2 != .cell)=true:=by rfl)
    (hnames:(scope.names.all fun y=>y.2 != .local || scope.names.lookup y.1 == some .local)=true:=by rfl)
    (hhas:((relabel scope X.env).names.all fun p=>(p.2 != .cell && p.2 != .free) || (cl.lookup p.1).isSome)=true:=by rfl)
    (hs:∀ x,foldedSetIterable iter X.env x=pure x:=by intro _;rfl) (hsw:swapsWith (.ListComp elt [⟨tg,iter,ifs,0⟩] scope pos) (some (.Name x px)) spos.line X.env=pure true:=by rfl)
    (hf:X.fn x=true∨X.env.scope.names.lookup x=some .local:=by first|exact .inl rfl|exact .inr rfl|assumption) :
    PS X (.Assign [.Name x px] (.ListComp elt [⟨tg,iter,ifs,0⟩] scope pos) spos) (rN (tLc cap wi g tt te) (oP i₀)):=by
  intro pins s σ H D I h;rw [exec_Assign_Name_used _ _ _ _ hsw];refine wpAny_bind (wpAny_standAt (wpAny_bind ?_));show wpAny _ X.A (do let _ ← comprehension (.ListComp elt [⟨tg,iter,ifs,0⟩] scope pos) scope X.env _ (newList []) false (eval iter X.env) (some (assign (.Name x px) X.env))) _ _ s;refine wpAny_bind (wpAny_mono (wpAny_comprehension_free (use:=some (assign (.Name x px) X.env)) (Q:=fun _ s'=>∃ σ' H',Inv X pins σ' H' s'∧D.nx σ' H') rfl hs hclos hkind (iT hnames) (wpAny_mono (hi pins s σ H _ I h) (fun v s1 h1=>wpAny_mono h1 (fun itv s2 h2=>?_) fun _ _ e=>e) fun _ _ e=>e)) (fun _ s' hq=>wpAny_pure (wpAny_pure hq)) fun _ _ e=>e);obtain ⟨it,fp,tn,J,H2,e,I2,T,st2,f2,W,⟨m0,w0⟩,turn⟩:=h2;subst e;refine wpAny_newObj_type (wpAny_newFunctionEnv (lE hnc) (by intro y hy;simp at hy) (fun h₁ hns₁ hsb₁=>?_) hkind);dsimp only at hns₁ hsb₁ ⊢;obtain ⟨hC,B,hD⟩:=I2.newC hci hkind hhas hns₁ fun b o hb e=>hsb₁.extBut b o hb (aak _ e);generalize (s2.heap.push { cls:=.type "list",dict:=none,data:=.seq ([]:List Value).toArray }).objs.size=C at hC B ⊢;obtain ⟨hbg,hbt,hbe⟩:=hb fp s2 H2 C;have stW:=T.keep _ _ h₁ st2 fun b _ o e=>B.old b o e;have loop:=I2.goLast f2 (T.lt st2) B hcap cr hc hC rfl hD T stW hbe hbg hbt (G:=[⟨tg,iter,ifs,0⟩]) rfl rfl (scope:=scope) (pos:=pos) (iter:=iter) (t':=s2.toks+([]:List (Str × Value)).length) turn w0 (R:=compPost (model X.prog X.w) X.A X.xe (some (assign (.Name x px) X.env)) (fun _ s'=>∃ σ' H',Inv X pins σ' H' s'∧D.nx σ' H') (.ref s2.heap.objs.size) C) fun ys its k H s I4 rv hz fin=>by
    obtain ⟨I5,hD3,hC3,hn⟩:=I2.lstDone f2 (aab _) (abx hC) rfl I4 rv hz;exact I2.useEnd (abx hC) hN hiN hx hf I5 hC3 hn (fin _ hD3)
  exact codeAny_compStart_list loop (T.self _ 0 _ _ _ stW loop)
end
open PySem PySem.Spec PyProof.Rows
section
variable {X:Cx}
end
open PySem PySem.Spec PyProof.Rows
section
variable {prog:Program} {w:World} {A:Around} {E:Value→Shared→Prop} {s:Shared} {I:Addr} {fp wr:List Addr} {G:Array GenState→Array GenState→Prop} {n:Nat} {P:Nat→Value→Prop} {St:Nat→Shared→Prop}
end
end L2
set_option maxHeartbeats 1000000
namespace L2
open PySem PySem.Spec PyProof.Rows
theorem hZ {M:Model} {Γ:PySem.Ctx} {p:Pos} {t:Sem Fin} {fs:List Frame} {s:Shared} {e:End} {s':Shared} (h:Runs M Γ p t fs s e s'):s.toks≤s'.toks:=by
  induction h <;> (try simp only [Shared.setGen] at *) <;> lia
theorem mR {M:Model} {Γ:PySem.Ctx} {p:Pos} {g:Nat} {r:Resume} {s:Shared} {res:GenResult} {s':Shared} (h:Wakes M Γ p g r s res s'):s.toks≤s'.toks:=by
  unfold Wakes at h;split at h
  · exact h.elim
  · split at h
    · obtain ⟨e1,s1,hr,_,_,rfl⟩:=h;have:=hZ hr;simpa only [Shared.setGen] using this
    · rw [h.2];exact aab _
    · rw [h.2];exact aab _
  · obtain ⟨e1,s1,hr,_,_,rfl⟩:=h;have:=hZ hr;simpa only [Shared.setGen] using this
  · rw [h.2];exact aab _
  · rw [h.2];exact aab _
theorem nU {α:Type} {M:Model} {Γ:PySem.Ctx} (n:Nat) (t:Sem α) {Q:α→Pos→Shared→Prop} {E:Value→Pos→Shared→Prop}:∀ (p:Pos) (s:Shared),n≤s.toks→abp M Γ t Q E p s →
    abp M Γ t (fun a p' s'=>n≤s'.toks∧Q a p' s') E p s:=by
  induction t with
  | pure a=>intro p s hn h;simp only [abp] at h ⊢;exact ⟨hn,h⟩
  | raise e=>intro p s hn h;simpa only [abp] using h
  | unsupported w=>intro p s hn h;simp only [abp] at h
  | finish e=>intro p s hn h;simp only [abp] at h
  | rule tag k ih=>intro p s hn h;simp only [abp] at h ⊢;exact ih _ _ _ hn h
  | «at» p' k ih=>intro p s hn h;simp only [abp] at h ⊢;exact ih _ _ _ hn h
  | load a part k ih=>intro p s hn h;simp only [abp] at h ⊢;obtain ⟨o,ho,h⟩:=h;exact ⟨o,ho,ih _ _ _ hn h⟩
  | update a part f k ih=>intro p s hn h;simp only [abp] at h ⊢;exact ⟨h.1,ih _ _ _ (by exact hn) h.2⟩
  | loadIfAlive a k ih=>intro p s hn h;simp only [abp] at h ⊢;exact ih _ _ _ hn h
  | point l k ih=>intro p s hn h;simp only [abp] at h ⊢;exact ih _ _ _ hn h
  | register a k ih=>intro p s hn h;simp only [abp] at h
  | alloc o k ih=>intro p s hn h;simp only [abp] at h ⊢;exact ih _ _ _ (by exact hn) h
  | fresh k ih=>intro p s hn h;simp only [abp] at h ⊢;exact ih _ _ _ (Nat.le_succ_of_le hn) h
  | ask k ih=>intro p s hn h;simp only [abp] at h ⊢;exact ih _ _ _ hn h
  | choose src n k ih=>intro p s hn h;simp only [abp] at h ⊢;exact ⟨h.1,ih _ _ _ (by exact hn) h.2⟩
  | os q l k ih=>intro p s hn h;simp only [abp] at h ⊢;exact ih _ _ _ (by exact hn) h
  | call c hd g l k ih =>
    intro p s hn h;simp only [abp] at h ⊢;obtain ⟨r,s',hr,h⟩:=h;exact ⟨r,s',hr,ih _ _ _ (aaW hn (hZ hr)) h⟩
  | handled own k ih=>intro p s hn h;simp only [abp] at h ⊢;exact ih _ _ _ hn h
  | genState g k ih=>intro p s hn h;simp only [abp] at h ⊢;obtain ⟨o,ho,h⟩:=h;exact ⟨o,ho,ih _ _ _ hn h⟩
  | newGen c k ih=>intro p s hn h;simp only [abp] at h ⊢;exact ih _ _ _ (by exact hn) h
  | resume g r l k ih =>
    intro p s hn h;simp only [abp] at h ⊢;obtain ⟨res,s',hw,h⟩:=h;exact ⟨res,s',hw,ih _ _ _ (aaW hn (mR hw)) h⟩
  | yield v g l k ih=>intro p s hn h;simp only [abp] at h
  | stack k ih=>intro p s hn h;simp only [abp] at h ⊢;exact ih _ _ _ hn h
  | fork c k ih=>intro p s hn h;simp only [abp] at h
  | thread k ih=>intro p s hn h;simp only [abp] at h ⊢;exact ih _ _ _ hn h
  | await a f d l k ih=>intro p s hn h;simp only [abp] at h
theorem mQ {α:Type} {M:Model} {A:Around} {t:Sem α} {Q:α→Shared→Prop} {E:Value→Shared→Prop} {s:Shared} (hn:s.toks≠0) (h:wpAny M A t Q E s):wpAny M A t (fun a s'=>s'.toks≠0∧Q a s') E s :=
  fun Γ p hΓ=>Sem.wp_mono M Γ t (fun a _ s' q=>⟨Nat.pos_iff_ne_zero.mp q.1,q.2⟩) (fun _ _ _ q=>q) p s (nU 1 t p s (Nat.pos_of_ne_zero hn) (h Γ p hΓ))
def Tk {α:Type} (t:Sem α):Prop:=∀ (M:Model) (Γ:PySem.Ctx) (p:Pos) (s:Shared) (Q:α→Pos→Shared→Prop) (E:Value→Pos→Shared→Prop),abp M Γ t Q E p s→abp M Γ t (fun a p' s'=>1≤s'.toks∧Q a p' s') E p s
theorem Tk.bindR {α β:Type} {m:Sem α} {f:α→Sem β} (h:∀ a,Tk (f a)):Tk (m >>= f):=by
  intro M Γ p s Q E q;rw [Sem.wp_bind'] at q ⊢;exact Sem.wp_mono M Γ m (fun a p' s' z=>h a M Γ p' s' Q E z) (fun _ _ _ z=>z) p s q
theorem Tk.bindL {α β:Type} {m:Sem α} {f:α→Sem β} (h:Tk m):Tk (m >>= f):=by
  intro M Γ p s Q E q;rw [Sem.wp_bind'] at q ⊢;exact Sem.wp_mono M Γ m (fun a p' s' z=>nU 1 (f a) p' s' z.1 z.2) (fun _ _ _ z=>z) p s (h M Γ p s _ E q)
theorem Tk.hold {α:Type} {vs:List Value} {t:Sem α} (h:Tk t):Tk (holding vs t):=by
  intro M Γ p s Q E q;rw [Sem.wp_holding] at q ⊢;exact h M Γ p s Q E q
theorem Tk.constI {i:Int} {k:Nat} {pos:Pos} {env:Env}:Tk (eval (.Constant (.int i) k pos) env):=by
  intro M Γ p s Q E q;exact ⟨Nat.le_add_left 1 _,q⟩
theorem Tk.cmp {l r:Expr} {op:CmpOp} {pos:Pos} {env:Env} {whole:Sem Value} (h:Tk (eval r env)) (hm:behindInMarks op r=false):Tk (isTrue (.Compare l [op] [r] pos) env whole):=by
  rw [isTrue_Compare1,markedBehindIn_of_false hm];exact .bindR fun a=>.bindL (.hold h)
theorem Tk.or {a:Expr} {rest:List Expr} {pos:Pos} {env:Env} {whole:Sem Value} (h:Tk (isTrue a env (eval a env))):Tk (isTrue (.BoolOp .Or (a :: rest) pos) env whole):=by
  rw [arm_isTrue_BoolOp,arm_allTrue_cons];exact .bindL h
theorem pU {α:Type} {M:Model} {A:Around} {t:Sem α} {Q:α→Shared→Prop} {E:Value→Shared→Prop} {s:Shared} (ht:Tk t) (h:wpAny M A t Q E s):wpAny M A t (fun a s'=>s'.toks≠0∧Q a s') E s :=
  fun Γ p hΓ=>Sem.wp_mono M Γ t (fun a _ s' q=>⟨Nat.pos_iff_ne_zero.mp q.1,q.2⟩) (fun _ _ _ q=>q) p s (ht M Γ p s _ _ (h Γ p hΓ))
def PEK (X:Cx) (e:Expr) (t:TE):Prop :=
  ∀ (pins:List (Addr × Obj)) (s:Shared) (σ:St) (H:Hp) (Q:VK),Inv X pins σ H s→s.toks≠0→t σ H Q→wpAny (model X.prog X.w) X.A (eval e X.env) (EP X pins σ Q) X.xe s
def vI (X:Cx) (st:List Stmt) (t:TS):Prop :=
  ∀ (pins:List (Addr × Obj)) (s:Shared) (σ:St) (H:Hp) (D:Ends),Inv X pins σ H s→s.toks≠0→t D σ H→wpAny (model X.prog X.w) X.A (execs st X.env) (SP X pins D) X.xe s
section
variable {X:Cx} {pos:Pos} {t u:TS}
theorem qp {e:Expr} {te:TE} (he:PEK X e te):vI X [.Return (some e) pos] (uT te):=by
  intro pins s σ H D I hk h;refine wpAny_execs_cons (thn (Q:=SP X pins D) (wpAny_Return_some (thn (he pins s σ H _ I hk h) fun v s1 ⟨x,H1,I1,r1,q1⟩=>⟨x,σ,H1,I1,r1,q1⟩)) fun f s1 q=>?_);cases f with
  | next=>exact wpAny_execs_nil q
  | ret v=>exact q
  | brk=>exact q
  | cont=>exact q
theorem tY {c:Expr} {a b:List Stmt} {tc:TT} (hk:Tk (isTrue c X.env (eval c X.env))) (hc:PT X c tc) (ha:vI X a t) (hb:PSs X b u):PS X (.If c a b pos) (uY tc t u):=by
  intro pins s σ H D I h;refine wpAny_If (thn (pU hk (hc pins s σ H _ I h)) fun d s1 ⟨hn,H1,I1,q1⟩=>?_);cases d with
  | true=>exact ha pins s1 σ H1 D I1 hn q1
  | false=>exact hb pins s1 σ H1 D I1 q1
def uU (K:aaa) (y z:Str) (to:TE):TE:=fun σ H Q=>to σ H fun x H1=>∃ w,x=.str w∧w.length≤1000∧Q (.str (Txt.replace w y z)) H1
theorem qy {o:Expr} {to:TE} {y z:Str} {k1 k2:Nat} {p1 p2 apos cpos:Pos} (ho:PE X o to) (hyz:(y == z)=false) (hz:z.length≤14)
    (hbase:attributeBase o "replace" X.env (eval o X.env)=eval o X.env:=by rfl)
    (hline:(apos.endLine == cpos.line)=true:=by rfl) :
    PEK X (.Call (.Attribute o "replace" apos) [.Constant (.str y) k1 p1,.Constant (.str z) k2 p2] [] cpos) (uU X.K y z to):=by
  intro pins s σ H Q I hk h;refine wpAny_Call_method_late hbase rfl hline rfl (thn (mQ hk (ho pins s σ H _ I h)) fun v s1 ⟨hn,x,H1,I1,r1,q1⟩=>?_);obtain ⟨w,rfl,hw,q1⟩:=q1;obtain ⟨h1,h2⟩:=mS (T:="str") I1 r1 (by first|exact rfl|exact True.intro);refine ⟨"str","str.replace",PySem.F.plainAttrs_str,PySem.F.slot_str_replace,PySem.F.type_str_replace,h1,h2,?_⟩;refine abR rfl (Calls.evalArgs_plain ?_);show wpAny _ _ (spliced ((false,eval (.Constant (.str y) k1 p1) X.env) :: backTo cpos (starEach [.Constant (.str z) k2 p2] X.env))) _ _ s1;refine Calls.spliced_cons (Calls.Constant_str ?_);show wpAny _ _ (spliced ((false,eval (.Constant (.str z) k2 p2) X.env) :: backTo cpos (starEach [] X.env))) _ _ _;refine Calls.spliced_cons (Calls.Constant_str ?_);refine Calls.spliced_nil ?_;obtain ⟨t0,rfl⟩:=r1;refine PySem.SC.replaceW hn (Nat.succ_ne_zero _) (aaC (Nat.lt_succ_self _)) hyz (by lia) hz fun t' k=>?_;exact ⟨.str _,H1,(I1.tok k),⟨_,rfl⟩,q1⟩
end
open PySem PySem.Spec PyProof.Rows
theorem uG {X:Cx} {pins:List (Addr × Obj)} {σ:St} {H:Hp} {s:Shared} {a:Addr} {y v:V} {u r:Value} {A:Around} {E:Value→Shared→Prop} {H':Hp} {Q:Unit→Shared→Prop} (hu:A.units+1 < cLine) (I:Inv X pins σ H s) (g:DPut H a y v H') (ry:RelV y u) (rv:RelV v r) (h:∀ s',Inv X pins σ H' s'→Q () s') :
    wpAny (model X.prog X.w) A (dictSet a u r) Q E s:=by
  rcases g with ⟨kvs,k,e,ey,l,eH⟩|⟨kvs,k,b,e,ey,eb,l,eH⟩
  · subst ey eH;obtain ⟨z,hd,vs,rel,dd⟩:=rp I.hok e;have hz:vs.length≤sizeLine:=by rw [← rel.length];exact z
    have hl:(db kvs k v).length≤sizeLine:=by have:=cE kvs k v;lia
    refine wpAny_dictSet_pairs (hsz:=hz) (mC ry) dd fun h' dd' hs=>h _ ?_;have he:∃ q,h'.get? a=some q:=let ⟨q,_,_,hq,_⟩:=dd';⟨q,hq⟩;exact iS I (by rw [e];exact True.intro) hs he (rq hl hd (rel.put k rv) dd')
  · subst ey eH;cases (show u=Value.ref b from ry);obtain ⟨z,hd,xs,rel,dd⟩:=tm I.hok e;have hz:xs.length≤sizeLine:=by rw [← aav rel];exact z
    have hl:(db kvs k v).length≤sizeLine:=by have:=cE kvs k v;lia
    have hr:(tupleKind (aG X.prog X.w)).room A:=by show A.units < cLine;lia
    refine wpAny_dictSet_heap (hsz:=hz) hr (lg I.hok eb) dd fun h' dd' hs=>h _ ?_;obtain ⟨q,es,ep,hq,h2,h3,h4,_,h5⟩:=dd';refine iS I (by rw [e];exact True.intro) hs ⟨q,hq⟩ ⟨hl,hd,_,(rel.put k eb rv).keeps fun c ys ec=>?_,q,es,ep,hq,h2,h3,h4,h5⟩;rw [az (sY ec e (fun z=>nomatch z))];exact ec
theorem nO {prog:Program} {w:World} {A:Around} {R:Result→Shared→Prop} {s:Shared} {kx vx target iter:Expr} {ifs:List Expr} {scope:Scope} {pos:Pos} {it:Value} {D:Addr} {env:Env} (J:Nat→Shared→Prop)
    (turn:∀ n s,J n s→wpAny (model prog w) A (pyNext it) (fun r s₁=>match r with
      | none=>R (.ok .next) s₁
      | some v=>wpAny (model prog w) A (letOwnedTupleGo target it v) (fun _ s₁'=>wpAny (model prog w) A (assign target env v) (fun _ s₂ =>
          wpAny (model prog w) A (forIn ifs true fun c r=>if r=true then do let ok ← isTrue c env (eval c env);pure (ForInStep.yield ok) else pure (ForInStep.yield r)) (fun ok s₃ =>
            if ok=true then wpAny (model prog w) A (eval kx env) (fun kv s₄=>wpAny (model prog w) A (eval vx env) (fun vv s₅ =>
              wpAny (model prog w) A (dictSet D kv vv) (fun _ s₆=>∃ m,m < n∧J m s₆) (fun _ _=>False) s₅) (fun _ _=>False) s₄) (fun _ _=>False) s₃
            else ∃ m,m < n∧J m s₃) (fun _ _=>False) s₂) (fun _ _=>False) s₁') (fun _ _=>False) s₁) (fun _ _=>False) s)
    (n:Nat) (h:J n s) :
    codeAny (model prog w) A (.compLoop (.DictComp kx vx [⟨target,iter,ifs,0⟩] scope pos) 0 it (.ref D) env) R s:=by
  refine codeAny_loop rfl J (fun n s hI=>?_) n h;show wpAny _ A ((compTurn (.DictComp kx vx [⟨target,iter,ifs,0⟩] scope pos) 0 it (.ref D) env).onRaise (fun x=>do noteFrame x env;theTreesLotGoes x)) _ _ s;refine wpAny_noted ?_;rw [compTurn_dict];refine wpAny_bind (wpAny_standAt (wpAny_bind (wpAny_mono (turn n s hI) (fun r s₁ h₁=>?_) fun _ _ h'=>h'.elim)));cases r with
  | none=>exact wpAny_pure h₁
  | some v =>
    refine wpAny_bind (wpAny_mono h₁ (fun _ s₁' h₁'=>?_) fun _ _ h'=>h'.elim);refine wpAny_bind (wpAny_mono h₁' (fun _ s₂ h₂=>wpAny_bind (wpAny_mono h₂ (fun ok s₃ h₃=>?_) fun _ _ h'=>h'.elim)) fun _ _ h'=>h'.elim);cases ok with
    | false=>exact wpAny_pure ⟨rfl,h₃⟩
    | true =>
      exact wpAny_bind (wpAny_bind (wpAny_mono h₃ (fun kv s₄ h₄=>wpAny_bind (wpAny_holding (wpAny_mono h₄ (fun vv s₅ h₅=>wpAny_bind (wpAny_standAt (wpAny_holding (wpAny_mono h₅ (fun _ s₆ h₆=>wpAny_pure ⟨rfl,h₆⟩) fun _ _ h'=>h'.elim)))) fun _ _ h'=>h'.elim))) fun _ _ h'=>h'.elim))
abbrev wj (cap:List (Option Nat)) (g:TG) (tt:TT) (tk tv:TE) (ob:HO) (σ:St) (Q:VK) (J:It) (H1:Hp):Prop:=∃ W:Addr→Nat→Nat→Hp→Prop,(∀ p,H1 p=none→∃ m,W p 0 m (upd H1 p ob))∧∀ p i m H,H1 p=none→W p i m H →
  (J.stop i H∧Q (.ref p) H) ∨
  (J.go i H∧∀ x H',J.yld i H x H'→g x (bO cap σ) H' fun σ2 H2=>tt σ2 H2 fun b H3=>if b=true then tk σ2 H3 fun k H4=>tv σ2 H4 fun v H5=>∃ H6,DPut H5 p k v H6∧∃ m',m' < m∧W p (i+1) m' H6 else ∃ m',m' < m∧W p (i+1) m' H3)
def tDc (cap:List (Option Nat)) (wi:TI) (g:TG) (tt:TT) (tk tv:TE) (ob:HO):TE:=fun σ H Q=>wi σ H (wj cap g tt tk tv ob σ Q)
section
variable {X:Cx}
theorem qr {ob:HO} {i₀:Nat} {x:Str} {px spos:Pos} {kx vx tg iter:Expr} {ifs:List Expr} {scope:Scope} {pos:Pos} {cl:List (Str × Addr)} {NY:List Str} {cap:List (Option Nat)} {wi:TI} {g:TG} {tt:TT} {tk tv:TE} (hob:ob=.dK []∨ob=.dT []) (hu:X.A.units+1 < cLine) (hN:X.N.Nodup) (hiN:X.N[i₀]?=some x) (hx:Loc X.env.scope x) (hc:X.calm=true) (hi:PI X tg iter wi)
    (hclos:closureFor scope X.env=pure cl) (hci:CellsIn X.env cl) (hcap:CapOk X.env (relabel scope X.env) X.N NY cap)
    (hb:∀ fp s H C,PG (aO X scope cl NY fp s H C) tg g∧iI (aO X scope cl NY fp s H C) ifs tt∧PE (aO X scope cl NY fp s H C) kx tk∧PE (aO X scope cl NY fp s H C) vx tv)
    (hkind:scope.kind=.function:=by rfl) (hnc:(scope.names.all fun y=>y.2 != .cell)=true:=by rfl)
    (hnames:(scope.names.all fun y=>y.2 != .local || scope.names.lookup y.1 == some .local)=true:=by rfl)
    (hhas:((relabel scope X.env).names.all fun p=>(p.2 != .cell && p.2 != .free) || (cl.lookup p.1).isSome)=true:=by rfl)
    (hs:∀ x,foldedSetIterable iter X.env x=pure x:=by intro _;rfl) (hsw:swapsWith (.DictComp kx vx [⟨tg,iter,ifs,0⟩] scope pos) (some (.Name x px)) spos.line X.env=pure true:=by rfl)
    (hf:X.fn x=true∨X.env.scope.names.lookup x=some .local:=by first|exact .inl rfl|exact .inr rfl|assumption) :
    PS X (.Assign [.Name x px] (.DictComp kx vx [⟨tg,iter,ifs,0⟩] scope pos) spos) (rN (tDc cap wi g tt tk tv ob) (oP i₀)):=by
  intro pins s σ H D I h;rw [exec_Assign_Name_used _ _ _ _ hsw];refine wpAny_bind (wpAny_standAt (wpAny_bind ?_));show wpAny _ X.A (do let _ ← comprehension (.DictComp kx vx [⟨tg,iter,ifs,0⟩] scope pos) scope X.env _ newDict false (eval iter X.env) (some (assign (.Name x px) X.env))) _ _ s;refine wpAny_bind (wpAny_mono (wpAny_comprehension_free (use:=some (assign (.Name x px) X.env)) (Q:=fun _ s'=>∃ σ' H',Inv X pins σ' H' s'∧D.nx σ' H') rfl hs hclos hkind (iT hnames) (wpAny_mono (hi pins s σ H _ I h) (fun v s1 h1=>wpAny_mono h1 (fun itv s2o h2=>?_) fun _ _ e=>e) fun _ _ e=>e)) (fun _ s' hq=>wpAny_pure (wpAny_pure hq)) fun _ _ e=>e);obtain ⟨it,fp,tn,J,H2o,e,I2o,T,st2o,f2o,W,w00,turn⟩:=h2;subst e;have freshO:H2o s2o.heap.objs.size=none:=I2o.hok.fresh (aab _);obtain ⟨m0,w0⟩:=w00 _ freshO;have obk:ObjOk X.prog X.w (upd H2o s2o.heap.objs.size ob) (s2o.heap.push { cls:=.type "dict",data:=.dict #[] }) s2o.heap.objs.size ob:=by
    rcases hob with rfl|rfl
    · exact rz s2o.heap I2o.big
    · exact mJ s2o.heap I2o.big
  have I2:=I2o.laid (a:=s2o.heap.objs.size) (o:=ob) (h':=s2o.heap.push { cls:=.type "dict",data:=.dict #[] }) (t':=s2o.toks) (fun _ _ q=>aak _ q) (aab _) obk;have st2:tn 0 (s2o.heap.push { cls:=.type "dict",data:=.dict #[] }):=T.keep _ _ _ st2o fun b _ o e=>aak _ e;have f2:∀ b∈fp,dA X pins (upd H2o s2o.heap.objs.size ob) b:=fun b hb=>by
    obtain ⟨h1,h2⟩:=f2o b hb;refine ⟨?_,h2⟩;rw [az (fun z=>?_)]
    · exact h1
    · obtain ⟨o,e,_⟩:=T.obj _ _ st2o b hb;exact absurd (aas e) (by rw [z];exact aa6 _)
  refine wpAny_newObj_type ?_;have hsz0:(s2o.heap.push { cls:=.type "dict",data:=.dict #[] }).objs.size=s2o.heap.objs.size+1:=Heap.size_push _ _;generalize hs2:({ s2o with heap:=s2o.heap.push { cls:=.type "dict",data:=.dict #[] } }:Shared)=s2 at I2 st2 ⊢;generalize hHH:upd H2o s2o.heap.objs.size ob=H2 at I2 f2 w0;have hDs:s2.heap.objs.size=s2o.heap.objs.size+1:=by rw [← hs2];exact hsz0
  have st2:tn 0 s2.heap:=by rw [← hs2];exact st2
  generalize hDD:s2o.heap.objs.size=DD at freshO w0 hDs ⊢;refine wpAny_newFunctionEnv (lE hnc) (by intro y hy;simp at hy) (fun h₁ hns₁ hsb₁=>?_) hkind
  try dsimp only at hns₁ hsb₁ ⊢
  have B:=I2.blkC hci hkind hhas (aab _) (fun b o e=>hsb₁.extBut b o (aaC (aas e)) (aak _ e)) ⟨_,hns₁⟩;have fpl:=T.lt st2;obtain ⟨hbg,hbt,hbk,hbv⟩:=hb fp s2 H2 s2.heap.objs.size;have fpYs:∀ {H':Hp},(∀ b∈fp,H' b=none)→∀ b∈fp,dA (aO X scope cl NY fp s2 H2 s2.heap.objs.size) [] H' b:=fun hn=>I2.fps f2 fpl B (fun p hp=>by cases hp) hn;have IY0:=I2.blk f2 fpl B hcap cr (P:=[]) (fun p hp=>by cases hp) (t':=s2.toks+([]:List (Str × Value)).length);have hcY:(aO X scope cl NY fp s2 H2 s2.heap.objs.size).calm=true:=hc;have stW:tn 0 h₁:=T.keep _ _ _ st2 fun b _ o e=>B.old b o e;have loop:∀ s₃:Shared,s₃={ s2 with heap:=h₁,toks:=s2.toks+([]:List (Str × Value)).length } →
      codeAny (model X.prog X.w) X.A (.compLoop (.DictComp kx vx [⟨tg,iter,ifs,0⟩] scope pos) 0 (.ref it) (.ref DD) (compEnvC scope cl s2.heap.objs.size X.env))
        (compPost (model X.prog X.w) X.A X.xe (some (assign (.Name x px) X.env)) (fun _ s'=>∃ σ' H',Inv X pins σ' H' s'∧D.nx σ' H') (.ref DD) s2.heap.objs.size) s₃:=by
    rintro s₃ rfl;refine nO (fun n s'=>∃ i H',Inv (aO X scope cl NY fp s2 H2 s2.heap.objs.size) [] (bO cap σ) H' s'∧tn i s'.heap∧(∀ b∈fp,H' b=none)∧W DD i n H') ?_ m0
      ⟨0,H2,IY0,stW,fun b hb=>(f2 b hb).1,w0⟩
    rintro n s3 ⟨i,H3,I3,st3,fr3,w3⟩;rcases turn DD i n H3 freshO w3 with ⟨stop,qn⟩|⟨go,step⟩
    · refine wpAny_mono (T.done (aO X scope cl NY fp s2 H2 s2.heap.objs.size) rfl rfl rfl hcY i _ s3 _ H3 (fun _ _=>False) I3 (fpYs fr3) st3 stop) (fun r s4 ⟨hr,I4⟩=>?_) fun _ _ z=>z;subst hr;obtain ⟨m,hnC,_⟩:=id I4.loc;exact I2.useEnd (aab _) hN hiN hx hf (I2.outB f2 I4) I4.free ⟨m,hnC⟩ qn
    · refine wpAny_mono (T.item (aO X scope cl NY fp s2 H2 s2.heap.objs.size) rfl rfl rfl hcY i _ s3 _ H3 (fun _ _=>False) I3 (fpYs fr3) st3 go) (fun r s4 ⟨u,hr,h4⟩=>?_) fun _ _ z=>z;subst hr;refine wpAny_mono h4 (fun _ s5 ⟨x,H5,I5,r5,y5,st5,fr5⟩=>?_) fun _ _ z=>z;have I5':=I5.pinned (fpYs fr5) (T.obj _ _ st5);refine wpAny_mono (hbg _ s5 _ H5 x u _ I5' r5 (step x H5 y5)) (fun _ s6 ⟨σ6,H6,I6,q6⟩=>?_) fun _ _ z=>z;refine wpAny_mono (hbt _ s6 σ6 H6 _ I6 q6) (fun ok s7 ⟨H7,I7,q7⟩=>?_) fun _ _ z=>z;have again:∀ {σ':St} {H':Hp} {s':Shared},Inv (aO X scope cl NY fp s2 H2 s2.heap.objs.size) ([]++cm fp s5.heap) σ' H' s' →
          (∃ m',m' < n∧W DD (i+1) m' H')→∃ m,m < n∧∃ i H',Inv (aO X scope cl NY fp s2 H2 s2.heap.objs.size) [] (bO cap σ) H' s'∧tn i s'.heap∧(∀ b∈fp,H' b=none)∧W DD i m H':=fun {σ' H' s'} Z hw=>by
        obtain ⟨m',hm,w'⟩:=hw;refine ⟨m',hm,i+1,H',I2.recap f2 B hcap cr Z.unpinned,T.keep _ _ _ st5 fun b hb o e=>(Z.pin (b,o) (aaj _ (aaj _ (cu hb e)))).1,fun b hb=>?_,w'⟩;obtain ⟨o,e,d⟩:=T.obj _ _ st5 b hb;exact (Z.pin (b,o) (aaj _ (aaj _ (cu hb e)))).2.1
      cases ok with
      | false =>
        rw [if_neg aah] at q7 ⊢;exact again I7 q7
      | true =>
        rw [if_pos rfl] at q7 ⊢;refine wpAny_mono (hbk _ s7 σ6 H7 _ I7 q7) (fun kv s8 ⟨k,H8,I8,r8,q8⟩=>?_) fun _ _ z=>z;refine wpAny_mono (hbv _ s8 σ6 H8 _ I8 q8) (fun vv s9 ⟨v,H9,I9,r9,H10,put,q9⟩=>?_) fun _ _ z=>z;exact uG (X:=aO X scope cl NY fp s2 H2 s2.heap.objs.size) (A:=X.A) hu I9 put r8 r9 fun s10 I10=>again I10 q9
  exact codeAny_compStart_dict (loop _ rfl) (T.self _ 0 _ _ _ stW (loop _ rfl))
end
open PySem PySem.Spec PyProof.Rows
section
variable {X:Cx}
end
end L2
namespace PySem
open Builtin Builtin.Str Builtin.Int
section
variable {prog:Program} {w:World} {A:Around} {E:Value→Shared→Prop} {s:Shared} {x:Str} {t:Tok} {Q:Value→Shared→Prop}
  {I:Addr} {fp wr:List Addr} {G:Array GenState→Array GenState→Prop} {n:Nat} {P:Nat→Value→Prop} {St:Nat→Shared→Prop}
end
end PySem
namespace L2
open PySem PySem.Spec PyProof.Rows
section
variable {X:Cx}
end
open PySem PySem.Spec PyProof.Rows
section
variable {X:Cx}
end
open PySem PySem.Spec PyProof.Rows
section
variable {X:Cx} {pins:List (Addr × Obj)} {σ:St} {H:Hp} {s:Shared} {A:Around} {Q:Value→Shared→Prop} {E:Value→Shared→Prop} {b:Bool}
end
section
variable {X:Cx} {a b c d:Expr} {ta tb tc td:TE} {pos:Pos}
end
section
variable {X:Cx}
end
open PySem PySem.Spec PyProof.Rows
section
variable {X:Cx} {o e:Expr} {es:List Expr} {to:TE} {t:TA} {name:Str} {apos cpos:Pos} {T id:String} {r:V→List V→Hp→VK→Prop} {K:aaa}
end
open PySem PySem.Spec PyProof.Rows
structure Trn (J:It) (n:Nat) (Kp:Hp→Prop) (item:Nat→V→Hp→Hp→Prop):Prop where
  go:∀ i H,i < n→Kp H→J.go i H
  stop:∀ H,Kp H→J.stop n H
  yld:∀ i H x H',i < n→Kp H→J.yld i H x H'→item i x H H'
theorem Trn.list {K:aaa} {a:Addr} {xs:List V}:Trn (Itl K a) xs.length (fun H=>SqL K H a xs) (fun i x H H'=>H'=H∧xs[i]?=some x) :=
  ⟨fun i H hi q=>⟨xs,xs[i],q,by simp [hi]⟩,fun H q=>⟨xs,q,aab _⟩,fun i H x H' hi q y=>⟨y.1,y.2 xs q⟩⟩
theorem Trn.tup {K:aaa} {a:Addr} {xs:List V}:Trn (Itt K a) xs.length (fun H=>SqT K H a xs) (fun i x H H'=>H'=H∧xs[i]?=some x) :=
  ⟨fun i H hi q=>⟨xs,xs[i],q,by simp [hi]⟩,fun H q=>⟨xs,q,aab _⟩,fun i H x H' hi q y=>⟨y.1,y.2 xs q⟩⟩
theorem Trn.range {lo:Int} {n:Nat}:Trn (Itr lo n) n (fun _=>True) (fun i x H H'=>H'=H∧x=.int (lo+i)) :=
  ⟨fun i H hi _=>hi,fun H _=>aab _,fun i H x H' hi _ y=>y⟩
theorem Trn.str {z:Str}:Trn (Its z) z.cps.size (fun _=>True) (fun i x H H'=>H'=H∧∃ c,z.cps[i]?=some c∧x=.str ⟨#[c]⟩) :=
  ⟨fun i H hi _=>hi,fun H _=>aab _,fun i H x H' hi _ y=>y⟩
theorem eZ {J:It} {n:Nat} {Kp:Hp→Prop} {item:Nat→V→Hp→Hp→Prop} (T:Trn J n Kp item) {cap:List (Option Nat)} {g:TG} {tt:TT} {te:TE} {σ:St} {H:Hp} {Q:VK} (Pv:Nat→List V→Hp→Prop) (h0:Pv 0 [] H) (hk:∀ i ys H,i≤n→Pv i ys H→Kp H∧ys.length < sizeLine)
    (hs:∀ i x ys H H',i < n→item i x H H'→Pv i ys H→∀ Nx:List V→Hp→Prop,(∀ ys' H2,Pv (i+1) ys' H2→Nx ys' H2)→g x (bO cap σ) H' fun σ2 H2=>tt σ2 H2 fun b H3=>if b=true then te σ2 H3 fun v H4=>Nx (ys++[v]) H4 else Nx ys H3)
    (hd:∀ ys H,Pv n ys H→∀ p,H p=none→Q (.ref p) (upd H p (.lst ys))):sR cap g tt te σ Q J H:=by
  refine ⟨fun i m ys H=>m=n - i∧i≤n∧Pv i ys H,⟨n,by simp,aaI _,h0⟩,?_⟩;rintro i m ys H ⟨rfl,hi,p⟩;by_cases hlt:i < n
  · refine .inr ⟨T.go i H hlt (hk i ys H hi p).1,(hk i ys H hi p).2,fun x H' y=>?_⟩;exact hs i x ys H H' hlt (T.yld i H x H' hlt (hk i ys H hi p).1 y) p (fun ys' H4=>∃ m',m' < n - i∧m'=n - (i+1)∧i+1≤n∧Pv (i+1) ys' H4) fun ys' H2 h=>⟨_,by lia,rfl,hlt,h⟩
  · have e:i=n:=by lia
    subst e;exact .inl ⟨T.stop H (hk _ ys H hi p).1,hd ys H p⟩
theorem ug {J:It} {n:Nat} {Kp:Hp→Prop} {item:Nat→V→Hp→Hp→Prop} (T:Trn J n Kp item) {cap:List (Option Nat)} {g:TG} {tt:TT} {wi2:TI} {g2:TG} {tt2:TT} {te:TE} {σ:St} {H:Hp} {Q:VK} (Pv:Nat→List V→Hp→Prop) (h0:Pv 0 [] H) (hk:∀ i ys H,i≤n→Pv i ys H→Kp H)
    (hs:∀ i x ys H H',i < n→item i x H H'→Pv i ys H→∀ Nx:List V→Hp→Prop,(∀ ys' H2,Pv (i+1) ys' H2→Nx ys' H2)→g x (bO cap σ) H' fun σ2 H2=>tt σ2 H2 fun b H3=>if b=true then wi2 σ2 H3 (tw g2 tt2 te ys σ2 Nx) else Nx ys H3)
    (hd:∀ ys H,Pv n ys H→∀ p,H p=none→Q (.ref p) (upd H p (.lst ys))):tE cap g tt wi2 g2 tt2 te σ Q J H:=by
  refine ⟨fun i m ys H=>m=n - i∧i≤n∧Pv i ys H,⟨n,by simp,aaI _,h0⟩,?_⟩;rintro i m ys H ⟨rfl,hi,p⟩;by_cases hlt:i < n
  · refine .inr ⟨T.go i H hlt (hk i ys H hi p),fun x H' y=>?_⟩;exact hs i x ys H H' hlt (T.yld i H x H' hlt (hk i ys H hi p) y) p (fun ys' H4=>∃ m',m' < n - i∧m'=n - (i+1)∧i+1≤n∧Pv (i+1) ys' H4) fun ys' H2 h=>⟨_,by lia,rfl,hlt,h⟩
  · have e:i=n:=by lia
    subst e;exact .inl ⟨T.stop H (hk _ ys H hi p),hd ys H p⟩
theorem uf {J:It} {n:Nat} {Kp:Hp→Prop} {item:Nat→V→Hp→Hp→Prop} (T:Trn J n Kp item) {g2:TG} {tt2:TT} {te:TE} {ys:List V} {σ:St} {H:Hp} {Fin:List V→Hp→Prop} (Pv:Nat→List V→St→Hp→Prop) (h0:Pv 0 ys σ H) (hk:∀ i ys σ H,i≤n→Pv i ys σ H→Kp H∧ys.length < sizeLine)
    (hs:∀ i x ys σ H H',i < n→item i x H H'→Pv i ys σ H→∀ Nx:List V→St→Hp→Prop,(∀ ys' σ' H2,Pv (i+1) ys' σ' H2→Nx ys' σ' H2)→g2 x σ H' fun σ3 H5=>tt2 σ3 H5 fun b H6=>if b=true then te σ3 H6 fun v H7=>Nx (ys++[v]) σ3 H7 else Nx ys σ3 H6)
    (hd:∀ ys σ H,Pv n ys σ H→Fin ys H):tw g2 tt2 te ys σ Fin J H:=by
  refine ⟨fun i m ys σ H=>m=n - i∧i≤n∧Pv i ys σ H,⟨n,by simp,aaI _,h0⟩,?_⟩;rintro i m ys σ H ⟨rfl,hi,p⟩;by_cases hlt:i < n
  · refine .inr ⟨T.go i H hlt (hk i ys σ H hi p).1,(hk i ys σ H hi p).2,fun x H' y=>?_⟩;exact hs i x ys σ H H' hlt (T.yld i H x H' hlt (hk i ys σ H hi p).1 y) p (fun ys' σ' H4=>∃ m',m' < n - i∧m'=n - (i+1)∧i+1≤n∧Pv (i+1) ys' σ' H4) fun ys' σ' H2 h=>⟨_,by lia,rfl,hlt,h⟩
  · have e:i=n:=by lia
    subst e;exact .inl ⟨T.stop H (hk _ ys σ H hi p).1,hd ys σ H p⟩
open PySem PySem.Spec PyProof.Rows
open PySem PySem.Spec PyProof.Rows
section
variable {X:Cx}
end
open PySem PySem.Spec PyProof.Rows
section
variable {X:Cx} {a b c d e:Expr} {ta tb tc td te:TE} {pos:Pos}
end
theorem neE {K:aaa} {H:Hp} {Q:V→Hp→Prop} {a b:Addr} {xs:List V} (ha:SqL K H a xs) (hb:SqL K H b []) (h:Q (.bl (!decide (xs=[]))) H):tX K true (.ref a) (.ref b) H Q:=by
  refine ⟨0,a,b,xs,[],by decide,rfl,rfl,ha,hb,?_⟩;by_cases c:xs=[]
  · subst c;exact .inr ⟨fun _=>true,rfl,fun j x y h=>by simp at h,h⟩
  · rw [decide_eq_false c] at h;exact .inl ⟨fun e=>c (abA.mp e),h⟩
end L2
namespace L2
open PySem PySem.Spec PyProof.Rows PySem.W
def cdO (c:Addr) (qual:Str):HO:=.ext fun h=>h.CodeRec (.ref c) qual
structure LTab (P:Addr) (qual:Str) (H:Hp) (ps:Array Value):Prop where
  tab:H P=some (.tbl ps)
  tri:TriplesOk ps.toList
  cds:∀ pos cv,codeAmong pos ps.toList=some cv→∃ c',cv=.ref c'∧H c'=some (cdO c' qual)
section
variable {X:Cx} {pins:List (Addr × Obj)} {σ:St} {H:Hp} {s:Shared}
end
section
variable {CX:CXT} {P:Program} {w:World} {K:aaa} {mg:Str→Option Value} {base:Heap} {k:Nat}
end
section
variable {X:Cx} {pins pl:List (Addr × Obj)} {σ:St} {H:Hp} {s:Shared}
end
section
variable {X:Cx}
end
end L2
namespace L2
open PySem PySem.Spec PyProof.Rows PySem.W
section
variable {X:Cx} {pins pl:List (Addr × Obj)} {σ:St} {H:Hp} {s:Shared}
end
section
variable {X:Cx}
end
end L2
namespace L2
open PySem PySem.Spec PyProof.Rows PySem.W
structure FunC (K:aaa) (x qual:Str) (st:Stmt) (f:Addr) (fd:FuncData) (c:Addr):Prop where
  ex:∃ (oc:Value) (od:Option Addr) (kV doc pm:Value) (an:Option Addr) (ct:Value) (osl:Array (Option Value)),
    fd=aa8 x qual (cB st) (cf st) (al st) .none kV doc pm an (.ref c) ct∧K.lookup f=some ⟨oc,od,.func fd,osl⟩∧abB K (.ref c) qual=true
  kp:aa7 K (.ref f)=true
section
variable {P:Program} {w:World} {K:aaa} {mg:Str→Option Value} {base:Heap}
end
open PySem PySem.Spec PyProof.Rows
open PySem PySem.Spec PyProof.Rows
open PySem PySem.Spec PyProof.Rows
open PySem PySem.Spec PyProof.Rows
section
variable {prog:Program} {w:World} {A:Around} {E:Value→Shared→Prop} {s:Shared}
end
def Ent (P:Program) (w:World) (d:Addr) (o:Obj) (u:HO) (n:Nat) (rw:Nat→V→V→Hp→Prop) (es:Array DictEntry) (ep:Nat):Prop :=
  o.data=.dict es ep∧es.size=n∧∀ H h,HOk P w H h→H d=some (.frz o u)→h.get? d=some o∧∀ i e,es[i]?=some e→∃ k y,RelV k e.key∧RelV y e.val∧rw i k y H
theorem fY {J:It} {n:Nat} {Kp:Hp→Prop} {item:Nat→V→Hp→Hp→Prop} (T:Trn J n Kp item) {g:TG} {tb:TS} {D:Ends} {σ:St} {H:Hp} (Pv:Nat→St→Hp→Prop) (h0:Pv 0 σ H) (hk:∀ i σ H,i≤n→Pv i σ H→Kp H)
    (hs:∀ i x σ H H',i < n→item i x H H'→Pv i σ H→g x σ H' fun σ2 H2=>tb { D with nx:=Pv (i+1),ct:=Pv (i+1),bk:=D.nx } σ2 H2) (hd:∀ σ H,Pv n σ H→D.nx σ H) :
    ∃ W:Nat→Nat→St→Hp→Prop,(∃ m,W 0 m σ H)∧∀ i m σ H,W i m σ H →
      (J.stop i H∧D.nx σ H)∨(J.go i H∧∃ N:St→Hp→Prop,(∀ σ' H',N σ' H'→∃ m',m' < m∧W (i+1) m' σ' H')∧∀ x H',J.yld i H x H'→g x σ H' fun σ2 H2=>tb { D with nx:=N,ct:=N,bk:=D.nx } σ2 H2):=by
  refine ⟨fun i m σ H=>m=n - i∧i≤n∧Pv i σ H,⟨n,by simp,aaI _,h0⟩,?_⟩;rintro i m σ H ⟨rfl,hi,p⟩;have q:=hk i σ H hi p;by_cases hlt:i < n
  · exact .inr ⟨T.go i H hlt q,Pv (i+1),fun σ' H' p'=>⟨n - (i+1),by lia,rfl,hlt,p'⟩,fun x H' y=>hs i x σ H H' hlt (T.yld i H x H' hlt q y) p⟩
  · have e:i=n:=by lia
    subst e;exact .inl ⟨T.stop H q,hd σ H p⟩
def uM (H:Hp) (d:Addr):Prop:=∀ o v,H d≠some (.frz o v)
end L2
namespace PySem
open Sem (wp)
namespace F
end F
section
variable {prog:Program} {w:World} {A:Around} {E:Value→Shared→Prop} {h:Heap} {g:Array GenState} {d:Drawn} {t:Nat} {os:OsState} {a:Addr} {xs:Array Value} {k:Nat}
end
end PySem
namespace L2
open PySem PySem.Spec PyProof.Rows
section
variable {prog:Program} {w:World} {A:Around} {E:Value→Shared→Prop} {s:Shared}
end
open PySem PySem.Spec PyProof.Rows
section
variable {X:Cx}
end
structure FunD (K:aaa) (x qual:Str) (st:Stmt) (f:Addr) (fd:FuncData) (tD:Addr):Prop where
  ex:∃ (oc:Value) (od:Option Addr) (kV doc pm:Value) (an:Option Addr) (cdv ct:Value) (osl:Array (Option Value)),
    fd=aa8 x qual (cB st) (cf st) (al st) (.ref tD) kV doc pm an cdv ct∧K.lookup f=some ⟨oc,od,.func fd,osl⟩∧abB K cdv qual=true
  kp:aa7 K (.ref f)=true
section
variable {P:Program} {w:World} {K:aaa} {mg:Str→Option Value} {base:Heap}
end
open PySem PySem.Spec PyProof.Rows
section
variable {X:Cx} {tg:Expr}
end
open PySem PySem.Spec PyProof.Rows
end L2
namespace L2
open PySem PySem.Spec PyProof.Rows PySem.W
section
variable {prog:Program} {w:World} {A:Around} {E:Value→Shared→Prop} {s:Shared}
end
open PySem PySem.Spec PyProof.Rows
def iF (e l:Nat→Bool) (n m:Nat):Nat→Nat→Bool
  | _,0=>decide (n < m)
  | j,k+1=>if e j=true then iF e l n m (j+1) k else l j
def LtAt (A:Around) (s:Shared) (u v:Value) (b:Bool):Prop:=∀ (prog:Program) (w:World) (E Q:Value→Shared→Prop),Q (.bool b) s→wpAny (model prog w) A (richCompare .Lt u v) Q E s
section
open PySem.SeqAt
open PySem.AutoSeq1 (wpAny_loadPart')
open PySem.MeetsSeq PySem.MeetsSeq2 PySem.MeetsSeq3
end
inductive LtR (K:aaa) (H:Hp):Nat→V→V→Bool→Prop
  | int {n:Nat} {a b:Int}:LtR K H n (.int a) (.int b) (decide (a < b))
  | tup {n:Nat} {a b:Addr} {xs ys:List V} {e l:Nat→Bool} (ha:SqT K H a xs) (hb:SqT K H b ys) (h:∀ (j:Nat) x y,xs[j]?=some x→ys[j]?=some y→EqR K H n x y (e j)) (hl:∀ (j:Nat) x y,xs[j]?=some x→ys[j]?=some y→e j=false→LtR K H n x y (l j)) :
      LtR K H (n+1) (.ref a) (.ref b) (iF e l xs.length ys.length 0 (min xs.length ys.length))
section
variable {X:Cx} {pins:List (Addr × Obj)} {σ:St} {H:Hp} {s:Shared}
end
section
variable {X:Cx}
theorem ua {K:aaa} (hK:X.K=K) (hu:X.A.units+64 < cLine):OpR X (compareOp .Eq) (fun x y H Q=>∃ n a b k,n≤60∧x=.ref a∧y=.ref b∧EqR K H n x y k∧Q (.bl k) H):=by
  subst hK;intro pins s σ H x y v u Q I rx ry h;obtain ⟨n,a,b,k,hn,e1,e2,h,q⟩:=h;cases h with
  | flat fx fy=>subst e1;exact absurd (show false=true from fx) aah
  | @lens n a b xs ys ha hb hl =>
    cases rx;cases ry;obtain ⟨its,r,pl,_⟩:=I.list ha;obtain ⟨its2,r2,pl2,_⟩:=I.list hb;exact SeqAt.eq_list_lengthsAt pl.isList pl2.isList (by rw [aad,aad,← r.length,← r2.length];exact bne_iff_ne.mpr hl) (by lia) ⟨.bl false,H,I,rfl,q⟩
  | @lst n a b xs ys e ha hb hl he =>
    cases rx;cases ry;obtain ⟨its,r,pl,_⟩:=I.list ha;obtain ⟨its2,r2,pl2,_⟩:=I.list hb;have z1:its.toArray.size=xs.length:=by rw [aad,r.length]
    have z2:its2.toArray.size=ys.length:=by rw [aad,r2.length]
    refine SeqAt.eq_listAt (e:=e) pl.isList pl2.isList (by rw [z1,z2];exact hl) (by lia) (fun j h1 h2=>?_) ?_
    · obtain ⟨x,hx,rx⟩:=a_ r h1;obtain ⟨y,hy,ry⟩:=a_ r2 h2;exact (he j x y hx hy).at I rx ry (by show X.A.units+1+n < cLine;lia)
    · rw [z1];exact ⟨.bl _,H,I,rfl,q⟩
  | @tup n a b xs ys e ha hb he =>
    cases rx;cases ry;obtain ⟨its,r,pl,_⟩:=I.tuple ha;obtain ⟨its2,r2,pl2,_⟩:=I.tuple hb;have z1:its.toArray.size=xs.length:=by rw [aad,r.length]
    have z2:its2.toArray.size=ys.length:=by rw [aad,r2.length]
    refine SeqAt.eq_tupleAt (e:=e) pl pl2 (by lia) (fun j h1 h2=>?_) ?_
    · obtain ⟨x,hx,rx⟩:=a_ r h1;obtain ⟨y,hy,ry⟩:=a_ r2 h2;exact (he j x y hx hy).at I rx ry (by show X.A.units+1+n < cLine;lia)
    · rw [z1,z2];exact ⟨.bl _,H,I,rfl,q⟩
end
open PySem PySem.Spec PyProof.Rows
def Fq (K:aaa) (x:Str) (s:Stmt) (f:Addr):Prop:=aax K mainGlobals x=some (some (.ref f))∧∃ fd,Fun K x x s f fd
theorem Fq.mk4 {K:aaa} {x:Str} {st:Stmt} {f:Addr} {oc:Value} {od an:Option Addr} {osl:Array (Option Value)} {kV doc pm cdv ct:Value} (a:aax K mainGlobals x=some (some (.ref f))) (l:K.lookup f=some ⟨oc,od,.func (aa8 x x (cB st) (cf st) (al st) .none kV doc pm an cdv ct),osl⟩)
    (c:abB K cdv x=true) (k:aa7 K (.ref f)=true):Fq K x st f:=⟨a,_,qY l c k⟩
theorem Fq.use {K:aaa} {x:Str} {st:Stmt} {f:Addr} {h:Heap} {mg:Str→Option Value} (q:Fq K x st f) (X:K.In h) (G:h.Ns mainGlobals mg) {ps:List Str}
    (hb:∀ (kV doc pm:Value) (an:Option Addr) (cdv ct:Value) (us:List Value),us.length=ps.length→bindArgs (aa8 x x (cB st) (cf st) (al st) .none kV doc pm an cdv ct) ⟨us,[]⟩=pure (ps.zip us)):∃ fd,Fun K x x st f fd∧Binds K fd ps []∧mg x=some (.ref f):=by
  obtain ⟨a,fd,F⟩:=q;exact ⟨fd,F,F.binds hb,abe X G a⟩
open PySem PySem.Spec PyProof.Rows
open PySem PySem.Spec PyProof.Rows
open PySem PySem.Spec PyProof.Rows
open PySem PySem.Spec PyProof.Rows
section
variable {prog:Program} {w:World} {A:Around} {E:Value→Shared→Prop} {s:Shared}
end
end L2
namespace L2
open PySem
def vH (xs:Array Nat):Prop:=xs.toList.Pairwise (· < ·)
def Okm (m:Nat):Prop:=m=7∨m=15∨m=31∨m=63∨m=127∨m=255∨m=511∨m=1023
def lp (m:Nat):Nat→Nat→Nat→Nat × Nat
  | 0,i,p=>(i,p)
  | L+1,i,p=>lp m L ((i * 5+1+p / 32) % (m+1)) (p / 32)
end L2
namespace L2
open PySem
end L2
namespace L2
open PySem
structure GT (n:Nat) (b:Bool) (t:SetTable):Prop where
  okm:Okm t.mask
  dum:t.dummies=#[]
  pl:t.plain=true
  rise:vH t.place
  size:t.place.size=n
  led:t.led=b
  room:n * 5 < t.mask * 3
structure GT1 (n:Nat) (b:Bool) (t:SetTable):Prop where
  okm:Okm t.mask
  dum:t.dummies=#[]
  pl:t.plain=true
  rise:vH t.place
  size:t.place.size=n
  led:t.led=b
  room:(n - 1) * 5 < t.mask * 3
open PySem PySem.Spec PyProof.Rows
def kOf:Value→Int
  | .int i _=>i
  | _=>0
section
variable {prog:Program} {w:World} {A:Around} {E:Value→Shared→Prop} {s:Shared}
end
end L2
set_option maxHeartbeats 3200000
namespace L2
open PySem PySem.Spec PyProof.Rows
section
variable {prog:Program} {w:World} {A:Around} {E:Value→Shared→Prop} {s:Shared}
variable {R:Result→Shared→Prop} {I:Addr} {fp wr:List Addr} {G:Array GenState→Array GenState→Prop} {n:Nat} {P:Nat→Value→Prop} {St:Nat→Shared→Prop}
end
section
variable {prog:Program} {w:World} {A:Around} {E:Value→Shared→Prop} {s:Shared}
end
open PySem PySem.Spec PyProof.Rows
section
variable {prog:Program} {w:World} {A:Around} {E:Value→Shared→Prop} {s:Shared}
end
end L2
namespace PySem.F
end PySem.F
namespace L2
open PySem PySem.Spec PyProof.Rows
section
variable {prog:Program} {w:World} {A:Around} {E:Value→Shared→Prop} {s:Shared}
end
open PySem PySem.Spec PyProof.Rows
section
variable {prog:Program} {w:World} {A:Around} {E:Value→Shared→Prop} {s:Shared}
end
open PySem PySem.Spec PyProof.Rows
end L2
namespace PySem.F
end PySem.F
namespace L2
open PySem PySem.Spec PyProof.Rows
structure SI (prog:Program) (w:World) (h:Heap) (a:Addr) (o:Obj) (es:Array (Int × Value)) (ep:Nat) (t:SetTable):Prop where
  at':h.get? a=some o
  ex:o.ExactSet
  dat:o.data=.set es ep t
  fit:t.fits es.size=true
  els:ElemsOf (intKind prog w) es.toList
  few:es.size < scanBound
section
variable {prog:Program} {w:World} {A:Around} {E:Value→Shared→Prop} {s:Shared}
end
open PySem PySem.Spec PyProof.Rows
section
variable {prog:Program} {w:World} {A:Around} {E:Value→Shared→Prop} {s:Shared}
end
open PySem PySem.Spec PyProof.Rows
section
variable {prog:Program} {w:World} {A:Around} {E:Value→Shared→Prop} {s:Shared}
end
open PySem PySem.Spec PyProof.Rows
section
variable {prog:Program} {w:World} {A:Around} {E:Value→Shared→Prop} {s:Shared}
end
open PySem PySem.Spec PyProof.Rows
section
variable {prog:Program} {w:World} {A:Around} {E:Value→Shared→Prop} {s:Shared}
end
open PySem PySem.Spec PyProof.Rows
section
variable {prog:Program} {w:World} {A:Around} {E:Value→Shared→Prop} {s:Shared}
end
open PySem PySem.Spec PyProof.Rows
open PySem PySem.Spec PyProof.Rows
open PySem PySem.Spec PyProof.Rows
open PySem PySem.Spec PyProof.Rows
open PySem PySem.Spec PyProof.Rows
section
variable {X:Cx}
end
open PySem PySem.Spec PyProof.Rows
open PySem PySem.Spec PyProof.Rows
section
open PySem.SeqAt
open PySem.AutoSeq1 (wpAny_loadPart')
open PySem.MeetsSeq PySem.MeetsSeq2 PySem.MeetsSeq3
theorem iB (l b:Addr) (items items2:Array Value) (n n2:Nat) (dd dd2:Option Addr) (sl sl2:Array (Option Value)) (e lt:Nat→Bool):∀ (k i:Nat),i+k=min items.size items2.size →
    Meets (Builtin.«list.__eq__.loop» ⟨[.ref l,.ref b,rawInt ((i:Nat):Int),rawInt 0],[]⟩)
      (fun A R s=>s.heap.get? l=some { cls:=.type "list",dict:=dd,data:=.seq items n,slots:=sl }∧s.heap.get? b=some { cls:=.type "list",dict:=dd2,data:=.seq items2 n2,slots:=sl2 } ∧
        (∀ j (h1:j < items.size) (h2:j < items2.size),EqAt A.in1 s items[j] items2[j] (e j))∧(∀ j (h1:j < items.size) (h2:j < items2.size),e j=false→LtAt A.in1 s items[j] items2[j] (lt j)) ∧
        R (.ok (.ret (.bool (iF e lt items.size items2.size i k)))) s)
  | 0,i,hik=>fun prog w A R s h=>by
    obtain ⟨hl,hb,he,hlt,h⟩:=h;refine wpAny_bind (listItems_at hl rfl (wpAny_bind (listItems_at hb rfl ?_)));have hn:items[i]?=none∨items2[i]?=none:=by
      by_cases c:items.size≤i
      · exact .inl (Array.getElem?_eq_none c)
      · exact .inr (Array.getElem?_eq_none (by lia))
    have e1:(((i:Nat):Int)).toNat=i:=by lia
    simp only [e1];have go:wpAny (model prog w) A.in1 (do
        let x ← Builtin.List.listItems (.ref l)
        let y ← Builtin.List.listItems (.ref b)
        ret (Value.bool (decide (x.size < y.size)))) (fun fin s'=>match fin with
          | Fin.done f=>R (Except.ok f) s'
          | Fin.again c'=>c'.quiet=true∧codeAny (model prog w) A c' R s') (fun e s'=>R (Except.error e) s') s :=
      wpAny_bind (listItems_at hl rfl (wpAny_bind (listItems_at hb rfl (wpAny_pure h))))
    cases hx:items[i]? with
    | none=>exact go
    | some x =>
      cases hy:items2[i]? with
      | none=>exact go
      | some y=>rcases hn with z|z <;> simp_all
  | k+1,i,hik=>fun prog w A R s h=>by
    obtain ⟨hl,hb,he,hlt,h⟩:=h;refine wpAny_bind (listItems_at hl rfl (wpAny_bind (listItems_at hb rfl ?_)));have h1:i < items.size:=by lia
    have h2:i < items2.size:=by lia
    have e1:(((i:Nat):Int)).toNat=i:=by lia
    simp only [e1,abq h1,abq h2];refine wpAny_bind (he i h1 h2 prog w _ _ ?_);have h:R (.ok (.ret (.bool (if e i=true then iF e lt items.size items2.size (i+1) k else lt i)))) s:=h;cases hy:e i with
    | true =>
      rw [hy,if_pos rfl] at h;rw [if_pos rfl];have:=iB l b items items2 n n2 dd dd2 sl sl2 e lt k (i+1) (by lia) prog w A R s ⟨hl,hb,he,hlt,h⟩;refine wpAny_pure ⟨plainId_quiet plain_eq_loop _,codeAny_builtin entry_eq_loop ?_⟩;rw [Around.under_plainId plain_eq_loop];have e2:(((i:Nat):Int))+1=((i+1:Nat):Int):=by lia
      rw [e2];exact this
    | false =>
      rw [hy,if_neg (by decide)] at h;rw [if_neg (by decide)];refine wpAny_bind (listItems_at hl rfl (wpAny_bind (listItems_at hb rfl ?_)));simp only [abq h1,abq h2];exact wpAny_bind (hlt i h1 h2 hy prog w _ _ (wpAny_pure h))
theorem pJ (l b:Addr) (items items2:Array Value) (n n2:Nat) (dd dd2:Option Addr) (sl sl2:Array (Option Value)) (e lt:Nat→Bool) :
    Meets (Builtin.«list.__lt__» ⟨[.ref l,.ref b],[]⟩)
      (fun A R s=>s.heap.get? l=some { cls:=.type "list",dict:=dd,data:=.seq items n,slots:=sl }∧s.heap.get? b=some { cls:=.type "list",dict:=dd2,data:=.seq items2 n2,slots:=sl2 } ∧
        (∀ j (h1:j < items.size) (h2:j < items2.size),EqAt A.in1 s items[j] items2[j] (e j))∧(∀ j (h1:j < items.size) (h2:j < items2.size),e j=false→LtAt A.in1 s items[j] items2[j] (lt j)) ∧
        R (.ok (.ret (.bool (iF e lt items.size items2.size 0 (min items.size items2.size))))) s):=fun prog w A R s h=>by
  obtain ⟨hl,hb,he,hlt,h⟩:=h;have f2:∀ (M:Model) (A:Around) (E:Value→Shared→Prop) (Q:Bool→Shared→Prop),Q true s→wpAny M A (isInstance (.ref b) (.type "list")) Q E s:=fun M A E Q h=>by
    have f3:=AutoSeq1.sub_list_list
    wp_walk using wpAny_loadPart' hb
    exact h
  refine wpAny_bind (wpAny_pure (wpAny_bind (f2 _ _ _ _ ?_)));rw [if_neg (by decide)];have:=iB l b items items2 n n2 dd dd2 sl sl2 e lt _ 0 (aaY _) prog w A R s ⟨hl,hb,he,hlt,h⟩;refine wpAny_pure ⟨plainId_quiet plain_eq_loop _,codeAny_builtin entry_eq_loop ?_⟩;rw [Around.under_plainId plain_eq_loop];exact this
theorem LtAt.lists {A:Around} {s:Shared} {l b:Addr} {items items2:Array Value} {e lt:Nat→Bool} (hl:s.heap.IsList l items) (hb:s.heap.IsList b items2) (hu:A.units < cLine)
    (he:∀ j (h1:j < items.size) (h2:j < items2.size),EqAt A.in1 s items[j] items2[j] (e j)) (hlt:∀ j (h1:j < items.size) (h2:j < items2.size),e j=false→LtAt A.in1 s items[j] items2[j] (lt j)):LtAt A s (.ref l) (.ref b) (iF e lt items.size items2.size 0 (min items.size items2.size)):=fun prog w E Q h=>by
  obtain ⟨⟨cls,dd,data,sl⟩,ho,hc,n,hd⟩:=id hl;obtain ⟨⟨cls2,dd2,data2,sl2⟩,ho2,hc2,n2,hd2⟩:=id hb;simp only at hc hd hc2 hd2;subst hc hd hc2 hd2;exact richCompare_meets_room (op:=.Lt) ⟨_,ho,rfl⟩ ⟨_,ho2,rfl⟩ PySem.F.slot_list_lt PySem.F.entry_list_lt (PySem.F.args_list_lt_2 _ _) (pJ l b items items2 n n2 dd dd2 sl sl2 e lt)
    ⟨ho,ho2,he,hlt,show Value.bool _≠Value.notImplemented∧Q (.bool _) s from ⟨(fun x=>nomatch x),h⟩⟩ hu
end
inductive LtQ (K:aaa) (H:Hp):Nat→V→V→Bool→Prop
  | int {n:Nat} {a b:Int}:LtQ K H n (.int a) (.int b) (decide (a < b))
  | lst {n:Nat} {a b:Addr} {xs ys:List V} {e l:Nat→Bool} (ha:SqL K H a xs) (hb:SqL K H b ys) (h:∀ (j:Nat) x y,xs[j]?=some x→ys[j]?=some y→EqR K H n x y (e j)) (hl:∀ (j:Nat) x y,xs[j]?=some x→ys[j]?=some y→e j=false→LtQ K H n x y (l j)) :
      LtQ K H (n+1) (.ref a) (.ref b) (iF e l xs.length ys.length 0 (min xs.length ys.length))
section
variable {X:Cx} {pins:List (Addr × Obj)} {σ:St} {H:Hp} {s:Shared}
theorem LtQ.at (I:Inv X pins σ H s) {n:Nat} {x y:V} {b:Bool} (h:LtQ X.K H n x y b):∀ {A:Around} {u v:Value},RelV x u→RelV y v→A.units+n < cLine→LtAt A s u v b:=by
  induction h with
  | int =>
    intro A u v rx ry hu;obtain ⟨t,rfl⟩:=rx;obtain ⟨t',rfl⟩:=ry;exact fun prog w E Q h=>HT.rcLt_int A s _ _ _ _ prog w E Q h
  | @lst n a b xs ys e l ha hb h hl ih =>
    intro A u v rx ry hu;cases rx;cases ry;obtain ⟨its,r,pl,_⟩:=I.list ha;obtain ⟨its2,r2,pl2,_⟩:=I.list hb;have e1:its.toArray.size=xs.length:=by rw [aad,r.length]
    have e2:its2.toArray.size=ys.length:=by rw [aad,r2.length]
    rw [← e1,← e2];refine .lists pl.isList pl2.isList (by lia) (fun j h1 h2=>?_) (fun j h1 h2 ej=>?_)
    · obtain ⟨x,hx,rx⟩:=a_ r h1;obtain ⟨y,hy,ry⟩:=a_ r2 h2;exact (h j x y hx hy).at I rx ry (by show A.units+1+n < cLine;lia)
    · obtain ⟨x,hx,rx⟩:=a_ r h1;obtain ⟨y,hy,ry⟩:=a_ r2 h2;exact ih j x y hx hy ej rx ry (by show A.units+1+n < cLine;lia)
end
end L2
namespace Tim
open PySem PyProof.Rows
section
variable {prog:Program} {w:World} {A:Around} {E:Value→Shared→Prop} {s:Shared}
end
end Tim
namespace L2
open PySem PySem.Spec PyProof.Rows
section
variable {prog:Program} {w:World} {A:Around} {E:Value→Shared→Prop} {s:Shared}
end
structure Rnk (K:aaa) (H:Hp) (n:Nat) (us:List V) (kf:V→Int):Prop where
  two:∀ x∈us,∃ t k wv ks,x=.ref t∧H t=some (.tup [.ref k,wv])∧H k=some (.lst ks)
  cmp:∀ t t' k k' wv wv',V.ref t∈us→V.ref t'∈us→H t=some (.tup [.ref k,wv])→H t'=some (.tup [.ref k',wv']) →
    EqR K H n (.ref k) (.ref k') (decide (kf (.ref t)=kf (.ref t')))∧(kf (.ref t)≠kf (.ref t')→LtQ K H n (.ref k) (.ref k') (decide (kf (.ref t) < kf (.ref t'))))∧(kf (.ref t)=kf (.ref t')→EqR K H n wv wv' true)
open PySem PySem.Spec PyProof.Rows
section
variable {X:Cx} {tg:Expr}
end
section
variable {X:Cx}
theorem t_ {K:aaa} (hK:X.K=K) (hu:X.A.units+64 < cLine):OpR X (compareOp .Lt) (fun x y H Q=>∃ n a b k,n≤60∧x=.ref a∧y=.ref b∧LtQ K H n x y k∧Q (.bl k) H):=by
  subst hK;intro pins s σ H x y v u Q I rx ry h;obtain ⟨n,a,b,k,hn,e1,e2,h,q⟩:=h;exact (h.at I rx ry (A:=X.A) (by lia)) _ _ _ _ ⟨.bl k,H,I,rfl,q⟩
end
open PySem PySem.Spec PyProof.Rows
open PySem PySem.Spec PyProof.Rows
section
variable {X:Cx} {pos:Pos}
end
end L2
namespace L2
open PySem PySem.Spec PyProof.Rows PySem.W
section
variable {X:Cx} {pins pl:List (Addr × Obj)} {σ:St} {H:Hp} {s:Shared}
end
section
variable {X:Cx}
end
end L2
namespace L2
open PySem PySem.Spec PyProof.Rows PySem.W
section
variable {X:Cx} {pins pl:List (Addr × Obj)} {σ:St} {H:Hp} {s:Shared}
end
section
variable {X:Cx}
end
open PySem PySem.Spec PyProof.Rows
inductive Thw (H:Hp):Hp→Hp→Prop
  | refl (H1:Hp):Thw H H1 H1
  | step {H1 H2:Hp} {d:Addr} {o:Obj} {u:HO} (h:Thw H H1 H2) (nf:uM H d) (e:H2 d=some (.frz o u)):Thw H H1 (upd H2 d u)
open PySem PySem.Spec PyProof.Rows
open PySem PySem.Spec PyProof.Rows
section
variable {X:Cx} {tg:Expr}
end
open PySem PySem.Spec PyProof.Rows
section
variable {prog:Program} {w:World} {A:Around} {E:Value→Shared→Prop} {R:Result→Shared→Prop} {s:Shared}
end
section
variable {prog:Program} {w:World}
end
section
variable {X:Cx}
end
open PySem PySem.Spec PyProof.Rows
theorem pz:seqSlot? (.type "list") (dunderI "add")=pure (some (.builtin "list.__iadd__")):=PySem.seqSlot_of F.slot_list_iadd.lookup (by decide +kernel)
section
variable {M:Model} {A:Around} {E:Value→Shared→Prop} {s:Shared}
theorem lh {a b:Value} {Q:Value→Shared→Prop} (ha:s.TypeIs a "list") (hb:s.TypeIs b "list") (hc:wpAny M A (call (.builtin "list.__iadd__") [a,b]) Q E s):wpAny M A (inplaceOp .Add a b) Q E s:=by
  unfold inplaceOp;refine wpAny_holding ?_;have hfi:fillsInplaceSlot (.type "list") "add" (Operator.Add == .Add)=pure false:=by
    unfold fillsInplaceSlot;show (typeLookup (.type "list") (dunderI "add") >>= fun fi=>pure (fi.isSome && !isSeqSlot fi))=pure false;rw [F.slot_list_iadd.lookup];rfl
  refine wpAny_bind (wpAny_typeOf ha (wpAny_bind (wpAny_of_eq hfi ?_)));show wpAny M A (if false=true then _ else _) Q E s;rw [if_neg aah];refine wpAny_bind (wpAny_binaryOp1_none (nm:="add") ha hb noFill_list_add ?_);refine wpAny_bind (wpAny_of_eq pz ?_);exact wpAny_bind (wpAny_rule hc)
end
section
variable {X:Cx}
def vo:TIp:=fun x y H Q=>∃ l b xs zs,x=.ref l∧y=.ref b∧H l=some (.lst xs)∧H b=some (.lst zs)∧xs.length+zs.length≤sizeLine∧Q (.ref l) (upd H l (.lst (xs++zs)))
theorem uy:PIp X .Add vo:=by
  intro pins s σ H x y v u Q I rx ry h;obtain ⟨l,b,xs,zs,rfl,rfl,hH,hB,hz,q⟩:=h;cases rx;cases ry;obtain ⟨z,its,n,r,hl,e⟩:=I.lstM hH;obtain ⟨z2,its2,n2,r2,hl2,e2⟩:=I.lstM hB;have hsz:its.toArray.size+its2.toArray.size≤sizeLine:=by rw [aad,aad];lia
  have hlong:¬ (!its.toArray.isEmpty && abu (its.toArray.size+its2.toArray.size))=true:=by
    rw [mv hsz,Bool.and_false];exact aah
  refine lh ⟨_,e,rfl⟩ ⟨_,e2,rfl⟩ ?_;refine call_meets F.slot_list_iadd ⟨_,e,rfl⟩ F.entry_list_iadd (F.args_list_iadd_2 _ _)
    (AutoSeq1.list___iadd___list_list_0 l its.toArray n b its2.toArray n2 hlong (by rw [aad];lia) (by lia)) ⟨e,e2,?_⟩
  refine ⟨.ref l,_,I.lset (its':=its++its2) hH e (by simp) (r.append r2) ?_,rfl,q⟩;rw [aal];lia
end
open PySem PySem.Spec PyProof.Rows
open PySem PySem.Spec PyProof.Rows
section
variable {X:Cx} {pins:List (Addr × Obj)} {σ:St} {H:Hp} {s:Shared}
end
end L2
namespace L2
open PySem
variable {X:Cx}
end L2
namespace L2
open PySem PyProof.Rows PySem.W
open PySem PySem.Spec PyProof.Rows
theorem rZ {X:Cx} {a:Expr} {ta:TE} {pos:Pos} (ha:PE X a ta):PE X (.UnaryOp .Not a pos) (fun σ H Q=>ta σ H fun x H'=>∃ k,uJ X.K x H' k∧Q (.bl (!k)) H'):=by
  intro pins s σ H Q I h;refine UnaryOp_ (thn (ha pins s σ H _ I h) fun v s1 ⟨x,H1,I1,r1,k,tr,q1⟩=>?_);exact not_of (thn (pX pins s1 σ H1 x v _ I1 r1 ⟨k,tr,q1⟩) fun b s2 ⟨H2,I2,q2⟩=>⟨.bl (!b),H2,I2,rfl,q2⟩)
theorem Same.upd {H H1:Hp} {p:Addr} {o:HO} (a:Same H H1) (h:H p=none):Same H (L2.upd H1 p o):=fun b u q=>by
  rw [az (aD q h)];exact a b u q
end L2
namespace Put
open PySem L2
def top (i:Nat):Stmt:=PySem.Challenge.pw_putsigns_k31_whole_forms_by_numbers.main.body.getD i (.Pass ⟨0,0,0,0⟩)
inductive Sg where
  | plus|minus|times
  deriving DecidableEq
def Sg.str:Sg→Str
  | .plus=>"+"
  | .minus=>"-"
  | .times=>"*"
inductive Wy where
  | num (i:Int)
  | node (g:Sg) (l r:Wy)
  deriving DecidableEq
def Wy.size:Wy→Nat
  | .num _=>1
  | .node _ l r=>l.size+r.size
def Wy.knots:Wy→Nat
  | .num _=>1
  | .node _ l r=>l.knots+r.knots+1
theorem Wy.size_pos:∀ w:Wy,1≤w.size
  | .num _=>aab _
  | .node _ l r=>by have:=l.size_pos;show 1≤l.size+r.size;lia
def WyIn (H:Hp):Wy→V→Prop
  | .num i,v=>v=.int i
  | .node g l r,v=>∃ a vl vr,v=.ref a∧H a=some (.tup [.str g.str,vl,vr])∧WyIn H l vl∧WyIn H r vr
def Tups (H H':Hp):Prop:=∀ b xs,H b=some (.tup xs)→H' b=some (.tup xs)
theorem Tups.of {H H':Hp} (a:Same H H'):Tups H H':=fun b xs h=>a b _ h
theorem Tups.but {H H':Hp} {w:Addr} {xs:List V} (a:But w H H') (h:H w=some (.lst xs)):Tups H H':=fun b ys q=>a b _ (fun e=>by rw [e,h] at q;cases q) q
theorem Tups.trans {H H1 H2:Hp} (a:Tups H H1) (b:Tups H1 H2):Tups H H2:=fun c xs h=>b c xs (a c xs h)
theorem WyIn.mono {H H':Hp} (t:Tups H H'):∀ {w:Wy} {v:V},WyIn H w v→WyIn H' w v
  | .num _,_,h=>h
  | .node g l r,v,h=>by
    obtain ⟨a,vl,vr,e,h1,h2,h3⟩:=h;exact ⟨a,vl,vr,e,t _ _ h1,WyIn.mono t h2,WyIn.mono t h3⟩
def WyAll (H:Hp) (ws:List Wy) (vs:List V):Prop:=Paired (fun w v=>WyIn H w v) ws vs
theorem WyAll.mono {H H':Hp} (t:Tups H H') {ws:List Wy} {vs:List V} (p:WyAll H ws vs):WyAll H' ws vs:=by
  induction p with
  | nil=>exact .nil
  | cons a _ ih=>exact .cons (a.mono t) ih
theorem WyAll.snoc {H:Hp} {w:Wy} {v:V} (h:WyIn H w v):∀ {ws:List Wy} {vs:List V},WyAll H ws vs→WyAll H (ws++[w]) (vs++[v])
  | _,_,.nil=>.cons h .nil
  | _,_,.cons a b=>.cons a (WyAll.snoc h b)
theorem WyAll.length {H:Hp}:∀ {ws:List Wy} {vs:List V},WyAll H ws vs→ws.length=vs.length
  | _,_,.nil=>rfl
  | _,_,.cons _ b=>congrArg (·+1) (WyAll.length b)
def gf (ws:List Wy):Nat:=(ws.map Wy.size).sum
def d8 (ws:List Wy):Nat:=(ws.map Wy.knots).sum
theorem fH (ws:List Wy) (w:Wy):gf (ws++[w])=gf ws+w.size:=by simp [gf]
theorem e7 (ws:List Wy) (w:Wy):d8 (ws++[w])=d8 ws+w.knots:=by simp [d8]
theorem cM:∀ ws:List Wy,ws.length≤gf ws
  | []=>aab _
  | w :: r=>by
    have a:=cM r;have b:=w.size_pos;show r.length+1≤(w.size :: r.map Wy.size).sum;rw [abl];have : gf r=(r.map Wy.size).sum:=rfl;lia
theorem WyAll.last {H:Hp} {ws:List Wy} {vs:List V} (h:WyAll H ws vs) (ne:vs≠[]):∃ ws' w vs' v,ws=ws'++[w]∧vs=vs'++[v]∧WyAll H ws' vs'∧WyIn H w v:=by
  induction h with
  | nil=>exact absurd rfl ne
  | @cons w v ws vs a b ih =>
    cases b with
    | nil=>exact ⟨[],w,[],v,rfl,rfl,.nil,a⟩
    | cons a' b' =>
      obtain ⟨ws',w',vs',v',e1,e2,h1,h2⟩:=ih (by simp);exact ⟨w :: ws',w',v :: vs',v',by rw [e1];rfl,by rw [e2];rfl,.cons a h1,h2⟩
structure Bu (K:aaa) (mg:Str→Option Value):Prop where
  ilen:mg "len" = none
  iisinstance : mg "isinstance" = none
  iint:mg "int" = none
  ibool:mg "bool" = none
  istr:mg "str" = none
  ituple:mg "tuple" = none
  ilist:mg "list" = none
  isorted:mg "sorted" = none
  irange:mg "range" = none
  irepr:mg "repr" = none
  ienumerate:mg "enumerate" = none
  isum:mg "sum" = none
  iall:mg "all" = none
  imin:mg "min" = none
  imax:mg "max" = none
  iabs:mg "abs" = none
  idivmod:mg "divmod" = none
  idict:mg "dict" = none
  iset:mg "set" = none
  ireversed:mg "reversed" = none
  iany:mg "any" = none
  izip:mg "zip" = none
structure Co (K:aaa) (mg:Str→Option Value) (tk:Tok) (aS:Addr):Prop where
  gMOST_NUMBERS:mg "MOST_NUMBERS" = some (.int 9 tk)
  gSIGNS:mg "SIGNS" = some (.ref aS)
  sSIGNS:∀ H,SqT K H aS [.str "+",.str "-",.str "*"]
section
variable {P:Program} {w:World} {K:aaa} {mg:Str→Option Value} {base:Heap} {f:Addr} {fd:FuncData}
def bB (K:aaa):Sp:=fun vs H Q _=>∃ x n,vs=[x]∧TyOf K H x (.type n)∧Q (.bl (decide (n = "int"))) H
abbrev fQ:Stmt:=top 11
theorem lZ:FnScope ["thing"] ["thing"] (al fQ):=⟨rfl,rfl,rfl,by decide +kernel,rfl,by decide +kernel,by decide +kernel⟩
theorem mq (F:Fun K "is_whole" "is_whole" fQ f fd) (B:Bu K mg):FnOk P w K mg base CX0 1 f fd ["thing"] (bB K):=by
  refine F.ok lZ (fun vs H Q E h=>?_) (fun cdv A outer s H vs Q E hr h=>?_)
  · obtain ⟨x,n,rfl,_⟩:=h;rfl
  obtain ⟨x,n,rfl,ty,q⟩:=h;refine ⟨_,(@ah _ _ _ (@aq _ _ _ _ (@eW _ _ _ _ _ _ _ (@ap _ _ _ _ _ _ _ _ _ (@aI _ ("int")) rfl B.iisinstance aar (@aa _ _ _ _ _ (pv 0) (@aa _ _ _ _ _ (@bM _ _ (.ty "int") _ _ rfl B.iint abn rfl (by decide) (by decide)) ad (by rfl)) (by rfl)) (by decide) (by decide) (by rfl) (by rfl)) (@fV _ _ _ _ _ (@qz _ _ _ _ (@ap _ _ _ _ _ _ _ _ _ (@aI _ ("bool")) rfl B.iisinstance aar (@aa _ _ _ _ _ (pv 0) (@aa _ _ _ _ _ (@bM _ _ (.ty "bool") _ _ rfl B.ibool PyProof.Rows.boot_bool rfl (by decide) (by decide)) ad (by rfl)) (by rfl)) (by decide) (by decide) (by rfl) (by rfl))))))),?_⟩;cases ty with
  | non=>exact ⟨_,rfl,_,_,false,rfl,.non,rfl,false,rfl,aM q⟩
  | bl y=>exact ⟨_,rfl,_,_,true,rfl,.bl y,rfl,true,rfl,bA ⟨_,rfl,_,_,true,rfl,.bl y,rfl,true,rfl,q⟩⟩
  | int i=>exact ⟨_,rfl,_,_,true,rfl,.int i,rfl,true,rfl,bA ⟨_,rfl,_,_,false,rfl,.int i,rfl,false,rfl,q⟩⟩
  | str y=>exact ⟨_,rfl,_,_,false,rfl,.str y,rfl,false,rfl,aM q⟩
  | flt y=>exact ⟨_,rfl,_,_,false,rfl,.flt y,rfl,false,rfl,aM q⟩
  | lst e=>exact ⟨_,rfl,_,_,false,rfl,.lst e,rfl,false,rfl,aM q⟩
  | frz e=>exact ⟨_,rfl,_,_,false,rfl,.frz e,rfl,false,rfl,aM q⟩
  | tup e=>exact ⟨_,rfl,_,_,false,rfl,.tup e,rfl,false,rfl,aM q⟩
  | dK e=>exact ⟨_,rfl,_,_,false,rfl,.dK e,rfl,false,rfl,aM q⟩
  | dT e=>exact ⟨_,rfl,_,_,false,rfl,.dT e,rfl,false,rfl,aM q⟩
def ux (z:Str):Bool:=inV (.str z) [.str "+",.str "-",.str "*"]
theorem qQ (g:Sg):ux g.str=true:=by cases g <;> decide +kernel
def kt:Sp:=fun vs H Q _=>∃ z,vs=[.str z]∧Q (.bl (ux z)) H
abbrev gZ:Stmt:=top 15
theorem m7:FnScope ["thing"] ["thing"] (al gZ):=⟨rfl,rfl,rfl,by decide +kernel,rfl,by decide +kernel,by decide +kernel⟩
theorem nk {tk:Tok} {aS:Addr} (F:Fun K "is_sign" "is_sign" gZ f fd) (B:Bu K mg) (B':Co K mg tk aS):FnOk P w K mg base CX0 1 f fd ["thing"] kt:=by
  refine F.ok m7 (fun vs H Q E h=>?_) (fun cdv A outer s H vs Q E hr h=>?_)
  · obtain ⟨x,rfl,_⟩:=h;rfl
  obtain ⟨z,rfl,q⟩:=h;refine ⟨_,(ah (aq (eW (ap (aI (n:="str")) rfl B.iisinstance aar (aa (pv 0) (aa (bM (v:=.ty "str") rfl B.istr abX rfl) ad))) (fV (cA j6 (pv 0) (bi (v:=.ref aS) rfl B'.gSIGNS rfl) (by with_unfolding_all rfl)))))),?_⟩;exact ⟨_,rfl,_,_,true,rfl,.str z,rfl,true,rfl,bA ⟨_,rfl,aS,_,rfl,.inr (B'.sSIGNS H),rfl,rfl,q⟩⟩
open PySem L2
theorem sy {α:Type} (xs:List α) (x:α):(xs++[x])[(xs++[x]).length - 1]?=some x:=by simp
theorem uR (xs:List V) (x:V):(xs++[x]).dropLast=xs:=by simp
theorem bQ {n:Nat} (h:n≤1000):n≤sizeLine:=abx (aE h)
def kB:Sp:=fun vs H Q _=>∃ w v,vs=[v]∧WyIn H w v∧w.size≤9∧∀ H',Same H H'→Q (.bl true) H'
abbrev jd:Stmt:=top 16
theorem dD:FnScope ["thing","waiting","numbers","part"] ["thing"] (al jd):=⟨rfl,rfl,rfl,by decide +kernel,rfl,by decide +kernel,by decide +kernel⟩
theorem pG {tk:Tok} {aS:Addr} (F:Fun K "is_way" "is_way" jd f fd) (B:Bu K mg) (B':Co K mg tk aS) (C_is_whole:Cal P w K mg base "is_whole" 1 ["thing"] (bB K)) (C_is_sign:Cal P w K mg base "is_sign" 1 ["thing"] kt) :
    FnOk P w K mg base CX0 2 f fd ["thing"] kB:=by
  refine F.ok dD (fun vs H Q E h=>?_) (fun cdv A outer s H vs Q E hr h=>?_)
  · obtain ⟨x,v,rfl,_⟩:=h;rfl
  obtain ⟨wy,v,rfl,hw,h9,q⟩:=h;refine ⟨_,(@af _ _ _ _ _ (@aw _ _ (1) _ _ _ _ (dD).nd rfl (Or.inl rfl) (@bt _ _ _ _ (@aa _ _ _ _ _ (pv 0) ad (by rfl))) (by rfl) (by first|exact .inl rfl|exact .inr rfl|assumption)) (@af _ _ _ _ _ (@aw _ _ (2) _ _ _ _ (dD).nd rfl (Or.inl rfl) ai (by rfl) (by first|exact .inl rfl|exact .inr rfl|assumption)) (@af _ _ _ _ _ (@ji _ _ _ _ _ _ aaF (@PW.pt _ _ _ (@jg _ _ _ _ _ _ _ (@qm _ _ _ (pv 1) (fun _=>rfl)) (@iN _ _ _ _ (@av _ _ _ _ _ _ _ _ iA (@ay _ _ _ _ _ _ _ _ bL (pv 2) (@ap _ _ _ _ _ _ _ _ _ ar rfl B.ilen aay (@aa _ _ _ _ _ (pv 1) ad (by rfl)) (by decide) (by decide) (by rfl) (by rfl))) (@bi _ _ (.int 9) _ _ rfl B'.gMOST_NUMBERS ⟨_,rfl⟩ (by decide)) (aA _))))) (@af _ _ _ _ _ (@aw _ _ (3) _ _ _ _ (dD).nd rfl (Or.inl rfl) (@t8 _ _ _ _ _ _ _ _ _ aa0 PySem.F.slot_list_pop PySem.F.type_list_pop ue (pv 1) (by rfl) (by rfl)) (by rfl) (by first|exact .inl rfl|exact .inr rfl|assumption)) (@ah _ _ _ (@aH _ _ _ _ _ _ _ _ (@aR _ _ _ (@aj _ _ _ _ _ _ _ _ _ _ _ C_is_whole hr (by lia) rfl (@aa _ _ _ _ _ (pv 3) ad (by rfl)) (by decide) (by rfl) (by rfl)) (by intro _;rfl)) (@ah _ _ _ (@eV _ _ (2) _ _ _ _ _ _ (dD).nd rfl (Or.inl rfl) ai jz (by first|exact .inl rfl|exact .inr rfl|assumption))) (@ah _ _ _ (@aH _ _ _ _ _ _ _ _ (@PW.pt _ _ _ (@jg _ _ _ _ _ _ _ (@aR _ _ _ (@ap _ _ _ _ _ _ _ _ _ (@aI _ ("tuple")) rfl B.iisinstance aar (@aa _ _ _ _ _ (pv 3) (@aa _ _ _ _ _ (@bM _ _ (.ty "tuple") _ _ rfl B.ituple aaM rfl (by decide) (by decide)) ad (by rfl)) (by rfl)) (by decide) (by decide) (by rfl) (by rfl)) (by intro _;rfl)) (@jg _ _ _ _ _ _ _ (@av _ _ _ _ _ _ _ _ bE (@ap _ _ _ _ _ _ _ _ _ ar rfl B.ilen aay (@aa _ _ _ _ _ (pv 3) ad (by rfl)) (by decide) (by decide) (by rfl) (by rfl)) ai (aA _)) (@iN _ _ _ _ (@aR _ _ _ (@aj _ _ _ _ _ _ _ _ _ _ _ C_is_sign hr (by lia) rfl (@aa _ _ _ _ _ (@aC _ _ _ _ _ _ _ bc (pv 3) ai (fun _ _=>rfl)) ad (by rfl)) (by decide) (by rfl) (by rfl)) (by intro _;rfl)))))) (@af _ _ _ _ _ (@bv _ _ _ _ (@l9 _ _ _ _ _ _ _ _ _ _ _ _ aa0 abb abc dH (pv 1) (@aa _ _ _ _ _ (@aC _ _ _ _ _ _ _ bc (pv 3) ai (fun _ _=>rfl)) ad (by rfl)) (by rfl) (by rfl) (by rfl) (by rfl) (by rfl)) (by rfl)) (@ah _ _ _ (@bv _ _ _ _ (@l9 _ _ _ _ _ _ _ _ _ _ _ _ aa0 abb abc dH (pv 1) (@aa _ _ _ _ _ (@aC _ _ _ _ _ _ _ bc (pv 3) ai (fun _ _=>rfl)) ad (by rfl)) (by rfl) (by rfl) (by rfl) (by rfl) (by rfl)) (by rfl)))) (@ah _ _ _ (@aq _ _ _ _ cZ)))))))) (@ah _ _ _ (@aq _ _ _ _ (rZ (pv 1))))))),?_⟩;refine ⟨_,rfl,(by show 1≤sizeLine;decide),fun p hp=>?_⟩;refine ⟨fun m σ H'=>∃ (n:Nat) (ws:List Wy) (vs:List V) (part:Option V),σ=[some v,some (.ref p),some (.int n),part]∧H' p=some (.lst vs)∧WyAll H' ws vs∧Same H H'∧n+gf ws≤9∧m=d8 ws,?_,?_⟩
  · exact ⟨_,0,[wy],[v],_,rfl,ag,.cons (hw.mono (Tups.of (Same.new hp _))) .nil,Same.new hp _,by simpa [gf] using h9,rfl⟩
  rintro m σ H' ⟨n,ws,vs,part,rfl,hH,hall,hS,hn,rfl⟩;by_cases ne:vs=[]
  · subst ne;refine ⟨_,rfl,false,.inl ⟨[],SqL.of hH,rfl⟩,aM (aM ?_)⟩;exact ⟨_,rfl,false,.inl ⟨[],SqL.of hH,rfl⟩,q H' hS⟩
  obtain ⟨ws',w',vs',v',rfl,rfl,hall',hw'⟩:=hall.last ne;have hl:=hall.length;have hle:=cM (ws'++[w']);rw [fH] at hn hle;have hlen:((n:Int)+((vs'++[v']).length:Nat)≤9):=by lia
  refine ⟨_,rfl,true,.inl ⟨_,SqL.of hH,by simp⟩,bA ⟨_,rfl,_,rfl,p,_,rfl,.inl (SqL.of hH),_,_,rfl,rfl,_,_,rfl,rfl,true,congrArg V.bl (decide_eq_true hlen),bA ⟨fun σ' H'=>∃ m',m' < d8 (ws'++[w'])∧_,fun _ _ h=>h,?_⟩⟩⟩;refine ⟨_,rfl,.inl ⟨rfl,_,SqL.of hH⟩,p,_,v',rfl,rfl,hH,sy _ _,?_⟩;rw [uR];have hT:Tups H' (upd H' p (.lst vs')):=fun b xs z=>by rw [az (fun e=>by rw [e,hH] at z;cases z)];exact z
  have hp0:H p=none:=hp;have hS2:Same H (upd H' p (.lst vs')):=hS.upd hp0;rw [e7];cases w' with
  | num i =>
    cases hw';refine ⟨_,rfl,_,"int",rfl,.int i,true,rfl,bA ⟨_,rfl,_,_,rfl,rfl,?_⟩⟩;refine ⟨d8 ws',Nat.lt_succ_self _,n+1,ws',vs',_,rfl,ag,hall'.mono hT,hS2,?_,rfl⟩;have : n+(gf ws'+1)≤9:=hn;lia
  | node g l r =>
    obtain ⟨a,vl,vr,rfl,ha,hl',hr'⟩:=hw';have ha2:upd H' p (.lst vs') a=some (.tup [.str g.str,vl,vr]):=hT _ _ ha;refine ⟨_,rfl,_,"tuple",rfl,.tup ha2,false,rfl,aM ?_⟩;refine ⟨_,rfl,_,_,true,rfl,.tup ha2,rfl,true,rfl,bA ⟨_,rfl,a,_,rfl,.inr (SqT.of ha2),rfl,_,rfl,bA ?_⟩⟩;refine ⟨_,rfl,a,_,_,_,rfl,rfl,SqT.of ha2,rfl,_,rfl,true,congrArg V.bl (qQ g),bA ?_⟩;have hsz:vs'.length≤9:=by
      have:=hall'.length;have z:=cM ws';lia
    refine ⟨_,rfl,.inl ⟨rfl,_,SqL.of ag⟩,_,rfl,a,_,_,_,rfl,rfl,SqT.of ha2,rfl,p,_,_,rfl,rfl,ag,(aE (by lia)),?_⟩;have hT2:Tups (upd H' p (.lst vs')) (upd (upd H' p (.lst vs')) p (.lst (vs'++[vl]))):=fun b xs z=>by rw [az (fun e=>by rw [e,ag] at z;cases z)];exact z
    refine ⟨_,rfl,.inl ⟨rfl,_,SqL.of ag⟩,_,rfl,a,_,_,_,rfl,rfl,SqT.of (hT2 _ _ ha2),rfl,p,_,_,rfl,rfl,ag,(aE (by rw [aal,abD];lia)),?_⟩;have hT3:Tups (upd (upd H' p (.lst vs')) p (.lst (vs'++[vl]))) (upd (upd (upd H' p (.lst vs')) p (.lst (vs'++[vl]))) p (.lst (vs'++[vl]++[vr]))):=fun b xs z=>by rw [az (fun e=>by rw [e,ag] at z;cases z)];exact z
    have hTT:=(hT.trans hT2).trans hT3;refine ⟨d8 (ws'++[l]++[r]),?_,n,ws'++[l]++[r],vs'++[vl]++[vr],_,rfl,ag,((hall'.mono hTT).snoc (hl'.mono hTT)).snoc (hr'.mono hTT),(hS2.upd hp0).upd hp0,?_,rfl⟩
    · rw [e7,e7];show d8 ws'+l.knots+r.knots < d8 ws'+(l.knots+r.knots+1);lia
    · rw [fH,fH];have : n+(gf ws'+(l.size+r.size))≤9:=hn;lia
def dB:Sp:=fun vs H Q _=>∃ w v,vs=[v]∧WyIn H w v∧w.size≤9∧∀ H',Same H H'→Q .non H'
abbrev fO:Stmt:=top 19
theorem lX:FnScope ["thing"] ["thing"] (al fO):=⟨rfl,rfl,rfl,by decide +kernel,rfl,by decide +kernel,by decide +kernel⟩
theorem mh (F:Fun K "need_way" "need_way" fO f fd) (C_is_way:Cal P w K mg base "is_way" 2 ["thing"] kB):FnOk P w K mg base CX0 3 f fd ["thing"] dB:=by
  refine F.ok lX (fun vs H Q E h=>?_) (fun cdv A outer s H vs Q E hr h=>?_)
  · obtain ⟨x,v,rfl,_⟩:=h;rfl
  obtain ⟨wy,v,rfl,hw,h9,q⟩:=h;refine ⟨_,(@ah _ _ _ (@aH _ _ _ _ _ _ _ _ (@bJ _ _ _ _ (@aR _ _ _ (@aj _ _ _ _ _ _ _ _ _ _ _ C_is_way hr (by lia) rfl (@aa _ _ _ _ _ (pv 0) ad (by rfl)) (by decide) (by rfl) (by rfl)) (by intro _;rfl))) (@ah _ _ _ dE) au)),?_⟩;exact ⟨_,rfl,wy,v,rfl,hw,h9,fun H' hS=>⟨true,rfl,aM (q H' hS)⟩⟩
def Wy.nums:Wy→List Int
  | .num i=>[i]
  | .node _ l r=>l.nums++r.nums
theorem Wy.nums_len:∀ w:Wy,w.nums.length=w.size
  | .num _=>rfl
  | .node _ l r=>by show (l.nums++r.nums).length=l.size+r.size;rw [aal,l.nums_len,r.nums_len]
def Wy.deep:Wy→Nat
  | .num _=>1
  | .node _ l r=>max l.deep r.deep+1
theorem Wy.deep_le:∀ w:Wy,w.deep≤w.size
  | .num _=>aab _
  | .node _ l r=>by have a:=l.deep_le;have b:=r.deep_le;have c:=l.size_pos;have d:=r.size_pos;show max l.deep r.deep+1≤l.size+r.size;lia
def kw (n:Nat):Sp:=fun vs H Q _=>∃ w v,vs=[v]∧WyIn H w v∧w.size≤20∧w.deep≤n∧∀ p H',Same H H'→H p=none→H' p=some (.lst (w.nums.map V.int))→Q (.ref p) H'
abbrev cX:Stmt:=top 24
theorem bV:FnScope ["way","sign","left","right"] ["way"] (al cX):=⟨rfl,rfl,rfl,by decide +kernel,rfl,by decide +kernel,by decide +kernel⟩
theorem iE (F:Fun K "list_numbers" "list_numbers" cX f fd) (bF:Binds K fd ["way"] []) (mF:mg "list_numbers" = some (.ref f)) (C_is_whole:Cal P w K mg base "is_whole" 1 ["thing"] (bB K)) :
    ∀ n,FnOk P w K mg base CX0 (n+1) f fd ["way"] (kw n):=by
  intro n
  induction n with
  | zero =>
    refine ⟨fun vs H Q E h=>?_,fun A outer s H args us vs Q E _ _ _ _ h=>?_⟩
    · obtain ⟨x,v,rfl,_⟩:=h;rfl
    · obtain ⟨wy,v,_,_,_,hd,_⟩:=h;cases wy <;> exact absurd hd (by simp [Wy.deep])
  | succ n ih =>
    have C_list_numbers:Cal P w K mg base "list_numbers" (n+1) ["way"] (kw n):=⟨f,fd,ih,bF,F.kp,mF⟩
    refine F.ok bV (fun vs H Q E h=>?_) (fun cdv A outer s H vs Q E hr h=>?_)
    · obtain ⟨x,v,rfl,_⟩:=h;rfl
    obtain ⟨wy,v,rfl,hw,h20,hd,q⟩:=h;refine ⟨_,(@af _ _ _ _ _ (@aH _ _ _ _ _ _ _ _ (@aR _ _ _ (@aj _ _ _ _ _ _ _ _ _ _ _ C_is_whole hr (by lia) rfl (@aa _ _ _ _ _ (pv 0) ad (by rfl)) (by decide) (by rfl) (by rfl)) (by intro _;rfl)) (@ah _ _ _ (@aq _ _ _ _ (@bt _ _ _ _ (@aa _ _ _ _ _ (pv 0) ad (by rfl))))) au) (@af _ _ _ _ _ (@cY _ _ _ _ _ _ (pv 0) (@bK _ _ _ _ _ _ rfl (@ao _ _ _ _ _ (@am _ _ (1) _ (bV).nd rfl (Or.inl rfl) (.inl rfl)) (@ao _ _ _ _ _ (@am _ _ (2) _ (bV).nd rfl (Or.inl rfl) (.inl rfl)) (@ao _ _ _ _ _ (@am _ _ (3) _ (bV).nd rfl (Or.inl rfl) (.inl rfl)) aV (by rfl)) (by rfl)) (by rfl)) (by rfl) (by rfl)) (by rfl) (by rfl) (by rfl)) (@ah _ _ _ (@aq _ _ _ _ (@ay _ _ _ _ _ _ _ _ jk (@aj _ _ _ _ _ _ _ _ _ _ _ C_list_numbers hr (by lia) rfl (@aa _ _ _ _ _ (pv 2) ad (by rfl)) (by decide) (by rfl) (by rfl)) (@aj _ _ _ _ _ _ _ _ _ _ _ C_list_numbers hr (by lia) rfl (@aa _ _ _ _ _ (pv 3) ad (by rfl)) (by decide) (by rfl) (by rfl))))))),?_⟩;cases wy with
    | num i =>
      cases hw;refine ⟨_,rfl,_,"int",rfl,.int i,true,rfl,bA ⟨_,rfl,(by show 1≤sizeLine;decide),fun p hp=>?_⟩⟩;exact q p _ (Same.new hp _) hp ag
    | node g l r =>
      obtain ⟨a,vl,vr,rfl,ha,hl,hr'⟩:=hw;refine ⟨_,rfl,_,"tuple",rfl,.tup ha,false,rfl,aM ?_⟩;have d:max l.deep r.deep+1≤n+1:=hd;have z:l.size+r.size≤20:=h20;have zl:=l.size_pos;have zr:=r.size_pos;refine ⟨_,rfl,a,_,rfl,SqT.of ha,rfl,_,_,rfl,_,_,rfl,_,_,rfl,rfl,?_⟩;refine ⟨_,rfl,l,vl,rfl,hl,by lia,by lia,fun p H1 g1 n1 e1=>?_⟩;refine ⟨_,rfl,r,vr,rfl,hr'.mono (Tups.of g1),by lia,by lia,fun p2 H2 g2 n2 e2=>?_⟩;refine ⟨p,p2,_,_,rfl,rfl,g2 _ _ e1,e2,bQ (by rw [aac,aac,l.nums_len,r.nums_len];lia),fun p3 n3=>?_⟩;refine q p3 _ ((g1.trans g2).trans (Same.new n3 _)) ((g1.trans g2).free n3) ?_;rw [ag];show some (HO.lst (l.nums.map V.int++r.nums.map V.int))=some (HO.lst ((l.nums++r.nums).map V.int));rw [aan]
def eA:Sp:=fun vs H Q _=>∃ w v,vs=[v]∧WyIn H w v∧w.size≤9∧∀ p H',Same H H'→H p=none→H' p=some (.lst (w.nums.map V.int))→Q (.ref p) H'
abbrev dN:Stmt:=top 23
theorem jF:FnScope ["way"] ["way"] (al dN):=⟨rfl,rfl,rfl,by decide +kernel,rfl,by decide +kernel,by decide +kernel⟩
theorem jK (F:Fun K "numbers_of" "numbers_of" dN f fd) (C_need_way:Cal P w K mg base "need_way" 3 ["thing"] dB) (C_list_numbers:Cal P w K mg base "list_numbers" 21 ["way"] (kw 20)) :
    FnOk P w K mg base CX0 22 f fd ["way"] eA:=by
  refine F.ok jF (fun vs H Q E h=>?_) (fun cdv A outer s H vs Q E hr h=>?_)
  · obtain ⟨x,v,rfl,_⟩:=h;rfl
  obtain ⟨wy,v,rfl,hw,h9,q⟩:=h;refine ⟨_,(@af _ _ _ _ _ (@bv _ _ _ _ (@aj _ _ _ _ _ _ _ _ _ _ _ C_need_way hr (by lia) rfl (@aa _ _ _ _ _ (pv 0) ad (by rfl)) (by decide) (by rfl) (by rfl)) (by rfl)) (@ah _ _ _ (@aq _ _ _ _ (@aj _ _ _ _ _ _ _ _ _ _ _ C_list_numbers hr (by lia) rfl (@aa _ _ _ _ _ (pv 0) ad (by rfl)) (by decide) (by rfl) (by rfl))))),?_⟩;refine ⟨_,rfl,wy,v,rfl,hw,h9,fun H1 g1=>?_⟩;have dl:=wy.deep_le;exact ⟨_,rfl,wy,v,rfl,hw.mono (Tups.of g1),by lia,by lia,fun p H2 g2 n2 e2=>q p H2 (g1.trans g2) (g1.free n2) e2⟩
def Wy.sgs:Wy→List Sg
  | .num _=>[]
  | .node g l r=>l.sgs++g :: r.sgs
def ae:List Sg→Str
  | []=>""
  | g :: r=>g.str++ae r
theorem lN (x:Str):("":Str)++x=x:=by
  cases x with|mk c=>show Str.mk (#[]++c)=_;simp
theorem j3 (x y z:Str):x++y++z=x++(y++z):=by
  obtain ⟨a⟩:=x;obtain ⟨b⟩:=y;obtain ⟨c⟩:=z;show Str.mk ((a++b)++c)=Str.mk (a++(b++c));rw [Array.append_assoc]
theorem i8:∀ xs ys:List Sg,ae (xs++ys)=ae xs++ae ys
  | [],ys=>(lN _).symm
  | g :: r,ys=>by show g.str++ae (r++ys)=g.str++ae r++ae ys;rw [i8 r ys,j3]
theorem m5 (g:Sg):g.str.length=1:=by cases g <;> rfl
theorem oa (x y:Str):(x++y).length=x.length+y.length:=by
  cases x;cases y;show (_++_:Array Nat).size=_;rw [Array.size_append];rfl
theorem ci:∀ xs:List Sg,(ae xs).length=xs.length
  | []=>rfl
  | g :: r=>by show (g.str++ae r).length=r.length+1;rw [oa,m5,ci r];lia
theorem Wy.sgs_len:∀ w:Wy,w.sgs.length+1=w.size
  | .num _=>rfl
  | .node g l r=>by have a:=l.sgs_len;have b:=r.sgs_len;show (l.sgs++g :: r.sgs).length+1=l.size+r.size;rw [aal,aaQ];lia
def og (n:Nat):Sp:=fun vs H Q _=>∃ w v,vs=[v]∧WyIn H w v∧w.size≤20∧w.deep≤n∧∀ H',Same H H'→Q (.str (ae w.sgs)) H'
abbrev dR:Stmt:=top 26
theorem cx:FnScope ["way","sign","left","right"] ["way"] (al dR):=⟨rfl,rfl,rfl,by decide +kernel,rfl,by decide +kernel,by decide +kernel⟩
theorem jO (F:Fun K "join_signs" "join_signs" dR f fd) (bF:Binds K fd ["way"] []) (mF:mg "join_signs" = some (.ref f)) (C_is_whole:Cal P w K mg base "is_whole" 1 ["thing"] (bB K)) :
    ∀ n,FnOk P w K mg base CX0 (n+1) f fd ["way"] (og n):=by
  intro n
  induction n with
  | zero =>
    refine ⟨fun vs H Q E h=>?_,fun A outer s H args us vs Q E _ _ _ _ h=>?_⟩
    · obtain ⟨x,v,rfl,_⟩:=h;rfl
    · obtain ⟨wy,v,_,_,_,hd,_⟩:=h;cases wy <;> exact absurd hd (by simp [Wy.deep])
  | succ n ih =>
    have C_join_signs:Cal P w K mg base "join_signs" (n+1) ["way"] (og n):=⟨f,fd,ih,bF,F.kp,mF⟩
    refine F.ok cx (fun vs H Q E h=>?_) (fun cdv A outer s H vs Q E hr h=>?_)
    · obtain ⟨x,v,rfl,_⟩:=h;rfl
    obtain ⟨wy,v,rfl,hw,h20,hd,q⟩:=h;refine ⟨_,(@af _ _ _ _ _ (@aH _ _ _ _ _ _ _ _ (@aR _ _ _ (@aj _ _ _ _ _ _ _ _ _ _ _ C_is_whole hr (by lia) rfl (@aa _ _ _ _ _ (pv 0) ad (by rfl)) (by decide) (by rfl) (by rfl)) (by intro _;rfl)) (@ah _ _ _ (@aq _ _ _ _ aB)) au) (@af _ _ _ _ _ (@cY _ _ _ _ _ _ (pv 0) (@bK _ _ _ _ _ _ rfl (@ao _ _ _ _ _ (@am _ _ (1) _ (cx).nd rfl (Or.inl rfl) (.inl rfl)) (@ao _ _ _ _ _ (@am _ _ (2) _ (cx).nd rfl (Or.inl rfl) (.inl rfl)) (@ao _ _ _ _ _ (@am _ _ (3) _ (cx).nd rfl (Or.inl rfl) (.inl rfl)) aV (by rfl)) (by rfl)) (by rfl)) (by rfl) (by rfl)) (by rfl) (by rfl) (by rfl)) (@ah _ _ _ (@aq _ _ _ _ (@ay _ _ _ _ _ _ _ _ jl (@ay _ _ _ _ _ _ _ _ jl (@aj _ _ _ _ _ _ _ _ _ _ _ C_join_signs hr (by lia) rfl (@aa _ _ _ _ _ (pv 2) ad (by rfl)) (by decide) (by rfl) (by rfl)) (pv 1)) (@aj _ _ _ _ _ _ _ _ _ _ _ C_join_signs hr (by lia) rfl (@aa _ _ _ _ _ (pv 3) ad (by rfl)) (by decide) (by rfl) (by rfl))))))),?_⟩;cases wy with
    | num i =>
      cases hw;exact ⟨_,rfl,_,"int",rfl,.int i,true,rfl,bA (q H (Same.refl H))⟩
    | node g l r =>
      obtain ⟨a,vl,vr,rfl,ha,hl,hr'⟩:=hw;refine ⟨_,rfl,_,"tuple",rfl,.tup ha,false,rfl,aM ?_⟩;have d:max l.deep r.deep+1≤n+1:=hd;have z:l.size+r.size≤20:=h20;have zl:=l.size_pos;have zr:=r.size_pos;have sl:=l.sgs_len;have sr:=r.sgs_len;refine ⟨_,rfl,a,_,rfl,SqT.of ha,rfl,_,_,rfl,_,_,rfl,_,_,rfl,rfl,?_⟩;refine ⟨_,rfl,l,vl,rfl,hl,by lia,by lia,fun H1 g1=>?_⟩;refine ⟨_,rfl,_,_,rfl,rfl,bQ (by rw [ci,m5];lia),?_⟩;refine ⟨_,rfl,r,vr,rfl,hr'.mono (Tups.of g1),by lia,by lia,fun H2 g2=>?_⟩;refine ⟨_,_,rfl,rfl,bQ (by rw [oa,ci,m5,ci];lia),?_⟩;have e:ae (l.sgs++g :: r.sgs)=ae l.sgs++g.str++ae r.sgs:=by rw [i8,j3];rfl
      have q':=q H2 (g1.trans g2);show Q (.str (ae l.sgs++g.str++ae r.sgs)) H2;rw [← e];exact q'
def gR:Sp:=fun vs H Q _=>∃ w v,vs=[v]∧WyIn H w v∧w.size≤9∧∀ H',Same H H'→Q (.str (ae w.sgs)) H'
abbrev fL:Stmt:=top 25
theorem lV:FnScope ["way"] ["way"] (al fL):=⟨rfl,rfl,rfl,by decide +kernel,rfl,by decide +kernel,by decide +kernel⟩
theorem md (F:Fun K "signs_of" "signs_of" fL f fd) (C_need_way:Cal P w K mg base "need_way" 3 ["thing"] dB) (C_join_signs:Cal P w K mg base "join_signs" 21 ["way"] (og 20)) :
    FnOk P w K mg base CX0 22 f fd ["way"] gR:=by
  refine F.ok lV (fun vs H Q E h=>?_) (fun cdv A outer s H vs Q E hr h=>?_)
  · obtain ⟨x,v,rfl,_⟩:=h;rfl
  obtain ⟨wy,v,rfl,hw,h9,q⟩:=h;refine ⟨_,(@af _ _ _ _ _ (@bv _ _ _ _ (@aj _ _ _ _ _ _ _ _ _ _ _ C_need_way hr (by lia) rfl (@aa _ _ _ _ _ (pv 0) ad (by rfl)) (by decide) (by rfl) (by rfl)) (by rfl)) (@ah _ _ _ (@aq _ _ _ _ (@aj _ _ _ _ _ _ _ _ _ _ _ C_join_signs hr (by lia) rfl (@aa _ _ _ _ _ (pv 0) ad (by rfl)) (by decide) (by rfl) (by rfl))))),?_⟩;refine ⟨_,rfl,wy,v,rfl,hw,h9,fun H1 g1=>?_⟩;have dl:=wy.deep_le;exact ⟨_,rfl,wy,v,rfl,hw.mono (Tups.of g1),by lia,by lia,fun H2 g2=>q H2 (g1.trans g2)⟩
end
open PySem L2
def Wel (H:Hp) (w:Addr) (M:Int):Prop:=∃ a b c,H w=some (.lst [.int a,.int b,.int c])∧0≤c∧c≤M
theorem Wel.keep {H H':Hp} {w:Addr} {M M':Int} (h:Wel H w M) (s:Same H H') (m:M≤M'):Wel H' w M':=by
  obtain ⟨a,b,c,e,h0,h1⟩:=h;exact ⟨a,b,c,s _ _ e,h0,by lia⟩
theorem Wel.more {H:Hp} {w:Addr} {M M':Int} (h:Wel H w M) (m:M≤M'):Wel H w M':=h.keep (Same.refl H) m
theorem But.free {w p:Addr} {H H':Hp} {M:Int} (b:But w H H') (h:Wel H' w M) (n:H' p=none):H p=none:=by
  cases q:H p with
  | none=>rfl
  | some o =>
    by_cases e:p=w
    · subst e;obtain ⟨_,_,_,z,_⟩:=h;rw [z] at n;cases n
    · rw [b p o e q] at n;cases n
theorem Wel.ne {w p:Addr} {H:Hp} {M:Int} (h:Wel H w M) (n:H p=none):p≠w:=fun e=>by
  subst e;obtain ⟨_,_,_,z,_⟩:=h;rw [z] at n;cases n
theorem Wel.tups {w:Addr} {H H':Hp} {M:Int} (h:Wel H w M) (b:But w H H'):Tups H H':=by
  obtain ⟨_,_,_,z,_⟩:=h;exact Tups.but b z
section
variable {P:Program} {w:World} {K:aaa} {mg:Str→Option Value} {base:Heap} {f:Addr} {fd:FuncData}
theorem mx (x m:Int) (h:0 < m):0≤x % m∧x % m < m:=⟨Int.emod_nonneg x (by lia),Int.emod_lt_of_pos x h⟩
def kz:Sp:=fun vs H Q _=>∃ cell k,vs=[.int cell,.int k]∧0≤k∧k≤1000000000∧∀ r,0≤r→Q (.int r) H
abbrev d5:Stmt:=top 61
theorem dj:FnScope ["cell","k","number"] ["cell","k"] (al d5):=⟨rfl,rfl,rfl,by decide +kernel,rfl,by decide +kernel,by decide +kernel⟩
theorem qE (F:Fun K "_law_mixed" "_law_mixed" d5 f fd):FnOk P w K mg base CX0 1 f fd ["cell","k"] kz:=by
  refine F.ok dj (fun vs H Q E h=>?_) (fun cdv A outer s H vs Q E hr h=>?_)
  · obtain ⟨x,v,rfl,_⟩:=h;rfl
  obtain ⟨cell,k,rfl,h0,h1,q⟩:=h;refine ⟨_,(@af _ _ _ _ _ (@aw _ _ (2) _ _ _ _ (dj).nd rfl (Or.inl rfl) (@ay _ _ _ _ _ _ _ _ fW (@ay _ _ _ _ _ _ _ _ bL (@ay _ _ _ _ _ _ _ _ bL (@ay _ _ _ _ _ _ _ _ fW (pv 0) ai) (@ay _ _ _ _ _ _ _ _ c_ (@ay _ _ _ _ _ _ _ _ c_ ai (pv 1)) (pv 1))) (@ay _ _ _ _ _ _ _ _ c_ ai (pv 1))) ai) (by rfl) (by first|exact .inl rfl|exact .inr rfl|assumption)) (@af _ _ _ _ _ (@aw _ _ (2) _ _ _ _ (dj).nd rfl (Or.inl rfl) (@ay _ _ _ _ _ _ _ _ fW (@ay _ _ _ _ _ _ _ _ c_ (pv 2) (pv 2)) ai) (by rfl) (by first|exact .inl rfl|exact .inr rfl|assumption)) (@ah _ _ _ (@aq _ _ _ _ (@ay _ _ _ _ _ _ _ _ eX (@ay _ _ _ _ _ _ _ _ fW (@ay _ _ _ _ _ _ _ _ c_ (pv 2) (@ay _ _ _ _ _ _ _ _ bL (pv 2) ai)) ai) ai))))),?_⟩;refine ⟨_,rfl,_,_,rfl,rfl,(show (0:Int) < 2147483629 by decide),_,rfl,_,_,rfl,rfl,.inl ⟨by decide,by decide⟩,_,rfl,_,_,rfl,rfl,.inr ⟨by lia,by lia⟩,_,_,rfl,rfl,_,rfl,_,_,rfl,rfl,.inl ⟨by decide,by decide⟩,
    _,_,rfl,rfl,_,_,rfl,rfl,(show (0:Int) < 2147483629 by decide),?_⟩
  have hb:=mx (cell % 2147483629+1000003 * k * k+7919 * k) 2147483629 (by decide);revert hb;generalize (cell % 2147483629+1000003 * k * k+7919 * k) % 2147483629=n1;intro hb;refine ⟨_,rfl,_,rfl,_,_,rfl,rfl,.inl ⟨by lia,by lia⟩,_,_,rfl,rfl,(show (0:Int) < 2147483587 by decide),?_⟩;have hc:=mx (n1 * n1) 2147483587 (by decide);revert hc;generalize n1 * n1 % 2147483587=n2;intro hc;refine ⟨_,rfl,_,rfl,_,_,rfl,rfl,_,_,rfl,rfl,.inl ⟨by lia,by lia⟩,_,_,rfl,rfl,(show (0:Int) < 2147483563 by decide),_,_,rfl,rfl,⟨by decide,by decide⟩,?_⟩;have hd:=mx (n2 * (n2+40961)) 2147483563 (by decide);exact q _ (by lia)
def mW:Sp:=fun vs H Q _=>∃ cell,vs=[.int cell]∧∀ p a b H',Same H H'→H p=none→H' p=some (.lst [.int a,.int b,.int 0])→Q (.ref p) H'
abbrev eQ:Stmt:=top 62
theorem kN:FnScope ["cell"] ["cell"] (al eQ):=⟨rfl,rfl,rfl,by decide +kernel,rfl,by decide +kernel,by decide +kernel⟩
theorem sh (F:Fun K "_law_well" "_law_well" eQ f fd) (B:Bu K mg):FnOk P w K mg base CX0 1 f fd ["cell"] mW:=by
  refine F.ok kN (fun vs H Q E h=>?_) (fun cdv A outer s H vs Q E hr h=>?_)
  · obtain ⟨x,rfl,_⟩:=h;rfl
  obtain ⟨cell,rfl,q⟩:=h;refine ⟨_,(@ah _ _ _ (@aq _ _ _ _ (@bt _ _ _ _ (@aa _ _ _ _ _ (@ay _ _ _ _ _ _ _ _ c_ (pv 0) (@cq _ _ _ _ _ _ _ _ _ iu rfl B.iint abn (@aa _ _ _ _ _ (@cA _ _ _ _ _ _ _ _ sX (pv 0) (@ay _ _ _ _ _ _ _ _ nh ai ai) (aA _)) ad (by rfl)) (by decide) (by decide) (by rfl) (by rfl))) (@aa _ _ _ _ _ (pv 0) (@aa _ _ _ _ _ ai ad (by rfl)) (by rfl)) (by rfl))))),?_⟩;refine ⟨_,rfl,_,rfl,_,_,rfl,rfl,⟨by decide,by decide,by decide⟩,_,_,rfl,rfl,.inr ⟨_,rfl,_,_,rfl,rfl,.inr ?_,_,rfl,(by show 3≤sizeLine;decide),fun p hp=>q p _ _ _ (Same.new hp _) hp ag⟩⟩;constructor <;> split <;> decide
def fG:Sp:=fun vs H Q _=>∃ w m M,vs=[.ref w,.int m]∧0 < m∧m < 2 ^ 63∧Wel H w M∧M < 1000000000∧∀ r H',0≤r→r < m→But w H H'→Wel H' w (M+1)→Q (.int r) H'
abbrev eS:Stmt:=top 63
theorem gj:FnScope ["well","many","got"] ["well","many"] (al eS):=⟨rfl,rfl,rfl,by decide +kernel,rfl,by decide +kernel,by decide +kernel⟩
theorem si (F:Fun K "_law_draw" "_law_draw" eS f fd) (C__law_mixed:Cal P w K mg base "_law_mixed" 1 ["cell","k"] kz):FnOk P w K mg base CX0 2 f fd ["well","many"] fG:=by
  refine F.ok gj (fun vs H Q E h=>?_) (fun cdv A outer s H vs Q E hr h=>?_)
  · obtain ⟨x,m,M,rfl,_⟩:=h;rfl
  obtain ⟨wl,m,M,rfl,h0,h1,⟨a,b,c,e,c0,c1⟩,hM,q⟩:=h;refine ⟨_,(@af _ _ _ _ _ (@aH _ _ _ _ _ _ _ _ (@av _ _ _ _ _ _ _ _ ve (@aC _ _ _ _ _ _ _ aF (pv 0) ai (fun _ _=>rfl)) ai (aA _)) (@af _ _ _ _ _ (@aw _ _ (2) _ _ _ _ (gj).nd rfl (Or.inl rfl) (@ay _ _ _ _ _ _ _ _ fW (@aC _ _ _ _ _ _ _ aF (pv 0) ai (fun _ _=>rfl)) (pv 1)) (by rfl) (by first|exact .inl rfl|exact .inr rfl|assumption)) (@af _ _ _ _ _ (@cY _ _ _ _ _ _ (@ay _ _ _ _ _ _ _ _ eX (@aC _ _ _ _ _ _ _ aF (pv 0) ai (fun _ _=>rfl)) (pv 1)) (@qw _ _ _ _ _ _ _ (pv 0) ai lR (by intro _;rfl)) (by rfl) (by rfl) (by rfl)) (@ah _ _ _ (@aq _ _ _ _ (pv 2))))) au) (@af _ _ _ _ _ (@cY _ _ _ _ _ _ (@ay _ _ _ _ _ _ _ _ bL (@aC _ _ _ _ _ _ _ aF (pv 0) ai (fun _ _=>rfl)) ai) (@qw _ _ _ _ _ _ _ (pv 0) ai lR (by intro _;rfl)) (by rfl) (by rfl) (by rfl)) (@ah _ _ _ (@aq _ _ _ _ (@ay _ _ _ _ _ _ _ _ fW (@aj _ _ _ _ _ _ _ _ _ _ _ C__law_mixed hr (by lia) rfl (@aa _ _ _ _ _ (@aC _ _ _ _ _ _ _ aF (pv 0) ai (fun _ _=>rfl)) (@aa _ _ _ _ _ (@aC _ _ _ _ _ _ _ aF (pv 0) ai (fun _ _=>rfl)) ad (by rfl)) (by rfl)) (by decide) (by rfl) (by rfl)) (pv 1)))))),?_⟩;refine ⟨_,rfl,wl,_,_,_,rfl,rfl,SqL.of e,rfl,_,_,rfl,rfl,_,rfl,qP (fun _=>?_) (fun _=>?_)⟩
  · refine ⟨_,rfl,wl,_,_,_,rfl,rfl,SqL.of e,rfl,_,rfl,_,_,rfl,rfl,h0,?_⟩;refine ⟨_,rfl,wl,_,_,_,rfl,rfl,SqL.of e,rfl,_,rfl,_,_,rfl,rfl,⟨h0,by lia⟩,_,rfl,wl,_,_,0,rfl,rfl,e,rfl,?_⟩;refine ⟨_,rfl,?_⟩;have z:=mx a m h0;exact q _ _ z.1 z.2 But.put ⟨_,_,_,ag,c0,by lia⟩
  · refine ⟨_,rfl,wl,_,_,_,rfl,rfl,SqL.of e,rfl,_,_,rfl,rfl,_,rfl,wl,_,_,2,rfl,rfl,e,rfl,?_⟩;refine ⟨_,rfl,wl,_,_,_,rfl,rfl,SqL.of ag,rfl,_,rfl,wl,_,_,_,rfl,rfl,SqL.of ag,rfl,_,_,rfl,by lia,by lia,fun r hr0=>?_⟩;refine ⟨_,rfl,_,_,rfl,rfl,h0,?_⟩;have z:=mx r m h0;exact q _ _ z.1 z.2 But.put ⟨_,_,_,ag,by lia,by lia⟩
def iZ:Sp:=fun vs H Q _=>∃ w M,vs=[.ref w]∧Wel H w M∧M < 999999000∧∀ i H',-1000000000000 < i→i < 1000000000000→But w H H'→Wel H' w (M+7)→Q (.int i) H'
theorem at6 {a b c d e f':Int} {k:Int} (h0:0≤k) (h1:k < 6) (P:Int→Prop) (pa:P a) (pb:P b) (pc:P c) (pd:P d) (pe:P e) (pf:P f'):∃ z,atI [V.int a,.int b,.int c,.int d,.int e,.int f'] k=some (.int z)∧P z:=by
  have : k=0∨k=1∨k=2∨k=3∨k=4∨k=5:=by lia
  rcases this with rfl|rfl|rfl|rfl|rfl|rfl
  · exact ⟨a,rfl,pa⟩
  · exact ⟨b,rfl,pb⟩
  · exact ⟨c,rfl,pc⟩
  · exact ⟨d,rfl,pd⟩
  · exact ⟨e,rfl,pe⟩
  · exact ⟨f',rfl,pf⟩
theorem wc {k:Int} (h0:0≤k) (h1:k < 10):∃ z:Int,atI [V.int 0,.int 0,.int 0,.int 1,.int 1,.int 2,.int 2,.int 3,.int 4,.int 5] k=some (.int z)∧0≤z∧z < 6:=by
  have : k=0∨k=1∨k=2∨k=3∨k=4∨k=5∨k=6∨k=7∨k=8∨k=9:=by lia
  rcases this with rfl|rfl|rfl|rfl|rfl|rfl|rfl|rfl|rfl|rfl <;> exact ⟨_,rfl,by decide,by decide⟩
abbrev dr:Stmt:=top 64
theorem cU:FnScope ["well","some"] ["well"] (al dr):=⟨rfl,rfl,rfl,by decide +kernel,rfl,by decide +kernel,by decide +kernel⟩
theorem pF (F:Fun K "_law_number" "_law_number" dr f fd) (C__law_draw:Cal P w K mg base "_law_draw" 2 ["well","many"] fG):FnOk P w K mg base CX0 3 f fd ["well"] iZ:=by
  refine F.ok cU (fun vs H Q E h=>?_) (fun cdv A outer s H vs Q E hr h=>?_)
  · obtain ⟨x,M,rfl,_⟩:=h;rfl
  obtain ⟨wl,M,rfl,hw,hM,q⟩:=h;refine ⟨_,(@af _ _ _ _ _ (@aw _ _ (1) _ _ _ _ (cU).nd rfl (Or.inl rfl) (@bt _ _ _ _ (@aa _ _ _ _ _ (@aj _ _ _ _ _ _ _ _ _ _ _ C__law_draw hr (by lia) rfl (@aa _ _ _ _ _ (pv 0) (@aa _ _ _ _ _ ai ad (by rfl)) (by rfl)) (by decide) (by rfl) (by rfl)) (@aa _ _ _ _ _ (@aj _ _ _ _ _ _ _ _ _ _ _ C__law_draw hr (by lia) rfl (@aa _ _ _ _ _ (pv 0) (@aa _ _ _ _ _ ai ad (by rfl)) (by rfl)) (by decide) (by rfl) (by rfl)) (@aa _ _ _ _ _ (@ay _ _ _ _ _ _ _ _ cL ai (@aj _ _ _ _ _ _ _ _ _ _ _ C__law_draw hr (by lia) rfl (@aa _ _ _ _ _ (pv 0) (@aa _ _ _ _ _ ai ad (by rfl)) (by rfl)) (by decide) (by rfl) (by rfl))) (@aa _ _ _ _ _ (@aj _ _ _ _ _ _ _ _ _ _ _ C__law_draw hr (by lia) rfl (@aa _ _ _ _ _ (pv 0) (@aa _ _ _ _ _ (@ay _ _ _ _ _ _ _ _ nh ai ai) ad (by rfl)) (by rfl)) (by decide) (by rfl) (by rfl)) ad (by rfl)) (by rfl)) (by rfl)) (by rfl))) (by rfl) (by first|exact .inl rfl|exact .inr rfl|assumption)) (@af _ _ _ _ _ (@aw _ _ (1) _ _ _ _ (cU).nd rfl (Or.inl rfl) (@ay _ _ _ _ _ _ _ _ jk (pv 1) (@bt _ _ _ _ (@aa _ _ _ _ _ (@ay _ _ _ _ _ _ _ _ cL ai (@aj _ _ _ _ _ _ _ _ _ _ _ C__law_draw hr (by lia) rfl (@aa _ _ _ _ _ (pv 0) (@aa _ _ _ _ _ (@ay _ _ _ _ _ _ _ _ nh ai ai) ad (by rfl)) (by rfl)) (by decide) (by rfl) (by rfl))) (@aa _ _ _ _ _ (@aj _ _ _ _ _ _ _ _ _ _ _ C__law_draw hr (by lia) rfl (@aa _ _ _ _ _ (pv 0) (@aa _ _ _ _ _ ai ad (by rfl)) (by rfl)) (by decide) (by rfl) (by rfl)) ad (by rfl)) (by rfl)))) (by rfl) (by first|exact .inl rfl|exact .inr rfl|assumption)) (@ah _ _ _ (@aq _ _ _ _ (@aC _ _ _ _ _ _ _ aF (pv 1) (@aC _ _ _ _ _ _ _ aF (@bt _ _ _ _ (@aa _ _ _ _ _ ai (@aa _ _ _ _ _ ai (@aa _ _ _ _ _ ai (@aa _ _ _ _ _ ai (@aa _ _ _ _ _ ai (@aa _ _ _ _ _ ai (@aa _ _ _ _ _ ai (@aa _ _ _ _ _ ai (@aa _ _ _ _ _ ai (@aa _ _ _ _ _ ai ad (by rfl)) (by rfl)) (by rfl)) (by rfl)) (by rfl)) (by rfl)) (by rfl)) (by rfl)) (by rfl)) (by rfl))) (@aj _ _ _ _ _ _ _ _ _ _ _ C__law_draw hr (by lia) rfl (@aa _ _ _ _ _ (pv 0) (@aa _ _ _ _ _ ai ad (by rfl)) (by rfl)) (by decide) (by rfl) (by rfl)) (fun _ _=>rfl)) (fun _ _=>rfl)))))),?_⟩;refine ⟨_,rfl,wl,10,M,rfl,by decide,by decide,hw,by lia,fun r1 H1 a1 b1 g1 w1=>?_⟩;refine ⟨_,rfl,wl,4,_,rfl,by decide,by decide,w1,by lia,fun r2 H2 a2 b2 g2 w2=>?_⟩;refine ⟨_,rfl,wl,10,_,rfl,by decide,by decide,w2,by lia,fun r3 H3 a3 b3 g3 w3=>⟨_,_,rfl,rfl,?_⟩⟩;refine ⟨_,rfl,_,_,rfl,rfl,⟨by decide,by decide,by decide⟩,wl,1000000000000,_,rfl,by decide,by decide,w3,by lia,fun r4 H4 a4 b4 g4 w4=>?_⟩;refine ⟨(by show 4≤sizeLine;decide),fun p1 n1=>?_⟩;have w4':Wel (upd H4 p1 (.lst [.int r1,.int r2,.int (0 - r3),.int r4])) wl _:=w4.keep (Same.new n1 _) (aaP _);refine ⟨_,rfl,_,rfl,_,_,rfl,rfl,⟨by decide,by decide,by decide⟩,wl,1000000000000,_,rfl,by decide,by decide,w4',by lia,fun r5 H5 a5 b5 g5 w5=>⟨_,_,rfl,rfl,?_⟩⟩;refine ⟨_,rfl,wl,100,_,rfl,by decide,by decide,w5,by lia,fun r6 H6 a6 b6 g6 w6=>?_⟩;refine ⟨(by show 2≤sizeLine;decide),fun p2 n2=>?_⟩;have ne1:p1≠wl:=w4.ne n1;have e1:H6 p1=some (.lst [.int r1,.int r2,.int (0 - r3),.int r4]):=g6 _ _ ne1 (g5 _ _ ne1 ag);have w6':Wel (upd H6 p2 (.lst [.int (0 - r5),.int r6])) wl _:=w6.keep (Same.new n2 _) (aaP _);refine ⟨p1,p2,_,_,rfl,rfl,Same.new n2 _ _ _ e1,ag,(by show 6≤sizeLine;decide),fun p3 n3=>?_⟩;have w7:=w6'.keep (Same.new n3 (.lst ([.int r1,.int r2,.int (0 - r3),.int r4]++[.int (0 - r5),.int r6]))) (aaP _);refine ⟨_,rfl,(by show 10≤sizeLine;decide),fun p4 n4=>?_⟩;have w8:=w7.keep (Same.new n4 (.lst [.int 0,.int 0,.int 0,.int 1,.int 1,.int 2,.int 2,.int 3,.int 4,.int 5])) (aaP _);refine ⟨_,rfl,wl,10,_,rfl,by decide,by decide,w8,by lia,fun r7 H7 a7 b7 g7 w9=>?_⟩;have ne3:p3≠wl:=w6'.ne n3;have ne4:p4≠wl:=w7.ne n4;obtain ⟨z,hz,z0,z1⟩:=wc a7 b7;refine ⟨p4,_,_,_,rfl,rfl,SqL.of (g7 _ _ ne4 ag),hz,?_⟩;obtain ⟨y,hy,y0,y1⟩:=at6 (a:=r1) (b:=r2) (c:=0 - r3) (d:=r4) (e:=0 - r5) (f':=r6) z0 z1 (fun i=>-1000000000000 < i∧i < 1000000000000) (by lia) (by lia) (by lia) (by lia) (by lia) (by lia);refine ⟨p3,_,_,_,rfl,rfl,SqL.of (g7 _ _ ne3 (Same.new n4 _ _ _ ag)),hy,?_⟩;refine q y H7 y0 y1 ?_ (w9.more (by lia));exact ((((((((((g1.trans g2).trans g3).trans g4).trans (But.new n1 _)).trans g5).trans g6).trans (But.new n2 _)).trans (But.new n3 _)).trans (But.new n4 _)).trans g7)
open PySem L2
def rH (ns:List Int):Prop:=∀ i∈ns,-1000000000000 < i∧i < 1000000000000
def qc:Sp:=fun vs H Q _=>∃ w n M,vs=[.ref w,.int n]∧0≤n∧n≤20∧Wel H w M∧M < 999990000 ∧
  ∀ p ns H',But w H H'→Wel H' w (M+200)→H p=none→H' p=some (.lst (ns.map V.int))→(ns.length:Int)=n→rH ns→Q (.ref p) H'
abbrev fU:Stmt:=top 65
theorem l6:FnScope ["well","many"] ["well","many"] (al fU):=⟨rfl,rfl,rfl,by decide +kernel,rfl,by decide +kernel,by decide +kernel⟩
theorem rW (i:Int) (k:Nat):(aaw k [V.int i]).flatten=(aaw k i).map V.int:=by
  induction k with
  | zero=>rfl
  | succ k ih=>rw [abi,aa3,ih];rfl
theorem uc (F:Fun K "_law_row" "_law_row" fU f fd) (B:Bu K mg) (C__law_draw:Cal P w K mg base "_law_draw" 2 ["well","many"] fG) (C__law_number:Cal P w K mg base "_law_number" 3 ["well"] iZ) :
    FnOk P w K mg base CX0 4 f fd ["well","many"] qc:=by
  refine F.ok l6 (fun vs H Q E h=>?_) (fun cdv A outer s H vs Q E hr h=>?_)
  · obtain ⟨x,m,M,rfl,_⟩:=h;rfl
  obtain ⟨wl,n,M,rfl,h0,h1,hw,hM,q⟩:=h;refine ⟨_,(@af _ _ _ _ _ (@aH _ _ _ _ _ _ _ _ (@av _ _ _ _ _ _ _ _ bE (@aj _ _ _ _ _ _ _ _ _ _ _ C__law_draw hr (by lia) rfl (@aa _ _ _ _ _ (pv 0) (@aa _ _ _ _ _ ai ad (by rfl)) (by rfl)) (by decide) (by rfl) (by rfl)) ai (aA _)) (@ah _ _ _ (@aq _ _ _ _ (@ay _ _ _ _ _ _ _ _ t9 (@bt _ _ _ _ (@aa _ _ _ _ _ (@aj _ _ _ _ _ _ _ _ _ _ _ C__law_number hr (by lia) rfl (@aa _ _ _ _ _ (pv 0) ad (by rfl)) (by decide) (by rfl) (by rfl)) ad (by rfl))) (pv 1)))) au) (@ah _ _ _ (@aq _ _ _ _ (@dG _ _ _ _ _ _ _ _ (["k","well"]) ([none,some 0]) _ _ _ _ rfl (@dF _ _ _ _ _ _ rfl B.irange (@aa _ _ _ _ _ (pv 1) ad (by rfl)) (by rfl)) rfl ⟨rfl,trivial⟩ ⟨⟨rfl,Or.inl rfl,Or.inl rfl⟩,trivial⟩ (fun _ _ _ _=>⟨(@am _ _ (0) _ (show aaK (["k","well"]:List Str) by decide +kernel) rfl (Or.inl rfl) (.inr rfl)),aU,(@aj _ _ _ _ _ _ _ _ _ _ _ C__law_number hr (by lia) rfl (@aa _ _ _ _ _ (pv 1) ad (by rfl)) (by decide) (by rfl) (by rfl))⟩) (by rfl) (by rfl) (by rfl) (by rfl) (by intro _;rfl))))),?_⟩;refine ⟨_,rfl,wl,8,M,rfl,by decide,by decide,hw,by lia,fun r1 H1 a1 b1 g1 w1=>⟨rfl,_,rfl,qP (fun _=>?_) (fun _=>?_)⟩⟩
  · refine ⟨_,rfl,wl,_,rfl,w1,by lia,fun i H2 i0 i1 g2 w2=>⟨(by show 1≤sizeLine;decide),fun p1 n1=>?_⟩⟩;refine ⟨_,rfl,p1,n,_,rfl,rfl,ag,by lia,by lia,bQ (by show 1 * n.toNat≤1000;lia),fun p2 n2=>?_⟩;have w3:=w2.keep (Same.new n1 (.lst [.int i])) (aaP _);have w4:=w3.keep (Same.new n2 (.lst (aaw n.toNat [V.int i]).flatten)) (aaP _);refine q p2 (aaw n.toNat i) _ (((g1.trans g2).trans (But.new n1 _)).trans (But.new n2 _)) (w4.more (by lia)) (But.free ((g1.trans g2).trans (But.new n1 (.lst [.int i]))) w3 n2) ?_ (by rw [List.length_replicate];lia) ?_
    · rw [ag,rW]
    · intro z hz;rw [List.eq_of_mem_replicate hz];exact ⟨i0,i1⟩
  · refine ⟨_,rfl,n,rfl,by lia,by lia,?_⟩;refine ⟨fun i m ys H'=>i≤n.toNat∧m=n.toNat - i∧∃ ns:List Int,ys=ns.map V.int∧ns.length=i∧rH ns∧But wl H H'∧Wel H' wl (M+1+7 * i),⟨_,aaI _,rfl,[],rfl,rfl,(fun _ z=>nomatch z),g1,w1.more (by lia)⟩,?_⟩;rintro i m ys H' ⟨hi,rfl,ns,rfl,hl,hs,hb,hw'⟩;by_cases hlt:i < n.toNat
    · refine .inr ⟨hlt,aE (by rw [aac];lia),fun x H2 y=>?_⟩;obtain ⟨rfl,rfl⟩:=y;refine ⟨_,rfl,wl,_,rfl,hw',by lia,fun z H3 z0 z1 g3 w3=>?_⟩;refine ⟨n.toNat - (i+1),by lia,hlt,rfl,ns++[z],by rw [aan];rfl,by rw [aal,abD,hl],?_,hb.trans g3,w3.more (by lia)⟩;intro u hu;rcases aaB.mp hu with hu|hu
      · exact hs u hu
      · rw [aau.mp hu];exact ⟨z0,z1⟩
    · refine .inl ⟨Nat.not_lt.mp hlt,fun p hp=>?_⟩;refine q p ns _ (hb.trans (But.new hp _)) ((hw'.keep (Same.new hp _) (aaP _)).more (by lia)) (But.free hb hw' hp) ag (by lia) hs
def kH:List V:=[.str "+",.str "-",.str "*",.str "+-",.str "+*",.str "-*",.str "+-*"]
def aX (gs:List Sg):Prop:=inV (.str (ae gs)) kH=true
def fF:Sp:=fun vs H Q _=>∃ w M,vs=[.ref w]∧Wel H w M∧M < 999990000∧∀ gs H',1≤gs.length→gs.length≤3→aX gs→But w H H'→Wel H' w (M+1)→Q (.str (ae gs)) H'
theorem at9 {k:Int} (h0:0≤k) (h1:k < 9):∃ gs:List Sg,atI [V.str "+-*",.str "+-*",.str "+-*",.str "+",.str "-",.str "*",.str "+-",.str "+*",.str "-*"] k=some (.str (ae gs))∧1≤gs.length∧gs.length≤3∧aX gs:=by
  have : k=0∨k=1∨k=2∨k=3∨k=4∨k=5∨k=6∨k=7∨k=8:=by lia
  rcases this with rfl|rfl|rfl|rfl|rfl|rfl|rfl|rfl|rfl
  · exact ⟨[.plus,.minus,.times],by rfl,by decide,by decide,by unfold aX;decide +kernel⟩
  · exact ⟨[.plus,.minus,.times],by rfl,by decide,by decide,by unfold aX;decide +kernel⟩
  · exact ⟨[.plus,.minus,.times],by rfl,by decide,by decide,by unfold aX;decide +kernel⟩
  · exact ⟨[.plus],by rfl,by decide,by decide,by unfold aX;decide +kernel⟩
  · exact ⟨[.minus],by rfl,by decide,by decide,by unfold aX;decide +kernel⟩
  · exact ⟨[.times],by rfl,by decide,by decide,by unfold aX;decide +kernel⟩
  · exact ⟨[.plus,.minus],by rfl,by decide,by decide,by unfold aX;decide +kernel⟩
  · exact ⟨[.plus,.times],by rfl,by decide,by decide,by unfold aX;decide +kernel⟩
  · exact ⟨[.minus,.times],by rfl,by decide,by decide,by unfold aX;decide +kernel⟩
abbrev dZ:Stmt:=top 66
theorem jJ:FnScope ["well"] ["well"] (al dZ):=⟨rfl,rfl,rfl,by decide +kernel,rfl,by decide +kernel,by decide +kernel⟩
theorem k_ (F:Fun K "_law_signs" "_law_signs" dZ f fd) (C__law_draw:Cal P w K mg base "_law_draw" 2 ["well","many"] fG):FnOk P w K mg base CX0 3 f fd ["well"] fF:=by
  refine F.ok jJ (fun vs H Q E h=>?_) (fun cdv A outer s H vs Q E hr h=>?_)
  · obtain ⟨x,M,rfl,_⟩:=h;rfl
  obtain ⟨wl,M,rfl,hw,hM,q⟩:=h;refine ⟨_,(@ah _ _ _ (@aq _ _ _ _ (@aC _ _ _ _ _ _ _ aF (@bt _ _ _ _ (@aa _ _ _ _ _ aB (@aa _ _ _ _ _ aB (@aa _ _ _ _ _ aB (@aa _ _ _ _ _ aB (@aa _ _ _ _ _ aB (@aa _ _ _ _ _ aB (@aa _ _ _ _ _ aB (@aa _ _ _ _ _ aB (@aa _ _ _ _ _ aB ad (by rfl)) (by rfl)) (by rfl)) (by rfl)) (by rfl)) (by rfl)) (by rfl)) (by rfl)) (by rfl))) (@aj _ _ _ _ _ _ _ _ _ _ _ C__law_draw hr (by lia) rfl (@aa _ _ _ _ _ (pv 0) (@aa _ _ _ _ _ ai ad (by rfl)) (by rfl)) (by decide) (by rfl) (by rfl)) (fun _ _=>rfl)))),?_⟩;refine ⟨(by show 9≤sizeLine;decide),fun p1 n1=>?_⟩;have w1:=hw.keep (Same.new n1 (.lst [.str "+-*",.str "+-*",.str "+-*",.str "+",.str "-",.str "*",.str "+-",.str "+*",.str "-*"])) (aaP _);refine ⟨_,rfl,wl,9,_,rfl,by decide,by decide,w1,by lia,fun r1 H1 a1 b1 g1 w2=>?_⟩;obtain ⟨gs,hg,l1,l2,l3⟩:=at9 a1 b1;exact ⟨p1,_,_,_,rfl,rfl,SqL.of (g1 _ _ (hw.ne n1) ag),hg,q gs H1 l1 l2 l3 ((But.new n1 _).trans g1) w2⟩
theorem mV (x y:Str):(x++y).cps.toList=x.cps.toList++y.cps.toList:=by
  obtain ⟨a⟩:=x;obtain ⟨b⟩:=y;show (a++b).toList=_;rw [Array.toList_append]
def Sg.code:Sg→Nat
  | .plus=>43
  | .minus=>45
  | .times=>42
theorem eE (g:Sg):g.str=⟨#[g.code]⟩:=by cases g <;> rfl
theorem cN:∀ gs:List Sg,(ae gs).cps.toList=gs.map Sg.code
  | []=>rfl
  | g :: r=>by
    show (g.str++ae r).cps.toList=g.code :: r.map Sg.code;rw [mV,cN r,eE];rfl
theorem vG {gs:List Sg} {k:Int} (h0:0≤k) (h1:k < (gs.length:Nat)):∃ g:Sg,atI (ae gs).cps.toList k=some g.code∧g∈gs:=by
  obtain ⟨j,rfl⟩:=aby h0;have hj:j < gs.length:=by lia
  refine ⟨gs[j],fA ?_,List.getElem_mem hj⟩;rw [cN,aao,aag hj];rfl
def Wy.within (gs:List Sg):Wy→Prop
  | .num _=>True
  | .node g l r=>g∈gs∧l.within gs∧r.within gs
def oe (n:Nat):Sp:=fun vs H Q _=>∃ w r gs ns M,vs=[.ref w,.ref r,.str (ae gs)]∧H r=some (.lst (ns.map V.int))∧r≠w∧1≤ns.length∧ns.length≤n∧n≤20∧1≤gs.length∧gs.length≤3∧Wel H w M∧M+4 * ns.length - 4 < 999999000 ∧
  ∀ v wy H',WyIn H' wy v→wy.nums=ns→wy.within gs→But w H H'→Wel H' w (M+4 * ns.length - 4)→Q v H'
theorem at3 {a b c:Int} {k:Int} (h0:0≤k) (h1:k < 3) (P:Int→Prop) (pa:P a) (pb:P b) (pc:P c):∃ z,atI [V.int a,.int b,.int c] k=some (.int z)∧P z:=by
  have : k=0∨k=1∨k=2:=by lia
  rcases this with rfl|rfl|rfl
  · exact ⟨a,rfl,pa⟩
  · exact ⟨b,rfl,pb⟩
  · exact ⟨c,rfl,pc⟩
theorem rB (ns:List Int) (c:Nat) (h:c≤ns.length):iH (ns.map V.int) none (some (c:Int))=(ns.take c).map V.int:=by
  have hl:(ns.map V.int).length=ns.length:=aac _;have e0:HT.sIx ns.length 0 none=0:=by simp [HT.sIx]
  have e1:HT.sIx ns.length ns.length (some (c:Int))=c:=by
    simp only [HT.sIx];split <;> lia
  unfold iH;rw [hl,e0,e1,abS,ab1];rfl
theorem rE (ns:List Int) (c:Nat) (h:c≤ns.length):iH (ns.map V.int) (some (c:Int)) none=(ns.drop c).map V.int:=by
  have hl:(ns.map V.int).length=ns.length:=aac _;have e0:HT.sIx ns.length ns.length none=ns.length:=by simp [HT.sIx]
  have e1:HT.sIx ns.length 0 (some (c:Int))=c:=by
    simp only [HT.sIx];split <;> lia
  unfold iH;rw [hl,e0,e1,ab0,aaL (by rw [aaR,hl];exact aab _)]
abbrev fT:Stmt:=top 67
theorem eJ:FnScope ["well","row","signs","cut","sign"] ["well","row","signs"] (al fT):=⟨rfl,rfl,rfl,by decide +kernel,rfl,by decide +kernel,by decide +kernel⟩
theorem ub (F:Fun K "_law_way" "_law_way" fT f fd) (bF:Binds K fd ["well","row","signs"] []) (mF:mg "_law_way" = some (.ref f)) (B:Bu K mg) (C__law_draw:Cal P w K mg base "_law_draw" 2 ["well","many"] fG) :
    ∀ n,FnOk P w K mg base CX0 (n+2) f fd ["well","row","signs"] (oe n):=by
  intro n
  induction n with
  | zero =>
    refine ⟨fun vs H Q E h=>?_,fun A outer s H args us vs Q E _ _ _ _ h=>?_⟩
    · obtain ⟨x,r,gs,ns,M,rfl,_⟩:=h;rfl
    · obtain ⟨x,r,gs,ns,M,_,_,_,h1,h2,_⟩:=h;lia
  | succ n ih =>
    have C__law_way:Cal P w K mg base "_law_way" (n+2) ["well","row","signs"] (oe n):=⟨f,fd,ih,bF,F.kp,mF⟩
    refine F.ok eJ (fun vs H Q E h=>?_) (fun cdv A outer s H vs Q E hr h=>?_)
    · obtain ⟨x,r,gs,ns,M,rfl,_⟩:=h;rfl
    obtain ⟨wl,r,gs,ns,M,rfl,er,nr,h1,h2,h20,g1,g3,hw,hM,q⟩:=h;refine ⟨_,(@af _ _ _ _ _ (@aH _ _ _ _ _ _ _ _ (@av _ _ _ _ _ _ _ _ bE (@ap _ _ _ _ _ _ _ _ _ ar rfl B.ilen aay (@aa _ _ _ _ _ (pv 1) ad (by rfl)) (by decide) (by decide) (by rfl) (by rfl)) ai (aA _)) (@ah _ _ _ (@aq _ _ _ _ (@aC _ _ _ _ _ _ _ aF (pv 1) ai (fun _ _=>rfl)))) au) (@af _ _ _ _ _ (@aw _ _ (3) _ _ _ _ (eJ).nd rfl (Or.inl rfl) (@aC _ _ _ _ _ _ _ aF (@bt _ _ _ _ (@aa _ _ _ _ _ (@ay _ _ _ _ _ _ _ _ bL ai (@aj _ _ _ _ _ _ _ _ _ _ _ C__law_draw hr (by lia) rfl (@aa _ _ _ _ _ (pv 0) (@aa _ _ _ _ _ (@ay _ _ _ _ _ _ _ _ cL (@ap _ _ _ _ _ _ _ _ _ ar rfl B.ilen aay (@aa _ _ _ _ _ (pv 1) ad (by rfl)) (by decide) (by decide) (by rfl) (by rfl)) ai) ad (by rfl)) (by rfl)) (by decide) (by rfl) (by rfl))) (@aa _ _ _ _ _ ai (@aa _ _ _ _ _ (@ay _ _ _ _ _ _ _ _ cL (@ap _ _ _ _ _ _ _ _ _ ar rfl B.ilen aay (@aa _ _ _ _ _ (pv 1) ad (by rfl)) (by decide) (by decide) (by rfl) (by rfl)) ai) ad (by rfl)) (by rfl)) (by rfl))) (@ay _ _ _ _ _ _ _ _ eX (@aj _ _ _ _ _ _ _ _ _ _ _ C__law_draw hr (by lia) rfl (@aa _ _ _ _ _ (pv 0) (@aa _ _ _ _ _ ai ad (by rfl)) (by rfl)) (by decide) (by rfl) (by rfl)) ai) (fun _ _=>rfl)) (by rfl) (by first|exact .inl rfl|exact .inr rfl|assumption)) (@af _ _ _ _ _ (@aw _ _ (4) _ _ _ _ (eJ).nd rfl (Or.inl rfl) (@aC _ _ _ _ _ _ _ uv (pv 2) (@aj _ _ _ _ _ _ _ _ _ _ _ C__law_draw hr (by lia) rfl (@aa _ _ _ _ _ (pv 0) (@aa _ _ _ _ _ (@ap _ _ _ _ _ _ _ _ _ lB rfl B.ilen aay (@aa _ _ _ _ _ (pv 2) ad (by rfl)) (by decide) (by decide) (by rfl) (by rfl)) ad (by rfl)) (by rfl)) (by decide) (by rfl) (by rfl)) (fun _ _=>rfl)) (by rfl) (by first|exact .inl rfl|exact .inr rfl|assumption)) (@ah _ _ _ (@aq _ _ _ _ (@aQ _ _ _ _ _ (@aa _ _ _ _ _ (pv 4) (@aa _ _ _ _ _ (@aj _ _ _ _ _ _ _ _ _ _ _ C__law_way hr (by lia) rfl (@aa _ _ _ _ _ (pv 0) (@aa _ _ _ _ _ (@gu _ _ _ _ _ _ _ _ _ _ iL (pv 1) kR (@gr _ _ _ (pv 3))) (@aa _ _ _ _ _ (pv 2) ad (by rfl)) (by rfl)) (by rfl)) (by decide) (by rfl) (by rfl)) (@aa _ _ _ _ _ (@aj _ _ _ _ _ _ _ _ _ _ _ C__law_way hr (by lia) rfl (@aa _ _ _ _ _ (pv 0) (@aa _ _ _ _ _ (@gu _ _ _ _ _ _ _ _ _ _ iL (pv 1) (@gr _ _ _ (pv 3)) kR) (@aa _ _ _ _ _ (pv 2) ad (by rfl)) (by rfl)) (by rfl)) (by decide) (by rfl) (by rfl)) ad (by rfl)) (by rfl)) (by rfl)))))))),?_⟩;have hl:(ns.map V.int).length=ns.length:=aac _;refine ⟨_,rfl,r,_,rfl,.inl (SqL.of er),rfl,_,rfl,qP (fun c=>?_) (fun c=>?_)⟩
    · have c':V.int (((ns.map V.int).length:Nat):Int)=V.int 1:=of_decide_eq_true c;have c2:(((ns.map V.int).length:Nat):Int)=1:=by injection c'
      rw [hl] at c2
      match ns,c2,er,q with
      | [i],_,er,q =>
        exact ⟨_,rfl,r,_,_,_,rfl,rfl,SqL.of er,rfl,q _ (.num i) H rfl rfl trivial But.refl (hw.more (by show M≤M+4 * ((1:Nat):Int) - 4;lia))⟩
    have c2:ns.length≠1:=fun e=>c (by rw [hl,e];rfl);refine ⟨_,rfl,_,rfl,r,_,rfl,.inl (SqL.of er),_,_,rfl,rfl,wl,((ns.map V.int).length:Int) - 1,M,rfl,by rw [hl];lia,by rw [hl];lia,hw,by lia,fun r1 H1 a1 b1 k1 w1=>?_⟩;rw [hl] at b1;have er1:=k1 _ _ nr er;refine ⟨_,_,rfl,rfl,_,rfl,r,_,rfl,.inl (SqL.of er1),_,_,rfl,rfl,(by show 3≤sizeLine;decide),fun p1 n1=>?_⟩;have w1':=w1.keep (Same.new n1 (.lst [.int (1+r1),.int 1,.int (((ns.map V.int).length:Int) - 1)])) (aaP _);refine ⟨_,rfl,wl,5,_,rfl,by decide,by decide,w1',by lia,fun r2 H2 a2 b2 k2 w2=>?_⟩;have z2:0≤r2 / 2∧r2 / 2 < 3:=by lia
    obtain ⟨cut,hc,c0,c1⟩:=at3 (a:=1+r1) (b:=1) (c:=((ns.map V.int).length:Int) - 1) z2.1 z2.2 (fun i=>1≤i∧i < (ns.length:Int)) (by lia) (by lia) (by rw [hl];lia);have ne1:p1≠wl:=w1.ne n1;refine ⟨_,_,rfl,rfl,⟨by decide,by decide⟩,p1,_,_,_,rfl,rfl,SqL.of (k2 _ _ ne1 ag),hc,?_⟩;have hgl:=ci gs;refine ⟨_,rfl,_,rfl,_,rfl,_,rfl,bQ (by lia),wl,((ae gs).length:Int),_,rfl,by lia,by lia,w2,by lia,fun r3 H3 a3 b3 k3 w3=>?_⟩;obtain ⟨g,hg,gm⟩:=vG (gs:=gs) a3 (by lia);refine ⟨_,_,_,rfl,rfl,bQ (by lia),hg,?_⟩;obtain ⟨cn,rfl⟩:=aby (show 0≤cut by lia);have hcl:cn≤ns.length:=by lia
    have kk:But wl H H3:=((k1.trans (But.new n1 _)).trans k2).trans k3;have er3:=kk _ _ nr er;refine ⟨_,rfl,_,rfl,_,rfl,_,rfl,cn,rfl,r,_,rfl,SqL.of er3,fun p2 n2=>?_⟩;rw [rB ns cn hcl];have lt:(ns.take cn).length=cn:=by rw [aap];lia
    have ld:(ns.drop cn).length=ns.length - cn:=by rw [aaR]
    have w4:=w3.keep (Same.new n2 (.lst ((ns.take cn).map V.int))) (aaP _);refine ⟨_,rfl,wl,p2,gs,ns.take cn,_,rfl,ag,w3.ne n2,by lia,by lia,by lia,g1,g3,w4,by lia,fun vl wyl H4 i4 e4 t4 k4 w5=>?_⟩;have kk4:But wl H H4:=(kk.trans (But.new n2 _)).trans k4;have er4:=kk4 _ _ nr er;refine ⟨_,rfl,_,rfl,_,rfl,cn,rfl,r,_,rfl,SqL.of er4,fun p3 n3=>?_⟩;rw [rE ns cn hcl];have w6:=w5.keep (Same.new n3 (.lst ((ns.drop cn).map V.int))) (aaP _);refine ⟨_,rfl,wl,p3,gs,ns.drop cn,_,rfl,ag,w5.ne n3,by lia,by lia,by lia,g1,g3,w6,by lia,fun vr wyr H5 i5 e5 t5 k5 w7=>?_⟩;refine ⟨(by show 3≤sizeLine;decide),fun p4 n4=>?_⟩;have T45:Tups H4 H5:=(Tups.of (Same.new n3 _)).trans (w6.tups k5);have T5:Tups H5 (upd H5 p4 (.tup [.str ⟨#[g.code]⟩,vl,vr])):=Tups.of (Same.new n4 _);refine q _ (.node g wyl wyr) _ ⟨p4,vl,vr,rfl,?_,i4.mono (T45.trans T5),i5.mono T5⟩ ?_ ⟨gm,t4,t5⟩ (((kk4.trans (But.new n3 _)).trans k5).trans (But.new n4 _)) ?_
    · rw [ag,eE]
    · show wyl.nums++wyr.nums=ns;rw [e4,e5,aaO]
    · refine (w7.keep (Same.new n4 _) (aaP _)).more ?_;lia
end
open PySem L2
inductive Fm where
  | num (i:Int)
  | sum (ts:List (Bool × PyData))
  | times (fs:List PyData)
def sgB:Bool→Str
  | true=>"+"
  | false=>"-"
def tmD (t:Bool × PyData):PyData:=.tuple [.str (sgB t.1),t.2]
def Fm.data:Fm→PyData
  | .num i=>.int i
  | .sum ts=>.tuple [.str "sum",.tuple (ts.map tmD)]
  | .times fs=>.tuple [.str "times",.tuple fs]
def Fm.terms:Fm→List (Bool × PyData)
  | .sum ts=>ts
  | .num i=>[(true,.int i)]
  | .times fs=>[(true,.tuple [.str "times",.tuple fs])]
def Fm.factors:Fm→List PyData
  | .times fs=>fs
  | .num i=>[.int i]
  | .sum ts=>[.tuple [.str "sum",.tuple (ts.map tmD)]]
def turn (ts:List (Bool × PyData)):List (Bool × PyData):=ts.map fun t=>(!t.1,t.2)
def Wy.fm:Wy→Fm
  | .num i=>.num i
  | .node .times l r=>.times (l.fm.factors++r.fm.factors)
  | .node .plus l r=>.sum (l.fm.terms++r.fm.terms)
  | .node .minus l r=>.sum (l.fm.terms++turn r.fm.terms)
theorem lI (ts:List (Bool × PyData)):(turn ts).length=ts.length:=aac _
theorem o5 (ts:List (Bool × PyData)):turn (turn ts)=ts:=by
  induction ts with
  | nil=>rfl
  | cons t r ih=>show ((!(!t.1),t.2) :: turn (turn r))=_;rw [ih,Bool.not_not]
theorem iV (a b:List (Bool × PyData)):turn (a++b)=turn a++turn b:=aan
theorem Wy.fm_len:∀ w:Wy,w.fm.terms.length≤w.size∧w.fm.factors.length≤w.size∧1≤w.fm.terms.length∧1≤w.fm.factors.length
  | .num i=>⟨aab _,aab _,aab _,aab _⟩
  | .node .times l r=>by
    have a:=l.fm_len;have b:=r.fm_len;have zl:=l.size_pos;have zr:=r.size_pos;have e:(Wy.node .times l r).size=l.size+r.size:=rfl;have e2:(Wy.node .times l r).fm.factors.length=l.fm.factors.length+r.fm.factors.length:=aal;have e3:(Wy.node .times l r).fm.terms.length=1:=rfl;lia
  | .node .plus l r=>by
    have a:=l.fm_len;have b:=r.fm_len;have zl:=l.size_pos;have zr:=r.size_pos;have e:(Wy.node .plus l r).size=l.size+r.size:=rfl;have e2:(Wy.node .plus l r).fm.terms.length=l.fm.terms.length+r.fm.terms.length:=aal;have e3:(Wy.node .plus l r).fm.factors.length=1:=rfl;lia
  | .node .minus l r=>by
    have a:=l.fm_len;have b:=r.fm_len;have zl:=l.size_pos;have zr:=r.size_pos;have e:(Wy.node .minus l r).size=l.size+r.size:=rfl;have e2:(Wy.node .minus l r).fm.terms.length=l.fm.terms.length+r.fm.terms.length:=List.length_append.trans (by rw [lI]);have e3:(Wy.node .minus l r).fm.factors.length=1:=rfl;lia
theorem nJ {H:Hp}:∀ {ds:List PyData} {vs:List V},DatAll H ds vs→∀ {i:Nat} {x:V},vs[i]?=some x→∃ d,ds[i]?=some d∧Dat H d x
  | [],vs,h,i,x,e=>by simp only [DatAll] at h;subst h;simp at e
  | d :: ds,vs,h,i,x,e=>by
    simp only [DatAll] at h;obtain ⟨v,r,rfl,h1,h2⟩:=h;cases i with
    | zero=>simp at e;subst e;exact ⟨d,rfl,h1⟩
    | succ i=>exact nJ h2 (by simpa using e)
theorem dg {H:Hp} {p:Addr} {z:Str} {d:PyData} {u:V} (e:H p=some (.tup [.str z,u])) (h:Dat H d u):Dat H (.tuple [.str z,d]) (.ref p):=by
  simp only [Dat,DatAll];exact ⟨p,_,rfl,e,_,_,rfl,rfl,_,_,rfl,h,rfl⟩
theorem cG {H:Hp} {z:Str} {d:PyData} {v:V} (h:Dat H (.tuple [.str z,d]) v):∃ p u,v=.ref p∧H p=some (.tup [.str z,u])∧Dat H d u:=by
  simp only [Dat,DatAll] at h;obtain ⟨a,xs,rfl,e,v1,r1,rfl,rfl,v2,r2,rfl,h2,rfl⟩:=h;exact ⟨a,v2,rfl,e,h2⟩
theorem gJ {H:Hp} {p:Addr} {ds:List PyData} {us:List V} (e:H p=some (.tup us)) (h:DatAll H ds us):Dat H (.tuple ds) (.ref p):=by
  simp only [Dat];exact ⟨p,_,rfl,e,h⟩
theorem gI {H:Hp} {ds:List PyData} {v:V} (h:Dat H (.tuple ds) v):∃ p us,v=.ref p∧H p=some (.tup us)∧DatAll H ds us:=by
  simp only [Dat] at h;exact h
structure Ct (P:Program) (w:World) (K:aaa) (mg:Str→Option Value) (aT:Addr):Prop where
  gTURNED:mg "TURNED" = some (.ref aT)
  dTURNED:KD P w K aT [(.inr "+",.str "-"),(.inr "-",.str "+")]
section
variable {P:Program} {w:World} {K:aaa} {mg:Str→Option Value} {base:Heap} {f:Addr} {fd:FuncData}
def Fm.isK:Fm→Str→Bool
  | .num _,_=>false
  | .sum _,k=>decide (V.str "sum" = V.str k)
  | .times _,k=>decide (V.str "times" = V.str k)
def kA:Sp:=fun vs H Q _=>∃ f v k,vs=[v,.str k]∧Dat H (Fm.data f) v∧Q (.bl (f.isK k)) H
abbrev g_:Stmt:=top 31
theorem m9:FnScope ["form","kind"] ["form","kind"] (al g_):=⟨rfl,rfl,rfl,by decide +kernel,rfl,by decide +kernel,by decide +kernel⟩
theorem nu (F:Fun K "is_kind" "is_kind" g_ f fd) (C_is_whole:Cal P w K mg base "is_whole" 1 ["thing"] (bB K)):FnOk P w K mg base CX0 2 f fd ["form","kind"] kA:=by
  refine F.ok m9 (fun vs H Q E h=>?_) (fun cdv A outer s H vs Q E hr h=>?_)
  · obtain ⟨x,v,k,rfl,_⟩:=h;rfl
  obtain ⟨x,v,k,rfl,hv,q⟩:=h;refine ⟨_,(@ah _ _ _ (@aq _ _ _ _ (@eW _ _ _ _ _ _ _ (@qz _ _ _ _ (@aj _ _ _ _ _ _ _ _ _ _ _ C_is_whole hr (by lia) rfl (@aa _ _ _ _ _ (pv 0) ad (by rfl)) (by decide) (by rfl) (by rfl))) (@fV _ _ _ _ _ (@cA _ _ _ _ _ _ _ _ bE (@aC _ _ _ _ _ _ _ bc (pv 0) ai (fun _ _=>rfl)) (pv 1) (aA _)))))),?_⟩;cases x with
  | num i =>
    have e:v=.int i:=by simpa only [Fm.data,Dat] using hv
    subst e;exact ⟨_,rfl,_,"int",rfl,.int i,true,rfl,false,rfl,aM q⟩
  | sum ts =>
    obtain ⟨p,u,rfl,e,_⟩:=cG hv;exact ⟨_,rfl,_,"tuple",rfl,.tup e,false,rfl,true,rfl,bA ⟨_,rfl,p,_,_,_,rfl,rfl,SqT.of e,rfl,_,rfl,rfl,q⟩⟩
  | times ts =>
    obtain ⟨p,u,rfl,e,_⟩:=cG hv;exact ⟨_,rfl,_,"tuple",rfl,.tup e,false,rfl,true,rfl,bA ⟨_,rfl,p,_,_,_,rfl,rfl,SqT.of e,rfl,_,rfl,rfl,q⟩⟩
def kq:Sp:=fun vs H Q _=>∃ f v,vs=[v]∧Dat H (Fm.data f) v∧∀ a us H',Same H H'→H' a=some (.tup us)→DatAll H' (f.terms.map tmD) us→Q (.ref a) H'
abbrev fK:Stmt:=top 32
theorem lU:FnScope ["form"] ["form"] (al fK):=⟨rfl,rfl,rfl,by decide +kernel,rfl,by decide +kernel,by decide +kernel⟩
theorem ma (F:Fun K "terms_in" "terms_in" fK f fd) (C_is_kind:Cal P w K mg base "is_kind" 2 ["form","kind"] kA):FnOk P w K mg base CX0 3 f fd ["form"] kq:=by
  refine F.ok lU (fun vs H Q E h=>?_) (fun cdv A outer s H vs Q E hr h=>?_)
  · obtain ⟨x,v,rfl,_⟩:=h;rfl
  obtain ⟨x,v,rfl,hv,q⟩:=h;refine ⟨_,(@ah _ _ _ (@aq _ _ _ _ (@bT _ _ _ _ _ _ _ _ (@aR _ _ _ (@aj _ _ _ _ _ _ _ _ _ _ _ C_is_kind hr (by lia) rfl (@aa _ _ _ _ _ (pv 0) (@aa _ _ _ _ _ aB ad (by rfl)) (by rfl)) (by decide) (by rfl) (by rfl)) (by intro _;rfl)) (@aC _ _ _ _ _ _ _ bc (pv 0) ai (fun _ _=>rfl)) (@aQ _ _ _ _ _ (@aa _ _ _ _ _ (@aQ _ _ _ _ _ (@aa _ _ _ _ _ aB (@aa _ _ _ _ _ (pv 0) ad (by rfl)) (by rfl))) ad (by rfl)))))),?_⟩;have alt:(x.isK "sum" = false∧x.terms=[(true,x.data)])∨∃ ts,x=.sum ts:=by
    cases x with
    | sum ts=>exact .inr ⟨ts,rfl⟩
    | num i=>exact .inl ⟨rfl,rfl⟩
    | times fs=>exact .inl ⟨(by decide +kernel:decide (V.str "times" = V.str "sum")=false),rfl⟩
  rcases alt with ⟨k1,k2⟩|⟨ts,rfl⟩
  · refine ⟨_,rfl,x,_,"sum",rfl,hv,false,congrArg V.bl k1,aM ⟨_,rfl,(by show 2≤sizeLine;decide),fun a1 n1=>⟨(by show 1≤sizeLine;decide),fun a2 n2=>?_⟩⟩⟩;have g1:=Same.new n1 (.tup [.str "+",v]);have g2:=Same.new n2 (.tup [.ref a1]);refine q a2 _ _ (g1.trans g2) ag ?_;rw [k2];exact DatAll.one (dg (g2 _ _ ag) (Dat.mono (g1.trans g2) _ _ hv))
  · obtain ⟨p,u,rfl,e,hu⟩:=cG hv;obtain ⟨p2,us,rfl,e2,hus⟩:=gI hu;exact ⟨_,rfl,.sum ts,_,"sum",rfl,hv,true,rfl,bA ⟨_,rfl,p,_,_,_,rfl,rfl,SqT.of e,rfl,q p2 us H (Same.refl _) e2 hus⟩⟩
def gX:Sp:=fun vs H Q _=>∃ f v,vs=[v]∧Dat H (Fm.data f) v∧∀ a us H',Same H H'→H' a=some (.tup us)→DatAll H' f.factors us→Q (.ref a) H'
abbrev dW:Stmt:=top 33
theorem jI:FnScope ["form"] ["form"] (al dW):=⟨rfl,rfl,rfl,by decide +kernel,rfl,by decide +kernel,by decide +kernel⟩
theorem jR (F:Fun K "factors_in" "factors_in" dW f fd) (C_is_kind:Cal P w K mg base "is_kind" 2 ["form","kind"] kA):FnOk P w K mg base CX0 3 f fd ["form"] gX:=by
  refine F.ok jI (fun vs H Q E h=>?_) (fun cdv A outer s H vs Q E hr h=>?_)
  · obtain ⟨x,v,rfl,_⟩:=h;rfl
  obtain ⟨x,v,rfl,hv,q⟩:=h;refine ⟨_,(@ah _ _ _ (@aq _ _ _ _ (@bT _ _ _ _ _ _ _ _ (@aR _ _ _ (@aj _ _ _ _ _ _ _ _ _ _ _ C_is_kind hr (by lia) rfl (@aa _ _ _ _ _ (pv 0) (@aa _ _ _ _ _ aB ad (by rfl)) (by rfl)) (by decide) (by rfl) (by rfl)) (by intro _;rfl)) (@aC _ _ _ _ _ _ _ bc (pv 0) ai (fun _ _=>rfl)) (@aQ _ _ _ _ _ (@aa _ _ _ _ _ (pv 0) ad (by rfl)))))),?_⟩;have alt:(x.isK "times" = false∧x.factors=[x.data])∨∃ ts,x=.times ts:=by
    cases x with
    | times ts=>exact .inr ⟨ts,rfl⟩
    | num i=>exact .inl ⟨rfl,rfl⟩
    | sum fs=>exact .inl ⟨(by decide +kernel:decide (V.str "sum" = V.str "times")=false),rfl⟩
  rcases alt with ⟨k1,k2⟩|⟨ts,rfl⟩
  · refine ⟨_,rfl,x,_,"times",rfl,hv,false,congrArg V.bl k1,aM ⟨_,rfl,(by show 1≤sizeLine;decide),fun a2 n2=>?_⟩⟩;have g2:=Same.new n2 (.tup [v]);refine q a2 _ _ g2 ag ?_;rw [k2];exact DatAll.one (Dat.mono g2 _ _ hv)
  · obtain ⟨p,u,rfl,e,hu⟩:=cG hv;obtain ⟨p2,us,rfl,e2,hus⟩:=gI hu;exact ⟨_,rfl,.times ts,_,"times",rfl,hv,true,rfl,bA ⟨_,rfl,p,_,_,_,rfl,rfl,SqT.of e,rfl,q p2 us H (Same.refl _) e2 hus⟩⟩
def kD (n:Nat):Sp:=fun vs H Q _=>∃ w v,vs=[v]∧WyIn H w v∧w.size≤20∧w.deep≤n∧∀ u H',Same H H'→Dat H' w.fm.data u→Q u H'
abbrev eP:Stmt:=top 30
theorem bo:FnScope ["way","sign","left","right","left_form","right_form","behind"] ["way"] (al eP):=⟨rfl,rfl,rfl,by decide +kernel,rfl,by decide +kernel,by decide +kernel⟩
theorem lb {aT:Addr} (F:Fun K "find_form" "find_form" eP f fd) (bF:Binds K fd ["way"] []) (mF:mg "find_form" = some (.ref f)) (B:Bu K mg) (B2:Ct P w K mg aT) (C_is_whole:Cal P w K mg base "is_whole" 1 ["thing"] (bB K)) (C_factors_in:Cal P w K mg base "factors_in" 3 ["form"] gX) (C_terms_in:Cal P w K mg base "terms_in" 3 ["form"] kq) :
    ∀ n,FnOk P w K mg base CX0 (n+4) f fd ["way"] (kD n):=by
  intro n
  induction n with
  | zero =>
    refine ⟨fun vs H Q E h=>?_,fun A outer s H args us vs Q E _ _ _ _ h=>?_⟩
    · obtain ⟨x,v,rfl,_⟩:=h;rfl
    · obtain ⟨wy,v,_,_,_,hd,_⟩:=h;cases wy <;> exact absurd hd (by simp [Wy.deep])
  | succ n ih =>
    have C_find_form:Cal P w K mg base "find_form" (n+4) ["way"] (kD n):=⟨f,fd,ih,bF,F.kp,mF⟩
    refine F.ok bo (fun vs H Q E h=>?_) (fun cdv A outer s H vs Q E hr h=>?_)
    · obtain ⟨x,v,rfl,_⟩:=h;rfl
    obtain ⟨wy,v,rfl,hw,h20,hd,q⟩:=h;refine ⟨_,(@af _ _ _ _ _ (@aH _ _ _ _ _ _ _ _ (@aR _ _ _ (@aj _ _ _ _ _ _ _ _ _ _ _ C_is_whole hr (by lia) rfl (@aa _ _ _ _ _ (pv 0) ad (by rfl)) (by decide) (by rfl) (by rfl)) (by intro _;rfl)) (@ah _ _ _ (@aq _ _ _ _ (pv 0))) au) (@af _ _ _ _ _ (@cY _ _ _ _ _ _ (pv 0) (@bK _ _ _ _ _ _ rfl (@ao _ _ _ _ _ (@am _ _ (1) _ (bo).nd rfl (Or.inl rfl) (.inl rfl)) (@ao _ _ _ _ _ (@am _ _ (2) _ (bo).nd rfl (Or.inl rfl) (.inl rfl)) (@ao _ _ _ _ _ (@am _ _ (3) _ (bo).nd rfl (Or.inl rfl) (.inl rfl)) aV (by rfl)) (by rfl)) (by rfl)) (by rfl) (by rfl)) (by rfl) (by rfl) (by rfl)) (@af _ _ _ _ _ (@aw _ _ (4) _ _ _ _ (bo).nd rfl (Or.inl rfl) (@aj _ _ _ _ _ _ _ _ _ _ _ C_find_form hr (by lia) rfl (@aa _ _ _ _ _ (pv 2) ad (by rfl)) (by decide) (by rfl) (by rfl)) (by rfl) (by first|exact .inl rfl|exact .inr rfl|assumption)) (@af _ _ _ _ _ (@aw _ _ (5) _ _ _ _ (bo).nd rfl (Or.inl rfl) (@aj _ _ _ _ _ _ _ _ _ _ _ C_find_form hr (by lia) rfl (@aa _ _ _ _ _ (pv 3) ad (by rfl)) (by decide) (by rfl) (by rfl)) (by rfl) (by first|exact .inl rfl|exact .inr rfl|assumption)) (@af _ _ _ _ _ (@aH _ _ _ _ _ _ _ _ (@av _ _ _ _ _ _ _ _ bE (pv 1) aB (aA _)) (@ah _ _ _ (@aq _ _ _ _ (@aQ _ _ _ _ _ (@aa _ _ _ _ _ aB (@aa _ _ _ _ _ (@ay _ _ _ _ _ _ _ _ oB (@aj _ _ _ _ _ _ _ _ _ _ _ C_factors_in hr (by lia) rfl (@aa _ _ _ _ _ (pv 4) ad (by rfl)) (by decide) (by rfl) (by rfl)) (@aj _ _ _ _ _ _ _ _ _ _ _ C_factors_in hr (by lia) rfl (@aa _ _ _ _ _ (pv 5) ad (by rfl)) (by decide) (by rfl) (by rfl))) ad (by rfl)) (by rfl))))) au) (@af _ _ _ _ _ (@aw _ _ (6) _ _ _ _ (bo).nd rfl (Or.inl rfl) (@aj _ _ _ _ _ _ _ _ _ _ _ C_terms_in hr (by lia) rfl (@aa _ _ _ _ _ (pv 5) ad (by rfl)) (by decide) (by rfl) (by rfl)) (by rfl) (by first|exact .inl rfl|exact .inr rfl|assumption)) (@af _ _ _ _ _ (@aH _ _ _ _ _ _ _ _ (@av _ _ _ _ _ _ _ _ bE (pv 1) aB (aA _)) (@ah _ _ _ (@aw _ _ (6) _ _ _ _ (bo).nd rfl (Or.inl rfl) (@cq _ _ _ _ _ _ _ _ _ dz rfl B.ituple aaM (@aa _ _ _ _ _ (@dG _ _ _ _ _ _ _ _ (["head","part"]) ([none,none]) _ _ _ _ rfl (@dw _ _ _ _ (pv 6)) rfl trivial trivial (fun _ _ _ _=>⟨(@fe _ _ _ _ _ _ (2) rfl rfl (@ao _ _ _ _ _ (@am _ _ (0) _ (show aaK (["head","part"]:List Str) by decide +kernel) rfl (Or.inl rfl) (.inr rfl)) (@ao _ _ _ _ _ (@am _ _ (1) _ (show aaK (["head","part"]:List Str) by decide +kernel) rfl (Or.inl rfl) (.inr rfl)) aV (by rfl)) (by rfl)) (by rfl) (by rfl)),aU,(@aQ _ _ _ _ _ (@aa _ _ _ _ _ (@gw _ _ _ _ _ _ _ _ _ _ _ B2.dTURNED rfl rfl rfl (@bi _ _ (.ref aT) _ _ rfl B2.gTURNED rfl (by decide)) rfl (pv 0) (fun _ _=>rfl)) (@aa _ _ _ _ _ (pv 1) ad (by rfl)) (by rfl)))⟩) (by rfl) (by rfl) (by rfl) (by rfl) (by intro _;rfl)) ad (by rfl)) (by decide) (by decide) (by rfl) (by rfl)) (by rfl) (by first|exact .inl rfl|exact .inr rfl|assumption))) au) (@ah _ _ _ (@aq _ _ _ _ (@aQ _ _ _ _ _ (@aa _ _ _ _ _ aB (@aa _ _ _ _ _ (@ay _ _ _ _ _ _ _ _ oB (@aj _ _ _ _ _ _ _ _ _ _ _ C_terms_in hr (by lia) rfl (@aa _ _ _ _ _ (pv 4) ad (by rfl)) (by decide) (by rfl) (by rfl)) (pv 6)) ad (by rfl)) (by rfl)))))))))))),?_⟩;cases wy with
    | num i =>
      cases hw;exact ⟨_,rfl,_,"int",rfl,.int i,true,rfl,bA ⟨_,rfl,q _ H (Same.refl _) (by simp only [Wy.fm,Fm.data,Dat])⟩⟩
    | node g l r =>
      obtain ⟨a,vl,vr,rfl,ha,hl,hr'⟩:=hw;refine ⟨_,rfl,_,"tuple",rfl,.tup ha,false,rfl,aM ?_⟩;have d:max l.deep r.deep+1≤n+1:=hd;have z:l.size+r.size≤20:=h20;have zl:=l.size_pos;have zr:=r.size_pos;have fl:=l.fm_len;have fr:=r.fm_len;refine ⟨_,rfl,a,_,rfl,SqT.of ha,rfl,_,_,rfl,_,_,rfl,_,_,rfl,rfl,?_⟩;refine ⟨_,rfl,l,vl,rfl,hl,by lia,by lia,fun ul H1 g1 i1=>?_⟩;refine ⟨_,rfl,r,vr,rfl,hr'.mono (Tups.of g1),by lia,by lia,fun ur H2 g2 i2=>?_⟩;have i1':=Dat.mono g2 _ _ i1;cases g with
      | times =>
        refine ⟨_,rfl,rfl,_,rfl,fD rfl ?_⟩;refine ⟨_,rfl,l.fm,ul,rfl,i1',fun a3 us3 H3 g3 e3 d3=>?_⟩;refine ⟨_,rfl,r.fm,ur,rfl,Dat.mono g3 _ _ i2,fun a4 us4 H4 g4 e4 d4=>?_⟩;have e3':=g4 _ _ e3;have d3':=DatAll.mono g4 _ _ d3;have n3:=d3.len;have n4:=d4.len;refine ⟨a3,a4,us3,us4,rfl,rfl,SqT.of e3',SqT.of e4,(fun z=>by rw [z,abv] at n3;lia),bQ (by lia),(fun z=>by rw [z,abv] at n4;lia),fun _ p5 n5=>⟨(by show 2≤sizeLine;decide),fun p6 n6=>?_⟩⟩;have g5:=Same.new n5 (.tup (us3++us4));have g6:=Same.new n6 (.tup [.str "times",.ref p5]);refine q _ _ (((((g1.trans g2).trans g3).trans g4).trans g5).trans g6) ?_;exact dg ag (gJ (g6 _ _ ag) (DatAll.mono (g5.trans g6) _ _ (DatAll.app d3' d4)))
      | plus =>
        refine ⟨_,rfl,rfl,_,rfl,e_ (by decide +kernel) ?_⟩;refine ⟨_,rfl,r.fm,ur,rfl,i2,fun a4 us4 H4 g4 e4 d4=>?_⟩;refine ⟨_,rfl,rfl,_,rfl,e_ (by decide +kernel) ?_⟩;refine ⟨_,rfl,l.fm,ul,rfl,Dat.mono g4 _ _ i1',fun a3 us3 H3 g3 e3 d3=>?_⟩;have e4':=g3 _ _ e4;have d4':=DatAll.mono g3 _ _ d4;have n3:=d3.len;have n4:=d4.len;rw [aac] at n3 n4;refine ⟨_,rfl,a3,a4,us3,us4,rfl,rfl,SqT.of e3,SqT.of e4',(fun z=>by rw [z,abv] at n3;lia),bQ (by lia),(fun z=>by rw [z,abv] at n4;lia),fun _ p5 n5=>⟨(by show 2≤sizeLine;decide),fun p6 n6=>?_⟩⟩;have g5:=Same.new n5 (.tup (us3++us4));have g6:=Same.new n6 (.tup [.str "sum",.ref p5]);refine q _ _ (((((g1.trans g2).trans g4).trans g3).trans g5).trans g6) ?_;refine dg ag (gJ (g6 _ _ ag) ?_);rw [aan];exact DatAll.mono (g5.trans g6) _ _ (DatAll.app d3 d4')
      | minus =>
        refine ⟨_,rfl,rfl,_,rfl,e_ (by decide +kernel) ?_⟩;refine ⟨_,rfl,r.fm,ur,rfl,i2,fun a4 us4 H4 g4 e4 d4=>?_⟩;have n4:=d4.len;rw [aac] at n4;refine ⟨_,rfl,rfl,_,rfl,fD rfl ?_⟩;refine ⟨_,rfl,a4,rfl,⟨_,SqT.of e4⟩,?_⟩;refine qL (xs:=us4) (fun i ys H'=>Same H4 H'∧ys.length=i∧DatAll H' ((turn (r.fm.terms.take i)).map tmD) ys) ⟨Same.refl _,rfl,by simp only [abK,turn,abE,DatAll]⟩ (fun i ys H' hi p=>⟨SqT.of (p.1 _ _ e4),aE (by lia)⟩) (fun i x ys H' hx p nx=>?_) (fun ys H5 p p5 n5=>?_)
        · obtain ⟨gp,lp,dp⟩:=p;obtain ⟨dd,hd1,hd2⟩:=nJ d4 hx;rw [aao] at hd1;obtain ⟨t,ht,rfl⟩:=aaG.mp hd1;obtain ⟨pc,u,rfl,ec,hu⟩:=cG hd2;have ec':=gp _ _ ec;have hu':=Dat.mono gp _ _ hu;refine ⟨pc,_,rfl,SqT.of ec',rfl,_,_,rfl,_,_,rfl,rfl,?_⟩;have key:bW [((.inr "+":Key),V.str "-"),(.inr "-",.str "+")] (.inr (sgB t.1))=some (.str (sgB (!t.1))):=by
            cases t.1 <;> decide +kernel
          refine ⟨_,rfl,.inr (sgB t.1),_,rfl,key,_,rfl,(by show 2≤sizeLine;decide),fun p5 n5=>nx ?_⟩;have g5:=Same.new n5 (.tup [.str (sgB (!t.1)),u]);refine ⟨gp.trans g5,by rw [aal,lp];rfl,?_⟩;have et:(r.fm.terms.take (i+1))=r.fm.terms.take i++[t]:=by
            rw [aaU,ht];rfl
          rw [et,iV,aan];exact DatAll.app (DatAll.mono g5 _ _ dp) (DatAll.one (dg ag (Dat.mono g5 _ _ hu')))
        obtain ⟨gp,lp,dp⟩:=p;rw [aaL (by lia)] at dp;have g5:=Same.new n5 (.lst ys);refine ⟨p5,ys,rfl,.inl ⟨SqL.of ag,fun p6 n6=>?_⟩⟩;have g6:=Same.new n6 (.tup ys);have G6:=(gp.trans g5).trans g6;refine ⟨_,rfl,l.fm,ul,rfl,Dat.mono (g4.trans G6) _ _ i1',fun a3 us3 H3 g3 e3 d3=>?_⟩;have n3:=d3.len;rw [aac] at n3;have ny:=dp.len;rw [aac,lI] at ny;have e6:=g3 _ _ (ag (H:=upd H5 p5 (.lst ys)) (a:=p6) (o:=.tup ys));refine ⟨_,rfl,a3,p6,us3,ys,rfl,rfl,SqT.of e3,SqT.of e6,(fun z=>by rw [z,abv] at n3;lia),bQ (by lia),(fun z=>by rw [z,abv] at ny;lia),fun _ p7 n7=>⟨(by show 2≤sizeLine;decide),fun p8 n8=>?_⟩⟩;have g7:=Same.new n7 (.tup (us3++ys));have g8:=Same.new n8 (.tup [.str "sum",.ref p7]);refine q _ _ (((((g1.trans g2).trans g4).trans G6).trans g3).trans (g7.trans g8)) ?_;refine dg ag (gJ (g8 _ _ ag) ?_);rw [aan];exact DatAll.app (DatAll.mono (g7.trans g8) _ _ d3) (DatAll.mono ((g5.trans g6).trans (g3.trans (g7.trans g8))) _ _ dp)
def ge:Sp:=fun vs H Q _=>∃ w v,vs=[v]∧WyIn H w v∧w.size≤9∧∀ u H',Same H H'→Dat H' w.fm.data u→Q u H'
abbrev hU:Stmt:=top 29
theorem m_:FnScope ["way"] ["way"] (al hU):=⟨rfl,rfl,rfl,by decide +kernel,rfl,by decide +kernel,by decide +kernel⟩
theorem nz (F:Fun K "form_of" "form_of" hU f fd) (C_need_way:Cal P w K mg base "need_way" 3 ["thing"] dB) (C_find_form:Cal P w K mg base "find_form" 24 ["way"] (kD 20)):FnOk P w K mg base CX0 25 f fd ["way"] ge:=by
  refine F.ok m_ (fun vs H Q E h=>?_) (fun cdv A outer s H vs Q E hr h=>?_)
  · obtain ⟨x,v,rfl,_⟩:=h;rfl
  obtain ⟨wy,v,rfl,hw,h9,q⟩:=h;refine ⟨_,(@af _ _ _ _ _ (@bv _ _ _ _ (@aj _ _ _ _ _ _ _ _ _ _ _ C_need_way hr (by lia) rfl (@aa _ _ _ _ _ (pv 0) ad (by rfl)) (by decide) (by rfl) (by rfl)) (by rfl)) (@ah _ _ _ (@aq _ _ _ _ (@aj _ _ _ _ _ _ _ _ _ _ _ C_find_form hr (by lia) rfl (@aa _ _ _ _ _ (pv 0) ad (by rfl)) (by decide) (by rfl) (by rfl))))),?_⟩;refine ⟨_,rfl,wy,v,rfl,hw,h9,fun H1 g1=>?_⟩;have dl:=wy.deep_le;exact ⟨_,rfl,wy,v,rfl,hw.mono (Tups.of g1),by lia,by lia,fun u H2 g2 i2=>q u H2 (g1.trans g2) i2⟩
end
open PySem L2
mutual
def szD:PyData→Nat
  | .tuple ds=>szAll ds+1
  | .list _=>1
  | .none=>1
  | .bool _=>1
  | .int _=>1
  | .str _=>1
  | .dict _=>1
def szAll:List PyData→Nat
  | []=>0
  | d :: ds=>szD d+szAll ds
end
mutual
def TOk:PyData→Prop
  | .int i=>i.natAbs < 2 ^ 131
  | .str x=>(reprText x).length≤20
  | .tuple ds=>TOkA ds
  | .none=>False
  | .bool _=>False
  | .list _=>False
  | .dict _=>False
def TOkA:List PyData→Prop
  | []=>True
  | d :: ds=>TOk d∧TOkA ds
end
theorem oF {i:Int} {k:Nat} (h:i.natAbs < 2 ^ k) (hk:0 < k):i.natAbs.log2 < k:=by
  by_cases c:i.natAbs=0
  · rw [c];exact hk
  · exact (Nat.log2_lt c).mpr h
mutual
theorem ee : ∀ d:PyData,TOk d→d.showable=true
  | .int i,h=>by
    simp only [TOk] at h;have:=oF h (by decide);simp only [PyData.showable];exact decide_eq_true (by lia)
  | .str _,h=>by simp [PyData.showable]
  | .tuple ds,h=>by simp only [TOk] at h;simp only [PyData.showable];exact tok_showAll ds h
  | .none,h=>by simp [TOk] at h
  | .bool _,h=>by simp [TOk] at h
  | .list _,h=>by simp [TOk] at h
  | .dict _,h=>by simp [TOk] at h
theorem tok_showAll:∀ ds:List PyData,TOkA ds→PyData.showableAll ds=true
  | [],h=>by simp [PyData.showableAll]
  | d :: ds,h=>by
    simp only [TOkA] at h;simp only [PyData.showableAll,ee d h.1,tok_showAll ds h.2,Bool.and_self]
end
mutual
theorem nV:∀ d:PyData,TOk d→d.shown.length+5≤150 * szD d
  | .int i,h=>by
    simp only [TOk] at h;have e:=int_text_length_le (a:=i) (k:=132) (by decide) (by have:=oF h (by decide);lia);simp only [szD];show (Str.ofString (toString i)).length+5≤150;rw [ofString_length];lia
  | .str x,h=>by
    simp only [TOk] at h;simp only [szD,PyData.shown];lia
  | .tuple ds,h=>by
    simp only [TOk] at h;have a:=tok_lenAll ds h;have b:=tupleText_len_le (PyData.shownAll ds);have c:=PyData.shownAll_length ds;simp only [szD,PyData.shown];lia
  | .none,h=>by simp [TOk] at h
  | .bool _,h=>by simp [TOk] at h
  | .list _,h=>by simp [TOk] at h
  | .dict _,h=>by simp [TOk] at h
theorem tok_lenAll:∀ ds:List PyData,TOkA ds→((PyData.shownAll ds).map (·.length)).sum+5 * ds.length≤150 * szAll ds
  | [],h=>by simp [PyData.shownAll,szAll]
  | d :: ds,h=>by
    simp only [TOkA] at h;have a:=nV d h.1;have b:=tok_lenAll ds h.2;simp only [PyData.shownAll,szAll,aaz,abl,aaQ];lia
end
theorem f_ {d:PyData} (h:TOk d) (hs:szD d≤1000):d.shown.length≤sizeLine:=by
  have:=nV d h;exact aaW (show _≤400000 by lia) (by rw [sizeLine_eq];decide)
mutual
theorem eu {H H':Hp} (t:Tups H H'):∀ (d:PyData) (v:V),TOk d→Dat H d v→Dat H' d v
  | .int i,v,_,h=>by simp only [Dat] at h ⊢;exact h
  | .str x,v,_,h=>by simp only [Dat] at h ⊢;exact h
  | .tuple ds,v,k,h=>by
    simp only [TOk] at k;simp only [Dat] at h ⊢;obtain ⟨a,xs,e,h1,h2⟩:=h;exact ⟨a,xs,e,t _ _ h1,tokA_mono t ds xs k h2⟩
  | .none,v,k,h=>by simp [TOk] at k
  | .bool _,v,k,h=>by simp [TOk] at k
  | .list _,v,k,h=>by simp [TOk] at k
  | .dict _,v,k,h=>by simp [TOk] at k
theorem tokA_mono {H H':Hp} (t:Tups H H'):∀ (ds:List PyData) (vs:List V),TOkA ds→DatAll H ds vs→DatAll H' ds vs
  | [],vs,_,h=>by simp only [DatAll] at h ⊢;exact h
  | d :: ds,vs,k,h=>by
    simp only [TOkA] at k;simp only [DatAll] at h ⊢;obtain ⟨v,r,e,h1,h2⟩:=h;exact ⟨v,r,e,eu t d v k.1 h1,tokA_mono t ds r k.2 h2⟩
end
theorem kn:∀ {ds:List PyData},(∀ d∈ds,TOk d)→TOkA ds
  | [],_=>by simp [TOkA]
  | d :: ds,h=>by simp only [TOkA];exact ⟨h d aai,kn fun x hx=>h x (aae _ hx)⟩
theorem gQ:∀ a b:List PyData,szAll (a++b)=szAll a+szAll b
  | [],b=>by simp [szAll]
  | d :: a,b=>by show szD d+szAll (a++b)=szD d+szAll a+szAll b;rw [gQ a b];lia
theorem iq {k:Nat}:∀ {ds:List PyData},(∀ d∈ds,d.depth≤k)→abj ds≤k
  | [],_=>by simp [abj]
  | d :: ds,h=>by
    have a:=h d aai;have b:=iq (k:=k) (ds:=ds) fun x hx=>h x (aae _ hx);simp only [abj];lia
def Wy.Bd (w:Wy):Prop:=∀ i∈w.nums,i.natAbs < 2 ^ 131
theorem Wy.Bd.l {g:Sg} {l r:Wy} (h:(Wy.node g l r).Bd):l.Bd:=fun i hi=>h i (abI _ hi)
theorem Wy.Bd.r {g:Sg} {l r:Wy} (h:(Wy.node g l r).Bd):r.Bd:=fun i hi=>h i (aaj _ hi)
theorem tV (b:Bool):(reprText (sgB b)).length≤20:=by cases b <;> decide +kernel
theorem tG {t:Bool × PyData} (h:TOk t.2):TOk (tmD t):=by
  simp only [tmD,TOk,TOkA];exact ⟨tV _,h,trivial⟩
theorem tP {ts:List (Bool × PyData)} (h:∀ t∈ts,TOk t.2):TOk (.tuple [.str "sum",.tuple (ts.map tmD)]):=by
  simp only [TOk,TOkA];refine ⟨by decide +kernel,kn fun d hd=>?_,trivial⟩;obtain ⟨t,ht,rfl⟩:=abf.mp hd;exact tG (h t ht)
theorem pZ {fs:List PyData} (h:∀ d∈fs,TOk d):TOk (.tuple [.str "times",.tuple fs]):=by
  simp only [TOk,TOkA];exact ⟨by decide +kernel,kn h,trivial⟩
theorem qK {ts:List (Bool × PyData)} {t:Bool × PyData} (h:t∈turn ts):∃ u∈ts,t.2=u.2:=by
  obtain ⟨u,hu,rfl⟩:=abf.mp h;exact ⟨u,hu,rfl⟩
theorem rP {ts:List (Bool × PyData)} {k:Nat} (h:∀ t∈ts,t.2.depth≤k):(PyData.tuple [.str "sum",.tuple (ts.map tmD)]).depth≤k+3:=by
  have a:abj (ts.map tmD)≤k+1:=iq fun d hd=>by
    obtain ⟨t,ht,rfl⟩:=abf.mp hd;have:=h t ht;simp only [tmD,PyData.depth,abj];lia
  simp only [PyData.depth,abj];lia
theorem o8 {fs:List PyData} {k:Nat} (h:∀ d∈fs,d.depth≤k):(PyData.tuple [.str "times",.tuple fs]).depth≤k+3:=by
  have a:abj fs≤k:=iq h;simp only [PyData.depth,abj];lia
def szT (ts:List (Bool × PyData)):Nat:=szAll (ts.map tmD)
theorem nZ (a b:List (Bool × PyData)):szT (a++b)=szT a+szT b:=by simp only [szT,aan,gQ]
theorem lL:∀ ts:List (Bool × PyData),szT (turn ts)=szT ts
  | []=>rfl
  | t :: r=>by
    have ih:=lL r;have e:szT (turn (t :: r))=szD (tmD (!t.1,t.2))+szT (turn r):=rfl;have e2:szT (t :: r)=szD (tmD t)+szT r:=rfl;rw [e,e2,ih];simp only [tmD,szD,szAll]
theorem nY (b:Bool) (d:PyData):szT [(b,d)]=szD d+2:=by simp only [szT,aaz,abE,tmD,szAll,szD];lia
theorem tO (ts:List (Bool × PyData)):szD (.tuple [.str "sum",.tuple (ts.map tmD)])=szT ts+3:=by simp only [szD,szAll,szT];lia
theorem pY (fs:List PyData):szD (.tuple [.str "times",.tuple fs])=szAll fs+3:=by simp only [szD,szAll];lia
structure FmOk (w:Wy):Prop where
  t:∀ t∈w.fm.terms,TOk t.2∧t.2.depth+3≤3 * w.deep
  f:∀ d∈w.fm.factors,TOk d∧d.depth+3≤3 * w.deep
  d:TOk w.fm.data
  dd:w.fm.data.depth+3≤3 * w.deep
  st:szT w.fm.terms+5≤8 * w.size
  sf:szAll w.fm.factors+5≤8 * w.size
  sd:szD w.fm.data+2≤8 * w.size
theorem sV {w l r:Wy} {ts:List (Bool × PyData)} (e:w.fm=.sum ts) (hd:w.deep=max l.deep r.deep+1) (hs:w.size=l.size+r.size) (h:∀ t∈ts,TOk t.2∧(t.2.depth+3≤3 * l.deep∨t.2.depth+3≤3 * r.deep)) (z:szT ts+10≤8 * (l.size+r.size)):FmOk w:=by
  have et:w.fm.terms=ts:=by rw [e];rfl
  have ef:w.fm.factors=[.tuple [.str "sum",.tuple (ts.map tmD)]]:=by rw [e];rfl
  have ed:w.fm.data=.tuple [.str "sum",.tuple (ts.map tmD)]:=by rw [e];rfl
  have k1:=tP (ts:=ts) fun t ht=>(h t ht).1;have k2:=rP (ts:=ts) (k:=3 * (max l.deep r.deep) - 3) fun t ht=>by have:=(h t ht).2;lia
  have k3:=tO ts;have hp:1≤max l.deep r.deep:=by
    have : 1≤l.deep:=by cases l <;> simp [Wy.deep]
    lia
  refine ⟨fun t ht=>?_,fun d hd'=>?_,by rw [ed];exact k1,by rw [ed];lia,by rw [et];lia,by rw [ef];simp only [szAll];lia,by rw [ed];lia⟩
  · rw [et] at ht;have:=h t ht;exact ⟨this.1,by lia⟩
  · rw [ef] at hd';cases aau.mp hd';exact ⟨k1,by lia⟩
theorem rK {w l r:Wy} {fs:List PyData} (e:w.fm=.times fs) (hd:w.deep=max l.deep r.deep+1) (hs:w.size=l.size+r.size) (h:∀ d∈fs,TOk d∧(d.depth+3≤3 * l.deep∨d.depth+3≤3 * r.deep)) (z:szAll fs+10≤8 * (l.size+r.size)):FmOk w:=by
  have et:w.fm.terms=[(true,.tuple [.str "times",.tuple fs])]:=by rw [e];rfl
  have ef:w.fm.factors=fs:=by rw [e];rfl
  have ed:w.fm.data=.tuple [.str "times",.tuple fs]:=by rw [e];rfl
  have k1:=pZ (fs:=fs) fun t ht=>(h t ht).1;have k2:=o8 (fs:=fs) (k:=3 * (max l.deep r.deep) - 3) fun t ht=>by have:=(h t ht).2;lia
  have k3:=pY fs;have hp:1≤max l.deep r.deep:=by
    have : 1≤l.deep:=by cases l <;> simp [Wy.deep]
    lia
  refine ⟨fun t ht=>?_,fun d hd'=>?_,by rw [ed];exact k1,by rw [ed];lia,by rw [et,nY];lia,by rw [ef];lia,by rw [ed];lia⟩
  · rw [et] at ht;cases aau.mp ht;exact ⟨k1,by show (PyData.tuple [.str "times",.tuple fs]).depth+3≤_;lia⟩
  · rw [ef] at hd';have:=h d hd';exact ⟨this.1,by lia⟩
theorem Wy.fm_ok:∀ w:Wy,w.Bd→FmOk w
  | .num i,h=>by
    have hi:=h i aai;have k:TOk (.int i):=by simp only [TOk];exact hi
    have z:(PyData.int i).depth=0:=by simp [PyData.depth]
    have y:(Wy.num i).deep=1:=rfl;refine ⟨fun t ht=>?_,fun d hd=>?_,k,?_,?_,?_,?_⟩
    · cases aau.mp (show t∈[(true,PyData.int i)] from ht);exact ⟨k,by show (PyData.int i).depth+3≤_;lia⟩
    · cases aau.mp (show d∈[PyData.int i] from hd);exact ⟨k,by lia⟩
    · show (PyData.int i).depth+3≤_;lia
    · show szT [(true,.int i)]+5≤8 * 1;rw [nY];simp [szD]
    · show szAll [.int i]+5≤8 * 1;simp [szAll,szD]
    · show szD (.int i)+2≤8 * 1;simp [szD]
  | .node .times l r,h=>by
    have a:=l.fm_ok h.l;have b:=r.fm_ok h.r;refine rK (l:=l) (r:=r) rfl rfl rfl (fun d hd=>?_) ?_
    · rcases aaB.mp hd with z|z
      · exact ⟨(a.f d z).1,.inl (a.f d z).2⟩
      · exact ⟨(b.f d z).1,.inr (b.f d z).2⟩
    · have:=a.sf;have:=b.sf;rw [gQ];lia
  | .node .plus l r,h=>by
    have a:=l.fm_ok h.l;have b:=r.fm_ok h.r;refine sV (l:=l) (r:=r) rfl rfl rfl (fun d hd=>?_) ?_
    · rcases aaB.mp hd with z|z
      · exact ⟨(a.t d z).1,.inl (a.t d z).2⟩
      · exact ⟨(b.t d z).1,.inr (b.t d z).2⟩
    · have:=a.st;have:=b.st;rw [nZ];lia
  | .node .minus l r,h=>by
    have a:=l.fm_ok h.l;have b:=r.fm_ok h.r;refine sV (l:=l) (r:=r) rfl rfl rfl (fun d hd=>?_) ?_
    · rcases aaB.mp hd with z|z
      · exact ⟨(a.t d z).1,.inl (a.t d z).2⟩
      · obtain ⟨u,hu,e⟩:=qK z;rw [e];exact ⟨(b.t u hu).1,.inr (b.t u hu).2⟩
    · have:=a.st;have:=b.st;rw [nZ,lL];lia
open PySem L2
section
variable {P:Program} {w:World} {K:aaa} {mg:Str→Option Value} {base:Heap} {f:Addr} {fd:FuncData}
end
open PySem L2
structure Cp (K:aaa) (mg:Str→Option Value) (tk:Tok) (aP:Addr):Prop where
  gMOST_NUMBERS:mg "MOST_NUMBERS" = some (.int 9 tk)
  gSIGNS_TO_PUT:mg "SIGNS_TO_PUT" = some (.ref aP)
  sSIGNS_TO_PUT:∀ H,SqT K H aP kH
section
variable {P:Program} {w:World} {K:aaa} {mg:Str→Option Value} {base:Heap} {f:Addr} {fd:FuncData}
def kC:Sp:=fun vs H Q _=>∃ (a:Addr) (ns:List Int),vs=[.ref a]∧H a=some (.lst (ns.map V.int))∧1≤ns.length∧ns.length≤9∧∀ H',Same H H'→Q (.bl true) H'
abbrev je:Stmt:=top 12
theorem pB:FnScope ["thing"] ["thing"] (al je):=⟨rfl,rfl,rfl,by decide +kernel,rfl,by decide +kernel,by decide +kernel⟩
theorem pH {tk:Tok} {aP:Addr} (F:Fun K "is_row" "is_row" je f fd) (B:Bu K mg) (B3:Cp K mg tk aP) (C_is_whole:Cal P w K mg base "is_whole" 1 ["thing"] (bB K)):FnOk P w K mg base CX0 2 f fd ["thing"] kC:=by
  refine F.ok pB (fun vs H Q E h=>?_) (fun cdv A outer s H vs Q E hr h=>?_)
  · obtain ⟨x,v,rfl,_⟩:=h;rfl
  obtain ⟨a,ns,rfl,ea,h1,h2,q⟩:=h;refine ⟨_,(@af _ _ _ _ _ (@aH _ _ _ _ _ _ _ _ (@PW.pt _ _ _ (@fB _ _ _ _ _ _ _ (@bJ _ _ _ _ (@aR _ _ _ (@ap _ _ _ _ _ _ _ _ _ (@aI _ ("list")) rfl B.iisinstance aar (@aa _ _ _ _ _ (pv 0) (@aa _ _ _ _ _ (@bM _ _ (.ty "list") _ _ rfl B.ilist PyProof.Rows.boot_list rfl (by decide) (by decide)) ad (by rfl)) (by rfl)) (by decide) (by decide) (by rfl) (by rfl)) (by intro _;rfl))) (@eT _ _ _ _ (@bJ _ _ _ _ (@jh _ _ _ _ _ _ _ _ _ _ _ _ iA iA ai (@ap _ _ _ _ _ _ _ _ _ ar rfl B.ilen aay (@aa _ _ _ _ _ (pv 0) ad (by rfl)) (by decide) (by decide) (by rfl) (by rfl)) (@bi _ _ (.int 9) _ _ rfl B3.gMOST_NUMBERS ⟨_,rfl⟩ (by decide)) (by with_unfolding_all rfl)))))) (@ah _ _ _ (@aq _ _ _ _ cZ)) au) (@ah _ _ _ (@aq _ _ _ _ (@ap _ _ _ _ _ _ _ _ _ (@jC _ rfl) rfl B.iall abW (@aa _ _ _ _ _ (@dG _ _ _ _ _ _ _ _ (["number"]) ([none]) _ _ _ _ rfl (@b_ _ _ _ _ (pv 0)) rfl trivial trivial (fun _ _ _ _=>⟨(@am _ _ (0) _ (show aaK (["number"]:List Str) by decide +kernel) rfl (Or.inl rfl) (.inr rfl)),aU,(@aj _ _ _ _ _ _ _ _ _ _ _ C_is_whole hr (by lia) rfl (@aa _ _ _ _ _ (pv 0) ad (by rfl)) (by decide) (by rfl) (by rfl))⟩) (by rfl) (by rfl) (by rfl) (by rfl) (by intro _;rfl)) ad (by rfl)) (by decide) (by decide) (by rfl) (by rfl))))),?_⟩;have hl:(ns.map V.int).length=ns.length:=aac _;refine ⟨_,rfl,_,_,true,rfl,.lst ea,rfl,true,rfl,aM ?_⟩;refine ⟨_,rfl,a,_,rfl,.inl (SqL.of ea),_,_,rfl,rfl,true,congrArg V.bl (decide_eq_true (by lia)),bA ?_⟩;refine ⟨_,_,rfl,rfl,true,congrArg V.bl (decide_eq_true (by lia)),aM ?_⟩;refine ⟨_,rfl,a,rfl,⟨_,SqL.of ea⟩,?_⟩;refine eZ (Trn.list (xs:=ns.map V.int)) (fun i ys H'=>H'=H∧ys=(aaw i true).map V.bl) ⟨rfl,rfl⟩ (fun i ys H' hi p=>by rw [p.1,p.2];exact ⟨SqL.of ea,aE (by simp;lia)⟩) (fun i x ys H1 H' hi hx p Nx nx=>?_) (fun ys H' p p5 n5=>?_)
  · obtain ⟨rfl,rfl⟩:=p;obtain ⟨rfl,hx⟩:=hx;rw [aao] at hx;obtain ⟨c,_,rfl⟩:=aaG.mp hx;refine ⟨_,rfl,_,_,rfl,.int c,nx _ _ ⟨rfl,?_⟩⟩;rw [List.replicate_succ',aan];rfl
  obtain ⟨rfl,rfl⟩:=p;refine ⟨p5,_,rfl,SqL.of ag,?_⟩;have e:((aaw (ns.map V.int).length true).all id)=true:=by simp
  rw [e];exact q _ (Same.new n5 _)
def fc:Sp:=fun vs H Q _=>∃ (a:Addr) (ns:List Int),vs=[.ref a]∧H a=some (.lst (ns.map V.int))∧1≤ns.length∧ns.length≤9∧∀ H',Same H H'→Q .non H'
abbrev fP:Stmt:=top 17
theorem lY:FnScope ["thing"] ["thing"] (al fP):=⟨rfl,rfl,rfl,by decide +kernel,rfl,by decide +kernel,by decide +kernel⟩
theorem mj (F:Fun K "need_row" "need_row" fP f fd) (C_is_row:Cal P w K mg base "is_row" 2 ["thing"] kC):FnOk P w K mg base CX0 3 f fd ["thing"] fc:=by
  refine F.ok lY (fun vs H Q E h=>?_) (fun cdv A outer s H vs Q E hr h=>?_)
  · obtain ⟨x,v,rfl,_⟩:=h;rfl
  obtain ⟨a,ns,rfl,ea,h1,h2,q⟩:=h;refine ⟨_,(@ah _ _ _ (@aH _ _ _ _ _ _ _ _ (@bJ _ _ _ _ (@aR _ _ _ (@aj _ _ _ _ _ _ _ _ _ _ _ C_is_row hr (by lia) rfl (@aa _ _ _ _ _ (pv 0) ad (by rfl)) (by decide) (by rfl) (by rfl)) (by intro _;rfl))) (@ah _ _ _ dE) au)),?_⟩;exact ⟨_,rfl,a,ns,rfl,ea,h1,h2,fun H' hS=>⟨true,rfl,aM (q H' hS)⟩⟩
def i6:Sp:=fun vs H Q _=>∃ n:Int,vs=[.int n]∧1≤n∧n≤9∧Q (.bl true) H
abbrev g9:Stmt:=top 14
theorem m8:FnScope ["thing"] ["thing"] (al g9):=⟨rfl,rfl,rfl,by decide +kernel,rfl,by decide +kernel,by decide +kernel⟩
theorem nq {tk:Tok} {aP:Addr} (F:Fun K "is_many" "is_many" g9 f fd) (B:Bu K mg) (B3:Cp K mg tk aP) (C_is_whole:Cal P w K mg base "is_whole" 1 ["thing"] (bB K)):FnOk P w K mg base CX0 2 f fd ["thing"] i6:=by
  refine F.ok m8 (fun vs H Q E h=>?_) (fun cdv A outer s H vs Q E hr h=>?_)
  · obtain ⟨n,rfl,_⟩:=h;rfl
  obtain ⟨n,rfl,h1,h2,q⟩:=h;refine ⟨_,(@ah _ _ _ (@aq _ _ _ _ (@eW _ _ _ _ _ _ _ (@aj _ _ _ _ _ _ _ _ _ _ _ C_is_whole hr (by lia) rfl (@aa _ _ _ _ _ (pv 0) ad (by rfl)) (by decide) (by rfl) (by rfl)) (@fV _ _ _ _ _ (@qC _ _ _ _ _ _ _ _ _ _ _ _ iA iA ai (pv 0) (@bi _ _ (.int 9) _ _ rfl B3.gMOST_NUMBERS ⟨_,rfl⟩ (by decide)) (by with_unfolding_all rfl)))))),?_⟩;refine ⟨_,rfl,_,_,rfl,.int n,true,rfl,bA ⟨_,rfl,_,_,rfl,rfl,true,congrArg V.bl (decide_eq_true (by lia)),bA ⟨_,_,rfl,rfl,?_⟩⟩⟩;show Q (.bl (decide (n≤9))) H;rw [decide_eq_true (by lia)];exact q
def gU:Sp:=fun vs H Q _=>∃ gs,vs=[.str (ae gs)]∧aX gs∧Q (.bl true) H
abbrev fR:Stmt:=top 13
theorem l4:FnScope ["thing"] ["thing"] (al fR):=⟨rfl,rfl,rfl,by decide +kernel,rfl,by decide +kernel,by decide +kernel⟩
theorem mr {tk:Tok} {aP:Addr} (F:Fun K "is_signs" "is_signs" fR f fd) (B:Bu K mg) (B3:Cp K mg tk aP):FnOk P w K mg base CX0 1 f fd ["thing"] gU:=by
  refine F.ok l4 (fun vs H Q E h=>?_) (fun cdv A outer s H vs Q E hr h=>?_)
  · obtain ⟨x,rfl,_⟩:=h;rfl
  obtain ⟨gs,rfl,hs,q⟩:=h;refine ⟨_,(@ah _ _ _ (@aq _ _ _ _ (@eW _ _ _ _ _ _ _ (@ap _ _ _ _ _ _ _ _ _ (@aI _ ("str")) rfl B.iisinstance aar (@aa _ _ _ _ _ (pv 0) (@aa _ _ _ _ _ (@bM _ _ (.ty "str") _ _ rfl B.istr abX rfl (by decide) (by decide)) ad (by rfl)) (by rfl)) (by decide) (by decide) (by rfl) (by rfl)) (@fV _ _ _ _ _ (@cA _ _ _ _ _ _ _ _ j6 (pv 0) (@bi _ _ (.ref aP) _ _ rfl B3.gSIGNS_TO_PUT rfl (by decide)) (by with_unfolding_all rfl)))))),?_⟩;refine ⟨_,rfl,_,_,true,rfl,.str _,rfl,true,rfl,bA ⟨_,rfl,aP,_,rfl,.inr (B3.sSIGNS_TO_PUT H),rfl,rfl,?_⟩⟩;show Q (.bl (inV (.str (ae gs)) kH)) H;rw [show inV (.str (ae gs)) kH=true from hs];exact q
def cD:Sp:=fun vs H Q _=>∃ gs,vs=[.str (ae gs)]∧aX gs∧Q .non H
abbrev dP:Stmt:=top 18
theorem jG:FnScope ["thing"] ["thing"] (al dP):=⟨rfl,rfl,rfl,by decide +kernel,rfl,by decide +kernel,by decide +kernel⟩
theorem jM (F:Fun K "need_signs" "need_signs" dP f fd) (C_is_signs:Cal P w K mg base "is_signs" 1 ["thing"] gU):FnOk P w K mg base CX0 2 f fd ["thing"] cD:=by
  refine F.ok jG (fun vs H Q E h=>?_) (fun cdv A outer s H vs Q E hr h=>?_)
  · obtain ⟨x,rfl,_⟩:=h;rfl
  obtain ⟨gs,rfl,hs,q⟩:=h;refine ⟨_,(@ah _ _ _ (@aH _ _ _ _ _ _ _ _ (@bJ _ _ _ _ (@aR _ _ _ (@aj _ _ _ _ _ _ _ _ _ _ _ C_is_signs hr (by lia) rfl (@aa _ _ _ _ _ (pv 0) ad (by rfl)) (by decide) (by rfl) (by rfl)) (by intro _;rfl))) (@ah _ _ _ dE) au)),?_⟩;exact ⟨_,rfl,gs,rfl,hs,true,rfl,aM q⟩
def fE:Sp:=fun vs H Q _=>∃ n:Int,vs=[.int n]∧1≤n∧n≤9∧Q .non H
abbrev eM:Stmt:=top 20
theorem kK:FnScope ["thing"] ["thing"] (al eM):=⟨rfl,rfl,rfl,by decide +kernel,rfl,by decide +kernel,by decide +kernel⟩
theorem kZ (F:Fun K "need_many" "need_many" eM f fd) (C_is_many:Cal P w K mg base "is_many" 2 ["thing"] i6):FnOk P w K mg base CX0 3 f fd ["thing"] fE:=by
  refine F.ok kK (fun vs H Q E h=>?_) (fun cdv A outer s H vs Q E hr h=>?_)
  · obtain ⟨n,rfl,_⟩:=h;rfl
  obtain ⟨n,rfl,h1,h2,q⟩:=h;refine ⟨_,(@ah _ _ _ (@aH _ _ _ _ _ _ _ _ (@bJ _ _ _ _ (@aR _ _ _ (@aj _ _ _ _ _ _ _ _ _ _ _ C_is_many hr (by lia) rfl (@aa _ _ _ _ _ (pv 0) ad (by rfl)) (by decide) (by rfl) (by rfl)) (by intro _;rfl))) (@ah _ _ _ dE) au)),?_⟩;exact ⟨_,rfl,n,rfl,h1,h2,true,rfl,aM q⟩
end
open PySem L2
def wl (s:Nat) (L:List Int) (n l:Nat):Int:=(s:Int) * L.getD l 0 * L.getD (n - l) 0
def cl (s:Nat):Nat→List Int
  | 0=>[0,1]
  | k+1=>cl s k++[((aaD (k+1)).map fun j=>wl s (cl s k) (k+2) (1+j)).sum]
def cn (s n:Nat):Int:=(cl s 8).getD n 0
theorem rG:∀ s≤3,∀ n≤9,0≤cn s n∧cn s n < 1000000000:=by decide +kernel
section
variable {P:Program} {w:World} {K:aaa} {mg:Str→Option Value} {base:Heap} {f:Addr} {fd:FuncData}
end
open PySem L2
def ky (p:Int × Int):List Key:=[Sum.inl p.1,Sum.inl p.2]
theorem uh {p q:Int × Int} (h:ky p=ky q):p=q:=by
  obtain ⟨a,b⟩:=p;obtain ⟨c,d⟩:=q;simp [ky] at h;rw [h.1,h.2]
theorem PairIn.key {H:Hp} {p:Int × Int} {v:V} (h:PairIn H p v):∃ b,v=.ref b∧H b=some (.tup ((ky p).map kV)):=h
def CutIn (H:Hp) (p:Int × Int) (c:Int) (v:V):Prop:=∃ a x y,v=.ref a∧H a=some (.tup [x,y])∧PairIn H (p.1,c) x∧PairIn H (c+1,p.2) y
theorem PairIn.mono {H H':Hp} {p:Int × Int} {v:V} (t:Tups H H') (h:PairIn H p v):PairIn H' p v:=by
  obtain ⟨a,e,h⟩:=h;exact ⟨a,e,t _ _ h⟩
theorem CutIn.mono {H H':Hp} {p:Int × Int} {c:Int} {v:V} (t:Tups H H') (h:CutIn H p c v):CutIn H' p c v:=by
  obtain ⟨a,x,y,e,h1,h2,h3⟩:=h;exact ⟨a,x,y,e,t _ _ h1,PairIn.mono t h2,PairIn.mono t h3⟩
def d9 (p:Int × Int):List Int:=(aaD (p.2 - p.1).toNat).map fun (k:Nat)=>p.1+(k:Int)
theorem Paired.snoc {α β:Type} {F:α→β→Prop} {as:List α} {us:List β} {a:α} {u:β} (h:Paired F as us) (x:F a u):Paired F (as++[a]) (us++[u]):=by
  induction h with
  | nil=>exact .cons x .nil
  | cons y _ ih=>exact .cons y ih
theorem Paired.at {α β:Type} {F:α→β→Prop} {as:List α} {us:List β} (p:Paired F as us):∀ {j:Nat} {x:β},us[j]?=some x→∃ a,as[j]?=some a∧F a x:=by
  induction p with
  | nil=>intro j x h;cases h
  | cons a b ih =>
    intro j x h;cases j with
    | zero=>cases h;exact ⟨_,rfl,a⟩
    | succ j=>exact ih (j:=j) h
def Sg.op:Sg→Int→Int→Int
  | .plus,a,b=>a+b
  | .minus,a,b=>a - b
  | .times,a,b=>a * b
theorem m6 (gs:List Sg):(ae gs).cps.all (· < 128)=true:=by
  rw [← Array.all_toList,cN,aaH];intro c hc;obtain ⟨g,_,rfl⟩:=abf.mp hc;cases g <;> decide
theorem u8 {gs:List Sg} {i c:Nat} (h:(ae gs).cps[i]?=some c):∃ g,gs[i]?=some g∧c=g.code:=by
  have h2:(ae gs).cps.toList[i]?=some c:=by simpa using h
  rw [cN,aao] at h2;obtain ⟨g,hg,e⟩:=aaG.mp h2;exact ⟨g,hg,e.symm⟩
section
variable {P:Program} {w:World} {K:aaa} {mg:Str→Option Value} {base:Heap} {f:Addr} {fd:FuncData}
def mZ:Sp:=fun vs H Q _=>∃ p v,vs=[v]∧PairIn H p v∧0≤p.1∧p.1≤p.2∧p.2 < 100∧∀ a us H',Same H H'→H a=none→H' a=some (.lst us)→Paired (CutIn H' p) (d9 p) us→Q (.ref a) H'
abbrev hX:Stmt:=top 22
theorem fJ:FnScope ["stretch","first","last"] ["stretch"] (al hX):=⟨rfl,rfl,rfl,by decide +kernel,rfl,by decide +kernel,by decide +kernel⟩
theorem nB (F:Fun K "cuts_of" "cuts_of" hX f fd) (B:Bu K mg):FnOk P w K mg base CX0 1 f fd ["stretch"] mZ:=by
  refine F.ok fJ (fun vs H Q E h=>?_) (fun cdv A outer s H vs Q E hr h=>?_)
  · obtain ⟨p,v,rfl,_⟩:=h;rfl
  obtain ⟨p,v,rfl,⟨a,rfl,ha⟩,h1,h2,h3,q⟩:=h;refine ⟨_,(@af _ _ _ _ _ (@cY _ _ _ _ _ _ (pv 0) (@bK _ _ _ _ _ _ rfl (@ao _ _ _ _ _ (@am _ _ (1) _ (fJ).nd rfl (Or.inr rfl) (.inl rfl)) (@ao _ _ _ _ _ (@am _ _ (2) _ (fJ).nd rfl (Or.inr rfl) (.inl rfl)) aV (by rfl)) (by rfl)) (by rfl) (by rfl)) (by rfl) (by rfl) (by rfl)) (@ah _ _ _ (@aq _ _ _ _ (@dG _ _ _ _ _ _ _ _ (["cut","first","last"]) ([none,some 1,some 2]) _ _ _ _ rfl (@h7 _ _ _ _ _ _ _ rfl B.irange (@aa _ _ _ _ _ (pv 1) (@aa _ _ _ _ _ (pv 2) ad (by rfl)) (by rfl)) (by rfl) (by rfl)) rfl ⟨rfl,⟨rfl,trivial⟩⟩ ⟨⟨rfl,Or.inl rfl,Or.inl rfl⟩,⟨⟨rfl,Or.inl rfl,Or.inl rfl⟩,trivial⟩⟩ (fun _ _ _ _=>⟨(@am _ _ (0) _ (show aaK (["cut","first","last"]:List Str) by decide +kernel) rfl (Or.inl rfl) (.inr rfl)),aU,(@aQ _ _ _ _ _ (@aa _ _ _ _ _ (@aQ _ _ _ _ _ (@aa _ _ _ _ _ (pv 1) (@aa _ _ _ _ _ (pv 0) ad (by rfl)) (by rfl))) (@aa _ _ _ _ _ (@aQ _ _ _ _ _ (@aa _ _ _ _ _ (@ay _ _ _ _ _ _ _ _ bL (pv 0) ai) (@aa _ _ _ _ _ (pv 2) ad (by rfl)) (by rfl))) ad (by rfl)) (by rfl)))⟩) (by rfl) (by rfl) (by rfl) (by rfl) (by intro _;rfl))))),?_⟩;refine ⟨_,rfl,a,_,rfl,SqT.of ha,rfl,_,_,rfl,_,_,rfl,rfl,?_⟩;refine ⟨_,rfl,_,rfl,p.1,p.2,rfl,⟨by lia,by lia,by lia,by lia⟩,?_⟩;refine eZ (Trn.range (lo:=p.1) (n:=(p.2 - p.1).toNat)) (fun i ys H'=>Same H H'∧Paired (CutIn H' p) ((d9 p).take i) ys) ⟨Same.refl _,.nil⟩ (fun i ys H' hi z=>⟨trivial,aE (by have:=z.2.length;rw [← this,aap];lia)⟩) (fun i x ys H0 H' hi hx z Nx nx=>?_) (fun ys H' z p5 n5=>?_)
  · obtain ⟨rfl,rfl⟩:=hx;obtain ⟨S,hp⟩:=z;have t2:(2:Nat)≤sizeLine:=by decide
    refine ⟨_,rfl,_,rfl,t2,fun t ht=>?_⟩;have st:=Same.new ht (.tup [.int p.1,.int (p.1+(i:Int))]);refine ⟨_,rfl,_,_,rfl,rfl,_,rfl,t2,fun u hu=>⟨t2,fun v hv=>nx _ _ ?_⟩⟩;have su:=Same.new hu (.tup [.int (p.1+(i:Int)+1),.int p.2]);have sv:=Same.new hv (.tup [.ref t,.ref u]);have S3:=(st.trans su).trans sv;refine ⟨S.trans S3,?_⟩;have e:(d9 p).take (i+1)=(d9 p).take i++[p.1+(i:Int)]:=by
      rw [aaU];have : (d9 p)[i]?=some (p.1+(i:Int)):=by
        unfold d9;rw [aao,abh hi];rfl
      rw [this];rfl
    rw [e];exact Paired.snoc (Paired.mapP hp fun _ _ h=>CutIn.mono (Tups.of S3) h) ⟨v,_,_,rfl,ag,⟨t,rfl,sv _ _ (su _ _ ag)⟩,⟨u,rfl,sv _ _ ag⟩⟩
  · obtain ⟨S,hp⟩:=z;rw [aaL (by simp [d9])] at hp;have s5:=Same.new n5 (.lst ys);exact q p5 ys _ (S.trans s5) (S.free n5) ag (Paired.mapP hp fun _ _ h=>CutIn.mono (Tups.of s5) h)
end
def prs (s n:Nat):Nat→Int
  | 0=>0
  | j+1=>prs s n j+(s:Int) * cn s (1+j) * cn s (n - (1+j))
theorem rY:∀ s≤3,∀ n≤9,2≤n→prs s n (n - 1)=cn s n:=by decide +kernel
theorem uH:∀ s≤3,cn s 1=1:=by decide +kernel
theorem qt {s n:Nat} (hs:s≤3) (hn:n≤9) {j:Nat} (hj:j+1≤n - 1):prs s n j≤prs s n (j+1):=by
  show _≤prs s n j+(s:Int) * cn s (1+j) * cn s (n - (1+j));have a:=(rG s hs (1+j) (by lia)).1;have b:=(rG s hs (n - (1+j)) (by lia)).1;have c:=Int.mul_nonneg (Int.mul_nonneg (Int.natCast_nonneg s) a) b;lia
theorem gq {s n:Nat} (hs:s≤3) (hn:n≤9) {i:Nat}:∀ {j:Nat},i≤j→j≤n - 1→prs s n i≤prs s n j
  | 0,h,_=>by rw [show i=0 by lia];exact aaP _
  | j+1,h,hj=>by
    by_cases e:i=j+1
    · rw [e];exact aaP _
    · exact Int.le_trans (gq hs hn (j:=j) (by lia) (by lia)) (qt hs hn hj)
def Wy.nr (gs:List Sg):Wy→Int
  | .num _=>0
  | .node g l r=>prs gs.length (l.size+r.size) (l.size - 1)+((((gs.idxOf g:Nat):Int) * cn gs.length l.size+l.nr gs) * cn gs.length r.size+r.nr gs)
theorem nC {i s A C a c:Int} (i0:0≤i) (i1:i+1≤s) (a0:0≤a) (a1:a < A) (c0:0≤c) (c1:c < C) :
    0≤(i * A+a) * C+c∧(i * A+a) * C+c < s * A * C∧((i * A+a) * C+c) / C=i * A+a∧((i * A+a) * C+c) % C=c∧(i * A+a) / A=i∧(i * A+a) % A=a:=by
  have A0:0 < A:=by lia
  have C0:0 < C:=by lia
  have m0:0≤i * A+a:=Int.add_nonneg (Int.mul_nonneg i0 (Int.le_of_lt A0)) a0;have m1:i * A+a+1≤s * A:=by
    have:=abw i1 (Int.le_of_lt A0);rw [Int.add_mul,Int.one_mul] at this;lia
  have m2:=abw m1 (Int.le_of_lt C0);rw [Int.add_mul,Int.one_mul] at m2;have u1:=(Int.ediv_emod_unique C0 (a:=(i * A+a) * C+c) (q:=i * A+a) (r:=c)).mpr ⟨by rw [Int.mul_comm C,Int.add_comm],c0,c1⟩;have u2:=(Int.ediv_emod_unique A0 (a:=i * A+a) (q:=i) (r:=a)).mpr ⟨by rw [Int.mul_comm A,Int.add_comm],a0,a1⟩;exact ⟨Int.add_nonneg (Int.mul_nonneg m0 (Int.le_of_lt C0)) c0,by lia,u1.1,u1.2,u2.1,u2.2⟩
theorem nG {gs:List Sg} {g:Sg} (h:g∈gs):gs.idxOf g < gs.length∧gs[gs.idxOf g]?=some g:=by
  have h1:=List.idxOf_lt_length_of_mem h;exact ⟨h1,by rw [aag h1,List.getElem_idxOf h1]⟩
theorem Wy.nr_bd {gs:List Sg} (hs:gs.length≤3):∀ w:Wy,w.within gs→w.size≤9→0≤w.nr gs∧w.nr gs < cn gs.length w.size
  | .num i,_,_=>by
    show (0:Int)≤0∧(0:Int) < cn gs.length 1;rw [uH _ hs];decide
  | .node g l r,h,h9=>by
    have h9:l.size+r.size≤9:=h9;have l1:=l.size_pos;have r1:=r.size_pos;obtain ⟨a0,a1⟩:=Wy.nr_bd hs l h.2.1 (by lia);obtain ⟨c0,c1⟩:=Wy.nr_bd hs r h.2.2 (by lia);obtain ⟨i1,_⟩:=nG h.1;obtain ⟨e0,e1,_⟩:=nC (i:=((gs.idxOf g:Nat):Int)) (s:=gs.length) (by lia) (by lia) a0 a1 c0 c1;have p0:=gq hs h9 (i:=0) (j:=l.size - 1) (aaI _) (by lia);have p0:0≤prs gs.length (l.size+r.size) (l.size - 1):=p0;have p1:=gq hs h9 (i:=l.size - 1+1) (j:=l.size+r.size - 1) (by lia) (by lia);rw [rY _ hs _ h9 (by lia)] at p1;have p1:prs gs.length (l.size+r.size) (l.size - 1)+(gs.length:Int) * cn gs.length (1+(l.size - 1)) * cn gs.length (l.size+r.size - (1+(l.size - 1)))≤cn gs.length (l.size+r.size):=p1;rw [show 1+(l.size - 1)=l.size by lia,show l.size+r.size - l.size=r.size by lia] at p1;show 0≤prs _ _ _+_∧prs _ _ _+_ < cn gs.length (l.size+r.size);lia
def bR (z:Str) (y:Str):Bool:=!(aaX z y 0 z.length 1).isEmpty
theorem qG:∀ gs:List Sg,gs.length≤3→aX gs→∀ g∈gs,(aaX (ae gs) g.str 0 (ae gs).length 1).head?=some (gs.idxOf g)∧bR (ae gs) g.str=true
  | [],_,_=>fun g h=>nomatch h
  | [a],_,_=>by
    cases a <;> (intro g;cases g <;> intro h <;> first|exact ⟨by decide +kernel,by decide +kernel⟩|exact absurd h (by decide))
  | [a,b],_,h=>by
    cases a <;> cases b <;> first
      | exact absurd h (by unfold aX;decide +kernel)
      | (intro g;cases g <;> intro h <;> first|exact ⟨by decide +kernel,by decide +kernel⟩|exact absurd h (by decide))
  | [a,b,c],_,h=>by
    cases a <;> cases b <;> cases c <;> first
      | exact absurd h (by unfold aX;decide +kernel)
      | (intro g;cases g <;> intro h <;> first|exact ⟨by decide +kernel,by decide +kernel⟩|exact absurd h (by decide))
  | _ :: _ :: _ :: _ :: _,h,_=>by simp at h
theorem sk (gs:List Sg) (h3:gs.length≤3) (sp:aX gs) (g:Sg) (hg:g∈gs):(∃ rest,aaX (ae gs) g.str 0 (ae gs).length 1=gs.idxOf g :: rest)∧bR (ae gs) g.str=true:=by
  obtain ⟨h1,h2⟩:=qG gs h3 sp g hg;refine ⟨?_,h2⟩;cases e:aaX (ae gs) g.str 0 (ae gs).length 1 with
  | nil=>rw [e] at h1;cases h1
  | cons x y =>
    rw [e] at h1;have : x=gs.idxOf g:=by simpa using h1
    exact ⟨y,by rw [this]⟩
theorem fI {gs:List Sg}:∀ {w:Wy},w.within gs→∀ g∈w.sgs,g∈gs
  | .num _,_,g,h=>by simp [Wy.sgs] at h
  | .node s l r,hw,g,h=>by
    have h:g∈l.sgs++s :: r.sgs:=h;rcases aaB.mp h with h|h
    · exact fI hw.2.1 g h
    · rcases aaE.mp h with rfl|h
      · exact hw.1
      · exact fI hw.2.2 g h
section
variable {P:Program} {w:World} {K:aaa} {mg:Str→Option Value} {base:Heap} {f:Addr} {fd:FuncData}
end
open PySem L2
def Sg.k (g:Sg):Bool:=decide (g=.times)
def lv (k:Bool):Bool→Wy→List (Bool × Wy)
  | b,.num i=>[(b,.num i)]
  | b,.node g l r=>if g.k=k then lv k b l++lv k (if g=.minus then !b else b) r else [(b,.node g l r)]
def Wy.no (k:Bool):Wy→Prop
  | .num _=>True
  | .node g _ _=>g.k≠k
theorem ju {k b:Bool} {w:Wy} (h:w.no k):lv k b w=[(b,w)]:=by
  cases w with
  | num i=>rfl
  | node g l r=>exact if_neg h
theorem dy (k:Bool):∀ (b:Bool) (w:Wy),1≤(lv k b w).length
  | b,.num i=>aab _
  | b,.node g l r=>by
    unfold lv;split
    · rw [aal];have:=dy k b l;lia
    · exact aab _
theorem gD (k:Bool):∀ (b:Bool) (w:Wy),∃ u t,lv k b w=(b,u) :: t
  | b,.num i=>⟨_,_,rfl⟩
  | b,.node g l r=>by
    unfold lv;split
    · obtain ⟨u,t,e⟩:=gD k b l;rw [e];exact ⟨_,_,rfl⟩
    · exact ⟨_,_,rfl⟩
def szs (ps:List (Bool × Wy)):Nat:=(ps.map fun p=>p.2.size).sum
theorem iJ (a b:List (Bool × Wy)):szs (a++b)=szs a+szs b:=by simp [szs]
theorem b0 (ps:List (Bool × Wy)):ps.length≤szs ps:=by
  induction ps with
  | nil=>simp [szs]
  | cons p t ih=>have:=p.2.size_pos;simp only [szs,aaz,abl,aaQ] at ih ⊢;lia
theorem a8 (k:Bool):∀ (b:Bool) (w:Wy),szs (lv k b w)=w.size
  | b,.num i=>rfl
  | b,.node g l r=>by
    unfold lv;split
    · rw [iJ,a8 k b l,a8 k _ r];rfl
    · simp [szs]
theorem cQ (k:Bool):∀ (b:Bool) (w:Wy),∀ p∈lv k b w,p.2.no k
  | b,.num i,p,hp=>by rw [aau.mp hp];trivial
  | b,.node g l r,p,hp=>by
    unfold lv at hp;split at hp
    · rcases aaB.mp hp with h|h
      · exact cQ k b l p h
      · exact cQ k _ r p h
    · rename_i c;rw [aau.mp hp];exact c
theorem bn {gs:List Sg} (k:Bool):∀ (b:Bool) (w:Wy),w.within gs→∀ p∈lv k b w,p.2.within gs
  | b,.num i,_,p,hp=>by rw [aau.mp hp];trivial
  | b,.node g l r,h,p,hp=>by
    unfold lv at hp;split at hp
    · rcases aaB.mp hp with z|z
      · exact bn k b l h.2.1 p z
      · exact bn k _ r h.2.2 p z
    · rw [aau.mp hp];exact h
def jsg (k x y:Bool):Sg:=if k=true then .times else if x=y then .plus else .minus
theorem j9 (k x y:Bool):(jsg k x y).k=k:=by cases k <;> cases x <;> cases y <;> rfl
theorem ut {k b:Bool} {g:Sg} (h:g.k=k):jsg k b (if g=.minus then !b else b)=g:=by
  subst h;cases g <;> cases b <;> rfl
theorem gE {k x y:Bool} (hk:k=true→x=y):(if jsg k x y=.minus then !x else x)=y:=by
  cases k <;> cases x <;> cases y <;> first|rfl|exact absurd (hk rfl) (by decide)
def hd (ps:List (Bool × Wy)) (i:Nat):Bool:=(ps.map Prod.fst).getD i true
def gF (gs:List Sg) (k:Bool) (F:List (Bool × Wy)→Option Wy) (ps:List (Bool × Wy)) (j:Nat):Option Wy :=
  if jsg k (hd ps 0) (hd ps (j+1))∈gs then (F (ps.take (j+1))).bind fun l=>(F (ps.drop (j+1))).map fun r=>.node (jsg k (hd ps 0) (hd ps (j+1))) l r else none
def ft (gs:List Sg) (k:Bool):Nat→List (Bool × Wy)→Option Wy
  | 0,_=>none
  | n+1,ps=>if ps.length≤1 then (ps.head?).map ab6 else (aaD (ps.length - 1)).findSome? (gF gs k (ft gs k n) ps)
def tc (gs:List Sg) (k:Bool):Nat→List Bool→Nat
  | 0,_=>0
  | n+1,hs=>if hs.length≤1 then 1 else ((aaD (hs.length - 1)).map fun j=>if jsg k (hs.getD 0 true) (hs.getD (j+1) true)∈gs then tc gs k n (hs.take (j+1)) * tc gs k n (hs.drop (j+1)) else 0).sum
theorem jx {gs:List Sg} {k:Bool} {F:List (Bool × Wy)→Option Wy} {ps:List (Bool × Wy)} {j:Nat} {f:Wy} (h:gF gs k F ps j=some f):∃ l r,F (ps.take (j+1))=some l∧F (ps.drop (j+1))=some r∧f=.node (jsg k (hd ps 0) (hd ps (j+1))) l r∧jsg k (hd ps 0) (hd ps (j+1))∈gs:=by
  unfold gF at h;split at h
  · rename_i c;obtain ⟨l,e1,h⟩:=Option.bind_eq_some_iff.mp h;obtain ⟨r,e2,h⟩:=aaG.mp h;exact ⟨l,r,e1,e2,h.symm,c⟩
  · cases h
theorem oM (ps:List (Bool × Wy)) (c:Nat):hd (ps.drop c) 0=hd ps c:=by
  unfold hd;rw [ab0,aaA,aaA,List.getElem?_drop,Nat.add_zero]
theorem sJ (ps:List (Bool × Wy)) (c:Nat):hd (ps.take (c+1)) 0=hd ps 0:=by
  unfold hd;rw [ab1,aaA,aaA,aa9 (Nat.succ_pos c)]
theorem gH {gs:List Sg} {k:Bool}:∀ (n:Nat) (ps:List (Bool × Wy)) (f:Wy),ft gs k n ps=some f→(∀ p∈ps,p.2.no k∧p.2.within gs)→(k=true→∀ p∈ps,p.1=true)→lv k (hd ps 0) f=ps∧f.within gs
  | 0,ps,f,h,_,_=>by cases h
  | n+1,ps,f,h,ok,hk=>by
    unfold ft at h;split at h
    · obtain ⟨p,e,rfl⟩:=aaG.mp h;cases ps with
      | nil=>cases e
      | cons q t =>
        cases e;have : t=[]:=abA.mp (by rename_i c;simp only [aaQ] at c;lia);subst this;have a:=ok _ aai;exact ⟨by rw [ju a.1];rfl,a.2⟩
    · obtain ⟨j,hj,e⟩:=List.exists_of_findSome?_eq_some h;obtain ⟨l,r,e1,e2,rfl,hg⟩:=jx e;have i1:=gH n _ l e1 (fun p hp=>ok p (abt hp)) (fun z p hp=>hk z p (abt hp));have i2:=gH n _ r e2 (fun p hp=>ok p (List.mem_of_mem_drop hp)) (fun z p hp=>hk z p (List.mem_of_mem_drop hp));rw [sJ] at i1;rw [oM] at i2;refine ⟨?_,hg,i1.2,i2.2⟩;unfold lv;rw [if_pos (j9 _ _ _),i1.1,gE (fun z=>?_),i2.1,aaO];have key:∀ i,i < ps.length→hd ps i=true:=fun i hi=>by
        unfold hd;rw [aaA,aao,aag hi];exact hk z _ (List.getElem_mem hi)
      rw [List.mem_range] at hj;rw [key 0 (by lia),key (j+1) (by lia)]
theorem sq {gs:List Sg} (hs:gs.length≤3) {g g':Sg} {l r l' r':Wy} (hw:(Wy.node g l r).within gs) (hw':(Wy.node g' l' r').within gs) (h:l.size+r.size=l'.size+r'.size) (h9:l.size+r.size≤9) (c:l.size < l'.size):(Wy.node g l r).nr gs < (Wy.node g' l' r').nr gs:=by
  have l1:=l.size_pos;have r1:=r.size_pos;have l1':=l'.size_pos;have r1':=r'.size_pos;have bl:=Wy.nr_bd hs l hw.2.1 (by lia);have br:=Wy.nr_bd hs r hw.2.2 (by lia);have bl':=Wy.nr_bd hs l' hw'.2.1 (by lia);have br':=Wy.nr_bd hs r' hw'.2.2 (by lia);obtain ⟨i1,_⟩:=nG hw.1;obtain ⟨i1',_⟩:=nG hw'.1;obtain ⟨e0,e1,_⟩:=nC (i:=((gs.idxOf g:Nat):Int)) (s:=gs.length) (by lia) (by lia) bl.1 bl.2 br.1 br.2;obtain ⟨e0',e1',_⟩:=nC (i:=((gs.idxOf g':Nat):Int)) (s:=gs.length) (by lia) (by lia) bl'.1 bl'.2 br'.1 br'.2;have en:(Wy.node g l r).nr gs=prs gs.length (l.size+r.size) (l.size - 1)+((((gs.idxOf g:Nat):Int) * cn gs.length l.size+l.nr gs) * cn gs.length r.size+r.nr gs):=rfl;have en':(Wy.node g' l' r').nr gs=prs gs.length (l.size+r.size) (l'.size - 1)+((((gs.idxOf g':Nat):Int) * cn gs.length l'.size+l'.nr gs) * cn gs.length r'.size+r'.nr gs):=by rw [h];rfl
  have p:=gq hs h9 (i:=l.size - 1+1) (j:=l'.size - 1) (by lia) (by lia);have p:prs gs.length (l.size+r.size) (l.size - 1)+(gs.length:Int) * cn gs.length (1+(l.size - 1)) * cn gs.length (l.size+r.size - (1+(l.size - 1)))≤_:=p;rw [show 1+(l.size - 1)=l.size by lia,show l.size+r.size - l.size=r.size by lia] at p;rw [en,en'];lia
theorem so {gs:List Sg} (hs:gs.length≤3) {g:Sg} {l r l' r':Wy} (hl:l.size=l'.size) (hr:r.size=r'.size) (h9:r.size≤9) (a:l.nr gs≤l'.nr gs) (b:r.nr gs≤r'.nr gs):(Wy.node g l r).nr gs≤(Wy.node g l' r').nr gs:=by
  have en:(Wy.node g l r).nr gs=prs gs.length (l.size+r.size) (l.size - 1)+((((gs.idxOf g:Nat):Int) * cn gs.length l.size+l.nr gs) * cn gs.length r.size+r.nr gs):=rfl;have en':(Wy.node g l' r').nr gs=prs gs.length (l.size+r.size) (l.size - 1)+((((gs.idxOf g:Nat):Int) * cn gs.length l.size+l'.nr gs) * cn gs.length r.size+r'.nr gs):=by rw [hl,hr];rfl
  have c:=(rG gs.length hs r.size h9).1;have d:=abw (show ((gs.idxOf g:Nat):Int) * cn gs.length l.size+l.nr gs≤((gs.idxOf g:Nat):Int) * cn gs.length l.size+l'.nr gs by lia) c;rw [en,en'];lia
theorem tj {α β:Type} {f:α→Option β}:∀ {l:List α} {i:Nat} {x:α} {y:β},l[i]?=some x→f x=some y→∃ (j:Nat) (z:α) (u:β),j≤i∧l[j]?=some z∧f z=some u∧l.findSome? f=some u∧∀ m < j,∀ v,l[m]?=some v→f v=none
  | [],i,x,y,h,_=>by simp at h
  | a :: l,i,x,y,h,hf=>by
    cases e:f a with
    | some u=>exact ⟨0,a,u,aaI _,rfl,e,by rw [aa2,e],fun m hm=>absurd hm (Nat.not_lt_zero m)⟩
    | none =>
      cases i with
      | zero=>cases h;rw [e] at hf;cases hf
      | succ i =>
        obtain ⟨j,z,u,h1,h2,h3,h4,h5⟩:=tj (l:=l) (i:=i) h hf;refine ⟨j+1,z,u,by lia,h2,h3,by rw [aa2,e];exact h4,fun m hm v hv=>?_⟩;cases m with
        | zero=>cases hv;exact e
        | succ m=>exact h5 m (by lia) v hv
def Lr (gs:List Sg) (k:Bool) (p q:Bool × Wy):Prop:=p.1=q.1∧p.2.size=q.2.size∧p.2.nr gs≤q.2.nr gs∧p.2.no k∧p.2.within gs
theorem Lr.take {gs:List Sg} {k:Bool} {ps qs:List (Bool × Wy)} (h:Paired (Lr gs k) ps qs):∀ c,Paired (Lr gs k) (ps.take c) (qs.take c):=by
  induction h with
  | nil=>intro c;rw [List.take_nil];exact .nil
  | cons a _ ih =>
    intro c;cases c with
    | zero=>exact .nil
    | succ c=>exact .cons a (ih c)
theorem Lr.drop {gs:List Sg} {k:Bool} {ps qs:List (Bool × Wy)} (h:Paired (Lr gs k) ps qs):∀ c,Paired (Lr gs k) (ps.drop c) (qs.drop c):=by
  induction h with
  | nil=>intro c;rw [List.drop_nil];exact .nil
  | cons a b ih =>
    intro c;cases c with
    | zero=>exact .cons a b
    | succ c=>exact ih c
theorem Lr.hd {gs:List Sg} {k:Bool} {ps qs:List (Bool × Wy)} (h:Paired (Lr gs k) ps qs):ps.map Prod.fst=qs.map Prod.fst:=by
  induction h with
  | nil=>rfl
  | cons a _ ih=>rw [aaz,aaz,ih,a.1]
theorem Lr.szs {gs:List Sg} {k:Bool} {ps qs:List (Bool × Wy)} (h:Paired (Lr gs k) ps qs):szs ps=szs qs:=by
  induction h with
  | nil=>rfl
  | cons a _ ih=>simp only [Put.szs,aaz,abl] at ih ⊢;rw [a.2.1,ih]
theorem Lr.ok {gs:List Sg} {k:Bool} {ps qs:List (Bool × Wy)} (h:Paired (Lr gs k) ps qs):∀ p∈ps,p.2.no k∧p.2.within gs:=by
  induction h with
  | nil=>intro p hp;cases hp
  | cons a _ ih=>intro p hp;rcases aaE.mp hp with rfl|hp;exact ⟨a.2.2.2.1,a.2.2.2.2⟩;exact ih p hp
theorem qU {ps qs:List (Bool × Wy)} (h:ps.map Prod.fst=qs.map Prod.fst) (i:Nat):hd ps i=hd qs i:=by unfold hd;rw [h]
theorem fg {b:Bool} (hb:b=true):∀ (w:Wy),∀ p∈lv true b w,p.1=true
  | .num i,p,hp=>by rw [aau.mp hp];exact hb
  | .node g l r,p,hp=>by
    unfold lv at hp;split at hp
    · rename_i c;have gt:g≠.minus:=fun z=>by rw [z] at c;cases c
      rw [if_neg gt] at hp;rcases aaB.mp hp with h|h
      · exact fg hb l p h
      · exact fg hb r p h
    · rw [aau.mp hp];exact hb
theorem tN {ps:List (Bool × Wy)} {i j:Nat} (h:i < j) (hj:j≤ps.length):szs (ps.take i) < szs (ps.take j):=by
  have e:ps.take j=ps.take i++(ps.drop i).take (j - i):=by
    rw [← List.take_add];congr 1;lia
  rw [e,iJ];have:=b0 ((ps.drop i).take (j - i));rw [aap,aaR] at this;lia
theorem qZ {gs:List Sg} (hs:gs.length≤3) {k:Bool}:∀ (n:Nat) (ps:List (Bool × Wy)) (b:Bool) (w:Wy),ps.length≤n→(k=true→b=true)→Paired (Lr gs k) ps (lv k b w)→w.within gs→w.size≤9→∃ f,ft gs k n ps=some f∧f.size=w.size∧f.nr gs≤w.nr gs
  | 0,ps,b,w,hn,_,hp,_,_=>by
    have:=aav hp;have:=dy k b w;lia
  | n+1,ps,b,w,hn,hb,hp,hw,h9=>by
    have lp:=aav hp;by_cases c:w.no k
    · rw [ju c] at hp lp;cases hp with
      | cons a t =>
        cases t;refine ⟨_,by unfold ft;rw [if_pos (by simp)];rfl,a.2.1,a.2.2.1⟩
    · cases w with
      | num i=>exact absurd trivial c
      | node g l r =>
        have gk:g.k=k:=Classical.not_not.mp c;have e:lv k b (.node g l r)=lv k b l++lv k (if g=.minus then !b else b) r:=by
          show (if g.k=k then _ else _)=_;rw [if_pos gk]
        have hb':k=true→(if g=.minus then !b else b)=true:=fun z=>by
          have : g≠.minus:=fun y=>by rw [y,z] at gk;cases gk
          rw [if_neg this];exact hb z
        have h9:l.size+r.size≤9:=h9;have l1:=l.size_pos;have r1:=r.size_pos;have n1:=dy k b l;have n2:=dy k (if g=.minus then !b else b) r;have hall:=hp;rw [e] at hp lp;rw [aal] at lp;generalize hc:(lv k b l).length=cc at n1 lp;have hpl:=Lr.take hp cc;have hpr:=Lr.drop hp cc;rw [← hc,List.take_left'  rfl,hc] at hpl;rw [← hc,List.drop_left' rfl,hc] at hpr;obtain ⟨fl,e1,z1,q1⟩:=qZ hs n (ps.take cc) b l (by rw [aap];lia) hb hpl hw.2.1 (by lia);obtain ⟨fr,e2,z2,q2⟩:=qZ hs n (ps.drop cc) _ r (by rw [aaR];lia) hb' hpr hw.2.2 (by lia);have hh:=Lr.hd hall;have h0:hd ps 0=b:=by
          rw [qU hh];obtain ⟨u,t,z⟩:=gD k b (.node g l r);unfold hd;rw [z];rfl
        have hcc:hd ps cc=(if g=.minus then !b else b):=by
          rw [← oM,qU (Lr.hd hpr)];obtain ⟨u,t,z⟩:=gD k (if g=.minus then !b else b) r;unfold hd;rw [z];rfl
        obtain ⟨j,rfl⟩:∃ j,cc=j+1:=⟨cc - 1,by lia⟩
        have js:jsg k (hd ps 0) (hd ps (j+1))=g:=by rw [h0,hcc];exact ut gk
        have jn:gF gs k (ft gs k n) ps j=some (.node g fl fr):=by
          unfold gF;rw [js,if_pos hw.1,e1,e2];rfl
        have hj:(aaD (ps.length - 1))[j]?=some j:=by
          rw [abh];lia
        obtain ⟨i,z,u,ij,iz,fu,ff,before⟩:=tj hj jn;have iz':i=z:=by
          have hi:i < ps.length - 1:=by have:=(aaq.mp iz).1;rwa [List.length_range] at this
          rw [abh hi] at iz;exact aaT iz
        subst iz';have e0:ft gs k (n+1) ps=some u:=by
          show (if ps.length≤1 then _ else _)=_;rw [if_neg (by lia)];exact ff
        have okp:=Lr.ok hall;have okt:k=true→∀ p∈ps,p.1=true:=fun z p hp=>by
          obtain ⟨m,hm⟩:=List.mem_iff_getElem?.mp hp;have h1:(ps.map Prod.fst)[m]?=some p.1:=by rw [aao,hm];rfl
          rw [hh,aao] at h1;obtain ⟨q,hq,e9⟩:=aaG.mp h1;subst z;rw [← e9];exact fg (hb rfl) _ q (aaf hq)
        have fo:=gH (n+1) ps u e0 okp okt;have su:u.size=l.size+r.size:=by
          have a:=a8 k (hd ps 0) u;rw [fo.1,Lr.szs hall,a8] at a;exact a.symm
        refine ⟨u,e0,su,?_⟩;by_cases eq:i=j
        · subst eq;rw [jn] at fu;cases fu;exact so hs z1 z2 (by lia) q1 q2
        · obtain ⟨l0,r0,f1,f2,rfl,hg⟩:=jx fu;have o1:=gH n _ l0 f1 (fun p hp=>okp p (abt hp)) (fun z p hp=>okt z p (abt hp));have s1:l0.size < l.size:=by
            have a:=a8 k (hd (ps.take (i+1)) 0) l0;rw [o1.1] at a;have b1:=Lr.szs hpl;rw [a8] at b1;have:=tN (ps:=ps) (i:=i+1) (j:=j+1) (by lia) (by lia);lia
          have su:l0.size+r0.size=l.size+r.size:=su;exact Int.le_of_lt (sq hs fo.2 hw su (by lia) s1)
def sZ (ps:List (Bool × Wy)):List Bool:=ps.map Prod.fst
open PySem L2
def wd (p:Bool × Wy):Bool × PyData:=(p.1,p.2.fm.data)
theorem jZ:∀ (w:Wy) (b:Bool),(if b=true then w.fm.terms else turn w.fm.terms)=(lv false b w).map wd
  | .num i,b=>by cases b <;> rfl
  | .node .times l r,b=>by cases b <;> rfl
  | .node .plus l r,b=>by
    have e:lv false b (.node .plus l r)=lv false b l++lv false b r:=rfl;rw [e,aan,← jZ l b,← jZ r b];cases b
    · exact iV _ _
    · rfl
  | .node .minus l r,b=>by
    have e:lv false b (.node .minus l r)=lv false b l++lv false (!b) r:=rfl;rw [e,aan,← jZ l b,← jZ r (!b)];cases b
    · show turn (l.fm.terms++turn r.fm.terms)=turn l.fm.terms++r.fm.terms;rw [iV,o5]
    · rfl
theorem rh:∀ w:Wy,w.fm.factors=((lv true true w).map wd).map ab6
  | .num i=>rfl
  | .node .plus l r=>rfl
  | .node .minus l r=>rfl
  | .node .times l r=>by
    have e:lv true true (.node .times l r)=lv true true l++lv true true r:=rfl;rw [e,aan,aan,← rh l,← rh r];rfl
def Fd:Bool→List (Bool × PyData)→PyData
  | false,ts=>.tuple [.str "sum",.tuple (ts.map tmD)]
  | true,ts=>.tuple [.str "times",.tuple (ts.map ab6)]
theorem bI:∀ (g:Sg) (l r:Wy),(Wy.node g l r).fm.data=Fd g.k ((lv g.k true (.node g l r)).map wd)
  | .plus,l,r=>by
    have:=jZ (.node .plus l r) true;show PyData.tuple [.str "sum",.tuple ((Wy.node .plus l r).fm.terms.map tmD)]=_;rw [show (Wy.node .plus l r).fm.terms=(lv false true (.node .plus l r)).map wd from this];rfl
  | .minus,l,r=>by
    have:=jZ (.node .minus l r) true;show PyData.tuple [.str "sum",.tuple ((Wy.node .minus l r).fm.terms.map tmD)]=_;rw [show (Wy.node .minus l r).fm.terms=(lv false true (.node .minus l r)).map wd from this];rfl
  | .times,l,r=>by
    show PyData.tuple [.str "times",.tuple (Wy.node .times l r).fm.factors]=_;rw [rh];rfl
theorem qb:("sum":Str)≠("times":Str):=by decide +kernel
theorem sO {v w:Wy} (h:v.fm.data=w.fm.data) (k:Bool) (hw:w.no k):v.no k:=by
  cases v with
  | num i=>trivial
  | node g l r =>
    rw [bI] at h;cases w with
    | num i=>revert h;cases g <;> exact fun h=>PyData.noConfusion h
    | node g' l' r' =>
      rw [bI] at h;have : g.k=g'.k:=by
        generalize (lv g.k true (.node g l r)).map wd=A at h;generalize (lv g'.k true (.node g' l' r')).map wd=B at h;generalize g.k=x at h ⊢;generalize g'.k=y at h ⊢;cases x <;> cases y
        · rfl
        · injection h with h;injection h with h _;injection h with h;exact absurd h qb
        · injection h with h;injection h with h _;injection h with h;exact absurd h.symm qb
        · rfl
      show g.k≠k;rw [this];exact hw
theorem rO {ps:List (Bool × Wy)} {p:Bool × Wy} (h:p∈ps):p.2.size+ps.length≤szs ps+1:=by
  induction ps with
  | nil=>cases h
  | cons q t ih =>
    have e:szs (q :: t)=q.2.size+szs t:=by simp [szs]
    rw [e,aaQ];rcases aaE.mp h with rfl|h
    · have:=b0 t;lia
    · have:=ih h;have:=q.2.size_pos;lia
theorem jt (g:Sg) (l r:Wy) (b:Bool):2≤(lv g.k b (.node g l r)).length:=by
  have e:lv g.k b (.node g l r)=lv g.k b l++lv g.k (if g=.minus then !b else b) r:=by
    show (if g.k=g.k then _ else _)=_;rw [if_pos rfl]
  rw [e,aal];have:=dy g.k b l;have:=dy g.k (if g=.minus then !b else b) r;lia
theorem bw {g:Sg} {l r:Wy} {b:Bool} {p:Bool × Wy} (h:p∈lv g.k b (.node g l r)):p.2.size < (Wy.node g l r).size:=by
  have a:=rO h;rw [a8] at a;have:=jt g l r b;lia
def fw (gs:List Sg):Nat→Wy→Wy
  | 0,w=>w
  | _+1,.num i=>.num i
  | n+1,.node g l r=>(ft gs g.k (lv g.k true (.node g l r)).length ((lv g.k true (.node g l r)).map fun p=>(p.1,fw gs n p.2))).getD (.node g l r)
def ct (gs:List Sg):Nat→Wy→Nat
  | 0,_=>1
  | _+1,.num _=>1
  | n+1,.node g l r=>tc gs g.k (lv g.k true (.node g l r)).length (sZ (lv g.k true (.node g l r))) * ((lv g.k true (.node g l r)).map fun p=>ct gs n p.2).prod
structure FwOk (gs:List Sg) (n:Nat) (w:Wy):Prop where
  win:(fw gs n w).within gs
  size:(fw gs n w).size=w.size
  nr:(fw gs n w).nr gs≤w.nr gs
  data:(fw gs n w).fm.data=w.fm.data
theorem jj {α β:Type} {R:β→α→Prop} {f:α→β}:∀ {l:List α},(∀ a∈l,R (f a) a)→Paired R (l.map f) l
  | [],_=>.nil
  | a :: l,h=>.cons (h a aai) (jj fun b hb=>h b (aae _ hb))
theorem oQ {gs:List Sg} (hs:gs.length≤3) {n:Nat} {g:Sg} {l r:Wy} (h9:(Wy.node g l r).size≤9) (hw:(Wy.node g l r).within gs) (ih:∀ p∈lv g.k true (.node g l r),FwOk gs n p.2) :
    ft gs g.k (lv g.k true (.node g l r)).length ((lv g.k true (.node g l r)).map fun p=>(p.1,fw gs n p.2))=some (fw gs (n+1) (.node g l r))∧FwOk gs (n+1) (.node g l r):=by
  have pr:Paired (Lr gs g.k) ((lv g.k true (.node g l r)).map fun p=>(p.1,fw gs n p.2)) (lv g.k true (.node g l r)):=jj fun p hp=>by
    have i:=ih p hp;exact ⟨rfl,i.size,i.nr,sO i.data g.k (cQ _ _ _ p hp),i.win⟩
  obtain ⟨f,e,sz,nn⟩:=qZ hs (lv g.k true (.node g l r)).length _ true (.node g l r) (by rw [aac];exact aab _) (fun _=>rfl) pr hw h9;have ef:fw gs (n+1) (.node g l r)=f:=by
    show (ft gs g.k _ _).getD _=f;rw [e];rfl
  have hd0:hd ((lv g.k true (.node g l r)).map fun p=>(p.1,fw gs n p.2)) 0=true:=by
    rw [qU (Lr.hd pr)];obtain ⟨u,t,z⟩:=gD g.k true (.node g l r);unfold hd;rw [z];rfl
  have okt:g.k=true→∀ p∈(lv g.k true (.node g l r)).map (fun p=>(p.1,fw gs n p.2)),p.1=true:=fun z p hp=>by
    obtain ⟨q,hq,rfl⟩:=abf.mp hp;rw [z] at hq;exact fg rfl _ q hq
  have fo:=gH _ _ f e (Lr.ok pr) okt;rw [hd0] at fo;refine ⟨by rw [ef];exact e,?_,by rw [ef];exact sz,by rw [ef];exact nn,?_⟩
  · rw [ef];exact fo.2
  rw [ef];have fl:2≤(lv g.k true f).length:=by rw [fo.1,aac];exact jt g l r true
  cases f with
  | num i=>exact absurd fl (by simp [lv])
  | node g' l' r' =>
    have gk:g'.k=g.k:=by
      apply Classical.byContradiction;intro c;rw [ju (w:=.node g' l' r') c] at fl;exact absurd fl (by simp)
    rw [bI,bI,gk,fo.1,abN];congr 1;refine List.map_congr_left fun p hp=>?_;show (p.1,(fw gs n p.2).fm.data)=(p.1,p.2.fm.data)
    rw [(ih p hp).data]
theorem mG {gs:List Sg} (hs:gs.length≤3):∀ (n:Nat) (w:Wy),w.size≤n→w.size≤9→w.within gs→FwOk gs n w
  | 0,w,h,_,_=>by have:=w.size_pos;lia
  | n+1,.num i,_,_,_=>⟨trivial,rfl,aaP _,rfl⟩
  | n+1,.node g l r,h,h9,hw=>(oQ hs h9 hw fun p hp=>mG hs n p.2 (by have:=bw hp;lia) (by have:=bw hp;lia) (bn _ _ _ hw p hp)).2
open PySem L2
theorem PairsIn.mono {H H':Hp} (t:Tups H H') {ps:List (Int × Int)} {vs:List V} (p:PairsIn H ps vs):PairsIn H' ps vs:=by
  induction p with
  | nil=>exact .nil
  | cons z _ ih=>obtain ⟨a,e,h⟩:=z;exact .cons ⟨a,e,t _ _ h⟩ ih
theorem PairsIn.app {H:Hp} {ps qs:List (Int × Int)} {vs us:List V} (a:PairsIn H ps vs) (b:PairsIn H qs us):PairsIn H (ps++qs) (vs++us):=by
  induction a with
  | nil=>exact b
  | cons x _ ih=>exact .cons x ih
theorem PairsIn.snoc {H:Hp} {ps:List (Int × Int)} {vs:List V} {p:Int × Int} {v:V} (h:PairsIn H ps vs) (x:PairIn H p v):PairsIn H (ps++[p]) (vs++[v]):=PairsIn.app h (.cons x .nil)
def sfR (n m:Nat):List (Int × Int):=(aaD (n - m)).map fun (f:Nat)=>((f:Int),((f+m:Nat):Int))
def sfl (n i:Nat):List (Int × Int):=(aaD i).flatMap fun m=>sfR n m
theorem lQ (n i:Nat):sfl n (i+1)=sfl n i++sfR n i:=by
  unfold sfl;rw [List.range_succ,List.flatMap_append];simp
theorem on (n i:Nat):(sfl n i).length≤i * n:=by
  induction i with
  | zero=>simp [sfl]
  | succ i ih =>
    rw [lQ,aal];have : (sfR n i).length≤n:=by simp [sfR]
    rw [Nat.succ_mul];lia
theorem om (n:Nat) (a b:Nat) (h1:a≤b) (h2:b < n):((a:Int),(b:Int))∈sfl n n:=by
  unfold sfl sfR;rw [List.mem_flatMap];refine ⟨b - a,aaJ.mpr (by lia),?_⟩;rw [List.mem_map];refine ⟨a,aaJ.mpr (by lia),?_⟩;have : a+(b - a)=b:=by lia
  rw [this]
def hk:Bool→Bool→Str
  | true,_=>"*"
  | false,b=>sgB b
def PtR (H:Hp) (k:Bool) (p:Bool × Wy) (v:V):Prop:=∃ a u,v=.ref a∧H a=some (.tup [.str (hk k p.1),u])∧Dat H p.2.fm.data u
theorem PtR.mono {H H':Hp} {k:Bool} (g:Same H H') {p:Bool × Wy} {v:V} (h:PtR H k p v):PtR H' k p v:=by
  obtain ⟨a,u,rfl,e,d⟩:=h;exact ⟨a,u,rfl,g _ _ e,Dat.mono g _ _ d⟩
theorem eU {H H':Hp} {k:Bool} (g:Same H H') {ps:List (Bool × Wy)} {vs:List V} (h:Paired (PtR H k) ps vs):Paired (PtR H' k) ps vs:=Paired.imp' (fun _ _ z=>z.mono g) h
theorem oq {H:Hp}:∀ {ps:List (Bool × Wy)} {us:List V},DatAll H ((ps.map wd).map tmD) us→Paired (PtR H false) ps us
  | [],us,h=>by simp only [abE,DatAll] at h;subst h;exact .nil
  | p :: ps,us,h=>by
    simp only [aaz,DatAll] at h;obtain ⟨v,r,rfl,h1,h2⟩:=h;obtain ⟨a,u,rfl,e,d⟩:=cG h1;exact .cons ⟨a,u,rfl,e,d⟩ (oq h2)
theorem de {H:Hp} {g:Sg} {l r:Wy} {v:V} (h:Dat H (Wy.node g l r).fm.data v):∃ a b us,v=.ref a∧H a=some (.tup [.str (if g.k=true then "times" else "sum"),.ref b])∧H b=some (.tup us)∧(g.k=false→Paired (PtR H false) (lv g.k true (.node g l r)) us)∧(g.k=true→DatAll H (((lv g.k true (.node g l r)).map wd).map ab6) us):=by
  rw [bI] at h;generalize g.k=k at h ⊢;cases k with
  | false =>
    obtain ⟨a,u,rfl,ea,d⟩:=cG h;obtain ⟨b,us,rfl,eb,da⟩:=gI d;exact ⟨a,b,us,rfl,ea,eb,fun _=>oq da,fun z=>by cases z⟩
  | true =>
    obtain ⟨a,u,rfl,ea,d⟩:=cG h;obtain ⟨b,us,rfl,eb,da⟩:=gI d;exact ⟨a,b,us,rfl,ea,eb,(fun z=>by cases z),fun _=>da⟩
section
variable {P:Program} {w:World} {K:aaa} {mg:Str→Option Value} {base:Heap} {f:Addr} {fd:FuncData}
def tQ:Sp:=fun vs H Q _=>∃ n:Nat,vs=[.int n]∧n≤9∧∀ p us H',Same H H'→H p=none→H' p=some (.lst us)→PairsIn H' (sfl n n) us→Q (.ref p) H'
abbrev cH:Stmt:=top 21
theorem gY:FnScope ["many"] ["many"] (al cH):=⟨rfl,rfl,rfl,by decide +kernel,rfl,by decide +kernel,by decide +kernel⟩
theorem ic (F:Fun K "shorter_first" "shorter_first" cH f fd) (B:Bu K mg):FnOk P w K mg base CX0 1 f fd ["many"] tQ:=by
  refine F.ok gY (fun vs H Q E h=>?_) (fun cdv A outer s H vs Q E hr h=>?_)
  · obtain ⟨l,rfl,_⟩:=h;rfl
  obtain ⟨n,rfl,h9,q⟩:=h;refine ⟨_,(@ah _ _ _ (@aq _ _ _ _ (@qA _ _ _ _ _ _ _ _ _ _ _ (["more","first","many"]) ([none,none,some 0]) _ _ _ _ _ _ _ rfl (@dF _ _ _ _ _ _ rfl B.irange (@aa _ _ _ _ _ (pv 0) ad (by rfl)) (by rfl)) rfl ⟨rfl,trivial⟩ ⟨⟨rfl,Or.inl rfl,Or.inl rfl⟩,trivial⟩ (fun _ _ _ _=>⟨(@am _ _ (0) _ (show aaK (["more","first","many"]:List Str) by decide +kernel) rfl (Or.inl rfl) (.inr rfl)),aU,(@dF _ _ _ _ _ _ rfl B.irange (@aa _ _ _ _ _ (@ay _ _ _ _ _ _ _ _ cL (pv 2) (pv 0)) ad (by rfl)) (by rfl)),(@am _ _ (1) _ (show aaK (["more","first","many"]:List Str) by decide +kernel) rfl (Or.inl rfl) (.inr rfl)),aU,(@aQ _ _ _ _ _ (@aa _ _ _ _ _ (pv 1) (@aa _ _ _ _ _ (@ay _ _ _ _ _ _ _ _ bL (pv 1) (pv 0)) ad (by rfl)) (by rfl)))⟩) (by rfl) (by rfl) (by rfl) (by rfl) (by intro _;rfl) (by intro _ _;rfl)))),?_⟩;refine ⟨_,rfl,n,rfl,by lia,by lia,?_⟩;refine ug (Trn.range (lo:=0) (n:=(n:Int).toNat)) (fun i ys H'=>Same H H'∧PairsIn H' (sfl n i) ys) ⟨Same.refl _,.nil⟩ (fun i ys H' hi p=>trivial) (fun i x ys H1 H' hi hx p Nx nx=>?_) (fun ys H' p p5 n5=>?_)
  · obtain ⟨rfl,rfl⟩:=hx;obtain ⟨S,hp⟩:=p;have hl:=hp.length;have hb:=on n i;have hn:(n:Int).toNat=n:=by lia
    have hin:i < n:=by lia
    have hb2:i * n≤9 * 9:=Nat.mul_le_mul (by lia) h9;have en:((n:Int) - (0+(i:Int))).toNat=n - i:=by lia
    refine ⟨_,rfl,_,rfl,_,_,rfl,rfl,(n:Int) - (0+(i:Int)),rfl,by lia,by lia,?_⟩;refine uf (Trn.range (lo:=0) (n:=((n:Int) - (0+(i:Int))).toNat)) (fun j zs σ H2=>Same H H2∧(∃ c,σ=[some (.int (0+(i:Int))),c,some (.int n)])∧PairsIn H2 (sfl n i++(sfR n i).take j) zs) ⟨S,⟨_,rfl⟩,by simpa using hp⟩ (fun j zs σ H2 hj p=>⟨trivial,aE (by have:=p.2.2.length;rw [← this,aal,aap];lia)⟩) (fun j x zs σ H2 H3 hj hx p Ny ny=>?_) (fun zs σ H2 p=>?_)
    · obtain ⟨rfl,rfl⟩:=hx;obtain ⟨S2,⟨c,rfl⟩,hp2⟩:=p;refine ⟨_,rfl,_,rfl,_,rfl,_,_,rfl,rfl,(by show 2≤sizeLine;decide),fun t ht=>ny _ _ _ ⟨S2.trans (Same.new ht _),⟨_,rfl⟩,?_⟩⟩;have s3:=Same.new ht (.tup [.int (0+(j:Int)),.int (0+(j:Int)+(0+(i:Int)))]);have e:(sfR n i).take (j+1)=(sfR n i).take j++[(((j:Nat):Int),((j+i:Nat):Int))]:=by
        rw [aaU];have : (sfR n i)[j]?=some (((j:Nat):Int),((j+i:Nat):Int)):=by
          unfold sfR;rw [aao,abh (by lia)];rfl
        rw [this];rfl
      rw [e,← abH];refine PairsIn.snoc (PairsIn.mono (Tups.of s3) hp2) ⟨t,rfl,?_⟩;rw [ag];have e1:(0:Int)+(j:Int)=((j:Nat):Int):=by lia
      have e2:(0:Int)+(j:Int)+(0+(i:Int))=((j+i:Nat):Int):=by lia
      show some (HO.tup [V.int (0+(j:Int)),V.int (0+(j:Int)+(0+(i:Int)))])=some (HO.tup [V.int ((j:Nat):Int),V.int ((j+i:Nat):Int)]);rw [e2,e1]
    · obtain ⟨S2,⟨c,rfl⟩,hp2⟩:=p;refine nx _ _ ⟨S2,?_⟩;rw [en,aaL (by simp [sfR]),← lQ] at hp2;exact hp2
  · obtain ⟨S,hp⟩:=p;have hn:(n:Int).toNat=n:=by lia
    rw [hn] at hp;have s5:=Same.new n5 (.lst ys);exact q p5 ys _ (S.trans s5) (S.free n5) ag (PairsIn.mono (Tups.of s5) hp)
def j4:Sp:=fun vs H Q _=>∃ g l r v,vs=[v]∧Dat H (Wy.node g l r).fm.data v∧(Wy.node g l r).size≤20∧∀ p us H',Same H H'→H p=none→H' p=some (.lst us)→Paired (PtR H' g.k) (lv g.k true (.node g l r)) us→Q (.ref p) H'
abbrev fM:Stmt:=top 34
theorem eF:FnScope ["form","kind","parts"] ["form"] (al fM):=⟨rfl,rfl,rfl,by decide +kernel,rfl,by decide +kernel,by decide +kernel⟩
theorem me (F:Fun K "parts_of" "parts_of" fM f fd) (B:Bu K mg):FnOk P w K mg base CX0 1 f fd ["form"] j4:=by
  refine F.ok eF (fun vs H Q E h=>?_) (fun cdv A outer s H vs Q E hr h=>?_)
  · obtain ⟨g,l,r,v,rfl,_⟩:=h;rfl
  obtain ⟨g,l,r,v,rfl,hd,h20,q⟩:=h;refine ⟨_,(@af _ _ _ _ _ (@cY _ _ _ _ _ _ (pv 0) (@bK _ _ _ _ _ _ rfl (@ao _ _ _ _ _ (@am _ _ (1) _ (eF).nd rfl (Or.inl rfl) (.inl rfl)) (@ao _ _ _ _ _ (@am _ _ (2) _ (eF).nd rfl (Or.inl rfl) (.inl rfl)) aV (by rfl)) (by rfl)) (by rfl) (by rfl)) (by rfl) (by rfl) (by rfl)) (@ah _ _ _ (@aq _ _ _ _ (@bT _ _ _ _ _ _ _ _ (@av _ _ _ _ _ _ _ _ bE (pv 1) aB (aA _)) (@cq _ _ _ _ _ _ _ _ _ lA rfl B.ilist PyProof.Rows.boot_list (@aa _ _ _ _ _ (pv 2) ad (by rfl)) (by decide) (by decide) (by rfl) (by rfl)) (@dG _ _ _ _ _ _ _ _ (["factor"]) ([none]) _ _ _ _ rfl (@dw _ _ _ _ (pv 2)) rfl trivial trivial (fun _ _ _ _=>⟨(@am _ _ (0) _ (show aaK (["factor"]:List Str) by decide +kernel) rfl (Or.inl rfl) (.inr rfl)),aU,(@aQ _ _ _ _ _ (@aa _ _ _ _ _ aB (@aa _ _ _ _ _ (pv 0) ad (by rfl)) (by rfl)))⟩) (by rfl) (by rfl) (by rfl) (by rfl) (by intro _;rfl)))))),?_⟩;obtain ⟨a,b,us,rfl,ea,eb,i1,i2⟩:=de hd;have ll:(lv g.k true (.node g l r)).length≤20:=by
    have:=b0 (lv g.k true (.node g l r));rw [a8] at this;lia
  refine ⟨_,rfl,a,_,rfl,SqT.of ea,rfl,_,_,rfl,_,_,rfl,rfl,?_⟩;cases hg:g.k with
  | false =>
    rw [hg] at q i1 i2 ll;refine ⟨_,rfl,rfl,true,rfl,bA ⟨_,rfl,b,us,rfl,.inr (SqT.of eb),fun p np=>?_⟩⟩;exact q p us _ (Same.new np _) np ag (eU (Same.new np _) (i1 rfl))
  | true =>
    rw [hg] at q i1 i2 ll;refine ⟨_,rfl,rfl,false,rfl,aM ?_⟩;have da:=i2 rfl;have lu:=da.len;rw [aac,aac] at lu;refine ⟨_,rfl,b,rfl,⟨_,SqT.of eb⟩,?_⟩;refine eZ (Trn.tup (xs:=us)) (fun i ys H'=>Same H H'∧Paired (PtR H' true) ((lv true true (.node g l r)).take i) ys) ⟨Same.refl _,.nil⟩ (fun i ys H' hi z=>⟨SqT.of (z.1 _ _ eb),aE (by have:=aav z.2;rw [aap] at this;lia)⟩) (fun i z ys H0 H' hi hz zz Nx nx=>?_) (fun ys H' zz p5 n5=>?_)
    · obtain ⟨rfl,hz⟩:=hz;obtain ⟨S,hp⟩:=zz;obtain ⟨d,h1,h2⟩:=nJ da hz;rw [abN,aao] at h1;obtain ⟨pr,h3,rfl⟩:=aaG.mp h1;refine ⟨_,rfl,(by show 2≤sizeLine;decide),fun o ho=>nx _ _ ⟨S.trans (Same.new ho _),?_⟩⟩;rw [aaU,h3];exact Paired.app (eU (Same.new ho _) hp) (.cons ⟨o,z,rfl,ag,Dat.mono (S.trans (Same.new ho _)) _ _ h2⟩ .nil)
    obtain ⟨S,hp⟩:=zz;rw [← lu,aaS] at hp;have s5:=Same.new n5 (.lst ys);exact q p5 ys _ (S.trans s5) (S.free n5) ag (eU s5 hp)
theorem cO (k:Bool):∀ (b:Bool) (w:Wy),((lv k b w).map fun p=>p.2.nums).flatten=w.nums
  | b,.num i=>by simp [lv]
  | b,.node g l r=>by
    unfold lv;split
    · rw [aan,abz,cO k b l,cO k _ r];rfl
    · simp
theorem j8 {k b:Bool} {w:Wy} (h:w.Bd) {p:Bool × Wy} (hp:p∈lv k b w):p.2.Bd:=fun i hi=>h i (by
  rw [← cO k b w];exact List.mem_flatten.mpr ⟨_,List.mem_map.mpr ⟨p,hp,rfl⟩,hi⟩)
def ez (n:Nat):Sp:=fun vs H Q _=>∃ (w:Wy) (v:V),vs=[v]∧Dat H w.fm.data v∧w.size≤n∧w.size≤20∧w.Bd∧∀ p H',Same H H'→H p=none→H' p=some (.lst (w.nums.map V.int))→Q (.ref p) H'
abbrev dO:Stmt:=top 36
theorem bS:FnScope ["form","numbers","head","part"] ["form"] (al dO):=⟨rfl,rfl,rfl,by decide +kernel,rfl,by decide +kernel,by decide +kernel⟩
theorem jL (F:Fun K "numbers_in" "numbers_in" dO f fd) (bF:Binds K fd ["form"] []) (mF:mg "numbers_in" = some (.ref f)) (B:Bu K mg) (C_is_whole:Cal P w K mg base "is_whole" 1 ["thing"] (bB K)) (C_parts_of:Cal P w K mg base "parts_of" 1 ["form"] j4):∀ n,FnOk P w K mg base CX0 (n+2) f fd ["form"] (ez n):=by
  intro n
  induction n with
  | zero =>
    refine ⟨fun vs H Q E h=>?_,fun A outer s H args us vs Q E _ _ _ _ h=>?_⟩
    · obtain ⟨x,v,rfl,_⟩:=h;rfl
    · obtain ⟨wy,v,_,_,h0,_⟩:=h;have:=wy.size_pos;lia
  | succ n ih =>
    have C_numbers_in:Cal P w K mg base "numbers_in" (n+2) ["form"] (ez n):=⟨f,fd,ih,bF,F.kp,mF⟩
    refine F.ok bS (fun vs H Q E h=>?_) (fun cdv A outer s H vs Q E hr h=>?_)
    · obtain ⟨x,v,rfl,_⟩:=h;rfl
    obtain ⟨wy,v,rfl,hd,hn,h20,hB,q⟩:=h;refine ⟨_,(@af _ _ _ _ _ (@aH _ _ _ _ _ _ _ _ (@aR _ _ _ (@aj _ _ _ _ _ _ _ _ _ _ _ C_is_whole hr (by lia) rfl (@aa _ _ _ _ _ (pv 0) ad (by rfl)) (by decide) (by rfl) (by rfl)) (by intro _;rfl)) (@ah _ _ _ (@aq _ _ _ _ (@bt _ _ _ _ (@aa _ _ _ _ _ (pv 0) ad (by rfl))))) au) (@af _ _ _ _ _ (@aw _ _ (1) _ _ _ _ (bS).nd rfl (Or.inl rfl) (@bt _ _ _ _ ad) (by rfl) (by first|exact .inl rfl|exact .inr rfl|assumption)) (@af _ _ _ _ _ (@bX _ _ _ _ _ _ _ _ aaF rfl (@b_ _ _ _ _ (@aj _ _ _ _ _ _ _ _ _ _ _ C_parts_of hr (by lia) rfl (@aa _ _ _ _ _ (pv 0) ad (by rfl)) (by decide) (by rfl) (by rfl))) (@bK _ _ _ _ _ _ rfl (@ao _ _ _ _ _ (@am _ _ (2) _ (bS).nd rfl (Or.inl rfl) (.inl rfl)) (@ao _ _ _ _ _ (@am _ _ (3) _ (bS).nd rfl (Or.inl rfl) (.inl rfl)) aV (by rfl)) (by rfl)) (by rfl) (by rfl)) (@ah _ _ _ (@eV _ _ (1) _ _ _ _ _ _ (bS).nd rfl (Or.inl rfl) (@aj _ _ _ _ _ _ _ _ _ _ _ C_numbers_in hr (by lia) rfl (@aa _ _ _ _ _ (pv 3) ad (by rfl)) (by decide) (by rfl) (by rfl)) uy (by first|exact .inl rfl|exact .inr rfl|assumption))) (by intro _;rfl)) (@ah _ _ _ (@aq _ _ _ _ (pv 1)))))),?_⟩;cases wy with
    | num i =>
      have e:v=.int i:=by simpa only [Wy.fm,Fm.data,Dat] using hd
      subst e;refine ⟨_,rfl,_,"int",rfl,.int i,true,rfl,bA ⟨_,rfl,(by show 1≤sizeLine;decide),fun p np=>?_⟩⟩;exact q p _ (Same.new np _) np ag
    | node g l r =>
      obtain ⟨a,b,us,rfl,ea,eb,i1,i2⟩:=de hd;refine ⟨_,rfl,_,"tuple",rfl,.tup ea,false,rfl,aM ?_⟩;refine ⟨(by show 0≤sizeLine;decide),fun p0 n0=>?_⟩;have g0:=Same.new n0 (.lst []);have e0:upd H p0 (.lst []) p0=some (.lst []):=ag;generalize upd H p0 (.lst [])=H0 at g0 e0 ⊢;refine ⟨_,rfl,g,l,r,_,rfl,Dat.mono g0 _ _ hd,h20,fun p us' H1 g1 np ep hp=>?_⟩;have n0p:p0≠p:=fun z=>by rw [← z,e0] at np;cases np
      have lp:=aav hp;have ll:=b0 (lv g.k true (.node g l r));rw [a8] at ll;have nul:∀ i,(((lv g.k true (.node g l r)).take i).map fun p=>p.2.nums).flatten.length≤20:=fun i=>by
        have e:=congrArg List.length (cO g.k true (.node g l r));rw [(Wy.node g l r).nums_len,← aaO i (lv g.k true (.node g l r)),aan,abz,aal] at e;lia
      refine ⟨p,rfl,⟨_,SqL.of ep⟩,fY (Trn.list (xs:=us')) (fun i σ H'=>∃ c2 c3,σ=[some (.ref a),some (.ref p0),c2,c3]∧But p0 H1 H'∧H' p0=some (.lst (((((lv g.k true (.node g l r)).take i).map fun p=>p.2.nums).flatten).map V.int))) ⟨_,_,rfl,But.refl,g1 _ _ e0⟩ (fun i σ H' hi z=>?_) (fun i x σ H2' H2 hi it z=>?_) (fun σ H' z=>?_)⟩
      · obtain ⟨_,_,rfl,S,_⟩:=z;exact SqL.of (S _ _ (abO n0p) ep)
      · obtain ⟨c2,c3,rfl,S,en⟩:=z;obtain ⟨rfl,hx⟩:=it;obtain ⟨pr,hpr,o,u,rfl,eo,du⟩:=Paired.at hp hx;have pm:=aaf hpr;have ls:=bw pm;have nop:o≠p0:=fun z=>by rw [z,g1 _ _ e0] at eo;cases eo
        have du2:=eu (Tups.but S (g1 _ _ e0)) _ _ (Wy.fm_ok _ (j8 hB pm)).d du;refine ⟨o,_,rfl,SqT.of (S _ _ nop eo),rfl,_,_,rfl,_,_,rfl,rfl,?_⟩;refine ⟨_,rfl,_,rfl,pr.2,u,rfl,du2,by lia,by lia,j8 hB pm,fun p3 H3 g3 n3 e3'=>?_⟩;have en3:=g3 _ _ en;have hlen:=nul (i+1);rw [aaU,hpr,Option.toList_some,aan,abz,aal] at hlen;refine ⟨p0,p3,_,_,rfl,rfl,en3,e3',bQ (by rw [aac,aac];simp only [aaz,abE,aa3,List.flatten_nil,List.append_nil] at hlen;lia),?_⟩;refine ⟨_,_,rfl,fun b o hb e=>?_,?_⟩
        · rw [az hb];exact g3 _ _ (S _ _ hb e)
        · rw [ag,aaU,hpr,Option.toList_some,aan,abz,aan];simp
      · obtain ⟨c2,c3,rfl,S,en⟩:=z;rw [← lp,aaS,cO] at en;exact ⟨_,rfl,q p0 H' (fun b o e=>S _ _ (fun z=>by rw [z,n0] at e;cases e) (g1 _ _ (g0 _ _ e))) n0 en⟩
end
open PySem L2
theorem iY:∀ gs:List Sg,gs.length≤3→aX gs→gs=[.plus]∨gs=[.minus]∨gs=[.times]∨gs=[.plus,.minus]∨gs=[.plus,.times]∨gs=[.minus,.times]∨gs=[.plus,.minus,.times]
  | [],_,h=>absurd h (by unfold aX;decide +kernel)
  | [a],_,_=>by cases a <;> simp
  | [a,b],_,h=>by
    cases a <;> cases b <;> first|decide|exact absurd h (by unfold aX;decide +kernel)
  | [a,b,c],_,h=>by
    cases a <;> cases b <;> cases c <;> first|decide|exact absurd h (by unfold aX;decide +kernel)
  | _ :: _ :: _ :: _ :: _,h,_=>by simp at h
theorem ln {gs:List Sg} (g3:gs.length≤3) (sp:aX gs) (g:Sg):bR (ae gs) g.str=decide (g∈gs):=by
  rcases iY gs g3 sp with rfl|rfl|rfl|rfl|rfl|rfl|rfl <;> cases g <;> decide +kernel
def jsc (k:Bool) (ps:List (Bool × Wy)) (i c:Int):Sg:=jsg k (hd ps i.toNat) (hd ps (c+1).toNat)
def jw (gs:List Sg) (k:Bool) (ps:List (Bool × Wy)) (q:Int × Int):List Int:=(d9 q).filter fun c=>decide (jsc k ps q.1 c∈gs)
def JwIn (H:Hp) (k:Bool) (ps:List (Bool × Wy)) (q:Int × Int) (c:Int) (v:V):Prop:=∃ a x y,v=.ref a∧H a=some (.tup [x,.str (jsc k ps q.1 c).str,y])∧PairIn H (q.1,c) x∧PairIn H (c+1,q.2) y
theorem JwIn.mono {H H':Hp} (t:Tups H H') {k:Bool} {ps:List (Bool × Wy)} {q:Int × Int} {c:Int} {v:V} (h:JwIn H k ps q c v):JwIn H' k ps q c v:=by
  obtain ⟨a,x,y,rfl,e,h1,h2⟩:=h;exact ⟨a,x,y,rfl,t _ _ e,PairIn.mono t h1,PairIn.mono t h2⟩
theorem qo {H:Hp} {k:Bool} {ps:List (Bool × Wy)} {us:List V} (h:Paired (PtR H k) ps us) {i:Int} (h0:0≤i) (hi:i < ps.length):∃ o u,atI us i=some (.ref o)∧H o=some (.tup [.str (hk k (hd ps i.toNat)),u])∧∃ p,ps[i.toNat]?=some p∧Dat H p.2.fm.data u:=by
  obtain ⟨j,rfl⟩:=aby h0;have hl:=aav h;have hj:j < us.length:=by lia
  have hx:us[j]?=some us[j]:=aag hj;obtain ⟨p,hp,o,u,e,eo,d⟩:=Paired.at h hx;refine ⟨o,u,fA (by rw [hx,e]),?_,p,hp,d⟩;have : hd ps (j:Int).toNat=p.1:=by
    unfold hd;rw [aaA,aao,show (j:Int).toNat=j from rfl,hp];rfl
  rw [this];exact eo
theorem vE {α:Type} {l:List α} {p:α→Bool} {i:Nat} {x:α} (h:l[i]?=some x) (c:p x=true):(l.take (i+1)).filter p=(l.take i).filter p++[x]:=by
  rw [aaU,h,List.filter_append];simp [c]
theorem vD {α:Type} {l:List α} {p:α→Bool} {i:Nat} {x:α} (h:l[i]?=some x) (c:p x=false):(l.take (i+1)).filter p=(l.take i).filter p:=by
  rw [aaU,h,List.filter_append];simp [c]
theorem sG {k b:Bool}:decide (V.str (hk k b)=V.str "*")=k:=by cases k <;> cases b <;> decide +kernel
theorem sH {x y:Bool}:decide (V.str (hk false x)=V.str (hk false y))=decide (x=y):=by cases x <;> cases y <;> decide +kernel
section
variable {P:Program} {w:World} {K:aaa} {mg:Str→Option Value} {base:Heap} {f:Addr} {fd:FuncData}
def tS:Sp:=fun vs H Q _=>∃ k x y,vs=[.str (hk k x),.str (hk k y)]∧Q (.str (jsg k x y).str) H
abbrev dQ:Stmt:=top 56
theorem jH:FnScope ["left_head","right_head"] ["left_head","right_head"] (al dQ):=⟨rfl,rfl,rfl,by decide +kernel,rfl,by decide +kernel,by decide +kernel⟩
theorem jN (F:Fun K "joint_sign" "joint_sign" dQ f fd):FnOk P w K mg base CX0 1 f fd ["left_head","right_head"] tS:=by
  refine F.ok jH (fun vs H Q E h=>?_) (fun cdv A outer s H vs Q E hr h=>?_)
  · obtain ⟨k,x,y,rfl,_⟩:=h;rfl
  obtain ⟨k,x,y,rfl,q⟩:=h;refine ⟨_,(@af _ _ _ _ _ (@aH _ _ _ _ _ _ _ _ (@av _ _ _ _ _ _ _ _ bE (pv 0) aB (aA _)) (@ah _ _ _ (@aq _ _ _ _ aB)) au) (@ah _ _ _ (@aq _ _ _ _ (@bT _ _ _ _ _ _ _ _ (@av _ _ _ _ _ _ _ _ bE (pv 0) (pv 1) (aA _)) aB aB)))),?_⟩;refine ⟨_,rfl,rfl,_,rfl,?_⟩;rw [sG];cases k with
  | true=>exact bA q
  | false =>
    refine aM ⟨_,rfl,_,rfl,rfl,_,rfl,?_⟩;rw [sH];by_cases c:x=y
    · subst c;rw [decide_eq_true rfl];exact bA (by cases x <;> exact q)
    · rw [decide_eq_false c];refine aM ?_;have : jsg false x y=.minus:=by unfold jsg;rw [if_neg aah,if_neg c]
      rw [this] at q;exact q
def tR:Sp:=fun vs H Q _=>∃ (p:Addr) (us:List V) (gs:List Sg) (k:Bool) (ps:List (Bool × Wy)) (q:Int × Int) (v:V),vs=[.ref p,.str (ae gs),v]∧H p=some (.lst us)∧Paired (PtR H k) ps us∧ps.length≤20∧gs.length≤3∧aX gs∧PairIn H q v∧0≤q.1∧q.1≤q.2∧q.2 < ps.length∧∀ a js H',Same H H'→H a=none→H' a=some (.lst js)→Paired (JwIn H' k ps q) (jw gs k ps q) js→Q (.ref a) H'
abbrev cI:Stmt:=top 57
theorem bz:FnScope ["parts","signs","stretch","joints","before","behind","sign"] ["parts","signs","stretch"] (al cI):=⟨rfl,rfl,rfl,by decide +kernel,rfl,by decide +kernel,by decide +kernel⟩
theorem ie (F:Fun K "joints_within" "joints_within" cI f fd) (B:Bu K mg) (C_cuts_of:Cal P w K mg base "cuts_of" 1 ["stretch"] mZ) (C_joint_sign:Cal P w K mg base "joint_sign" 1 ["left_head","right_head"] tS):FnOk P w K mg base CX0 2 f fd ["parts","signs","stretch"] tR:=by
  refine F.ok bz (fun vs H Q E h=>?_) (fun cdv A outer s H vs Q E hr h=>?_)
  · obtain ⟨p,us,gs,k,ps,q,v,rfl,_⟩:=h;rfl
  obtain ⟨p,us,gs,k,ps,q,v,rfl,ep,hps,l20,g3,sp,hq,q0,q1,q2,qq⟩:=h;refine ⟨_,(@af _ _ _ _ _ (@aw _ _ (3) _ _ _ _ (bz).nd rfl (Or.inl rfl) (@bt _ _ _ _ ad) (by rfl) (by first|exact .inl rfl|exact .inr rfl|assumption)) (@af _ _ _ _ _ (@bX _ _ _ _ _ _ _ _ aaF rfl (@b_ _ _ _ _ (@aj _ _ _ _ _ _ _ _ _ _ _ C_cuts_of hr (by lia) rfl (@aa _ _ _ _ _ (pv 2) ad (by rfl)) (by decide) (by rfl) (by rfl))) (@bK _ _ _ _ _ _ rfl (@ao _ _ _ _ _ (@am _ _ (4) _ (bz).nd rfl (Or.inl rfl) (.inl rfl)) (@ao _ _ _ _ _ (@am _ _ (5) _ (bz).nd rfl (Or.inl rfl) (.inl rfl)) aV (by rfl)) (by rfl)) (by rfl) (by rfl)) (@af _ _ _ _ _ (@aw _ _ (6) _ _ _ _ (bz).nd rfl (Or.inl rfl) (@aj _ _ _ _ _ _ _ _ _ _ _ C_joint_sign hr (by lia) rfl (@aa _ _ _ _ _ (@aC _ _ _ _ _ _ _ bc (@aC _ _ _ _ _ _ _ aF (pv 0) (@aC _ _ _ _ _ _ _ bc (pv 4) ai (fun _ _=>rfl)) (fun _ _=>rfl)) ai (fun _ _=>rfl)) (@aa _ _ _ _ _ (@aC _ _ _ _ _ _ _ bc (@aC _ _ _ _ _ _ _ aF (pv 0) (@aC _ _ _ _ _ _ _ bc (pv 5) ai (fun _ _=>rfl)) (fun _ _=>rfl)) ai (fun _ _=>rfl)) ad (by rfl)) (by rfl)) (by decide) (by rfl) (by rfl)) (by rfl) (by first|exact .inl rfl|exact .inr rfl|assumption)) (@ah _ _ _ (@aH _ _ _ _ _ _ _ _ (@av _ _ _ _ _ _ _ _ ib (pv 6) (pv 1) (by with_unfolding_all rfl)) (@ah _ _ _ (@bv _ _ _ _ (@l9 _ _ _ _ _ _ _ _ _ _ _ _ aa0 abb abc dH (pv 3) (@aa _ _ _ _ _ (@aQ _ _ _ _ _ (@aa _ _ _ _ _ (pv 4) (@aa _ _ _ _ _ (pv 6) (@aa _ _ _ _ _ (pv 5) ad (by rfl)) (by rfl)) (by rfl))) ad (by rfl)) (by rfl) (by rfl) (by rfl) (by rfl) (by rfl)) (by rfl))) au))) (by intro _;rfl)) (@ah _ _ _ (@aq _ _ _ _ (pv 3))))),?_⟩;refine ⟨(by show 0≤sizeLine;decide),fun pj nj=>?_⟩;have g0:=Same.new nj (.lst []);have ej:upd H pj (.lst []) pj=some (.lst []):=ag;generalize upd H pj (.lst [])=H0 at g0 ej ⊢;refine ⟨_,rfl,q,v,rfl,PairIn.mono (Tups.of g0) hq,q0,q1,by lia,fun pc cs H1 g1 npc epc hcs=>?_⟩;have npj:pc≠pj:=fun z=>by rw [z,ej] at npc;cases npc
  have lcs:=hcs.length;have lcu:(d9 q).length≤20:=by simp [d9];lia
  have fl:∀ i,((d9 q).take i |>.filter fun c=>decide (jsc k ps q.1 c∈gs)).length≤20:=fun i=>by
    have:=List.length_filter_le (fun c=>decide (jsc k ps q.1 c∈gs)) ((d9 q).take i);rw [aap] at this;lia
  refine ⟨pc,rfl,⟨_,SqL.of epc⟩,fY (Trn.list (xs:=cs)) (fun i σ H'=>∃ c4 c5 c6 js,σ=[some (.ref p),some (.str (ae gs)),some v,some (.ref pj),c4,c5,c6]∧But pj H1 H'∧H' pj=some (.lst js)∧Paired (JwIn H' k ps q) (((d9 q).take i).filter fun c=>decide (jsc k ps q.1 c∈gs)) js) ⟨_,_,_,[],rfl,But.refl,g1 _ _ ej,.nil⟩ (fun i σ H' hi z=>?_) (fun i x σ H2' H2 hi it z=>?_) (fun σ H' z=>?_)⟩
  · obtain ⟨_,_,_,_,rfl,S,_⟩:=z;exact SqL.of (S _ _ npj epc)
  · obtain ⟨c4,c5,c6,js,rfl,S,ejs,hjs⟩:=z;obtain ⟨rfl,hx⟩:=it;have TB:Tups H1 H2:=Tups.but S (g1 _ _ ej);obtain ⟨c,hc,b,x1,x2,rfl,eb,⟨a1,rfl,e1⟩,⟨a2,rfl,e2⟩⟩:=Paired.at hcs hx;have hcm:c∈d9 q:=aaf hc;unfold d9 at hcm;obtain ⟨m,hm,rfl⟩:=abf.mp hcm;have hm:=aaJ.mp hm;have npp:p≠pj:=aD ep nj;have epH:H2 p=some (.lst us):=S _ _ npp (g1 _ _ (g0 _ _ ep));obtain ⟨o1,u1,ia1,eo1,_⟩:=qo hps (i:=q.1) q0 (by lia);obtain ⟨o2,u2,ia2,eo2,_⟩:=qo hps (i:=q.1+(m:Int)+1) (by lia) (by lia);have T0:Tups H H2:=(Tups.of (g0.trans g1)).trans TB;refine ⟨b,_,rfl,SqT.of (TB _ _ eb),rfl,_,_,rfl,_,_,rfl,rfl,?_⟩;refine ⟨_,rfl,_,rfl,a1,_,_,_,rfl,rfl,SqT.of (TB _ _ e1),rfl,p,_,_,_,rfl,rfl,SqL.of epH,ia1,o1,_,_,_,rfl,rfl,SqT.of (T0 _ _ eo1),rfl,?_⟩;refine ⟨_,rfl,_,rfl,a2,_,_,_,rfl,rfl,SqT.of (TB _ _ e2),rfl,p,_,_,_,rfl,rfl,SqL.of epH,ia2,o2,_,_,_,rfl,rfl,SqT.of (T0 _ _ eo2),rfl,k,_,_,rfl,?_⟩;have hh:(!(aaX (ae gs) (jsc k ps q.1 (q.1+(m:Int))).str 0 (ae gs).length 1).isEmpty)=decide (jsc k ps q.1 (q.1+(m:Int))∈gs):=ln g3 sp _;refine ⟨_,rfl,_,rfl,_,_,rfl,rfl,decide (jsc k ps q.1 (q.1+(m:Int))∈gs),congrArg V.bl hh,qP (fun cc=>?_) (fun cc=>?_)⟩
    · refine ⟨_,rfl,.inl ⟨rfl,_,SqL.of ejs⟩,_,rfl,_,rfl,_,rfl,(by show 3≤sizeLine;decide),fun t nt=>?_⟩;have st:=Same.new nt (.tup [.ref a1,.str (jsc k ps q.1 (q.1+(m:Int))).str,.ref a2]);have ljs:=aav hjs;have f20:=fl i;refine ⟨pj,_,_,rfl,rfl,st _ _ ejs,aE (by lia),?_⟩;have nt':t≠pj:=fun z=>by rw [z,ejs] at nt;cases nt
      refine ⟨_,_,_,_,rfl,fun b o hb e=>?_,ag,?_⟩
      · rw [az hb];exact st _ _ (S _ _ hb e)
      rw [vE (p:=fun c=>decide (jsc k ps q.1 c∈gs)) hc cc];have TU:Tups H2 (upd (upd H2 t (.tup [.ref a1,.str (jsc k ps q.1 (q.1+(m:Int))).str,.ref a2])) pj (.lst (js++[.ref t]))):=fun b xs hb=>by
        rw [az (fun z=>by rw [z,ejs] at hb;cases hb)];exact st _ _ hb
      refine Paired.snoc (Paired.imp' (fun _ _ z=>z.mono TU) hjs) ⟨t,_,_,rfl,?_,⟨a1,rfl,TU _ _ (TB _ _ e1)⟩,⟨a2,rfl,TU _ _ (TB _ _ e2)⟩⟩;rw [az nt',ag];rfl
    · refine ⟨_,_,_,_,rfl,S,ejs,?_⟩;rw [vD (p:=fun c=>decide (jsc k ps q.1 c∈gs)) hc (by simpa using cc)];exact hjs
  · obtain ⟨c4,c5,c6,js,rfl,S,ejs,hjs⟩:=z;rw [← lcs,aaS] at hjs;exact ⟨_,rfl,qq pj js H' (fun b o e=>S _ _ (fun z=>by rw [z,nj] at e;cases e) (g1 _ _ (g0 _ _ e))) nj ejs hjs⟩
end
open PySem L2
def seg (ps:List (Bool × Wy)) (q:Int × Int):List (Bool × Wy):=(ps.drop q.1.toNat).take (q.2 - q.1+1).toNat
theorem kI {ps:List (Bool × Wy)} {q:Int × Int} (h0:0≤q.1) (h1:q.1≤q.2) (h2:q.2 < ps.length):(seg ps q).length=(q.2 - q.1+1).toNat:=by
  unfold seg;rw [aap,aaR];lia
theorem qh {ps:List (Bool × Wy)} {q:Int × Int} {m:Nat} (h0:0≤q.1) (h:q.1+(m:Int) < q.2):(seg ps q).take (m+1)=seg ps (q.1,q.1+(m:Int)):=by
  unfold seg;rw [List.take_take];congr 1;simp only;lia
theorem qj {ps:List (Bool × Wy)} {q:Int × Int} {m:Nat} (h0:0≤q.1) (h:q.1+(m:Int) < q.2):(seg ps q).drop (m+1)=seg ps (q.1+(m:Int)+1,q.2):=by
  unfold seg;rw [List.drop_take,List.drop_drop];congr 1
  · simp only;lia
  · congr 1;simp only;lia
theorem qi {ps:List (Bool × Wy)} {q:Int × Int} {m:Nat} (h0:0≤q.1) (h:q.1+(m:Int)≤q.2):hd (seg ps q) m=hd ps (q.1+(m:Int)).toNat:=by
  unfold hd seg;rw [aaA,aaA,aao,aao,aa9 (by lia),List.getElem?_drop];congr 3;lia
def tv (gs:List Sg) (k:Bool) (n:Nat) (ps:List (Bool × Wy)) (q:Int × Int):Int:=((tc gs k (seg ps q).length (sZ (seg ps q)) * ((seg ps q).map fun p=>ct gs n p.2).prod:Nat):Int)
theorem rV {ps:List (Bool × Wy)} (h:1≤ps.length):seg ps (0,(ps.length:Int) - 1)=ps:=by
  unfold seg;show (ps.drop 0).take _=ps;rw [abS,aaL (by simp only;lia)]
open PySem L2
theorem qg:∀ n,n≤9→(sfl n n).Pairwise (fun p q=>p.2 - p.1≤q.2 - q.1):=by decide +kernel
theorem i9 {n i:Nat} (hn:n≤9) {p q:Int × Int} (hi:(sfl n n)[i]?=some p) (hq:0≤q.1∧q.1≤q.2∧q.2 < n) (hl:q.2 - q.1 < p.2 - p.1):q∈(sfl n n).take i:=by
  have hm:q∈sfl n n:=by
    have z:=om n q.1.toNat q.2.toNat (by lia) (by lia);have e:((q.1.toNat:Int),(q.2.toNat:Int))=q:=by
      obtain ⟨a,b⟩:=q;simp only at *;rw [show (a.toNat:Int)=a by lia,show (b.toNat:Int)=b by lia]
    rw [e] at z;exact z
  obtain ⟨j,hj,e⟩:=abL hm;obtain ⟨hi1,hi2⟩:=aaq.mp hi;by_cases c:j < i
  · rw [List.mem_iff_getElem?];exact ⟨j,by rw [List.getElem?_take];rw [if_pos c,aag hj,e]⟩
  · have hr:=List.pairwise_iff_getElem.mp (qg n hn);by_cases c2:i=j
    · subst c2;rw [hi2] at e;rw [e] at hl;lia
    · have:=hr i j hi1 hj (by lia);rw [hi2,e] at this;lia
theorem gn {H H':Hp} {k:Bool} (t:Tups H H'):∀ {ps:List (Bool × Wy)} {us:List V},(∀ p∈ps,p.2.Bd)→Paired (PtR H k) ps us→Paired (PtR H' k) ps us
  | _,_,_,.nil=>.nil
  | _,_,h,.cons ⟨a,u,e,ea,d⟩ b=>.cons ⟨a,u,e,t _ _ ea,eu t _ _ (Wy.fm_ok _ (h _ aai)).d d⟩ (gn t (fun p hp=>h p (aae _ hp)) b)
theorem py (n:Nat):∀ p∈sfl n n,0≤p.1∧p.1≤p.2∧p.2 < n:=fun p hp=>by
  unfold sfl sfR at hp;rw [List.mem_flatMap] at hp;obtain ⟨m,hm,hp⟩:=hp;rw [List.mem_map] at hp;obtain ⟨f,hf,rfl⟩:=hp;rw [List.mem_range] at hf;simp only;lia
section
variable {P:Program} {w:World} {K:aaa} {mg:Str→Option Value} {base:Heap} {f:Addr} {fd:FuncData}
end
open PySem L2
theorem iR {gs:List Sg} {k:Bool}:∀ (n n':Nat) (ps:List (Bool × Wy)),1≤ps.length→ps.length≤n→ps.length≤n'→ft gs k n ps=ft gs k n' ps
  | 0,n',ps,h,h1,_=>by lia
  | n+1,0,ps,h,_,h2=>by lia
  | n+1,n'+1,ps,h,h1,h2=>by
    unfold ft;by_cases c:ps.length≤1
    · rw [if_pos c,if_pos c]
    · rw [if_neg c,if_neg c];have key:∀ j∈aaD (ps.length - 1),gF gs k (ft gs k n) ps j=gF gs k (ft gs k n') ps j:=fun j hj=>by
        rw [List.mem_range] at hj;unfold gF;rw [iR n n' (ps.take (j+1)) (by rw [aap];lia) (by rw [aap];lia) (by rw [aap];lia),iR n n' (ps.drop (j+1)) (by rw [aaR];lia) (by rw [aaR];lia) (by rw [aaR];lia)]
      revert key;generalize aaD (ps.length - 1)=l;intro key
      induction l with
      | nil=>rfl
      | cons a l ih =>
        rw [aa2,aa2,key a aai,ih fun j hj=>key j (aae _ hj)]
def fwp (gs:List Sg) (n:Nat) (ps:List (Bool × Wy)):List (Bool × Wy):=ps.map fun p=>(p.1,fw gs n p.2)
def fv (gs:List Sg) (k:Bool) (n:Nat) (ps:List (Bool × Wy)) (q:Int × Int):Option Wy:=ft gs k (seg ps q).length (fwp gs n (seg ps q))
theorem uC {gs:List Sg} {k:Bool} {n:Nat} {ps:List (Bool × Wy)} {q:Int × Int} (h0:0≤q.1) (h1:q.1=q.2) {p:Bool × Wy} (h2:ps[q.1.toNat]?=some p):fv gs k n ps q=some (fw gs n p.2):=by
  have e:seg ps q=[p]:=by
    unfold seg;have hi:=(aaq.mp h2).1;rw [show (q.2 - q.1+1).toNat=1 by lia,List.drop_eq_getElem_cons hi,abM,abK,(aaq.mp h2).2]
  unfold fv;rw [e];rfl
def jf (gs:List Sg) (k:Bool) (n:Nat) (ps:List (Bool × Wy)) (q:Int × Int) (c:Int):Option Wy:=(fv gs k n ps (q.1,c)).bind fun l=>(fv gs k n ps (c+1,q.2)).map fun r=>.node (jsc k ps q.1 c) l r
theorem qX {gs:List Sg} {n:Nat} {ps:List (Bool × Wy)} (i:Nat):hd (fwp gs n ps) i=hd ps i:=by
  unfold hd fwp;rw [abN];rfl
theorem iC {α β:Type} (P:α→Bool) (f g:α→Option β):∀ {l:List α},(∀ a∈l,f a=if P a=true then g a else none)→l.findSome? f=(l.filter P).findSome? g
  | [],_=>rfl
  | a :: l,h=>by
    rw [aa2,List.filter_cons,h a aai,iC P f g fun b hb=>h b (aae _ hb)];cases P a with
    | true=>rw [if_pos rfl,if_pos rfl,aa2]
    | false=>rfl
theorem uD {gs:List Sg} {k:Bool} {n:Nat} {ps:List (Bool × Wy)} {q:Int × Int} (h0:0≤q.1) (h1:q.1 < q.2) (h2:q.2 < ps.length):fv gs k n ps q=(jw gs k ps q).findSome? (jf gs k n ps q):=by
  have sl:=kI (ps:=ps) h0 (by lia) h2;have hl:(fwp gs n (seg ps q)).length=(seg ps q).length:=aac _;obtain ⟨m,hm⟩:∃ m,(seg ps q).length=m+1:=⟨(seg ps q).length - 1,by lia⟩
  have ej:jw gs k ps q=((aaD (q.2 - q.1).toNat).filter fun (j:Nat)=>decide (jsc k ps q.1 (q.1+(j:Int))∈gs)).map fun (j:Nat)=>q.1+(j:Int):=by
    unfold jw d9;rw [List.filter_map];rfl
  rw [ej,List.findSome?_map];unfold fv;rw [hm];show (if (fwp gs n (seg ps q)).length≤1 then _ else _)=_;rw [if_neg (by lia),hl,show (seg ps q).length - 1=(q.2 - q.1).toNat by lia];refine iC _ _ _ fun j hj=>?_;rw [List.mem_range] at hj;have e1:(fwp gs n (seg ps q)).take (j+1)=fwp gs n (seg ps (q.1,q.1+(j:Int))):=by unfold fwp;rw [← ab1,qh h0 (by lia)]
  have e2:(fwp gs n (seg ps q)).drop (j+1)=fwp gs n (seg ps (q.1+(j:Int)+1,q.2)):=by unfold fwp;rw [← ab0,qj h0 (by lia)]
  have es:jsg k (hd (fwp gs n (seg ps q)) 0) (hd (fwp gs n (seg ps q)) (j+1))=jsc k ps q.1 (q.1+(j:Int)):=by
    rw [qX,qX,qi h0 (by lia),qi h0 (by lia)];unfold jsc;congr 2 <;> lia
  have s1:=kI (ps:=ps) (q:=(q.1,q.1+(j:Int))) h0 (by simp only;lia) (by simp only;lia);have s2:=kI (ps:=ps) (q:=(q.1+(j:Int)+1,q.2)) (by simp only;lia) (by simp only;lia) h2;simp only at s1 s2;have l1:(fwp gs n (seg ps (q.1,q.1+(j:Int)))).length=(seg ps (q.1,q.1+(j:Int))).length:=aac _;have l2:(fwp gs n (seg ps (q.1+(j:Int)+1,q.2))).length=(seg ps (q.1+(j:Int)+1,q.2)).length:=aac _;unfold gF;rw [es,e1,e2];by_cases c:jsc k ps q.1 (q.1+(j:Int))∈gs
  · rw [if_pos c,if_pos (decide_eq_true c),iR m (seg ps (q.1,q.1+(j:Int))).length _ (by lia) (by lia) (by lia),iR m (seg ps (q.1+(j:Int)+1,q.2)).length _ (by lia) (by lia) (by lia)];rfl
  · rw [if_neg c,if_neg (fun z=>c (of_decide_eq_true z))]
theorem uE {gs:List Sg} (hs:gs.length≤3) {n:Nat} {g:Sg} {l r:Wy} (hn:(Wy.node g l r).size≤n+1) (h9:(Wy.node g l r).size≤9) (hw:(Wy.node g l r).within gs):fv gs g.k n (lv g.k true (.node g l r)) (0,((lv g.k true (.node g l r)).length:Int) - 1)=some (fw gs (n+1) (.node g l r)):=by
  unfold fv;rw [rV (dy _ _ _)];exact (oQ hs h9 hw fun p hp=>mG hs n p.2 (by have:=bw hp;lia) (by have:=bw hp;lia) (bn _ _ _ hw p hp)).1
open PySem L2
def OwIn (H:Hp) (o:Option Wy) (v:V):Prop:=(o=none∧v=.non)∨∃ w,o=some w∧WyIn H w v
theorem OwIn.mono {H H':Hp} (t:Tups H H') {o:Option Wy} {v:V}:OwIn H o v→OwIn H' o v
  | .inl h=>.inl h
  | .inr ⟨w,e,h⟩=>.inr ⟨w,e,h.mono t⟩
theorem WyIn.ne_non {H:Hp}:∀ {w:Wy} {v:V},WyIn H w v→v≠.non
  | .num _,_,h=>by cases h;exact fun e=>by cases e
  | .node _ _ _,_,h=>by obtain ⟨a,x,y,rfl,_⟩:=h;exact fun e=>by cases e
theorem sB {c:Bool} {A B:Prop} (h:c=true) (a:A):if c=true then A else B:=by rw [if_pos h];exact a
def FsT (H:Hp) (gs:List Sg) (k:Bool) (n:Nat) (ps:List (Bool × Wy)) (kvs:List (List Key × V)) (qs:List (Int × Int)):Prop:=∀ q∈qs,∃ v,bW kvs (ky q)=some v∧OwIn H (fv gs k n ps q) v
theorem FsT.mono {H H':Hp} (t:Tups H H') {gs:List Sg} {k:Bool} {n:Nat} {ps:List (Bool × Wy)} {kvs:List (List Key × V)} {qs:List (Int × Int)} (h:FsT H gs k n ps kvs qs):FsT H' gs k n ps kvs qs:=fun q hq=>by
  obtain ⟨v,e,o⟩:=h q hq;exact ⟨v,e,o.mono t⟩
theorem FsT.put {H:Hp} {gs:List Sg} {k:Bool} {n:Nat} {ps:List (Bool × Wy)} {kvs:List (List Key × V)} {qs:List (Int × Int)} {p:Int × Int} {v:V} (h:FsT H gs k n ps kvs qs) (o:OwIn H (fv gs k n ps p) v):FsT H gs k n ps (db kvs (ky p) v) (qs++[p]):=fun q hq=>by
  rw [pV];by_cases e:ky q=ky p
  · rw [if_pos e,uh e];exact ⟨v,rfl,o⟩
  · rw [if_neg e];rcases aaB.mp hq with hq|hq
    · exact h q hq
    · exact absurd (by rw [aau.mp hq]) e
section
variable {P:Program} {w:World} {K:aaa} {mg:Str→Option Value} {base:Heap} {f:Addr} {fd:FuncData}
def tT:Sp:=fun vs H Q _=>∃ (pd pj:Addr) (kvs:List (List Key × V)) (js:List V) (gs:List Sg) (k:Bool) (n:Nat) (ps:List (Bool × Wy)) (q:Int × Int) (qs:List (Int × Int)),vs=[.ref pd,.ref pj]∧H pd=some (.dT kvs)∧H pj=some (.lst js)∧FsT H gs k n ps kvs qs∧Paired (JwIn H k ps q) (jw gs k ps q) js∧(∀ c∈d9 q,(q.1,c)∈qs∧(c+1,q.2)∈qs)∧∀ v H',Same H H'→OwIn H' ((jw gs k ps q).findSome? (jf gs k n ps q)) v→Q v H'
abbrev dS:Stmt:=top 59
theorem cy:FnScope ["firsts","joints","before","sign","behind"] ["firsts","joints"] (al dS):=⟨rfl,rfl,rfl,by decide +kernel,rfl,by decide +kernel,by decide +kernel⟩
theorem jP (F:Fun K "join_first" "join_first" dS f fd) (B:Bu K mg):FnOk P w K mg base CX0 1 f fd ["firsts","joints"] tT:=by
  refine F.ok cy (fun vs H Q E h=>?_) (fun cdv A outer s H vs Q E hr h=>?_)
  · obtain ⟨pd,pj,kvs,js,gs,k,n,ps,q,qs,rfl,_⟩:=h;rfl
  obtain ⟨pd,pj,kvs,js,gs,k,n,ps,q,qs,rfl,ed,ej,hf,hj,hc,fin⟩:=h;refine ⟨_,(@af _ _ _ _ _ (@bX _ _ _ _ _ _ _ _ aaF rfl (@b_ _ _ _ _ (pv 1)) (@bK _ _ _ _ _ _ rfl (@ao _ _ _ _ _ (@am _ _ (2) _ (cy).nd rfl (Or.inl rfl) (.inl rfl)) (@ao _ _ _ _ _ (@am _ _ (3) _ (cy).nd rfl (Or.inl rfl) (.inl rfl)) (@ao _ _ _ _ _ (@am _ _ (4) _ (cy).nd rfl (Or.inl rfl) (.inl rfl)) aV (by rfl)) (by rfl)) (by rfl)) (by rfl) (by rfl)) (@ah _ _ _ (@aH _ _ _ _ _ _ _ _ (@PW.pt _ _ _ (@jg _ _ _ _ _ _ _ (@av _ _ _ _ _ _ _ _ oz (@cz _ _ _ _ _ _ (u1 hr.units) (pv 0) (pv 2) (fun _ _=>rfl)) ng (aA _)) (@iN _ _ _ _ (@av _ _ _ _ _ _ _ _ oz (@cz _ _ _ _ _ _ (u1 hr.units) (pv 0) (pv 4) (fun _ _=>rfl)) ng (aA _))))) (@ah _ _ _ (@aq _ _ _ _ (@aQ _ _ _ _ _ (@aa _ _ _ _ _ (pv 3) (@aa _ _ _ _ _ (@cz _ _ _ _ _ _ (u1 hr.units) (pv 0) (pv 2) (fun _ _=>rfl)) (@aa _ _ _ _ _ (@cz _ _ _ _ _ _ (u1 hr.units) (pv 0) (pv 4) (fun _ _=>rfl)) ad (by rfl)) (by rfl)) (by rfl))))) au)) (by intro _;rfl)) (@ah _ _ _ (@aq _ _ _ _ ng))),?_⟩;have lj:=hj.length;refine ⟨_,rfl,pj,rfl,⟨_,SqL.of ej⟩,fY (Trn.list (xs:=js)) (fun i σ H'=>∃ c2 c3 c4,σ=[some (.ref pd),some (.ref pj),c2,c3,c4]∧H'=H∧((jw gs k ps q).take i).findSome? (jf gs k n ps q)=none) ⟨_,_,_,rfl,rfl,rfl⟩ (fun i σ H' hi z=>?_) (fun i x σ H2' H2 hi it z=>?_) (fun σ H' z=>?_)⟩
  · obtain ⟨_,_,_,rfl,rfl,_⟩:=z;exact SqL.of ej
  · obtain ⟨c2,c3,c4,rfl,rfl,hn⟩:=z;obtain ⟨rfl,hx⟩:=it;obtain ⟨c,hci,o,y1,y2,rfl,eo,hy1,hy2⟩:=Paired.at hj hx;have hcm:c∈d9 q:=(List.mem_filter.mp (aaf hci)).1;obtain ⟨m1,m2⟩:=hc c hcm;obtain ⟨v1,e1,o1⟩:=hf _ m1;obtain ⟨v2,e2,o2⟩:=hf _ m2;obtain ⟨b1,rfl,hb1⟩:=PairIn.key hy1;obtain ⟨b2,rfl,hb2⟩:=PairIn.key hy2;have et:(jw gs k ps q).take (i+1)=(jw gs k ps q).take i++[c]:=by rw [aaU,hci];rfl
    have ef:((jw gs k ps q).take (i+1)).findSome? (jf gs k n ps q)=jf gs k n ps q c:=by
      rw [et,List.findSome?_append,hn,aa2];cases jf gs k n ps q c <;> rfl
    refine ⟨o,_,rfl,SqT.of eo,rfl,_,_,rfl,_,_,rfl,_,_,rfl,rfl,?_⟩;have g1:DGet H2 pd (.ref b1) (some v1):=by rw [← e1];exact DGet.t (k:=ky (q.1,c)) ed hb1
    have g2:DGet H2 pd (.ref b2) (some v2):=by rw [← e2];exact DGet.t (k:=ky (c+1,q.2)) ed hb2
    refine ⟨_,rfl,_,rfl,pd,v1,rfl,g1,rfl,_,rfl,?_⟩;rcases o1 with ⟨f1,rfl⟩|⟨w1,f1,i1⟩
    · exact aM (aM ⟨_,_,_,rfl,rfl,by rw [ef];unfold jf;rw [f1];rfl⟩)
    refine sB (by rw [decide_eq_false (WyIn.ne_non i1)];rfl) ?_;refine ⟨_,rfl,_,rfl,pd,v2,rfl,g2,rfl,_,rfl,?_⟩;rcases o2 with ⟨f2,rfl⟩|⟨w2,f2,i2⟩
    · exact aM ⟨_,_,_,rfl,rfl,by rw [ef];unfold jf;rw [f1,f2];rfl⟩
    refine sB (by rw [decide_eq_false (WyIn.ne_non i2)];rfl) ?_;refine ⟨_,rfl,_,rfl,_,rfl,pd,v1,rfl,g1,_,rfl,_,rfl,pd,v2,rfl,g2,(by show 3≤sizeLine;decide),fun t ht=>?_⟩;have st:=Same.new ht (.tup [.str (jsc k ps q.1 c).str,v1,v2]);have ej:jf gs k n ps q c=some (.node (jsc k ps q.1 c) w1 w2):=by unfold jf;rw [f1,f2];rfl
    have eall:(jw gs k ps q).findSome? (jf gs k n ps q)=some (.node (jsc k ps q.1 c) w1 w2):=by
      rw [← aaO (i+1) (jw gs k ps q),List.findSome?_append,ef,ej];rfl
    exact fin _ _ st (.inr ⟨_,eall,t,v1,v2,rfl,ag,i1.mono (Tups.of st),i2.mono (Tups.of st)⟩)
  · obtain ⟨c2,c3,c4,rfl,rfl,hn⟩:=z;rw [← lj,aaS] at hn;exact fin _ _ (Same.refl _) (.inl ⟨hn,rfl⟩)
def rT (n:Nat):Sp:=fun vs H Q _=>∃ (w:Wy) (v:V) (gs:List Sg),vs=[v,.str (ae gs)]∧Dat H w.fm.data v∧w.size≤n∧w.size≤9∧w.Bd∧gs.length≤3∧aX gs∧w.within gs∧∀ x H',Same H H'→WyIn H' (fw gs n w) x→Q x H'
abbrev dU:Stmt:=top 58
theorem bG:FnScope ["form","signs","parts","firsts","stretch","first","last"] ["form","signs"] (al dU):=⟨rfl,rfl,rfl,by decide +kernel,rfl,by decide +kernel,by decide +kernel⟩
theorem jQ (F:Fun K "find_first" "find_first" dU f fd) (bF:Binds K fd ["form","signs"] []) (mF:mg "find_first" = some (.ref f)) (B:Bu K mg) (C_is_whole:Cal P w K mg base "is_whole" 1 ["thing"] (bB K)) (C_parts_of:Cal P w K mg base "parts_of" 1 ["form"] j4) (C_shorter_first:Cal P w K mg base "shorter_first" 1 ["many"] tQ) (C_joints_within:Cal P w K mg base "joints_within" 2 ["parts","signs","stretch"] tR) (C_join_first:Cal P w K mg base "join_first" 1 ["firsts","joints"] tT):∀ n,FnOk P w K mg base CX0 (n+3) f fd ["form","signs"] (rT n):=by
  intro n
  induction n with
  | zero =>
    refine ⟨fun vs H Q E h=>?_,fun A outer s H args us vs Q E _ _ _ _ h=>?_⟩
    · obtain ⟨x,v,gs,rfl,_⟩:=h;rfl
    · obtain ⟨wy,v,gs,_,_,h0,_⟩:=h;have:=wy.size_pos;lia
  | succ n ih =>
    have C_find_first:Cal P w K mg base "find_first" (n+3) ["form","signs"] (rT n):=⟨f,fd,ih,bF,F.kp,mF⟩
    refine F.ok bG (fun vs H Q E h=>?_) (fun cdv A outer s H vs Q E hr h=>?_)
    · obtain ⟨x,v,gs,rfl,_⟩:=h;rfl
    obtain ⟨wy,v,gs,rfl,hd',hn,h9,hB,g3,sp,hw,q⟩:=h;refine ⟨_,(@af _ _ _ _ _ (@aH _ _ _ _ _ _ _ _ (@aR _ _ _ (@aj _ _ _ _ _ _ _ _ _ _ _ C_is_whole hr (by lia) rfl (@aa _ _ _ _ _ (pv 0) ad (by rfl)) (by decide) (by rfl) (by rfl)) (by intro _;rfl)) (@ah _ _ _ (@aq _ _ _ _ (pv 0))) au) (@af _ _ _ _ _ (@aw _ _ (2) _ _ _ _ (bG).nd rfl (Or.inl rfl) (@aj _ _ _ _ _ _ _ _ _ _ _ C_parts_of hr (by lia) rfl (@aa _ _ _ _ _ (pv 0) ad (by rfl)) (by decide) (by rfl) (by rfl)) (by rfl) (by first|exact .inl rfl|exact .inr rfl|assumption)) (@af _ _ _ _ _ (@aw _ _ (3) _ _ _ _ (bG).nd rfl (Or.inl rfl) qB (by rfl) (by first|exact .inl rfl|exact .inr rfl|assumption)) (@af _ _ _ _ _ (@bX _ _ _ _ _ _ _ _ aaF rfl (@b_ _ _ _ _ (@aj _ _ _ _ _ _ _ _ _ _ _ C_shorter_first hr (by lia) rfl (@aa _ _ _ _ _ (@ap _ _ _ _ _ _ _ _ _ ar rfl B.ilen aay (@aa _ _ _ _ _ (pv 2) ad (by rfl)) (by decide) (by decide) (by rfl) (by rfl)) ad (by rfl)) (by decide) (by rfl) (by rfl))) (@am _ _ (4) _ (bG).nd rfl (Or.inl rfl) (.inl rfl)) (@af _ _ _ _ _ (@cY _ _ _ _ _ _ (pv 4) (@bK _ _ _ _ _ _ rfl (@ao _ _ _ _ _ (@am _ _ (5) _ (bG).nd rfl (Or.inl rfl) (.inl rfl)) (@ao _ _ _ _ _ (@am _ _ (6) _ (bG).nd rfl (Or.inl rfl) (.inl rfl)) aV (by rfl)) (by rfl)) (by rfl) (by rfl)) (by rfl) (by rfl) (by rfl)) (@ah _ _ _ (@aH _ _ _ _ _ _ _ _ (@av _ _ _ _ _ _ _ _ bE (pv 5) (pv 6) (aA _)) (@ah _ _ _ (@kQ _ _ _ _ _ _ _ _ _ (u1 hr.units) (pv 3) (pv 4) (@aj _ _ _ _ _ _ _ _ _ _ _ C_find_first hr (by lia) rfl (@aa _ _ _ _ _ (@aC _ _ _ _ _ _ _ bc (@aC _ _ _ _ _ _ _ aF (pv 2) (pv 5) (fun _ _=>rfl)) ai (fun _ _=>rfl)) (@aa _ _ _ _ _ (pv 1) ad (by rfl)) (by rfl)) (by decide) (by rfl) (by rfl)) rfl)) (@ah _ _ _ (@kQ _ _ _ _ _ _ _ _ _ (u1 hr.units) (pv 3) (pv 4) (@aj _ _ _ _ _ _ _ _ _ _ _ C_join_first hr (by lia) rfl (@aa _ _ _ _ _ (pv 3) (@aa _ _ _ _ _ (@aj _ _ _ _ _ _ _ _ _ _ _ C_joints_within hr (by lia) rfl (@aa _ _ _ _ _ (pv 2) (@aa _ _ _ _ _ (pv 1) (@aa _ _ _ _ _ (pv 4) ad (by rfl)) (by rfl)) (by rfl)) (by decide) (by rfl) (by rfl)) ad (by rfl)) (by rfl)) (by decide) (by rfl) (by rfl)) rfl))))) (by intro _;rfl)) (@ah _ _ _ (@aq _ _ _ _ (@cz _ _ _ _ _ _ (u1 hr.units) (pv 3) (@aQ _ _ _ _ _ (@aa _ _ _ _ _ ai (@aa _ _ _ _ _ (@ay _ _ _ _ _ _ _ _ cL (@ap _ _ _ _ _ _ _ _ _ ar rfl B.ilen aay (@aa _ _ _ _ _ (pv 2) ad (by rfl)) (by decide) (by decide) (by rfl) (by rfl)) ai) ad (by rfl)) (by rfl))) (fun _ _=>rfl)))))))),?_⟩;cases wy with
    | num i =>
      have e:v=.int i:=by simpa only [Wy.fm,Fm.data,Dat] using hd'
      subst e;exact ⟨_,rfl,_,"int",rfl,.int i,true,rfl,bA ⟨_,rfl,q _ H (Same.refl _) rfl⟩⟩
    | node g l r =>
      obtain ⟨a,b,us,rfl,ea,eb,i1,i2⟩:=de hd';refine ⟨_,rfl,_,"tuple",rfl,.tup ea,false,rfl,aM ?_⟩;refine ⟨_,rfl,g,l,r,_,rfl,hd',by lia,fun p us' H1 g1 np ep hp=>?_⟩;generalize hps:lv g.k true (.node g l r)=ps at hp;have zp:szs ps≤9:=by rw [← hps,a8];exact h9
      have lp:=aav hp;have lps:=b0 ps;have l1:1≤ps.length:=by rw [← hps];exact dy _ _ _
      have hBp:∀ p∈ps,p.2.Bd:=fun p hp=>by rw [← hps] at hp;exact j8 hB hp
      have hwp:∀ p∈ps,p.2.within gs:=fun p hp=>by rw [← hps] at hp;exact bn _ _ _ hw p hp
      have hless:∀ p∈ps,p.2.size < (Wy.node g l r).size:=fun p hp=>by rw [← hps] at hp;exact bw hp
      refine fun pd nd=>?_;have sd:=Same.new nd (.dT []);have ed:upd H1 pd (.dT []) pd=some (.dT []):=ag;generalize upd H1 pd (.dT [])=H2 at sd ed ⊢;refine ⟨_,rfl,p,_,rfl,.inl (SqL.of (sd _ _ ep)),?_⟩;rw [← lp];refine ⟨ps.length,rfl,by lia,fun pl ss H3 s3 npl epl hss=>?_⟩;have lss:=hss.length;have l81:=on ps.length ps.length;have l81':ps.length * ps.length≤9 * 9:=Nat.mul_le_mul (by lia) (by lia);have npd:pl≠pd:=fun e=>by rw [e,ed] at npl;cases npl
      have nppd:p≠pd:=aD ep nd;have gd:=py ps.length;have hN:ps.length≤9:=by lia
      refine ⟨pl,rfl,⟨_,SqL.of epl⟩,fY (Trn.list (xs:=ss)) (fun i σ H'=>∃ c4 c5 c6 kvs,σ=[some (.ref a),some (.str (ae gs)),some (.ref p),some (.ref pd),c4,c5,c6]∧H' pd=some (.dT kvs)∧kvs.length≤i∧FsT H' gs g.k n ps kvs ((sfl ps.length ps.length).take i)∧But pd H3 H') ⟨_,_,_,[],rfl,s3 _ _ ed,aab _,fun q hq=>by simp at hq,But.refl⟩ (fun i σ H' hi z=>?_) (fun i x σ H4' H4 hi it z=>?_) (fun σ H' z=>?_)⟩
      · obtain ⟨_,_,_,_,rfl,_,_,_,bb⟩:=z;exact SqL.of (bb _ _ npd epl)
      · obtain ⟨c4,c5,c6,kvs,rfl,ek,lk,hk',bb⟩:=z;obtain ⟨rfl,hx⟩:=it;obtain ⟨pq,hpi,hpx⟩:=qD hss hx;have hpm:=gd pq (aaf hpi);have TB:Tups H3 H4:=fun b xs hb=>bb b _ (fun e=>by rw [e,s3 _ _ ed] at hb;cases hb) hb;have hpx':=PairIn.mono TB hpx;have T1:Tups H1 H4:=(Tups.of (sd.trans s3)).trans TB;have ep4:H4 p=some (.lst us'):=bb _ _ nppd ((sd.trans s3) _ _ ep);have hp4:=gn T1 hBp hp;have etake:(sfl ps.length ps.length).take (i+1)=(sfl ps.length ps.length).take i++[pq]:=by rw [aaU,hpi];rfl
        have fin:∀ (H5:Hp) (u:V),Same H4 H5→OwIn H5 (fv gs g.k n ps pq) u→∃ H6,DPut H5 pd x u H6∧∃ kvs',H6 pd=some (.dT kvs')∧kvs'.length≤i+1∧FsT H6 gs g.k n ps kvs' ((sfl ps.length ps.length).take (i+1))∧But pd H3 H6:=fun H5 u g5 ou=>by
          have e5:=g5 _ _ ek;obtain ⟨b,rfl,hb⟩:=PairIn.key (PairIn.mono (Tups.of g5) hpx');have b6:But pd H5 (upd H5 pd (.dT (db kvs (ky pq) u))):=But.put;have t6:Tups H5 (upd H5 pd (.dT (db kvs (ky pq) u))):=fun b xs hb=>b6 b _ (fun e=>by rw [e,e5] at hb;cases hb) hb;refine ⟨_,DPut.t (k:=ky pq) e5 hb (aE (by lia)),_,ag,?_,?_,?_⟩
          · have:=cE kvs (ky pq) u;lia
          · rw [etake];exact ((hk'.mono (Tups.of g5)).mono t6).put (ou.mono t6)
          · exact (bb.trans (But.of g5)).trans b6
        have hpx0:=hpx';obtain ⟨ax,rfl,hax⟩:=hpx';refine ⟨_,rfl,ax,_,rfl,SqT.of hax,rfl,_,_,rfl,_,_,rfl,rfl,?_⟩;refine ⟨_,rfl,_,rfl,rfl,_,rfl,qP (fun ce=>?_) (fun ce=>?_)⟩
        · have ce:V.int pq.1=V.int pq.2:=of_decide_eq_true ce;injection ce with ce
          obtain ⟨o,u,ia,eo,pp,hpp,du⟩:=qo hp4 (i:=pq.1) hpm.1 (by lia);have pm:=aaf hpp;have hls:=hless pp pm;refine ⟨_,rfl,_,rfl,p,_,_,_,rfl,rfl,SqL.of ep4,ia,o,_,_,_,rfl,rfl,SqT.of eo,rfl,_,rfl,pp.2,u,gs,rfl,du,by lia,by lia,hBp pp pm,g3,sp,hwp pp pm,fun y H5 g5 hy=>?_⟩;obtain ⟨H6,d6,kvs',w6⟩:=fin H5 y g5 (.inr ⟨_,uC hpm.1 ce hpp,hy⟩);exact ⟨_,rfl,_,rfl,pd,H6,rfl,d6,_,_,_,kvs',rfl,w6⟩
        · have ce:pq.1≠pq.2:=fun z=>ce (by rw [z];exact decide_eq_true rfl);refine ⟨_,rfl,_,rfl,_,rfl,_,rfl,p,us',gs,g.k,ps,pq,_,rfl,ep4,hp4,by lia,g3,sp,hpx0,hpm.1,hpm.2.1,hpm.2.2,fun pj js H5 g5 npj epj hjs=>?_⟩;have ek5:=g5 _ _ ek;refine ⟨pd,pj,kvs,js,gs,g.k,n,ps,pq,(sfl ps.length ps.length).take i,rfl,ek5,epj,hk'.mono (Tups.of g5),hjs,fun c hcm=>?_,fun y H6 g6 hy=>?_⟩
          · unfold d9 at hcm;obtain ⟨m,hm,rfl⟩:=abf.mp hcm;have hm:=aaJ.mp hm;exact ⟨i9 (q:=(pq.1,pq.1+(m:Int))) hN hpi (by simp only;lia) (by simp only;lia),i9 (q:=(pq.1+(m:Int)+1,pq.2)) hN hpi (by simp only;lia) (by simp only;lia)⟩
          · rw [← uD hpm.1 (by lia) hpm.2.2] at hy;obtain ⟨H7,d7,kvs',w7⟩:=fin H6 y (g5.trans g6) hy;exact ⟨_,rfl,_,rfl,pd,H7,rfl,d7,_,_,_,kvs',rfl,w7⟩
      · obtain ⟨c4,c5,c6,kvs,rfl,ek,lk,hk',bb⟩:=z;rw [← lss,aaS] at hk';have hm:=om ps.length 0 (ps.length - 1) (by lia) (by lia);have ey:(((0:Nat):Int),((ps.length - 1:Nat):Int))=(0,(ps.length:Int) - 1):=by congr 1;lia
        rw [ey] at hm;obtain ⟨u,hv,ou⟩:=hk' _ hm;have epH:H' p=some (.lst us'):=bb _ _ nppd ((sd.trans s3) _ _ ep);refine ⟨_,rfl,_,rfl,p,_,rfl,.inl (SqL.of epH),_,_,rfl,rfl,(by show 2≤sizeLine;decide),fun t ht=>?_⟩;rw [← lp] at *;have st:=Same.new ht (.tup [.int 0,.int ((ps.length:Int) - 1)]);have ek2:=st _ _ ek;refine ⟨pd,u,rfl,by rw [← hv];exact DGet.t (k:=ky (0,(ps.length:Int) - 1)) ek2 ag,?_⟩;have ef:fv gs g.k n ps (0,(ps.length:Int) - 1)=some (fw gs (n+1) (.node g l r)):=by rw [← hps];exact uE g3 hn h9 hw
        rcases ou with ⟨e,_⟩|⟨w',e,iw⟩
        · rw [ef] at e;cases e
        · rw [ef] at e;cases e;exact q _ _ (fun b o hb=>st _ _ (bb b o (fun z=>by rw [z,g1.free nd] at hb;cases hb) ((sd.trans s3) _ _ (g1 _ _ hb)))) (iw.mono (Tups.of st))
end
open PySem L2
def kS:Bool→Str
  | true=>"times"
  | false=>"sum"
theorem uw {c:Bool} {A B:Prop} (h1:c=true→A) (h2:c=false→B):if c=true then A else B:=by
  cases c with
  | true=>exact h1 rfl
  | false=>exact h2 rfl
def bU (k:Bool) (place:Nat) (signs:Str):Str :=
  match k with
  | true=>if bR signs "*" = true then "*" else ""
  | false=>if place=0 then "+" else if place=1∨bR signs "-" = false then Txt.replace signs "*" "" else "+-"
theorem jv {k b:Bool} {w:Wy} {p:Bool × Wy} (h:(lv k b w)[0]?=some p):p.1=b:=by
  obtain ⟨u,t,e⟩:=gD k b w;rw [e] at h;cases h;rfl
theorem il {gs:List Sg}:∀ (w:Wy) (b:Bool) (p:Bool × Wy),w.within gs→(lv false b w)[1]?=some p→(p.1=b∧Sg.plus∈gs)∨(p.1=!b∧Sg.minus∈gs)
  | .num i,b,p,_,h=>by cases h
  | .node .times l r,b,p,_,h=>by cases h
  | .node .plus l r,b,p,hw,h=>by
    have e:lv false b (.node .plus l r)=lv false b l++lv false b r:=rfl;rw [e] at h;by_cases c:1 < (lv false b l).length
    · rw [aa5 c] at h;exact il l b p hw.2.1 h
    · have:=dy false b l;rw [aa1 (by lia),show 1 - (lv false b l).length=0 by lia] at h;exact .inl ⟨jv h,hw.1⟩
  | .node .minus l r,b,p,hw,h=>by
    have e:lv false b (.node .minus l r)=lv false b l++lv false (!b) r:=rfl;rw [e] at h;by_cases c:1 < (lv false b l).length
    · rw [aa5 c] at h;exact il l b p hw.2.1 h
    · have:=dy false b l;rw [aa1 (by lia),show 1 - (lv false b l).length=0 by lia] at h;exact .inr ⟨jv h,hw.1⟩
theorem le {gs:List Sg} (hm:Sg.minus∉gs):∀ (w:Wy) (b:Bool),w.within gs→∀ p∈lv false b w,p.1=b
  | .num i,b,_,p,h=>by cases aau.mp (show p∈[(b,Wy.num i)] from h);rfl
  | .node .times l r,b,_,p,h=>by cases aau.mp (show p∈[(b,Wy.node .times l r)] from h);rfl
  | .node .plus l r,b,hw,p,h=>by
    have h:p∈lv false b l++lv false b r:=h;rcases aaB.mp h with h|h
    · exact le hm l b hw.2.1 p h
    · exact le hm r b hw.2.2 p h
  | .node .minus l r,b,hw,p,h=>absurd hw.1 hm
theorem oo {gs:List Sg} (g3:gs.length≤3) (sp:aX gs) (b:Bool) (h:(if b=true then Sg.plus else Sg.minus)∈gs):bR (Txt.replace (ae gs) "*" "") (sgB b)=true:=by
  rcases iY gs g3 sp with rfl|rfl|rfl|rfl|rfl|rfl|rfl <;> cases b <;> first|decide +kernel|exact absurd h (by decide)
theorem oK {gs:List Sg} (g3:gs.length≤3) (sp:aX gs) {g:Sg} {l r:Wy} (hw:(Wy.node g l r).within gs) {i:Nat} {p:Bool × Wy} (h:(lv g.k true (.node g l r))[i]?=some p):bR (bU g.k i (ae gs)) (hk g.k p.1)=true:=by
  cases ek:g.k with
  | true =>
    have eg:g=.times:=by cases g <;> first|rfl|cases ek
    subst eg;show bR (if bR (ae gs) "*" = true then "*" else "") "*" = true;rw [show bR (ae gs) "*" = true from (ln g3 sp .times).trans (decide_eq_true hw.1),if_pos rfl];decide +kernel
  | false =>
    rw [ek] at h;show bR (if i=0 then "+" else if i=1∨bR (ae gs) "-" = false then Txt.replace (ae gs) "*" "" else "+-") (sgB p.1)=true;by_cases h0:i=0
    · subst h0;rw [if_pos rfl,jv h];decide +kernel
    rw [if_neg h0];have mi:bR (ae gs) "-" = decide (Sg.minus∈gs):=ln g3 sp .minus;by_cases h1:i=1
    · subst h1;rw [if_pos (.inl rfl)];refine oo g3 sp _ ?_;rcases il _ _ _ hw h with ⟨e,hh⟩|⟨e,hh⟩ <;> rw [e] <;> exact hh
    by_cases hm:Sg.minus∈gs
    · rw [if_neg (by rw [mi,decide_eq_true hm];simp [h1])];cases p.1 <;> decide +kernel
    · rw [if_pos (.inr (by rw [mi,decide_eq_false hm]))];refine oo g3 sp _ ?_;rw [le hm _ _ hw p (aaf h)];have : g=.plus:=by
        cases g with
        | plus=>rfl
        | minus=>exact absurd hw.1 hm
        | times=>cases ek
      rw [← this];exact hw.1
section
variable {P:Program} {w:World} {K:aaa} {mg:Str→Option Value} {base:Heap} {f:Addr} {fd:FuncData}
def ol:Sp:=fun vs H Q _=>∃ (k:Bool) (place:Nat) (signs:Str),vs=[.str (kS k),.int place,.str signs]∧signs.length≤1000∧Q (.str (bU k place signs)) H
abbrev fS:Stmt:=top 47
theorem l5:FnScope ["kind","place","signs"] ["kind","place","signs"] (al fS):=⟨rfl,rfl,rfl,by decide +kernel,rfl,by decide +kernel,by decide +kernel⟩
theorem mt (F:Fun K "heads_at" "heads_at" fS f fd):FnOk P w K mg base CX0 1 f fd ["kind","place","signs"] ol:=by
  refine F.ok l5 (fun vs H Q E h=>?_) (fun cdv A outer s H vs Q E hr h=>?_)
  · obtain ⟨a,g,b,rfl,_⟩:=h;rfl
  obtain ⟨k,place,signs,rfl,hs,q⟩:=h;refine ⟨_,(@af _ _ _ _ _ (@aH _ _ _ _ _ _ _ _ (@av _ _ _ _ _ _ _ _ bE (pv 0) aB (aA _)) (@ah _ _ _ (@aq _ _ _ _ (@bT _ _ _ _ _ _ _ _ (@av _ _ _ _ _ _ _ _ ib aB (pv 2) (by with_unfolding_all rfl)) aB aB))) au) (@af _ _ _ _ _ (@aH _ _ _ _ _ _ _ _ (@av _ _ _ _ _ _ _ _ bE (pv 1) ai (aA _)) (@ah _ _ _ (@aq _ _ _ _ aB)) au) (@af _ _ _ _ _ (@tY _ _ _ _ _ _ _ _ (Tk.or (Tk.cmp Tk.constI (aA _))) (@PW.pt _ _ _ (@fB _ _ _ _ _ _ _ (@av _ _ _ _ _ _ _ _ bE (pv 1) ai (aA _)) (@eT _ _ _ _ (@av _ _ _ _ _ _ _ _ gx aB (pv 2) (by with_unfolding_all rfl))))) (@qp _ _ _ _ (@qy _ _ _ _ _ _ _ _ _ _ _ (pv 2) rfl (by decide) (by rfl) (by rfl))) au) (@ah _ _ _ (@aq _ _ _ _ aB))))),?_⟩;cases k with
  | true =>
    refine ⟨_,rfl,rfl,_,rfl,fD rfl ⟨_,rfl,_,_,rfl,rfl,_,rfl,?_⟩⟩;have q':Q (.str (if bR signs "*" = true then "*" else "")) H:=q;refine uw (fun e=>?_) (fun e=>?_)
    · rw [if_pos (show bR signs "*" = true from e)] at q';exact q'
    · rw [if_neg (show ¬ bR signs "*" = true by rw [show bR signs "*" = false from e];decide)] at q';exact q'
  | false =>
    refine ⟨_,rfl,rfl,_,rfl,e_ (by decide +kernel) ⟨_,rfl,rfl,_,rfl,?_⟩⟩;have q':Q (.str (if place=0 then "+" else if place=1∨bR signs "-" = false then Txt.replace signs "*" "" else "+-")) H:=q;by_cases h0:place=0
    · subst h0;rw [if_pos rfl] at q';exact fD rfl q'
    · rw [if_neg h0] at q';refine e_ (fun z=>h0 (by cases z;rfl)) ⟨_,rfl,rfl,_,rfl,?_⟩;by_cases h1:place=1
      · subst h1;rw [if_pos (.inl rfl)] at q';exact fD rfl (bA ⟨_,rfl,signs,rfl,hs,q'⟩)
      · refine e_ (fun z=>h1 (by cases z;rfl)) ⟨_,rfl,_,_,rfl,rfl,_,rfl,?_⟩;refine uw (fun e=>?_) (fun e=>?_)
        · have e':bR signs "-" = false:=by
            have : (!bR signs "-")=true:=e;simpa using this
          rw [if_pos (.inr e')] at q';exact ⟨_,rfl,signs,rfl,hs,q'⟩
        · have e':bR signs "-" = true:=by
            have : (!bR signs "-")=false:=e;simpa using this
          rw [if_neg (by rw [e'];simp [h1])] at q';exact q'
end
open PySem L2
theorem Trn.enum {K:aaa} {a:Addr} {xs:List V}:Trn (pT K a) xs.length (fun H=>SqL K H a xs) (fun i x H H'=>∃ p y,H p=none∧x=.ref p∧H'=upd H p (.tup [.int i,y])∧xs[i]?=some y) :=
  ⟨fun i H hi q=>⟨xs,xs[i],q,by simp [hi]⟩,fun H q=>⟨xs,q,aab _⟩,fun i H x H' hi q y=>by
    obtain ⟨p,z,n,e1,e2,e3⟩:=y;exact ⟨p,z,n,e1,e2,e3 xs q⟩⟩
theorem qa {ps:List (Bool × Wy)}:∀ {p:Bool × Wy},p∈ps→p.2.size+ps.length≤szs ps+1:=by
  induction ps with
  | nil=>intro p h;cases h
  | cons a t ih =>
    intro p h;have:=a.2.size_pos;have e:szs (a :: t)=a.2.size+szs t:=by simp [szs]
    rw [e,aaQ];rcases aaE.mp h with rfl|h
    · have:=b0 t;lia
    · have:=ih h;lia
theorem vy (k b:Bool):ux (hk k b)=true:=by cases k <;> cases b <;> decide +kernel
theorem vj {k k':Bool} (h:k'≠k):inV (.str (kS k')) [.str (kS (!k))]=true:=by
  cases k <;> cases k' <;> first|exact absurd rfl h|decide +kernel
theorem m4 {gs:List Sg} (g3:gs.length≤3):(ae gs).length≤1000:=by
  rw [ci];lia
theorem vm {A T:Hp→Prop} {G:Prop} (mn:(∀ H1,A H1→T H1)→G) (tt:∀ H1,A H1→T H1):G:=mn tt
theorem vn {c:Bool} {A B:Prop} (h:c=false) (b:B):if c=true then A else B:=by rw [if_neg (by rw [h];decide)];exact b
structure Cw (P:Program) (w:World) (K:aaa) (mg:Str→Option Value) (aK aW:Addr):Prop where
  gKINDS:mg "KINDS" = some (.ref aK)
  sKINDS:∀ H,SqT K H aK [.str "sum",.str "times"]
  gWITHIN:mg "WITHIN" = some (.ref aW)
  dWITHIN:KD P w K aW [(.inr "sum",.str "times"),(.inr "times",.str "sum")]
section
variable {P:Program} {w:World} {K:aaa} {mg:Str→Option Value} {base:Heap} {f:Addr} {fd:FuncData}
def rS (K:aaa) (n:Nat):Sp:=fun vs H Q _=>∃ (wy:Wy) (v:V) (ak:Addr) (ks:List V) (gs:List Sg) (room:Nat),vs=[v,.ref ak,.str (ae gs),.int room]∧Dat H wy.fm.data v∧SqT K H ak ks∧ks.all df=true∧(∀ g l r,wy=.node g l r→inV (.str (kS g.k)) ks=true)∧wy.size≤n∧wy.size≤room∧room≤9∧wy.Bd∧gs.length≤3∧aX gs∧wy.within gs∧∀ H',Same H H'→Q (.bl true) H'
abbrev hE:Stmt:=top 46
theorem dM:FnScope ["thing","kinds","signs","room","kind","parts","room_within"] ["thing","kinds","signs","room"] (al hE):=⟨rfl,rfl,rfl,by decide +kernel,rfl,by decide +kernel,by decide +kernel⟩
theorem nv {aK aW:Addr} (F:Fun K "is_form" "is_form" hE f fd) (bF:Binds K fd ["thing","kinds","signs","room"] []) (mF:mg "is_form" = some (.ref f)) (B:Bu K mg) (B4:Cw P w K mg aK aW) (C_is_whole:Cal P w K mg base "is_whole" 1 ["thing"] (bB K)) (C_parts_of:Cal P w K mg base "parts_of" 1 ["form"] j4) (C_is_sign:Cal P w K mg base "is_sign" 1 ["thing"] kt) (C_heads_at:Cal P w K mg base "heads_at" 1 ["kind","place","signs"] ol):∀ n,FnOk P w K mg base CX0 (n+2) f fd ["thing","kinds","signs","room"] (rS K n):=by
  intro n
  induction n with
  | zero =>
    refine ⟨fun vs H Q E h=>?_,fun A outer s H args us vs Q E _ _ _ _ h=>?_⟩
    · obtain ⟨wy,v,ak,ks,gs,room,rfl,_⟩:=h;rfl
    · obtain ⟨wy,v,ak,ks,gs,room,_,_,_,_,_,h0,_⟩:=h;have:=wy.size_pos;lia
  | succ n ih =>
    have C_is_form:Cal P w K mg base "is_form" (n+2) ["thing","kinds","signs","room"] (rS K n):=⟨f,fd,ih,bF,F.kp,mF⟩
    refine F.ok dM (fun vs H Q E h=>?_) (fun cdv A outer s H vs Q E hr h=>?_)
    · obtain ⟨wy,v,ak,ks,gs,room,rfl,_⟩:=h;rfl
    obtain ⟨wy,v,ak,ks,gs,room,rfl,hd',hks,hfl,hin,hn,hroom,h9,hB,g3,sp,hw,q⟩:=h;refine ⟨_,(@af _ _ _ _ _ (@aH _ _ _ _ _ _ _ _ (@aR _ _ _ (@aj _ _ _ _ _ _ _ _ _ _ _ C_is_whole hr (by lia) rfl (@aa _ _ _ _ _ (pv 0) ad (by rfl)) (by decide) (by rfl) (by rfl)) (by intro _;rfl)) (@ah _ _ _ (@aq _ _ _ _ cZ)) au) (@af _ _ _ _ _ (@aH _ _ _ _ _ _ _ _ (@PW.pt _ _ _ (@fB _ _ _ _ _ _ _ (@bJ _ _ _ _ (@aR _ _ _ (@ap _ _ _ _ _ _ _ _ _ (@aI _ ("tuple")) rfl B.iisinstance aar (@aa _ _ _ _ _ (pv 0) (@aa _ _ _ _ _ (@bM _ _ (.ty "tuple") _ _ rfl B.ituple aaM rfl (by decide) (by decide)) ad (by rfl)) (by rfl)) (by decide) (by decide) (by rfl) (by rfl)) (by intro _;rfl))) (@eT _ _ _ _ (@av _ _ _ _ _ _ _ _ l_ (@ap _ _ _ _ _ _ _ _ _ ar rfl B.ilen aay (@aa _ _ _ _ _ (pv 0) ad (by rfl)) (by decide) (by decide) (by rfl) (by rfl)) ai (aA _))))) (@ah _ _ _ (@aq _ _ _ _ cZ)) au) (@af _ _ _ _ _ (@cY _ _ _ _ _ _ (pv 0) (@bK _ _ _ _ _ _ rfl (@ao _ _ _ _ _ (@am _ _ (4) _ (dM).nd rfl (Or.inr rfl) (.inl rfl)) (@ao _ _ _ _ _ (@am _ _ (5) _ (dM).nd rfl (Or.inl rfl) (.inl rfl)) aV (by rfl)) (by rfl)) (by rfl) (by rfl)) (by rfl) (by rfl) (by rfl)) (@af _ _ _ _ _ (@aH _ _ _ _ _ _ _ _ (@PW.pt _ _ _ (@fB _ _ _ _ _ _ _ (@bJ _ _ _ _ (@aR _ _ _ (@ap _ _ _ _ _ _ _ _ _ (@aI _ ("str")) rfl B.iisinstance aar (@aa _ _ _ _ _ (pv 4) (@aa _ _ _ _ _ (@bM _ _ (.ty "str") _ _ rfl B.istr abX rfl (by decide) (by decide)) ad (by rfl)) (by rfl)) (by decide) (by decide) (by rfl) (by rfl)) (by intro _;rfl))) (@fB _ _ _ _ _ _ _ (@av _ _ _ _ _ _ _ _ kU (pv 4) (pv 1) (by with_unfolding_all rfl)) (@fB _ _ _ _ _ _ _ (@bJ _ _ _ _ (@aR _ _ _ (@ap _ _ _ _ _ _ _ _ _ (@aI _ ("tuple")) rfl B.iisinstance aar (@aa _ _ _ _ _ (pv 5) (@aa _ _ _ _ _ (@bM _ _ (.ty "tuple") _ _ rfl B.ituple aaM rfl (by decide) (by decide)) ad (by rfl)) (by rfl)) (by decide) (by decide) (by rfl) (by rfl)) (by intro _;rfl))) (@eT _ _ _ _ (@bJ _ _ _ _ (@jh _ _ _ _ _ _ _ _ _ _ _ _ iA iA ai (@ap _ _ _ _ _ _ _ _ _ ar rfl B.ilen aay (@aa _ _ _ _ _ (pv 5) ad (by rfl)) (by decide) (by decide) (by rfl) (by rfl)) (pv 3) (by with_unfolding_all rfl)))))))) (@ah _ _ _ (@aq _ _ _ _ cZ)) au) (@af _ _ _ _ _ (@aH _ _ _ _ _ _ _ _ (@PW.pt _ _ _ (@jg _ _ _ _ _ _ _ (@av _ _ _ _ _ _ _ _ bE (pv 4) aB (aA _)) (@iN _ _ _ _ (@bJ _ _ _ _ (@aR _ _ _ (@ap _ _ _ _ _ _ _ _ _ (@jC _ rfl) rfl B.iall abW (@aa _ _ _ _ _ (@dG _ _ _ _ _ _ _ _ (["part"]) ([none]) _ _ _ _ rfl (@dw _ _ _ _ (pv 5)) rfl trivial trivial (fun _ _ _ _=>⟨(@am _ _ (0) _ (show aaK (["part"]:List Str) by decide +kernel) rfl (Or.inl rfl) (.inr rfl)),aU,(@eW _ _ _ _ _ _ _ (@ap _ _ _ _ _ _ _ _ _ (@lC _ _ ("tuple") rfl) rfl B.iisinstance aar (@aa _ _ _ _ _ (pv 0) (@aa _ _ _ _ _ (@bM _ _ (.ty "tuple") _ _ rfl B.ituple aaM rfl (by decide) (by decide)) ad (by rfl)) (by rfl)) (by decide) (by decide) (by rfl) (by rfl)) (@fV _ _ _ _ _ (@cA _ _ _ _ _ _ _ _ bE (@ap _ _ _ _ _ _ _ _ _ (@jW _ _ rfl) rfl B.ilen aay (@aa _ _ _ _ _ (pv 0) ad (by rfl)) (by decide) (by decide) (by rfl) (by rfl)) ai (aA _))))⟩) (by rfl) (by rfl) (by rfl) (by rfl) (by intro _;rfl)) ad (by rfl)) (by decide) (by decide) (by rfl) (by rfl)) (by intro _;rfl)))))) (@ah _ _ _ (@aq _ _ _ _ cZ)) au) (@af _ _ _ _ _ (@aw _ _ (6) _ _ _ _ (dM).nd rfl (Or.inr rfl) (@ay _ _ _ _ _ _ _ _ bL (@ay _ _ _ _ _ _ _ _ cL (pv 3) (@ap _ _ _ _ _ _ _ _ _ ar rfl B.ilen aay (@aa _ _ _ _ _ (pv 5) ad (by rfl)) (by decide) (by decide) (by rfl) (by rfl))) ai) (by rfl) (by first|exact .inl rfl|exact .inr rfl|assumption)) (@ah _ _ _ (@aq _ _ _ _ (@ap _ _ _ _ _ _ _ _ _ (@jC _ rfl) rfl B.iall abW (@aa _ _ _ _ _ (@dG _ _ _ _ _ _ _ _ (["place","head","part","signs","room_within","kind"]) ([none,none,none,some 2,some 6,some 4]) _ _ _ _ rfl (@iO _ _ _ _ _ _ _ _ rfl B.ienumerate (@aa _ _ _ _ _ (@aj _ _ _ _ _ _ _ _ _ _ _ C_parts_of hr (by lia) rfl (@aa _ _ _ _ _ (pv 0) ad (by rfl)) (by decide) (by rfl) (by rfl)) ad (by rfl)) (by rfl)) rfl ⟨rfl,⟨rfl,⟨rfl,trivial⟩⟩⟩ ⟨⟨rfl,Or.inl rfl,Or.inl rfl⟩,⟨⟨rfl,Or.inl rfl,Or.inl rfl⟩,⟨⟨rfl,Or.inl rfl,Or.inl rfl⟩,trivial⟩⟩⟩ (fun _ _ _ _=>⟨(@fe _ _ _ _ _ _ (2) rfl rfl (@ao _ _ _ _ _ (@am _ _ (0) _ (show aaK (["place","head","part","signs","room_within","kind"]:List Str) by decide +kernel) rfl (Or.inl rfl) (.inr rfl)) (@ao _ _ _ _ _ (@fe _ _ _ _ _ _ (2) rfl rfl (@ao _ _ _ _ _ (@am _ _ (1) _ (show aaK (["place","head","part","signs","room_within","kind"]:List Str) by decide +kernel) rfl (Or.inl rfl) (.inr rfl)) (@ao _ _ _ _ _ (@am _ _ (2) _ (show aaK (["place","head","part","signs","room_within","kind"]:List Str) by decide +kernel) rfl (Or.inl rfl) (.inr rfl)) aV (by rfl)) (by rfl)) (by rfl) (by rfl)) aV (by rfl)) (by rfl)) (by rfl) (by rfl)),aU,(@eW _ _ _ _ _ _ _ (@aj _ _ _ _ _ _ _ _ _ _ _ C_is_sign hr (by lia) rfl (@aa _ _ _ _ _ (pv 1) ad (by rfl)) (by decide) (by rfl) (by rfl)) (@eW _ _ _ _ _ _ _ (@cA _ _ _ _ _ _ _ _ ib (pv 1) (@aj _ _ _ _ _ _ _ _ _ _ _ C_heads_at hr (by lia) rfl (@aa _ _ _ _ _ (pv 5) (@aa _ _ _ _ _ (pv 0) (@aa _ _ _ _ _ (pv 3) ad (by rfl)) (by rfl)) (by rfl)) (by decide) (by rfl) (by rfl)) (by with_unfolding_all rfl)) (@fV _ _ _ _ _ (@aj _ _ _ _ _ _ _ _ _ _ _ C_is_form hr (by lia) rfl (@aa _ _ _ _ _ (pv 2) (@aa _ _ _ _ _ (@aQ _ _ _ _ _ (@aa _ _ _ _ _ (@gw _ _ _ _ _ _ _ _ _ _ _ B4.dWITHIN rfl rfl rfl (@bi _ _ (.ref aW) _ _ rfl B4.gWITHIN rfl (by decide)) rfl (pv 5) (fun _ _=>rfl)) ad (by rfl))) (@aa _ _ _ _ _ (pv 3) (@aa _ _ _ _ _ (pv 4) ad (by rfl)) (by rfl)) (by rfl)) (by rfl)) (by decide) (by rfl) (by rfl)))))⟩) (by rfl) (by rfl) (by rfl) (by rfl) (by intro _;rfl)) ad (by rfl)) (by decide) (by decide) (by rfl) (by rfl)))))))))),?_⟩;cases wy with
    | num i =>
      have e:v=.int i:=by simpa only [Wy.fm,Fm.data,Dat] using hd'
      subst e;exact ⟨_,rfl,_,"int",rfl,.int i,true,rfl,bA (q H (Same.refl _))⟩
    | node g l r =>
      obtain ⟨a,b,us,rfl,ea,eb,i1,i2⟩:=de hd';refine ⟨_,rfl,_,"tuple",rfl,.tup ea,false,rfl,aM ?_⟩;have ekS:(if g.k=true then ("times":Str) else "sum")=kS g.k:=by cases g.k <;> rfl
      rw [ekS] at ea;generalize hps:lv g.k true (.node g l r)=ps at i1 i2;have zp:szs ps=(Wy.node g l r).size:=by rw [← hps,a8]
      have lps:=b0 ps;have l2:2≤ps.length:=by rw [← hps];exact jt _ _ _ _
      have lus:us.length=ps.length:=by
        cases ek:g.k with
        | false=>exact (aav (i1 ek)).symm
        | true=>have:=(i2 ek).len;simpa using this.symm
      have hki:=hin g l r rfl;refine ⟨_,rfl,_,_,true,rfl,.tup ea,rfl,true,rfl,aM ?_⟩;refine ⟨_,rfl,a,_,rfl,.inr (SqT.of ea),rfl,_,rfl,aM ?_⟩;refine ⟨_,rfl,a,_,rfl,SqT.of ea,rfl,_,_,rfl,_,_,rfl,rfl,?_⟩;refine ⟨_,rfl,_,_,true,rfl,.str _,rfl,true,rfl,aM ?_⟩;refine ⟨_,rfl,_,rfl,ak,ks,rfl,.inr hks,rfl,hfl,_,rfl,?_⟩;refine vn (c:=!inV (.str (kS g.k)) ks) (by rw [hki];rfl) ?_;refine ⟨_,rfl,_,_,true,rfl,.tup eb,rfl,true,rfl,aM ?_⟩;refine ⟨_,rfl,b,_,rfl,.inr (SqT.of eb),_,_,rfl,rfl,true,congrArg V.bl (decide_eq_true (by lia)),bA ?_⟩;refine ⟨_,rfl,_,_,rfl,rfl,true,congrArg V.bl (decide_eq_true (by lia)),aM ?_⟩;refine vm (A:=Same H) (T:=?T) (fun tl=>?mn) ?tt
      case mn =>
        refine ⟨_,rfl,rfl,_,rfl,?_⟩;rcases Bool.eq_false_or_eq_true g.k with ek|ek
        · refine e_ (fun z=>by rw [ek] at z;cases z) (aM ?_);exact tl _ (Same.refl _)
        · have i1:=i1 ek;refine fD (by rw [ek];rfl) ?_;refine ⟨_,rfl,b,rfl,⟨_,SqT.of eb⟩,?_⟩;refine eZ (Trn.tup (xs:=us)) (fun i ys H'=>H'=H∧ys=(aaw i true).map V.bl) ⟨rfl,rfl⟩ (fun i ys H' hi p=>by rw [p.1,p.2];exact ⟨SqT.of eb,aE (by simp;lia)⟩) (fun i x ys H1 H' hi hx p Nx nx=>?_) (fun ys H' p p5 n5=>?_)
          · obtain ⟨rfl,rfl⟩:=p;obtain ⟨rfl,hx⟩:=hx;obtain ⟨pp,hpp,o,u,rfl,eo,du⟩:=Paired.at i1 hx;refine ⟨_,rfl,_,_,true,rfl,.tup eo,rfl,true,rfl,bA ⟨_,rfl,o,_,rfl,.inr (SqT.of eo),rfl,nx _ _ ⟨rfl,?_⟩⟩⟩;rw [List.replicate_succ',aan];rfl
          obtain ⟨eH,rfl⟩:=p;rw [eH] at n5 ⊢;have s5:=Same.new n5 (.lst ((aaw us.length true).map V.bl));have e5:upd H p5 (.lst ((aaw us.length true).map V.bl)) p5=some (.lst ((aaw us.length true).map V.bl)):=ag;generalize upd H p5 (.lst ((aaw us.length true).map V.bl))=H5 at s5 e5 ⊢;refine ⟨p5,_,rfl,SqL.of e5,?_⟩;have e:((aaw us.length true).all id)=true:=by simp
          rw [e];refine ⟨_,rfl,aM ?_⟩;exact tl H5 s5
      case tt =>
        intro H1 s1;have eb1:=s1 _ _ eb;refine ⟨_,rfl,_,rfl,b,_,rfl,.inr (SqT.of eb1),_,_,rfl,rfl,_,_,rfl,rfl,?_⟩;refine ⟨_,rfl,g,l,r,_,rfl,Dat.mono s1 _ _ hd',by lia,fun p us' H2 g2 np ep hp=>?_⟩;rw [hps] at hp;have lp:=aav hp;refine ⟨p,rfl,⟨_,SqL.of ep⟩,?_⟩;have er:((room:Int) - (us.length:Int)+1)=((room+1 - ps.length:Nat):Int):=by lia
        refine eZ (Trn.enum (xs:=us')) (fun i ys H'=>Same H2 H'∧ys=(aaw i true).map V.bl) ⟨Same.refl _,rfl⟩ (fun i ys H' hi p=>by rw [p.2];exact ⟨SqL.of (p.1 _ _ ep),aE (by simp;lia)⟩) (fun i x ys H3 H4 hi hx z Nx nx=>?_) (fun ys H' z p5 n5=>?_)
        · obtain ⟨s3,rfl⟩:=z;obtain ⟨p',y,np',rfl,rfl,hy⟩:=hx;obtain ⟨pp,hpp,o,u,rfl,eo,du⟩:=Paired.at hp hy;have pm:=aaf hpp;have s4:=s3.trans (Same.new np' (.tup [.int i,.ref o]));have e4:upd H3 p' (.tup [.int i,.ref o]) p'=some (.tup [.int i,.ref o]):=ag;generalize upd H3 p' (.tup [.int i,.ref o])=H4 at s4 e4 ⊢;have eo4:=s4 _ _ eo;have hpm:pp∈lv g.k true (.node g l r):=by rw [hps];exact pm
          have szp:=qa pm;have hless:=bw hpm;refine ⟨p',_,rfl,SqT.of e4,rfl,_,_,rfl,_,_,rfl,o,_,rfl,SqT.of eo4,rfl,_,_,rfl,_,_,rfl,rfl,rfl,?_⟩;refine ⟨_,rfl,_,rfl,_,rfl,sB (vy _ _) ?_⟩;refine ⟨_,rfl,_,rfl,_,rfl,_,rfl,g.k,i,ae gs,rfl,(m4 g3),_,_,rfl,rfl,_,rfl,sB (oK g3 sp hw (by rw [hps];exact hpp)) ?_⟩;refine ⟨_,rfl,_,rfl,.inr (kS g.k),.str (kS (!g.k)),rfl,(by cases g.k <;> decide +kernel),(by show 1≤sizeLine;decide),fun t ht=>?_⟩;have s5:=Same.new ht (.tup [.str (kS (!g.k))]);refine ⟨_,rfl,_,rfl,pp.2,u,t,[.str (kS (!g.k))],gs,room+1 - ps.length,(by rw [← er];rfl),Dat.mono (s4.trans s5) _ _ du,SqT.of ag,rfl,fun g' l' r' e'=>?_,by lia,by lia,by lia,j8 hB hpm,g3,sp,bn _ _ _ hw _ hpm,fun H6 g6=>nx _ _ ⟨s4.trans (s5.trans g6),?_⟩⟩
          · refine vj ?_;have:=cQ _ _ _ _ hpm;rw [e'] at this;exact this
          · rw [List.replicate_succ',aan];rfl
        obtain ⟨s3,rfl⟩:=z;refine ⟨p5,_,rfl,SqL.of ag,?_⟩;have e:((aaw us'.length true).all id)=true:=by simp
        rw [e];exact q _ ((s1.trans g2).trans (s3.trans (Same.new n5 _)))
end
open PySem L2
theorem l7 {K:aaa} {H:Hp} {neg:Bool} {a b:Addr} {xs:List V} {Q:VK} (ha:SqL K H a xs) (hb:SqL K H b xs) (fl:∀ x∈xs,df x=true) (q:Q (.bl (!neg)) H):tX K neg (.ref a) (.ref b) H Q:=by
  refine ⟨0,a,b,xs,xs,by decide,rfl,rfl,ha,hb,.inr ⟨fun _=>true,rfl,fun j x y hx hy=>?_,?_⟩⟩
  · rw [hx] at hy;cases hy;exact EqR.flat_same (fl x (aaf hx))
  · have e:(aaD xs.length).all (fun _=>true)=true:=by simp
    cases neg <;> (simp only [e];exact q)
section
variable {P:Program} {w:World} {K:aaa} {mg:Str→Option Value} {base:Heap} {f:Addr} {fd:FuncData}
def rQ:Sp:=fun vs H Q _=>∃ (wy:Wy) (a:Addr) (v:V) (gs:List Sg),vs=[.ref a,.str (ae gs),v]∧H a=some (.lst (wy.nums.map V.int))∧Dat H wy.fm.data v∧wy.size≤9∧wy.Bd∧gs.length≤3∧aX gs∧wy.within gs∧∀ H',Same H H'→Q .non H'
abbrev eN:Stmt:=top 45
theorem kL:FnScope ["row","signs","thing"] ["row","signs","thing"] (al eN):=⟨rfl,rfl,rfl,by decide +kernel,rfl,by decide +kernel,by decide +kernel⟩
theorem k9 {aK aW:Addr} (F:Fun K "need_form" "need_form" eN f fd) (B:Bu K mg) (B4:Cw P w K mg aK aW) (C_need_row:Cal P w K mg base "need_row" 3 ["thing"] fc) (C_need_signs:Cal P w K mg base "need_signs" 2 ["thing"] cD) (C_is_form:Cal P w K mg base "is_form" 11 ["thing","kinds","signs","room"] (rS K 9)) (C_numbers_in:Cal P w K mg base "numbers_in" 11 ["form"] (ez 9)):FnOk P w K mg base CX0 12 f fd ["row","signs","thing"] rQ:=by
  refine F.ok kL (fun vs H Q E h=>?_) (fun cdv A outer s H vs Q E hr h=>?_)
  · obtain ⟨wy,a,v,gs,rfl,_⟩:=h;rfl
  obtain ⟨wy,a,v,gs,rfl,ea,hd',h9,hB,g3,sp,hw,q⟩:=h;refine ⟨_,(@af _ _ _ _ _ (@bv _ _ _ _ (@aj _ _ _ _ _ _ _ _ _ _ _ C_need_row hr (by lia) rfl (@aa _ _ _ _ _ (pv 0) ad (by rfl)) (by decide) (by rfl) (by rfl)) (by rfl)) (@af _ _ _ _ _ (@bv _ _ _ _ (@aj _ _ _ _ _ _ _ _ _ _ _ C_need_signs hr (by lia) rfl (@aa _ _ _ _ _ (pv 1) ad (by rfl)) (by decide) (by rfl) (by rfl)) (by rfl)) (@ah _ _ _ (@aH _ _ _ _ _ _ _ _ (@PW.pt _ _ _ (@fB _ _ _ _ _ _ _ (@bJ _ _ _ _ (@aR _ _ _ (@aj _ _ _ _ _ _ _ _ _ _ _ C_is_form hr (by lia) rfl (@aa _ _ _ _ _ (pv 2) (@aa _ _ _ _ _ (@bi _ _ (.ref aK) _ _ rfl B4.gKINDS rfl (by decide)) (@aa _ _ _ _ _ (pv 1) (@aa _ _ _ _ _ (@ap _ _ _ _ _ _ _ _ _ ar rfl B.ilen aay (@aa _ _ _ _ _ (pv 0) ad (by rfl)) (by decide) (by decide) (by rfl) (by rfl)) ad (by rfl)) (by rfl)) (by rfl)) (by rfl)) (by decide) (by rfl) (by rfl)) (by intro _;rfl))) (@eT _ _ _ _ (@av _ _ _ _ _ _ _ _ (@ni _ hr.units) (@aj _ _ _ _ _ _ _ _ _ _ _ C_numbers_in hr (by lia) rfl (@aa _ _ _ _ _ (pv 2) ad (by rfl)) (by decide) (by rfl) (by rfl)) (pv 0) (aA _))))) (@ah _ _ _ dE) au)))),?_⟩;have z1:=wy.size_pos;have nl:=wy.nums_len;have ml:(wy.nums.map V.int).length=wy.size:=by rw [aac,nl]
  refine ⟨_,rfl,a,wy.nums,rfl,ea,by lia,by lia,fun H1 g1=>?_⟩;refine ⟨_,rfl,gs,rfl,sp,?_⟩;refine ⟨_,rfl,_,rfl,_,rfl,a,_,rfl,.inl (SqL.of (g1 _ _ ea)),?_⟩;rw [ml];refine ⟨wy,v,aK,_,gs,wy.size,rfl,Dat.mono g1 _ _ hd',B4.sKINDS H1,rfl,fun g l r _=>by cases g.k <;> decide +kernel,by lia,by lia,by lia,hB,g3,sp,hw,fun H2 g2=>?_⟩;refine ⟨true,rfl,aM ?_⟩;have G2:=g1.trans g2;refine ⟨_,rfl,wy,v,rfl,Dat.mono G2 _ _ hd',by lia,by lia,hB,fun p H3 g3 np ep=>?_⟩;have G3:=G2.trans g3;refine ⟨_,rfl,l7 (SqL.of ep) (SqL.of (G3 _ _ ea)) (fun x hx=>?_) ⟨_,rfl,aM (q _ G3)⟩⟩;obtain ⟨i,_,rfl⟩:=abf.mp hx;rfl
def tU:Sp:=fun vs H Q _=>∃ (wy:Wy) (a:Addr) (v:V) (gs:List Sg),vs=[.ref a,.str (ae gs),v]∧H a=some (.lst (wy.nums.map V.int))∧Dat H wy.fm.data v∧wy.size≤9∧wy.Bd∧gs.length≤3∧aX gs∧wy.within gs∧∀ x H',Same H H'→WyIn H' (fw gs 9 wy) x→Q x H'
abbrev eO:Stmt:=top 44
theorem kM:FnScope ["row","signs","form"] ["row","signs","form"] (al eO):=⟨rfl,rfl,rfl,by decide +kernel,rfl,by decide +kernel,by decide +kernel⟩
theorem la (F:Fun K "first_way" "first_way" eO f fd) (C_need_form:Cal P w K mg base "need_form" 12 ["row","signs","thing"] rQ) (C_find_first:Cal P w K mg base "find_first" 12 ["form","signs"] (rT 9)):FnOk P w K mg base CX0 13 f fd ["row","signs","form"] tU:=by
  refine F.ok kM (fun vs H Q E h=>?_) (fun cdv A outer s H vs Q E hr h=>?_)
  · obtain ⟨wy,a,v,gs,rfl,_⟩:=h;rfl
  obtain ⟨wy,a,v,gs,rfl,ea,hd',h9,hB,g3,sp,hw,q⟩:=h;refine ⟨_,(@af _ _ _ _ _ (@bv _ _ _ _ (@aj _ _ _ _ _ _ _ _ _ _ _ C_need_form hr (by lia) rfl (@aa _ _ _ _ _ (pv 0) (@aa _ _ _ _ _ (pv 1) (@aa _ _ _ _ _ (pv 2) ad (by rfl)) (by rfl)) (by rfl)) (by decide) (by rfl) (by rfl)) (by rfl)) (@ah _ _ _ (@aq _ _ _ _ (@aj _ _ _ _ _ _ _ _ _ _ _ C_find_first hr (by lia) rfl (@aa _ _ _ _ _ (pv 2) (@aa _ _ _ _ _ (pv 1) ad (by rfl)) (by rfl)) (by decide) (by rfl) (by rfl))))),?_⟩;exact ⟨_,rfl,_,rfl,_,rfl,wy,a,v,gs,rfl,ea,hd',h9,hB,g3,sp,hw,fun H1 g1=>⟨_,rfl,_,rfl,wy,v,gs,rfl,Dat.mono g1 _ _ hd',h9,h9,hB,g3,sp,hw,fun x H2 g2 ix=>q x H2 (g1.trans g2) ix⟩⟩
end
open PySem L2
structure C5 (mg:Str→Option Value) (tk:Tok):Prop where
  gLATER:mg "LATER" = some (.int 2 tk)
def bZ:List Str:=["+","-","*","+-","+*","-*","+-*"]
theorem v7 {z:Str} (h:z∈bZ):z.length≤1000:=by
  have : ∀ z∈bZ,z.length≤1000:=by decide +kernel
  exact this z h
abbrev Ix:=Bool × Nat × Nat
abbrev Tab:=List (Ix × Nat)
def kyE (x:Ix):List Key:=[.inr (kS x.1),.inl x.2.1,.inl x.2.2]
def kvs (t:Tab):List (List Key × V):=t.map fun e=>(kyE e.1,V.int e.2)
def dc (t:Tab) (x:Ix):Option Nat:=(t.find? fun e=>decide (e.1=x)).map (·.2)
theorem sA {x y:Ix} (h:kyE x=kyE y):x=y:=by
  obtain ⟨k,p,l⟩:=x;obtain ⟨k',p',l'⟩:=y;simp only [kyE,List.cons.injEq,Sum.inl.injEq,Sum.inr.injEq,and_true] at h;obtain ⟨h1,h2,h3⟩:=h;have e1:k=k':=by
    cases k <;> cases k' <;> first|rfl|(exact absurd h1 (by decide +kernel))
  have e2:p=p':=by lia
  have e3:l=l':=by lia
  rw [e1,e2,e3]
theorem fb (x:Ix):∀ t:Tab,bW (kvs t) (kyE x)=(dc t x).map fun n=>V.int n
  | []=>rfl
  | e :: r=>by
    show bW ((kyE e.1,V.int e.2) :: kvs r) (kyE x)=_;by_cases h:e.1=x
    · rw [bC (by rw [h])];simp [dc,abg,h]
    · rw [bD (fun z=>h (sA z)),fb x r];simp [dc,abg,h]
theorem kO {t:Tab} {x:Ix} {n:Nat} (h:dc t x=none):db (kvs t) (kyE x) (.int n)=kvs (t++[(x,n)]):=by
  rw [ql _ (by rw [fb,h];rfl)];simp [kvs]
theorem oE (x:Ix):(kyE x).map kV=[.str (kS x.1),.int x.2.1,.int x.2.2]:=rfl
def h_ (t:Tab) (k:Bool) (m:Nat):Option Nat:=if m=1 then some 1 else dc t ((!k),0,m)
section
variable {P:Program} {w:World} {K:aaa} {mg:Str→Option Value} {base:Heap} {f:Addr} {fd:FuncData}
def ku:Sp:=fun vs H Q _=>∃ (e:Addr) (t:Tab) (k:Bool) (m r:Nat),vs=[.ref e,.str (kS k),.int m]∧H e=some (.dT (kvs t))∧h_ t k m=some r∧∀ H',Same H H'→Q (.int r) H'
abbrev dn:Stmt:=top 50
theorem i_:FnScope ["ends","kind","many"] ["ends","kind","many"] (al dn):=⟨rfl,rfl,rfl,by decide +kernel,rfl,by decide +kernel,by decide +kernel⟩
theorem jo {tk:Tok} {aK aW:Addr} (F:Fun K "count_parts" "count_parts" dn f fd) (B4:Cw P w K mg aK aW) (B5:C5 mg tk):FnOk P w K mg base CX0 1 f fd ["ends","kind","many"] ku:=by
  refine F.ok i_ (fun vs H Q E h=>?_) (fun cdv A outer s H vs Q E hr h=>?_)
  · obtain ⟨a,g,b,m,r,rfl,_⟩:=h;rfl
  obtain ⟨e,t,k,m,r,rfl,he,hp,q⟩:=h;refine ⟨_,(@ah _ _ _ (@aq _ _ _ _ (@bT _ _ _ _ _ _ _ _ (@av _ _ _ _ _ _ _ _ bE (pv 2) ai (aA _)) ai (@cz _ _ _ _ _ _ (u1 hr.units) (pv 0) (@aQ _ _ _ _ _ (@aa _ _ _ _ _ (@gw _ _ _ _ _ _ _ _ _ _ _ B4.dWITHIN rfl rfl rfl (@bi _ _ (.ref aW) _ _ rfl B4.gWITHIN rfl (by decide)) rfl (pv 1) (fun _ _=>rfl)) (@aa _ _ _ _ _ ai (@aa _ _ _ _ _ (pv 2) ad (by rfl)) (by rfl)) (by rfl))) (fun _ _=>rfl))))),?_⟩;unfold h_ at hp;by_cases h1:m=1
  · subst h1;rw [if_pos rfl] at hp;cases hp;exact ⟨_,rfl,rfl,_,rfl,fD rfl (q H (Same.refl _))⟩
  · rw [if_neg h1] at hp;refine ⟨_,rfl,rfl,_,rfl,e_ (fun z=>h1 (by cases z;rfl)) ⟨_,rfl,_,rfl,.inr (kS k),.str (kS (!k)),rfl,by cases k <;> decide +kernel,_,rfl,?_⟩⟩;refine ⟨by show 3≤sizeLine;decide,fun p hn=>⟨e,.int r,rfl,?_,q _ (Same.new hn _)⟩⟩;have hg:bW (kvs t) (kyE ((!k),0,m))=some (.int r):=by rw [fb,hp];rfl
    have z:=DGet.t (H:=upd H p (.tup [.str (kS (!k)),.int 0,.int m])) (a:=e) (b:=p) (kvs:=kvs t) (k:=kyE ((!k),0,m)) (by rw [az (aD he hn)];exact he) ag;rw [hg] at z;exact z
end
open PySem L2
abbrev Row:=Str × Nat × Nat × Nat
def va (r:Row):List V:=[.str r.1,.int r.2.1,.int r.2.2.1,.int r.2.2.2]
def RowIn (H:Hp) (r:Row) (v:V):Prop:=∃ a,v=.ref a∧H a=some (.tup (va r))
abbrev RowsIn (H:Hp) (rs:List Row) (vs:List V):Prop:=Paired (RowIn H) rs vs
theorem RowIn.keep {H H':Hp} (s:Same H H') {r:Row} {v:V} (h:RowIn H r v):RowIn H' r v:=let ⟨a,e,q⟩:=h;⟨a,e,s _ _ q⟩
theorem RowsIn.keep {H H':Hp} (s:Same H H'):∀ {rs:List Row} {vs:List V},RowsIn H rs vs→RowsIn H' rs vs
  | _,_,.nil=>.nil
  | _,_,.cons h t=>.cons (h.keep s) (RowsIn.keep s t)
theorem RowsIn.snoc {H:Hp}:∀ {rs:List Row} {vs:List V} {r:Row} {v:V},RowsIn H rs vs→RowIn H r v→RowsIn H (rs++[r]) (vs++[v])
  | _,_,_,_,.nil,h=>.cons h .nil
  | _,_,_,_,.cons a t,h=>.cons a (RowsIn.snoc t h)
def h6 (t:Tab) (k:Bool) (bh l:Nat) (c:Str) (j:Nat):Row:=(c,j+1,(h_ t k (j+1)).getD 0,(dc t (k,bh,l - (j+1))).getD 0)
def inF (t:Tab) (k:Bool) (bh l:Nat) (c:Str) (n:Nat):List Row:=(aaD n).map (h6 t k bh l c)
def chF (t:Tab) (k:Bool) (bh l most:Nat):List Nat→List Row
  | []=>[]
  | c :: r=>inF t k bh l ⟨#[c]⟩ most++chF t k bh l most r
theorem mM {t:Tab} {k:Bool} {bh l most:Nat} {c:Nat}:∀ {cs:List Nat},chF t k bh l most (cs++[c])=chF t k bh l most cs++inF t k bh l ⟨#[c]⟩ most
  | []=>by simp [chF]
  | d :: r=>by show inF _ _ _ _ _ _++chF t k bh l most (r++[c])=_;rw [mM];simp [chF]
theorem lx {t:Tab} {k:Bool} {bh l most:Nat}:∀ {cs:List Nat},(chF t k bh l most cs).length=cs.length * most
  | []=>by simp [chF]
  | d :: r=>by simp only [chF,aal,lx,inF,aac,List.length_range,aaQ];rw [ab4];lia
def aL (p l:Nat):Nat:=if p=0 then l - 1 else l
def aJ (p:Nat):Nat:=if p=0 then 1 else 2
def cw (signs:Str) (t:Tab) (k:Bool) (p l:Nat):List Row:=chF t k (aJ p) l (aL p l) (bU k p signs).cps.toList
def qF (t:Tab) (k:Bool) (p l:Nat):Bool:=(aaD (aL p l)).all fun j=>(h_ t k (j+1)).isSome && (dc t (k,aJ p,l - (j+1))).isSome
theorem kc {k:Bool} {p:Nat} {z:Str} (hz:z∈bZ) (hp:p≤2):(bU k p z).cps.all (· < 128)=true∧(bU k p z).cps.size≤3:=by
  have h:∀ z∈bZ,∀ p∈aaD 3,∀ k∈[false,true],(bU k p z).cps.all (· < 128)=true∧(bU k p z).cps.size≤3:=by decide +kernel
  exact h z hz p (aaJ.mpr (by lia)) k (by cases k <;> simp)
section
variable {P:Program} {w:World} {K:aaa} {mg:Str→Option Value} {base:Heap} {f:Addr} {fd:FuncData}
def dC:Sp:=fun vs H Q _=>∃ (signs:Str) (e:Addr) (t:Tab) (k:Bool) (p l:Nat),vs=[.str signs,.ref e,.str (kS k),.int p,.int l]∧signs∈bZ∧p≤2∧1≤l∧l≤9∧H e=some (.dT (kvs t))∧qF t k p l=true ∧
  ∀ a ys H',Same H H'→H' a=some (.lst ys)→RowsIn H' (cw signs t k p l) ys→Q (.ref a) H'
theorem bx {α:Type} {l:List α} {i:Nat} {c:α} (h:l[i]?=some c):l.take (i+1)=l.take i++[c]:=by
  rw [List.take_succ,h];rfl
theorem eB {n:Nat} (h:n≤100):n < sizeLine:=by rw [sizeLine_eq];lia
abbrev dY:Stmt:=top 49
theorem di:FnScope ["signs","ends","kind","place","left","most","behind"] ["signs","ends","kind","place","left"] (al dY):=⟨rfl,rfl,rfl,by decide +kernel,rfl,by decide +kernel,by decide +kernel⟩
theorem jT {tk:Tok} {aK aW:Addr} (F:Fun K "choices_at" "choices_at" dY f fd) (B:Bu K mg) (B4:Cw P w K mg aK aW) (B5:C5 mg tk) (C_heads_at:Cal P w K mg base "heads_at" 1 ["kind","place","signs"] ol) (C_count_parts:Cal P w K mg base "count_parts" 1 ["ends","kind","many"] ku):FnOk P w K mg base CX0 2 f fd ["signs","ends","kind","place","left"] dC:=by
  refine F.ok di (fun vs H Q E h=>?_) (fun cdv A outer s H vs Q E hr h=>?_)
  · obtain ⟨a,g,b,m,r,l,rfl,_⟩:=h;rfl
  obtain ⟨signs,e,t,k,p,l,rfl,hs,hp,hl1,hl9,he,hok,q⟩:=h;refine ⟨_,(@kP _ _ _ _ _ (@aw _ _ (5) _ _ _ _ (di).nd rfl (Or.inr rfl) (@bT _ _ _ _ _ _ _ _ (@av _ _ _ _ _ _ _ _ bE (pv 3) ai (aA _)) (@ay _ _ _ _ _ _ _ _ cL (pv 4) ai) (pv 4)) (by rfl) (by first|exact .inl rfl|exact .inr rfl|assumption)) (@kP _ _ _ _ _ (@aw _ _ (6) _ _ _ _ (di).nd rfl (Or.inr rfl) (@ap _ _ _ _ _ _ _ _ _ (@dL _ rfl) rfl B.imin abo (@aa _ _ _ _ _ (@ay _ _ _ _ _ _ _ _ bL (pv 3) ai) (@aa _ _ _ _ _ (@bi _ _ (.int 2) _ _ rfl B5.gLATER ⟨_,rfl⟩ (by decide)) ad (by rfl)) (by rfl)) (by decide) (by decide) (by rfl) (by rfl)) (by rfl) (by first|exact .inl rfl|exact .inr rfl|assumption)) (@ah _ _ _ (@aq _ _ _ _ (@qA _ _ _ _ _ _ _ _ _ _ _ (["head","many","most","ends","kind","behind","left"]) ([none,none,some 5,some 1,some 2,some 6,some 4]) _ _ _ _ _ _ _ rfl (@qv _ _ _ _ (@aj _ _ _ _ _ _ _ _ _ _ _ C_heads_at hr (by lia) rfl (@aa _ _ _ _ _ (pv 2) (@aa _ _ _ _ _ (pv 3) (@aa _ _ _ _ _ (pv 0) ad (by rfl)) (by rfl)) (by rfl)) (by decide) (by rfl) (by rfl))) rfl ⟨rfl,⟨rfl,⟨rfl,⟨rfl,⟨rfl,trivial⟩⟩⟩⟩⟩ ⟨⟨rfl,Or.inl rfl,Or.inl rfl⟩,⟨⟨rfl,Or.inl rfl,Or.inl rfl⟩,⟨⟨rfl,Or.inl rfl,Or.inl rfl⟩,⟨⟨rfl,Or.inl rfl,Or.inl rfl⟩,⟨⟨rfl,Or.inl rfl,Or.inl rfl⟩,trivial⟩⟩⟩⟩⟩ (fun _ _ _ _=>⟨(@am _ _ (0) _ (show aaK (["head","many","most","ends","kind","behind","left"]:List Str) by decide +kernel) rfl (Or.inl rfl) (.inr rfl)),aU,(@h7 _ _ _ _ _ _ _ rfl B.irange (@aa _ _ _ _ _ ai (@aa _ _ _ _ _ (@ay _ _ _ _ _ _ _ _ bL (pv 2) ai) ad (by rfl)) (by rfl)) (by rfl) (by rfl)),(@am _ _ (1) _ (show aaK (["head","many","most","ends","kind","behind","left"]:List Str) by decide +kernel) rfl (Or.inl rfl) (.inr rfl)),aU,(@aQ _ _ _ _ _ (@aa _ _ _ _ _ (pv 0) (@aa _ _ _ _ _ (pv 1) (@aa _ _ _ _ _ (@aj _ _ _ _ _ _ _ _ _ _ _ C_count_parts hr (by lia) rfl (@aa _ _ _ _ _ (pv 3) (@aa _ _ _ _ _ (pv 4) (@aa _ _ _ _ _ (pv 1) ad (by rfl)) (by rfl)) (by rfl)) (by decide) (by rfl) (by rfl)) (@aa _ _ _ _ _ (@cz _ _ _ _ _ _ (u1 hr.units) (pv 3) (@aQ _ _ _ _ _ (@aa _ _ _ _ _ (pv 4) (@aa _ _ _ _ _ (pv 5) (@aa _ _ _ _ _ (@ay _ _ _ _ _ _ _ _ cL (pv 6) (pv 1)) ad (by rfl)) (by rfl)) (by rfl))) (fun _ _=>rfl)) ad (by rfl)) (by rfl)) (by rfl)) (by rfl)))⟩) (by rfl) (by rfl) (by rfl) (by rfl) (by intro _;rfl) (by intro _ _;rfl)))))),?_⟩;obtain ⟨hasc,hsz⟩:=kc (k:=k) hs hp;refine ⟨fun σ' H'=>H'=H∧σ'=[some (.str signs),some (.ref e),some (.str (kS k)),some (.int p),some (.int l),some (.int (aL p l)),none],?_,?_⟩
  · refine ⟨_,rfl,rfl,_,rfl,?_⟩;by_cases p0:p=0
    · refine fD (by rw [p0];rfl) ⟨_,rfl,_,_,rfl,rfl,⟨rfl,?_⟩⟩;rw [show ((aL p l:Nat):Int)=(l:Int) - 1 by unfold aL;rw [if_pos p0];lia];rfl
    · refine e_ (fun z=>p0 (by simpa using z)) ⟨_,rfl,⟨rfl,?_⟩⟩;rw [show aL p l=l by unfold aL;rw [if_neg p0]];rfl
  rintro σ' H' ⟨rfl,rfl⟩;refine ⟨fun σ' H''=>H''=H'∧σ'=[some (.str signs),some (.ref e),some (.str (kS k)),some (.int p),some (.int l),some (.int (aL p l)),some (.int (aJ p))],?_,?_⟩
  · refine ⟨_,rfl,_,_,rfl,rfl,_,_,rfl,⟨rfl,?_⟩⟩;rw [show ((aJ p:Nat):Int)=(if (2:Int) < (p:Int)+1 then 2 else (p:Int)+1) by unfold aJ;split <;> split <;> lia];rfl
  rintro σ' H'' ⟨rfl,rfl⟩;refine ⟨_,rfl,_,rfl,_,rfl,k,p,signs,rfl,v7 hs,_,rfl,hasc,?_⟩;refine ⟨fun i m ys H2=>m=(bU k p signs).cps.size - i∧i≤(bU k p signs).cps.size∧Same H'' H2∧RowsIn H2 (chF t k (aJ p) l (aL p l) ((bU k p signs).cps.toList.take i)) ys,⟨_,rfl,aaI _,Same.refl _,.nil⟩,?_⟩;rintro i m ys H2 ⟨rfl,hi,sm,rw1⟩;by_cases hlt:i < (bU k p signs).cps.size
  · refine .inr ⟨hlt,fun x H3 y=>?_⟩;obtain ⟨e3,c,hc,ex⟩:=y;subst e3 ex;have hml:aL p l≤9:=by unfold aL;split <;> lia
    refine ⟨_,rfl,_,_,rfl,rfl,_,_,rfl,⟨by decide,by decide,by lia,by lia⟩,?_⟩;rw [show ((aL p l:Int)+1 - 1).toNat=aL p l by lia];have hci:(bU k p signs).cps.toList[i]?=some c:=by rw [Array.getElem?_toList];exact hc
    refine ⟨fun j m2 ys2 σ2 H5=>m2=aL p l - j∧j≤aL p l∧Same H'' H5∧(∃ x,σ2=[some (.str ⟨#[c]⟩),x,some (.int (aL p l)),some (.ref e),some (.str (kS k)),some (.int (aJ p)),some (.int l)]) ∧
      RowsIn H5 (chF t k (aJ p) l (aL p l) ((bU k p signs).cps.toList.take i)++inF t k (aJ p) l ⟨#[c]⟩ j) ys2,⟨_,rfl,aaI _,sm,⟨none,rfl⟩,?_⟩,?_⟩
    · simpa [inF] using rw1
    rintro j m2 ys2 σ2 H5 ⟨rfl,hj,sm5,⟨x5,rfl⟩,rw5⟩;by_cases hjt:j < aL p l
    · have hlen:=aav rw5;rw [aal,lx,inF,aac,List.length_range] at hlen;have hml:aL p l≤9:=by unfold aL;split <;> lia
      have hb:ys2.length≤100:=by
        have h1:((bU k p signs).cps.toList.take i).length≤3:=by rw [aap];exact aaW (Nat.min_le_left _ _) (by lia)
        have h2:((bU k p signs).cps.toList.take i).length * aL p l≤3 * 9:=Nat.mul_le_mul h1 hml;lia
      refine .inr ⟨hjt,eB hb,fun x6 H6 y6=>?_⟩;obtain ⟨e6,ex6⟩:=y6;subst e6 ex6;have hokj:=aaH.mp hok j (aaJ.mpr hjt);rw [abd] at hokj;obtain ⟨pa,hpa⟩:=aba.mp hokj.1;obtain ⟨ga,hga⟩:=aba.mp hokj.2;refine ⟨_,rfl,_,rfl,?_⟩;refine ⟨_,rfl,_,rfl,_,rfl,e,t,k,j+1,pa,?_,sm5 _ _ he,hpa,fun H7 sm7=>?_⟩
      · rw [show ((j+1:Nat):Int)=1+(j:Int) by lia];rfl
      refine ⟨_,rfl,_,rfl,_,rfl,_,rfl,_,rfl,_,_,rfl,rfl,(by show 3≤sizeLine;decide),fun p8 hp8=>?_⟩;refine ⟨e,.int ga,rfl,?_,(by show 4≤sizeLine;decide),fun p9 hp9=>⟨_,by lia,rfl,hjt,?_⟩⟩
      · have he8:upd H7 p8 (.tup [.str (kS k),.int (aJ p),.int ((l:Int) - (1+(j:Int)))]) e=some (.dT (kvs t)):=by
          rw [az (aD (sm7 _ _ (sm5 _ _ he)) hp8)];exact sm7 _ _ (sm5 _ _ he)
        have hg:bW (kvs t) (kyE (k,aJ p,l - (j+1)))=some (.int ga):=by rw [fb,hga];rfl
        have hle:j+1≤l:=by unfold aL at hjt;split at hjt <;> lia
        have z:=DGet.t (a:=e) (b:=p8) (kvs:=kvs t) (k:=kyE (k,aJ p,l - (j+1))) he8 (by rw [ag,oE];simp only [];rw [show ((l - (j+1):Nat):Int)=(l:Int) - (1+(j:Int)) by lia]);rw [hg] at z;exact z
      · have s8:=sm7.trans (Same.new hp8 (.tup [.str (kS k),.int (aJ p),.int ((l:Int) - (1+(j:Int)))]));have s9:=s8.trans (Same.new hp9 (.tup [.str ⟨#[c]⟩,.int (1+(j:Int)),.int pa,.int ga]));refine ⟨sm5.trans s9,⟨_,rfl⟩,?_⟩;rw [show inF t k (aJ p) l ⟨#[c]⟩ (j+1)=inF t k (aJ p) l ⟨#[c]⟩ j++[h6 t k (aJ p) l ⟨#[c]⟩ j] by unfold inF;rw [List.range_succ,aan];rfl,← abH];refine RowsIn.snoc (rw5.keep s9) ⟨p9,rfl,?_⟩;rw [ag];unfold va h6;rw [hpa,hga,show ((j+1:Nat):Int)=1+(j:Int) by lia];rfl
    · have ej:j=aL p l:=by lia
      subst ej;refine .inl ⟨by show _≤_;lia,_,by lia,rfl,hlt,sm5,?_⟩;rw [bx hci,mM];exact rw5
  · refine .inl ⟨by show _≤_;lia,fun a ha=>?_⟩;have ei:i=(bU k p signs).cps.size:=by lia
    subst ei;rw [aaL (by simp)] at rw1;exact q a ys _ (sm.trans (Same.new ha _)) ag (rw1.keep (Same.new ha _))
end
open PySem L2
def bj (rs:List Row):Nat:=(rs.map fun r=>r.2.2.1 * r.2.2.2).sum
def vg (r:Row):Bool:=decide (r.2.2.2 < 1152921504606846976)
def six (l:Nat):List Ix:=[(false,0,l),(true,0,l),(false,1,l),(true,1,l),(false,2,l),(true,2,l)]
def stL:Nat→Nat→List Ix
  | _,0=>[]
  | l,n+1=>six l++stL (l+1) n
def gh (signs:Str):List Ix→Tab→Option Tab
  | [],t=>some t
  | x :: r,t=>if (qF t x.1 x.2.1 x.2.2 && (dc t x).isNone && (cw signs t x.1 x.2.1 x.2.2).all vg && decide (t.length≤100))=true then gh signs r (t++[(x,bj (cw signs t x.1 x.2.1 x.2.2))]) else none
theorem pi {signs:Str} {x:Ix} {r:List Ix} {t fin:Tab} (h:gh signs (x :: r) t=some fin):qF t x.1 x.2.1 x.2.2=true∧dc t x=none∧(∀ y∈cw signs t x.1 x.2.1 x.2.2,y.2.2.2 < 1152921504606846976)∧t.length≤100 ∧
    gh signs r (t++[(x,bj (cw signs t x.1 x.2.1 x.2.2))])=some fin:=by
  unfold gh at h;split at h
  · rename_i hc;simp only [abd,decide_eq_true_eq,Option.isNone_iff_eq_none] at hc;exact ⟨hc.1.1.1,hc.1.1.2,fun y hy=>of_decide_eq_true (aaH.mp hc.1.2 y hy),hc.2,h⟩
  · cases h
theorem RowsIn.get {H:Hp}:∀ {rs:List Row} {vs:List V} {i:Nat} {x:V},RowsIn H rs vs→vs[i]?=some x→∃ r,rs[i]?=some r∧RowIn H r x
  | _,_,i,x,.nil,e=>by simp at e
  | _,_,0,x,.cons h t,e=>by simp at e;subst e;exact ⟨_,rfl,h⟩
  | _,_,i+1,x,.cons h t,e=>by
    obtain ⟨r,h1,h2⟩:=RowsIn.get t (by simpa using e);exact ⟨r,by simpa using h1,h2⟩
theorem lM:∀ rs:List Row,(rs.map fun r=>(r.2.2.1:Int) * (r.2.2.2:Int)).sum=(bj rs:Int)
  | []=>rfl
  | r :: rs=>by
    have:=lM rs;unfold bj at this ⊢;rw [aaz,abl,aaz,abl,this]
    push_cast
    rfl
def tab0:Tab:=[((false,2,0),1),((true,2,0),1)]
def kOf:Nat→Bool
  | 0=>false
  | _=>true
theorem qe {l a b:Nat} (ha:a < 3) (hb:b < 2):(six l).drop (2 * a+b)=(kOf b,a,l) :: (six l).drop (2 * a+(b+1)):=by
  match a,ha,b,hb with
  | 0,_,0,_=>rfl
  | 0,_,1,_=>rfl
  | 1,_,0,_=>rfl
  | 1,_,1,_=>rfl
  | 2,_,0,_=>rfl
  | 2,_,1,_=>rfl
section
variable {P:Program} {w:World} {K:aaa} {mg:Str→Option Value} {base:Heap} {f:Addr} {fd:FuncData}
def i7:Sp:=fun vs H Q _=>∃ (signs:Str) (many:Nat) (fin:Tab),vs=[.str signs,.int many]∧signs∈bZ∧1≤many∧many≤9∧gh signs (stL 1 many) tab0=some fin∧∀ e H',Same H H'→H' e=some (.dT (kvs fin))→Q (.ref e) H'
abbrev dX:Stmt:=top 48
theorem bH:FnScope ["signs","many","ends","left","place","kind","choices"] ["signs","many"] (al dX):=⟨rfl,rfl,rfl,by decide +kernel,rfl,by decide +kernel,by decide +kernel⟩
theorem jS {tk:Tok} {aK aW:Addr} (F:Fun K "count_ends" "count_ends" dX f fd) (B:Bu K mg) (B4:Cw P w K mg aK aW) (B5:C5 mg tk) (C_choices_at:Cal P w K mg base "choices_at" 2 ["signs","ends","kind","place","left"] dC):FnOk P w K mg base CX0 3 f fd ["signs","many"] i7:=by
  refine F.ok bH (fun vs H Q E h=>?_) (fun cdv A outer s H vs Q E hr h=>?_)
  · obtain ⟨a,g,b,rfl,_⟩:=h;rfl
  obtain ⟨signs,many,fin,rfl,hs,h1,h9,hsim,q⟩:=h;refine ⟨_,(@af _ _ _ _ _ (@qr _ (.dT []) (2) _ _ _ _ _ _ _ _ _ _ _ (["kind"]) ([none]) _ _ _ _ _ (Or.inr rfl) (u1 hr.units) (bH).nd rfl (Or.inl rfl) rfl (@dw _ _ _ _ (@bi _ _ (.ref aK) _ _ rfl B4.gKINDS rfl (by decide))) rfl trivial trivial (fun _ _ _ _=>⟨(@am _ _ (0) _ (show aaK (["kind"]:List Str) by decide +kernel) rfl (Or.inl rfl) (.inr rfl)),aU,(@aQ _ _ _ _ _ (@aa _ _ _ _ _ (pv 0) (@aa _ _ _ _ _ (@bi _ _ (.int 2) _ _ rfl B5.gLATER ⟨_,rfl⟩ (by decide)) (@aa _ _ _ _ _ ai ad (by rfl)) (by rfl)) (by rfl))),ai⟩) (by rfl) (by rfl) (by rfl) (by rfl) (by intro _;rfl) (by rfl) (by first|exact .inl rfl|exact .inr rfl|assumption)) (@af _ _ _ _ _ (@bX _ _ _ _ _ _ _ _ aaF rfl (@h7 _ _ _ _ _ _ _ rfl B.irange (@aa _ _ _ _ _ ai (@aa _ _ _ _ _ (@ay _ _ _ _ _ _ _ _ bL (pv 1) ai) ad (by rfl)) (by rfl)) (by rfl) (by rfl)) (@am _ _ (3) _ (bH).nd rfl (Or.inl rfl) (.inl rfl)) (@ah _ _ _ (@bX _ _ _ _ _ _ _ _ aaF rfl (@dw _ _ _ _ (@aQ _ _ _ _ _ (@aa _ _ _ _ _ ai (@aa _ _ _ _ _ ai (@aa _ _ _ _ _ (@bi _ _ (.int 2) _ _ rfl B5.gLATER ⟨_,rfl⟩ (by decide)) ad (by rfl)) (by rfl)) (by rfl)))) (@am _ _ (4) _ (bH).nd rfl (Or.inl rfl) (.inl rfl)) (@ah _ _ _ (@bX _ _ _ _ _ _ _ _ aaF rfl (@dw _ _ _ _ (@bi _ _ (.ref aK) _ _ rfl B4.gKINDS rfl (by decide))) (@am _ _ (5) _ (bH).nd rfl (Or.inl rfl) (.inl rfl)) (@af _ _ _ _ _ (@aw _ _ (6) _ _ _ _ (bH).nd rfl (Or.inl rfl) (@aj _ _ _ _ _ _ _ _ _ _ _ C_choices_at hr (by lia) rfl (@aa _ _ _ _ _ (pv 0) (@aa _ _ _ _ _ (pv 2) (@aa _ _ _ _ _ (pv 5) (@aa _ _ _ _ _ (pv 4) (@aa _ _ _ _ _ (pv 3) ad (by rfl)) (by rfl)) (by rfl)) (by rfl)) (by rfl)) (by decide) (by rfl) (by rfl)) (by rfl) (by first|exact .inl rfl|exact .inr rfl|assumption)) (@ah _ _ _ (@kQ _ _ _ _ _ _ _ _ _ (u1 hr.units) (pv 2) (@aQ _ _ _ _ _ (@aa _ _ _ _ _ (pv 5) (@aa _ _ _ _ _ (pv 4) (@aa _ _ _ _ _ (pv 3) ad (by rfl)) (by rfl)) (by rfl))) (@ap _ _ _ _ _ _ _ _ _ (@gN _ rfl) rfl B.isum abF (@aa _ _ _ _ _ (@dG _ _ _ _ _ _ _ _ (["head","many_in","forms","rests"]) ([none,none,none,none]) _ _ _ _ rfl (@b_ _ _ _ _ (pv 6)) rfl trivial trivial (fun _ _ _ _=>⟨(@fe _ _ _ _ _ _ (4) rfl rfl (@ao _ _ _ _ _ (@am _ _ (0) _ (show aaK (["head","many_in","forms","rests"]:List Str) by decide +kernel) rfl (Or.inl rfl) (.inr rfl)) (@ao _ _ _ _ _ (@am _ _ (1) _ (show aaK (["head","many_in","forms","rests"]:List Str) by decide +kernel) rfl (Or.inl rfl) (.inr rfl)) (@ao _ _ _ _ _ (@am _ _ (2) _ (show aaK (["head","many_in","forms","rests"]:List Str) by decide +kernel) rfl (Or.inl rfl) (.inr rfl)) (@ao _ _ _ _ _ (@am _ _ (3) _ (show aaK (["head","many_in","forms","rests"]:List Str) by decide +kernel) rfl (Or.inl rfl) (.inr rfl)) aV (by rfl)) (by rfl)) (by rfl)) (by rfl)) (by rfl) (by rfl)),aU,(@ay _ _ _ _ _ _ _ _ c_ (pv 2) (pv 3))⟩) (by rfl) (by rfl) (by rfl) (by rfl) (by intro _;rfl)) ad (by rfl)) (by decide) (by decide) (by rfl) (by rfl)) rfl))) (by intro _;rfl))) (by intro _;rfl))) (by intro _;rfl)) (@ah _ _ _ (@aq _ _ _ _ (pv 2))))),?_⟩;refine ⟨aK,rfl,⟨_,B4.sKINDS H⟩,?_⟩;refine ⟨fun p i m H'=>m=2 - i∧i≤2∧Same H H'∧H' p=some (.dT (kvs (tab0.take i))),fun p hp=>⟨2,rfl,aaI _,Same.new hp _,ag⟩,?_⟩;rintro p i m H1 hpn ⟨rfl,hi,sm,hd⟩;by_cases hlt:i < 2
  · have hk2:[V.str "sum",V.str "times"][i]?=some (.str (kS (kOf i))):=by
      match i,hlt with
      | 0,_=>rfl
      | 1,_=>rfl
    refine .inr ⟨⟨_,.str (kS (kOf i)),B4.sKINDS H1,hk2⟩,fun x H2 y=>?_⟩;obtain ⟨e2,hx⟩:=y;subst e2;have hx':=hx _ (B4.sKINDS _);rw [hk2] at hx';cases hx';refine ⟨_,rfl,(by show 3≤sizeLine;decide),fun p8 hp8=>?_⟩;have ht:kvs (tab0.take (i+1))=db (kvs (tab0.take i)) (kyE (kOf i,2,0)) (.int 1):=by
      match i,hlt with
      | 0,_=>exact (kO (t:=[]) (x:=(kOf 0,2,0)) (n:=1) rfl).symm
      | 1,_=>exact (kO (t:=[((false,2,0),1)]) (x:=(kOf 1,2,0)) (n:=1) (by decide)).symm
    have hd8:upd H2 p8 (.tup [.str (kS (kOf i)),.int 2,.int 0]) p=some (.dT (kvs (tab0.take i))):=by rw [az (aD hd hp8)];exact hd
    refine ⟨_,DPut.t (k:=kyE (kOf i,2,0)) hd8 ag ?_,_,by lia,rfl,hlt,(sm.upd (sm.free hp8)).upd hpn,?_⟩
    · refine eB (aaW (?_:_≤2) (by decide));unfold kvs;rw [aac,aap];lia
    · rw [ag,ht]
  · have ei:i=2:=by lia
    subst ei;refine .inl ⟨⟨_,B4.sKINDS H1,by show 2≤2;decide⟩,?_⟩;refine ⟨_,rfl,_,_,rfl,rfl,_,_,rfl,⟨by decide,by decide,by lia,by lia⟩,?_⟩;rw [show ((many:Int)+1 - 1).toNat=many by lia];refine io (fun i σ H'=>Same H H'∧(∃ a b c d,σ=[some (.str signs),some (.int many),some (.ref p),a,b,c,d])∧∃ t,H' p=some (.dT (kvs t))∧gh signs (stL (1+i) (many - i)) t=some fin) ⟨sm,⟨_,_,_,_,rfl⟩,tab0,hd,hsim⟩ ?_ ?_
    · rintro i σ H2 hi2 ⟨sm2,⟨a,b,c,d,rfl⟩,t,hd2,hs2⟩;have em:many - i=many - (i+1)+1:=by lia
      rw [em] at hs2;have hs2:gh signs ((six (1+i)).drop (2 * 0)++stL (1+(i+1)) (many - (i+1))) t=some fin:=hs2;refine ⟨(by show 3≤sizeLine;decide),fun pt hpt=>⟨pt,rfl,⟨_,SqT.of ag⟩,?_⟩⟩;refine oR (a:=pt) (xs:=[.int 0,.int 1,.int 2]) (fun a σ H3=>Same H H3∧H3 pt=some (.tup [.int 0,.int 1,.int 2])∧(∃ b c d,σ=[some (.str signs),some (.int many),some (.ref p),some (.int (1+i)),b,c,d])∧∃ t,H3 p=some (.dT (kvs t)) ∧
        gh signs ((six (1+i)).drop (2 * a)++stL (1+(i+1)) (many - (i+1))) t=some fin) ⟨sm2.upd (sm2.free hpt),ag,⟨_,_,_,rfl⟩,t,by rw [az (aD hd2 hpt)];exact hd2,hs2⟩ (fun a σ H3 _ z=>SqT.of z.2.1) ?_ ?_
      · rintro a x σ H3 hx ⟨sm3,ht3,⟨b,c,d,rfl⟩,t,hd3,hs3⟩;have ha:a < 3:=by
          have:=(aaq.mp hx).1;simpa using this
        have ex:x=.int (a:Int):=by
          match a,ha with
          | 0,_=>cases hx;rfl
          | 1,_=>cases hx;rfl
          | 2,_=>cases hx;rfl
        subst ex;refine ⟨aK,rfl,⟨_,B4.sKINDS H3⟩,?_⟩;refine oR (a:=aK) (xs:=[.str "sum",.str "times"]) (fun b σ H4=>Same H H4∧H4 pt=some (.tup [.int 0,.int 1,.int 2])∧(∃ c d,σ=[some (.str signs),some (.int many),some (.ref p),some (.int (1+i)),some (.int a),c,d])∧∃ t,H4 p=some (.dT (kvs t)) ∧
          gh signs ((six (1+i)).drop (2 * a+b)++stL (1+(i+1)) (many - (i+1))) t=some fin) ⟨sm3,ht3,⟨_,_,rfl⟩,t,hd3,hs3⟩ (fun _ _ H4 _ _=>B4.sKINDS H4) ?_ ?_
        · rintro b x σ H4 hx ⟨sm4,ht4,⟨c,d,rfl⟩,t,hd4,hs4⟩;have hb:b < 2:=by
            have:=(aaq.mp hx).1;simpa using this
          have ex:x=.str (kS (kOf b)):=by
            match b,hb with
            | 0,_=>cases hx;rfl
            | 1,_=>cases hx;rfl
          subst ex;rw [qe ha hb] at hs4;obtain ⟨o1,o2,o3,o4,hs5⟩:=pi hs4;refine ⟨_,rfl,_,rfl,_,rfl,_,rfl,_,rfl,signs,p,t,kOf b,a,1+i,?_,hs,by lia,by lia,by lia,hd4,o1,fun ac ys H5 sm5 hac hrows=>?_⟩
          · rw [show ((1+i:Nat):Int)=1+(i:Int) by lia];rfl
          have hlr:=aav hrows;have hlen:ys.length≤100:=by
            rw [← hlr];show (chF t (kOf b) (aJ a) (1+i) (aL a (1+i)) (bU (kOf b) a signs).cps.toList).length≤100;rw [lx];have h3:=(kc (k:=kOf b) hs (show a≤2 by lia)).2;have h4:aL a (1+i)≤9:=by unfold aL;split <;> lia
            have h5:(bU (kOf b) a signs).cps.toList.length * aL a (1+i)≤3 * 9:=Nat.mul_le_mul (by simpa using h3) h4;lia
          refine ⟨_,rfl,ac,rfl,⟨ys,SqL.of hac⟩,?_⟩;refine sx (xs:=ys) (fun i' zs H6=>H6=H5∧zs=(((cw signs t (kOf b) a (1+i)).take i').map fun r=>(r.2.2.1:Int) * (r.2.2.2:Int)).map V.int) ⟨rfl,rfl⟩ ?_ ?_ ?_
          · rintro i' zs H6 hi' ⟨rfl,rfl⟩;refine ⟨SqL.of hac,eB ?_⟩;rw [aac,aac,aap];lia
          · rintro i' x zs H6 hx6 ⟨rfl,rfl⟩ nxt;obtain ⟨r,hr1,a6,rfl,hr2⟩:=hrows.get hx6;have hb6:=o3 r (aaf hr1);refine ⟨a6,_,rfl,SqT.of hr2,rfl,?_⟩;refine ⟨_,_,rfl,_,_,rfl,_,_,rfl,_,_,rfl,rfl,?_⟩;refine ⟨_,rfl,_,rfl,_,_,rfl,rfl,.inr ⟨by lia,by lia⟩,nxt ⟨rfl,?_⟩⟩;rw [bx hr1,aan,aan];rfl
          · rintro zs H6 ⟨rfl,rfl⟩ p6 hp6;rw [aaL (by lia)];refine ⟨p6,_,rfl,SqL.of ag,?_⟩;rw [lM];have sm6:=sm5.trans (Same.new hp6 (.lst (((cw signs t (kOf b) a (1+i)).map fun r=>(r.2.2.1:Int) * (r.2.2.2:Int)).map V.int)));refine ⟨_,rfl,_,rfl,_,rfl,_,rfl,(by show 3≤sizeLine;decide),fun p7 hp7=>?_⟩;have hd7:=(sm6.trans (Same.new hp7 (.tup [.str (kS (kOf b)),.int a,.int (1+i)]))) _ _ hd4;refine ⟨p,_,rfl,DPut.t (k:=kyE (kOf b,a,1+i)) hd7 ?_ ?_,?_⟩
            · rw [ag,oE];simp only [];rw [show ((1+i:Nat):Int)=1+(i:Int) by lia]
            · unfold kvs;rw [aac];exact eB o4
            · refine ⟨((sm4.trans (sm6.trans (Same.new hp7 _))).upd hpn),?_,⟨_,_,rfl⟩,_,?_,hs5⟩
              · have hp7':=(sm6.trans (Same.new hp7 (.tup [.str (kS (kOf b)),.int a,.int (1+i)]))) _ _ ht4;rw [az (fun z=>by rw [z] at hp7';rw [hd7] at hp7';cases hp7')];exact hp7'
              · rw [ag,kO o2]
        · rintro σ H4 ⟨sm4,ht4,⟨c,d,rfl⟩,t,hd4,hs4⟩;exact ⟨sm4,ht4,⟨_,_,_,rfl⟩,t,hd4,hs4⟩
      · rintro σ H3 ⟨sm3,ht3,⟨b,c,d,rfl⟩,t,hd3,hs3⟩;exact ⟨sm3,⟨_,_,_,_,rfl⟩,t,hd3,hs3⟩
    · rintro σ H2 ⟨sm2,⟨a,b,c,d,rfl⟩,t,hd2,hs2⟩;rw [Nat.sub_self] at hs2;cases hs2;exact ⟨_,rfl,q _ _ sm2 hd2⟩
end
open PySem L2
def lq (t:Tab) (m:Nat):Option Nat:=if m=1 then some 1 else
  match dc t (false,0,m),dc t (true,0,m) with
  | some a,some b=>some (a+b)
  | _,_=>none
structure Gd (z:Str) (t:Tab) (m:Nat):Prop where
  ok:∀ (k:Bool) (p l:Nat),p≤2→1≤l→l≤m→qF t k p l=true
  sm:∀ (k:Bool) (p l:Nat),p≤2→1≤l→l≤m→dc t (k,p,l)=some (bj (cw z t k p l))
  z0:∀ k:Bool,dc t (k,2,0)=some 1
  bd:∀ (k:Bool) (p l:Nat),(dc t (k,p,l)).getD 0 < 1152921504606846976
def s_ (z:Str) (m:Nat) (t:Tab):Bool :=
  (stL 1 m).all (fun x=>qF t x.1 x.2.1 x.2.2 && decide (dc t x=some (bj (cw z t x.1 x.2.1 x.2.2)))) && decide (dc t (false,2,0)=some 1) && decide (dc t (true,2,0)=some 1) && t.all (fun e=>decide (e.2 < 1152921504606846976))
def tf (z:Str) (m:Nat):Bool :=
  match gh z (stL 1 m) tab0 with
  | some t=>s_ z m t
  | none=>false
theorem qV:∀ z∈bZ,∀ m∈aaD 9,tf z (m+1)=true:=by decide +kernel
theorem ko:∀ (n a:Nat) (k:Bool) (p l:Nat),p≤2→a≤l→l < a+n→(k,p,l)∈stL a n
  | 0,a,k,p,l,_,h1,h2=>by lia
  | n+1,a,k,p,l,hp,h1,h2=>by
    unfold stL;rw [List.mem_append];by_cases e:l=a
    · subst e;refine .inl ?_;unfold six
      match p,hp,k with
      | 0,_,false=>simp
      | 0,_,true=>simp
      | 1,_,false=>simp
      | 1,_,true=>simp
      | 2,_,false=>simp
      | 2,_,true=>simp
    · exact .inr (ko n (a+1) k p l hp (by lia) (by lia))
theorem gG {z:Str} (hz:z∈bZ) {m:Nat} (h1:1≤m) (h9:m≤9):∃ t,gh z (stL 1 m) tab0=some t∧Gd z t m:=by
  have h:=qV z hz (m - 1) (aaJ.mpr (by lia));rw [show m - 1+1=m by lia] at h;unfold tf at h;split at h
  · rename_i t e;refine ⟨t,e,?_⟩;unfold s_ at h;simp only [abd,aaH,decide_eq_true_eq] at h;obtain ⟨⟨⟨a,b⟩,c⟩,d⟩:=h;refine ⟨fun k p l hp hl hm=>(a (k,p,l) (ko m 1 k p l hp hl (by lia))).1,fun k p l hp hl hm=>(a (k,p,l) (ko m 1 k p l hp hl (by lia))).2,fun k=>by cases k <;> assumption,fun k p l=>?_⟩;unfold dc;cases e2:t.find? fun e=>decide (e.1=(k,p,l)) with
    | none=>decide
    | some y=>exact d y (List.mem_of_find?_eq_some e2)
  · cases h
def gv (t:Tab) (k:Bool) (p l:Nat):Nat:=(dc t (k,p,l)).getD 0
def pf (t:Tab) (k:Bool) (m:Nat):Nat:=(h_ t k m).getD 0
theorem bN {gs:List Sg} (g3:gs.length≤3) (sp:aX gs):ae gs∈bZ:=by
  match gs,g3,sp with
  | [],_,h=>exact absurd h (by unfold aX;decide +kernel)
  | [a],_,h=>cases a <;> decide +kernel
  | [a,b],_,h=>cases a <;> cases b <;> first|decide +kernel|exact absurd h (by unfold aX;decide +kernel)
  | [a,b,c],_,h=>cases a <;> cases b <;> cases c <;> first|decide +kernel|exact absurd h (by unfold aX;decide +kernel)
  | _ :: _ :: _ :: _ :: _,h,_=>simp at h
def hmf (t:Tab) (m:Nat):Nat:=if m=1 then 1 else gv t false 0 m+gv t true 0 m
theorem Gd.get {z:Str} {t:Tab} {m:Nat} (G:Gd z t m) {k:Bool} {p l:Nat} (hp:p≤2) (h1:1≤l) (hm:l≤m):dc t (k,p,l)=some (gv t k p l):=by
  unfold gv;rw [G.sm k p l hp h1 hm];rfl
theorem Gd.forms {z:Str} {t:Tab} {m:Nat} (G:Gd z t m) {l:Nat} (h1:1≤l) (hm:l≤m):lq t l=some (hmf t l):=by
  unfold lq hmf;by_cases e:l=1
  · rw [if_pos e,if_pos e]
  · rw [if_neg e,if_neg e,G.get (aaI _) h1 hm,G.get (aaI _) h1 hm]
section
variable {P:Program} {w:World} {K:aaa} {mg:Str→Option Value} {base:Heap} {f:Addr} {fd:FuncData}
def iK:Sp:=fun vs H Q _=>∃ (e:Addr) (t:Tab) (m r:Nat),vs=[.ref e,.int m]∧H e=some (.dT (kvs t))∧lq t m=some r∧∀ H',Same H H'→Q (.int r) H'
abbrev dq:Stmt:=top 51
theorem ja:FnScope ["ends","many"] ["ends","many"] (al dq):=⟨rfl,rfl,rfl,by decide +kernel,rfl,by decide +kernel,by decide +kernel⟩
theorem jp {tk:Tok} {aK aW:Addr} (F:Fun K "count_forms" "count_forms" dq f fd) (B:Bu K mg) (B4:Cw P w K mg aK aW) (B5:C5 mg tk):FnOk P w K mg base CX0 1 f fd ["ends","many"] iK:=by
  refine F.ok ja (fun vs H Q E h=>?_) (fun cdv A outer s H vs Q E hr h=>?_)
  · obtain ⟨d,t,m,r,rfl,_⟩:=h;rfl
  obtain ⟨e,t,m,r,rfl,he,hf,q⟩:=h;refine ⟨_,(@ah _ _ _ (@aq _ _ _ _ (@bT _ _ _ _ _ _ _ _ (@av _ _ _ _ _ _ _ _ bE (pv 1) ai (aA _)) ai (@ap _ _ _ _ _ _ _ _ _ (@gN _ rfl) rfl B.isum abF (@aa _ _ _ _ _ (@dG _ _ _ _ _ _ _ _ (["kind","ends","many"]) ([none,some 0,some 1]) _ _ _ _ rfl (@dw _ _ _ _ (@bi _ _ (.ref aK) _ _ rfl B4.gKINDS rfl (by decide))) rfl ⟨rfl,⟨rfl,trivial⟩⟩ ⟨⟨rfl,Or.inl rfl,Or.inl rfl⟩,⟨⟨rfl,Or.inl rfl,Or.inl rfl⟩,trivial⟩⟩ (fun _ _ _ _=>⟨(@am _ _ (0) _ (show aaK (["kind","ends","many"]:List Str) by decide +kernel) rfl (Or.inl rfl) (.inr rfl)),aU,(@cz _ _ _ _ _ _ (u1 hr.units) (pv 1) (@aQ _ _ _ _ _ (@aa _ _ _ _ _ (pv 0) (@aa _ _ _ _ _ ai (@aa _ _ _ _ _ (pv 2) ad (by rfl)) (by rfl)) (by rfl))) (fun _ _=>rfl))⟩) (by rfl) (by rfl) (by rfl) (by rfl) (by intro _;rfl)) ad (by rfl)) (by decide) (by decide) (by rfl) (by rfl))))),?_⟩;unfold lq at hf;by_cases h1:m=1
  · subst h1;rw [if_pos rfl] at hf;cases hf;exact ⟨_,rfl,rfl,_,rfl,fD rfl (q H (Same.refl _))⟩
  · rw [if_neg h1] at hf;refine ⟨_,rfl,rfl,_,rfl,e_ (fun z=>h1 (by cases z;rfl)) ⟨aK,rfl,⟨_,B4.sKINDS H⟩,?_⟩⟩;split at hf
    · rename_i a b ha hb;cases hf;have hg:∀ i,i < 2→dc t (kOf i,0,m)=some ([a,b].getD i 0):=fun i hi=>by
        match i,hi with
        | 0,_=>exact ha
        | 1,_=>exact hb
      refine qL (xs:=[.str "sum",.str "times"]) (fun i ys H'=>Same H H'∧ys=(([a,b].take i).map fun (n:Nat)=>(n:Int)).map V.int) ⟨Same.refl _,rfl⟩ ?_ ?_ ?_
      · rintro i ys H' hi ⟨sm,rfl⟩;refine ⟨B4.sKINDS H',eB ?_⟩;rw [aac,aac,aap];exact aaW (Nat.min_le_right _ _) (show 2≤100 by decide)
      · rintro i x ys H' hx ⟨sm,rfl⟩ nxt;have hi:i < 2:=by
          have:=(aaq.mp hx).1;simpa using this
        have ex:x=.str (kS (kOf i)):=by
          match i,hi with
          | 0,_=>cases hx;rfl
          | 1,_=>cases hx;rfl
        subst ex;refine ⟨_,rfl,_,rfl,_,rfl,(by show 3≤sizeLine;decide),fun p8 hp8=>⟨e,.int ([a,b].getD i 0:Nat),rfl,?_,nxt ⟨sm.trans (Same.new hp8 _),?_⟩⟩⟩
        · have hv:bW (kvs t) (kyE (kOf i,0,m))=some (.int ([a,b].getD i 0:Nat)):=by rw [fb,hg i hi];rfl
          have z:=DGet.t (a:=e) (b:=p8) (kvs:=kvs t) (k:=kyE (kOf i,0,m)) ((sm.trans (Same.new hp8 (.tup [.str (kS (kOf i)),.int 0,.int m]))) _ _ he) ag;rw [hv] at z;exact z
        · match i,hi with
          | 0,_=>rfl
          | 1,_=>rfl
      · rintro ys H' ⟨sm,rfl⟩ p hp;refine ⟨p,[(a:Int),(b:Int)],rfl,SqL.of ag,?_⟩;have z:=q _ (sm.trans (Same.new hp (.lst [.int a,.int b])));rw [show [(a:Int),(b:Int)].sum=((a+b:Nat):Int) by simp];exact z
    · cases hf
def qd:Sp:=fun vs H Q _=>∃ (gs:List Sg) (m:Nat) (t:Tab),vs=[.str (ae gs),.int m]∧gs.length≤3∧aX gs∧1≤m∧m≤9∧gh (ae gs) (stL 1 m) tab0=some t∧∀ H',Same H H'→Q (.int (hmf t m:Nat)) H'
abbrev ck:Stmt:=top 41
theorem gi:FnScope ["signs","many"] ["signs","many"] (al ck):=⟨rfl,rfl,rfl,by decide +kernel,rfl,by decide +kernel,by decide +kernel⟩
theorem gA (F:Fun K "how_many_forms" "how_many_forms" ck f fd) (C_need_signs:Cal P w K mg base "need_signs" 2 ["thing"] cD) (C_need_many:Cal P w K mg base "need_many" 3 ["thing"] fE) (C_count_ends:Cal P w K mg base "count_ends" 3 ["signs","many"] i7)
    (C_count_forms:Cal P w K mg base "count_forms" 1 ["ends","many"] iK):FnOk P w K mg base CX0 4 f fd ["signs","many"] qd:=by
  refine F.ok gi (fun vs H Q E h=>?_) (fun cdv A outer s H vs Q E hr h=>?_)
  · obtain ⟨d,t,m,rfl,_⟩:=h;rfl
  obtain ⟨gs,m,t,rfl,g3,sp,h1,h9,hsim,q⟩:=h;refine ⟨_,(@af _ _ _ _ _ (@bv _ _ _ _ (@aj _ _ _ _ _ _ _ _ _ _ _ C_need_signs hr (by lia) rfl (@aa _ _ _ _ _ (pv 0) ad (by rfl)) (by decide) (by rfl) (by rfl)) (by rfl)) (@af _ _ _ _ _ (@bv _ _ _ _ (@aj _ _ _ _ _ _ _ _ _ _ _ C_need_many hr (by lia) rfl (@aa _ _ _ _ _ (pv 1) ad (by rfl)) (by decide) (by rfl) (by rfl)) (by rfl)) (@ah _ _ _ (@aq _ _ _ _ (@aj _ _ _ _ _ _ _ _ _ _ _ C_count_forms hr (by lia) rfl (@aa _ _ _ _ _ (@aj _ _ _ _ _ _ _ _ _ _ _ C_count_ends hr (by lia) rfl (@aa _ _ _ _ _ (pv 0) (@aa _ _ _ _ _ (pv 1) ad (by rfl)) (by rfl)) (by decide) (by rfl) (by rfl)) (@aa _ _ _ _ _ (pv 1) ad (by rfl)) (by rfl)) (by decide) (by rfl) (by rfl)))))),?_⟩;obtain ⟨t',e',G⟩:=gG (bN g3 sp) h1 h9;cases hsim.symm.trans e';refine ⟨_,rfl,gs,rfl,sp,_,rfl,m,rfl,by lia,by lia,_,rfl,_,rfl,_,m,t,rfl,bN g3 sp,h1,h9,hsim,fun e H1 s1 he=>?_⟩;exact ⟨_,rfl,e,t,m,_,rfl,he,G.forms h1 (aab _),fun H2 s2=>q H2 (s1.trans s2)⟩
end
open PySem L2
def Row.ct (r:Row):Nat:=r.2.2.1 * r.2.2.2
theorem bY (r:Row) (rs:List Row):bj (r :: rs)=r.2.2.1 * r.2.2.2+bj rs:=by unfold bj;rw [aaz,abl]
theorem iX (a b:List Row):bj (a++b)=bj a+bj b:=by unfold bj;rw [aan,List.sum_append]
def ahd (c:Str) (m:Nat):List Row→Nat
  | []=>0
  | r :: rs=>if r.1=c∧r.2.1=m then 0 else r.2.2.1 * r.2.2.2+ahd c m rs
def fC:List Row→Nat→Option (Str × Nat × Nat × Nat)
  | [],_=>none
  | r :: rs,x=>if x < r.2.2.1 * r.2.2.2 then some (r.1,r.2.1,x / r.2.2.2,x % r.2.2.2) else fC rs (x - r.2.2.1 * r.2.2.2)
theorem qk {q s f R:Nat} (hq:q < f) (hs:s < R):q * R+s < f * R:=by
  have:=abJ R (show q+1≤f from hq);rw [ab4,Nat.one_mul] at this;lia
theorem ox:∀ (rs:List Row) (i:Nat) (c:Str) (m f R q s:Nat),rs[i]?=some (c,m,f,R)→q < f→s < R→fC rs (bj (rs.take i)+(q * R+s))=some (c,m,q,s)
  | [],i,c,m,f,R,q,s,h,_,_=>by simp at h
  | r :: rs,0,c,m,f,R,q,s,h,hq,hs=>by
    have h:r=(c,m,f,R):=by simpa using h
    subst h;unfold fC;have:=qk hq hs;rw [abK,show bj []=0 from rfl,aaY,if_pos this];have e1:(q * R+s) / R=q:=by rw [abV,Nat.mul_add_div (by lia),Nat.div_eq_of_lt hs,Nat.add_zero]
    have e2:(q * R+s) % R=s:=by rw [abV,Nat.mul_add_mod,Nat.mod_eq_of_lt hs]
    show some (c,m,(q * R+s) / R,(q * R+s) % R)=_;rw [e1,e2]
  | r :: rs,i+1,c,m,f,R,q,s,h,hq,hs=>by
    unfold fC;rw [abM,bY,if_neg (by lia),show r.2.2.1 * r.2.2.2+bj (rs.take i)+(q * R+s) - r.2.2.1 * r.2.2.2=bj (rs.take i)+(q * R+s) by lia];exact ox rs i c m f R q s (by simpa using h) hq hs
theorem j5:∀ (rs:List Row) (x:Nat),x < bj rs→∃ i c m f R q s,rs[i]?=some (c,m,f,R)∧q < f∧s < R∧x=bj (rs.take i)+(q * R+s)
  | [],x,h=>by simp [bj] at h
  | r :: rs,x,h=>by
    by_cases c:x < r.2.2.1 * r.2.2.2
    · have R0:0 < r.2.2.2:=by
        rcases Nat.eq_zero_or_pos r.2.2.2 with e|e
        · rw [e,Nat.mul_zero] at c;lia
        · exact e
      refine ⟨0,r.1,r.2.1,r.2.2.1,r.2.2.2,x / r.2.2.2,x % r.2.2.2,rfl,Nat.div_lt_of_lt_mul (by rw [abV];exact c),Nat.mod_lt _ R0,?_⟩;rw [abK,show bj []=0 from rfl,aaY];have:=Nat.div_add_mod x r.2.2.2;rw [abV] at this;exact this.symm
    · rw [bY] at h;obtain ⟨i,cc,m,f,R,q,s,a1,a2,a3,a4⟩:=j5 rs (x - r.2.2.1 * r.2.2.2) (by lia);refine ⟨i+1,cc,m,f,R,q,s,by simpa using a1,a2,a3,?_⟩;rw [abM,bY];lia
theorem iW:∀ {rs:List Row} {i:Nat} {r:Row},rs[i]?=some r→bj (rs.take i)+r.2.2.1 * r.2.2.2≤bj rs
  | [],i,r,h=>by simp at h
  | y :: rs,0,r,h=>by
    have h:y=r:=by simpa using h
    subst h;rw [bY,abK,show bj []=0 from rfl];lia
  | y :: rs,i+1,r,h=>by
    have:=iW (rs:=rs) (i:=i) (r:=r) (by simpa using h);rw [abM,bY,bY];lia
theorem rL {rs:List Row} {i j:Nat} {r:Row} (h:rs[i]?=some r) (hj:i < j):bj (rs.take i)+r.2.2.1 * r.2.2.2≤bj (rs.take j):=by
  have e:(rs.take j)[i]?=some r:=by rw [aa9 hj];exact h
  have:=iW e;rw [List.take_take,Nat.min_eq_left (by lia)] at this;exact this
def eD (c:Nat):Str:=⟨#[c]⟩
theorem qf {c d:Nat} (h:eD c=eD d):c=d:=by
  unfold eD at h;injection h with h
  injection h with h
  injection h
theorem iQ {t:Tab} {k:Bool} {bh l:Nat} {c:Str} {n j:Nat} (h:j < n):(inF t k bh l c n)[j]?=some (h6 t k bh l c j):=by
  unfold inF;rw [aao,abh h];rfl
theorem cR {t:Tab} {k:Bool} {bh l:Nat} {c:Str} {n:Nat}:(inF t k bh l c n).length=n:=by simp [inF]
theorem lF {c:Str} {m:Nat} {a b:List Row} (h:∀ r∈a,¬ (r.1=c∧r.2.1=m)):ahd c m (a++b)=bj a+ahd c m b:=by
  induction a with
  | nil=>show _=0+_;rw [aaY];rfl
  | cons r a ih =>
    rw [List.cons_append,bY];show (if r.1=c∧r.2.1=m then 0 else r.2.2.1 * r.2.2.2+ahd c m (a++b))=_;rw [if_neg (h r aai),ih fun x hx=>h x (aae _ hx)];lia
theorem fj {α:Type} {l:List α} {i:Nat} {x:α} (h:l[i]?=some x):l.drop i=x :: l.drop (i+1):=by
  obtain ⟨hi,e⟩:=aaq.mp h;rw [List.drop_eq_getElem_cons hi,e]
theorem sD {t:Tab} {k:Bool} {bh l:Nat} {c:Str} {n j:Nat} (h:j < n) (b:List Row):ahd c (j+1) (inF t k bh l c n++b)=bj ((inF t k bh l c n).take j):=by
  have e:inF t k bh l c n=(inF t k bh l c n).take j++h6 t k bh l c j :: (inF t k bh l c n).drop (j+1):=by
    rw [← fj (iQ h),aaO]
  have z:ahd c (j+1) ((inF t k bh l c n).take j++(h6 t k bh l c j :: (inF t k bh l c n).drop (j+1)++b))=bj ((inF t k bh l c n).take j)+ahd c (j+1) (h6 t k bh l c j :: (inF t k bh l c n).drop (j+1)++b):=lF (fun r hr=>by
    rintro ⟨-,h2⟩;obtain ⟨i,hi,e⟩:=abL hr;have hi':i < j:=by rw [aap] at hi;lia
    have e2:((inF t k bh l c n).take j)[i]?=some r:=by rw [aag hi,e]
    rw [aa9 hi',iQ (by lia)] at e2;cases e2;have h2:i+1=j+1:=h2;lia)
  have z2:ahd c (j+1) (h6 t k bh l c j :: (inF t k bh l c n).drop (j+1)++b)=0:=by
    show (if (h6 t k bh l c j).1=c∧(h6 t k bh l c j).2.1=j+1 then 0 else _)=0;exact if_pos ⟨rfl,rfl⟩
  rw [z2,Nat.add_zero,← abH,← e] at z;exact z
theorem tp {t:Tab} {k:Bool} {bh l most:Nat} {c j:Nat} (hj:j < most):∀ {cs:List Nat},c∈cs→(chF t k bh l most cs)[cs.idxOf c * most+j]?=some (h6 t k bh l (eD c) j)∧ahd (eD c) (j+1) (chF t k bh l most cs)=bj ((chF t k bh l most cs).take (cs.idxOf c * most+j))
  | [],h=>nomatch h
  | d :: r,h=>by
    by_cases e:d=c
    · subst e;rw [List.idxOf_cons_self,Nat.zero_mul,aaY];show (inF t k bh l (eD d) most++chF t k bh l most r)[j]?=_∧ahd (eD d) (j+1) (inF t k bh l (eD d) most++chF t k bh l most r)=bj ((inF t k bh l (eD d) most++chF t k bh l most r).take j);rw [aa5 (by rw [cR];exact hj),iQ hj,sD hj,List.take_append_of_le_length (by rw [cR];lia)];exact ⟨rfl,rfl⟩
    · have h:c∈r:=(aaE.mp h).resolve_left fun z=>e z.symm;obtain ⟨i1,i2⟩:=tp (t:=t) (k:=k) (bh:=bh) (l:=l) hj h;have ei:(d :: r).idxOf c=r.idxOf c+1:=by rw [List.idxOf_cons,show (d == c)=false from beq_false_of_ne e];rfl
      rw [ei,ab4,Nat.one_mul,show r.idxOf c * most+most+j=most+(r.idxOf c * most+j) by lia];show (inF t k bh l (eD d) most++chF t k bh l most r)[most+(r.idxOf c * most+j)]?=_∧ahd (eD c) (j+1) (inF t k bh l (eD d) most++chF t k bh l most r)=bj ((inF t k bh l (eD d) most++chF t k bh l most r).take (most+(r.idxOf c * most+j)));rw [aa1 (by rw [cR];lia),cR,show most+(r.idxOf c * most+j) - most=r.idxOf c * most+j by lia,i1,lF (fun y hy=>?_),i2,List.take_append,cR,aaL (l:=inF t k bh l (eD d) most) (by rw [cR];lia),iX,show most+(r.idxOf c * most+j) - most=r.idxOf c * most+j by lia]
      · exact ⟨rfl,rfl⟩
      · rintro ⟨h1,-⟩;unfold inF at hy;obtain ⟨i,hi,rfl⟩:=abf.mp hy;exact e (qf h1)
theorem nQ {t:Tab} {k:Bool} {bh l most:Nat}:∀ {cs:List Nat} {i:Nat} {y:Row},(chF t k bh l most cs)[i]?=some y→∃ c j,cs[i / most]?=some c∧j=i % most∧j < most∧y=h6 t k bh l (eD c) j
  | [],i,y,h=>by simp [chF] at h
  | d :: r,i,y,h=>by
    have h:(inF t k bh l (eD d) most++chF t k bh l most r)[i]?=some y:=h;by_cases e:i < most
    · rw [aa5 (by rw [cR];exact e),iQ e] at h;cases h;exact ⟨d,i,by rw [Nat.div_eq_of_lt e];rfl,(Nat.mod_eq_of_lt e).symm,e,rfl⟩
    · rw [aa1 (by rw [cR];lia),cR] at h;obtain ⟨c,j,a1,a2,a3,a4⟩:=nQ h;refine ⟨c,j,?_,?_,a3,a4⟩
      · have e2:i / most=(i - most) / most+1:=by
          rw [← Nat.add_div_right _ (by lia),Nat.sub_add_cancel (by lia)]
        rw [e2];simpa using a1
      · rw [a2];have:=Nat.add_mod_right (i - most) most;rw [Nat.sub_add_cancel (by lia)] at this;exact this.symm
def hcs (z:Str) (k:Bool) (p:Nat):List Nat:=(bU k p z).cps.toList
def hc (k h:Bool):Nat:=(hk k h).cps.toList.headD 0
theorem sL (k h:Bool):eD (hc k h)=hk k h:=by cases k <;> cases h <;> decide +kernel
theorem uB:∀ z∈bZ,∀ k∈[false,true],∀ p∈aaD 3,(hcs z k p).map (fun c=>(hcs z k p).idxOf c)=aaD (hcs z k p).length:=by decide +kernel
theorem uA:∀ z∈bZ,∀ k∈[false,true],∀ p∈aaD 3,∀ c∈hcs z k p,[false,true].any (fun h=>decide (c=hc k h) && bR (bU k p z) (hk k h) && (!k || h))=true:=by decide +kernel
theorem nH:∀ z∈bZ,∀ k∈[false,true],∀ p∈aaD 3,∀ h∈[false,true],bR (bU k p z) (hk k h)=true→hc k h∈hcs z k p:=by decide +kernel
theorem sK:∀ z∈bZ,∀ p∈aaD 3,∀ h∈[false,true],∀ h'∈[false,true],hc false h∈hcs z false p→hc false h'∈hcs z false p→decide ((hcs z false p).idxOf (hc false h) < (hcs z false p).idxOf (hc false h'))=(h && !h'):=by decide +kernel
theorem cg (h:Bool):h∈[false,true]:=by cases h <;> simp
open PySem L2
def nps (z:Str) (t:Tab) (N:Wy→Nat) (k:Bool):Nat→List (Bool × Wy)→Nat
  | _,[]=>0
  | p,(h,u) :: r=>ahd (hk k h) u.size (cw z t k p (u.size+szs r))+(N u * gv t k (aJ p) (szs r)+nps z t N k (aJ p) r)
def Pk (z:Str) (gs:List Sg) (k:Bool):Nat→List (Bool × Wy)→Prop
  | p,[]=>p=2
  | p,(h,u) :: r=>(bR (bU k p z) (hk k h)=true∧(k=true→h=true)∧u.no k∧u.within gs)∧Pk z gs k (aJ p) r
theorem mP (p:Nat):aJ p≤2:=by unfold aJ;split <;> lia
theorem wb (p:Nat):1≤aJ p:=by unfold aJ;split <;> lia
theorem bf (h:Bool) (u:Wy) (r:List (Bool × Wy)):szs ((h,u) :: r)=u.size+szs r:=by simp [szs]
theorem Pk.rest {z:Str} {gs:List Sg} {k:Bool} {p:Nat} {r:List (Bool × Wy)} (h:Pk z gs k (aJ p) r) (h0:p=0):1≤szs r:=by
  subst h0;cases r with
  | nil=>exact absurd (show 1=2 from h) (by decide)
  | cons q r=>have:=q.2.size_pos;simp only [szs,aaz,abl];lia
theorem oD {p l m:Nat} (h1:1≤m) (h:m≤l) (h0:p=0→m < l):m - 1 < aL p l:=by
  unfold aL;split
  · have:=h0 (by assumption);lia
  · lia
theorem jr {z:Str} {t:Tab} {k:Bool} {p:Nat} (hz:z∈bZ) (hp:p≤2) {h:Bool} {u:Wy} {s:Nat} (hh:bR (bU k p z) (hk k h)=true) (h0:p=0→1≤s) :
    (cw z t k p (u.size+s))[(hcs z k p).idxOf (hc k h) * aL p (u.size+s)+(u.size - 1)]?=some (hk k h,u.size,pf t k u.size,gv t k (aJ p) s)∧ahd (hk k h) u.size (cw z t k p (u.size+s))=bj ((cw z t k p (u.size+s)).take ((hcs z k p).idxOf (hc k h) * aL p (u.size+s)+(u.size - 1))):=by
  have u1:=u.size_pos;have a:=tp (t:=t) (k:=k) (bh:=aJ p) (l:=u.size+s) (c:=hc k h) (j:=u.size - 1) (most:=aL p (u.size+s)) (oD u1 (by lia) fun e=>by have:=h0 e;lia) (nH z hz k (cg k) p (aaJ.mpr (by lia)) h (cg h) hh);rw [sL,show u.size - 1+1=u.size by lia] at a;refine ⟨a.1.trans ?_,a.2⟩;unfold h6;rw [show u.size - 1+1=u.size by lia,show u.size+s - u.size=s by lia];rfl
theorem ik {z:Str} {t:Tab} {gs:List Sg} {m:Nat} (hz:z∈bZ) (G:Gd z t m) {N:Wy→Nat} {k:Bool}:∀ (ps:List (Bool × Wy)) (p:Nat),p≤2→Pk z gs k p ps→szs ps≤m→(∀ q∈ps,N q.2 < pf t k q.2.size)→nps z t N k p ps < gv t k p (szs ps)
  | [],p,_,hk,_,_=>by
    cases (show p=2 from hk);show 0 < gv t k 2 0;unfold gv;rw [G.z0];decide
  | (h,u) :: r,p,hp,⟨⟨h1,h2,h3,h4⟩,h5⟩,hm,hN=>by
    rw [bf] at hm ⊢;have u1:=u.size_pos;have ih:=ik hz G r (aJ p) (mP p) h5 (by lia) fun q hq=>hN q (aae _ hq);obtain ⟨a1,a2⟩:=jr (t:=t) hz hp (u:=u) h1 (fun e=>h5.rest e);have b:=iW a1;have c:=qk (hN (h,u) aai) ih;have e:gv t k p (u.size+szs r)=bj (cw z t k p (u.size+szs r)):=by unfold gv;rw [G.sm k p _ hp (by lia) hm];rfl
    rw [e];show ahd _ _ _+_ < _;rw [a2];have b:_+pf t k u.size * gv t k (aJ p) (szs r)≤_:=b;have c:N u * gv t k (aJ p) (szs r)+nps z t N k (aJ p) r < pf t k u.size * gv t k (aJ p) (szs r):=c;lia
theorem qH {z:Str} {t:Tab} {gs:List Sg} {m:Nat} (hz:z∈bZ) (G:Gd z t m) {N:Wy→Nat} {k:Bool} {h:Bool} {u:Wy} {r:List (Bool × Wy)} {p:Nat} (hp:p≤2) (hk':Pk z gs k p ((h,u) :: r)) (hm:szs ((h,u) :: r)≤m) (hN:∀ q∈(h,u) :: r,N q.2 < pf t k q.2.size) :
    fC (cw z t k p (u.size+szs r)) (nps z t N k p ((h,u) :: r))=some (hk k h,u.size,N u,nps z t N k (aJ p) r):=by
  obtain ⟨⟨h1,h2,h3,h4⟩,h5⟩:=hk';rw [bf] at hm;have ih:=ik hz G r (aJ p) (mP p) h5 (by lia) fun q hq=>hN q (aae _ hq);obtain ⟨a1,a2⟩:=jr (t:=t) hz hp (u:=u) h1 (fun e=>h5.rest e);show fC _ (ahd _ _ _+_)=_;rw [a2];exact ox _ _ _ _ _ _ _ _ a1 (hN (h,u) aai) ih
def nfm (z:Str) (t:Tab):Nat→Wy→Nat
  | 0,_=>0
  | _+1,.num _=>0
  | n+1,.node g l r=>nps z t (nfm z t n) g.k 0 (lv g.k true (.node g l r))
theorem sI (k:Bool) (i:Nat) (z:Str):bU k i z=bU k (min i 2) z:=by
  match i with
  | 0=>rfl
  | 1=>rfl
  | i+2 =>
    rw [show min (i+2) 2=2 by lia];cases k
    · unfold bU;simp
    · rfl
theorem tq {z:Str} {gs:List Sg} {k:Bool}:∀ (ps:List (Bool × Wy)) (i0:Nat),(∀ i q,ps[i]?=some q→bR (bU k (i0+i) z) (hk k q.1)=true∧(k=true→q.1=true)∧q.2.no k∧q.2.within gs)→2≤i0+ps.length→Pk z gs k (min i0 2) ps
  | [],i0,_,hl=>by
    have hl:2≤i0:=hl;show min i0 2=2;lia
  | (h,u) :: r,i0,hq,hl=>by
    have a:=hq 0 (h,u) rfl;rw [Nat.add_zero,sI] at a;refine ⟨a,?_⟩;have:=tq r (i0+1) (fun i q e=>by have:=hq (i+1) q (by simpa using e);rw [show i0+1+i=i0+(i+1) by lia];exact this) (by simp only [aaQ] at hl;lia);rw [show aJ (min i0 2)=min (i0+1) 2 by unfold aJ;split <;> lia];exact this
theorem mB {gs:List Sg} (g3:gs.length≤3) (sp:aX gs) {g:Sg} {l r:Wy} (hw:(Wy.node g l r).within gs):Pk (ae gs) gs g.k 0 (lv g.k true (.node g l r)):=by
  have:=tq (z:=ae gs) (gs:=gs) (k:=g.k) (lv g.k true (.node g l r)) 0 (fun i q e=>?_) (by have:=jt g l r true;lia)
  · exact this
  · have hm:=aaf e;rw [aaY];exact ⟨oK g3 sp hw e,fun z=>fg rfl _ q (z ▸ hm),cQ _ _ _ q hm,bn _ _ _ hw q hm⟩
theorem iP {g:Sg} {l r:Wy} {k:Bool} (h:(Wy.node g l r).no k):g.k=!k:=by
  have h:g.k≠k:=h;cases k <;> cases e:g.k <;> first|rfl|exact absurd e h
theorem qx (t:Tab) (k:Bool):pf t k 1=1:=rfl
theorem kT (t:Tab) (k:Bool) {m:Nat} (h:m≠1):pf t k m=gv t (!k) 0 m:=by unfold pf h_;rw [if_neg h];rfl
theorem bP (g:Sg) (l r:Wy):2≤(Wy.node g l r).size:=by
  have:=l.size_pos;have:=r.size_pos;show 2≤l.size+r.size;lia
theorem lc {gs:List Sg} (g3:gs.length≤3) (sp:aX gs) {t:Tab} {m:Nat} (G:Gd (ae gs) t m):∀ (n:Nat) (w:Wy) (k:Bool),w.size≤n→w.size≤m→w.within gs→w.no k→nfm (ae gs) t n w < pf t k w.size
  | 0,w,_,h,_,_,_=>by have:=w.size_pos;lia
  | n+1,.num _,k,_,_,_,_=>by show 0 < pf t k 1;rw [qx];decide
  | n+1,.node g l r,k,hn,hm,hw,hk=>by
    have s2:=bP g l r;rw [kT t k (by lia),← iP hk];have b:=ik (bN g3 sp) G (N:=nfm (ae gs) t n) (lv g.k true (.node g l r)) 0 (by decide) (mB g3 sp hw) (by rw [a8];exact hm) (fun q hq=>lc g3 sp G n q.2 g.k (by have:=bw hq;lia) (by have:=bw hq;lia) (bn _ _ _ hw q hq) (cQ _ _ _ q hq));rw [a8] at b;exact b
theorem gC {gs:List Sg} (g3:gs.length≤3) (sp:aX gs) {t:Tab} {m:Nat} (G:Gd (ae gs) t m) {n:Nat} {g:Sg} {l r:Wy} (hn:(Wy.node g l r).size≤n) (hm:(Wy.node g l r).size≤m) (hw:(Wy.node g l r).within gs):nfm (ae gs) t n (.node g l r) < gv t g.k 0 (Wy.node g l r).size:=by
  have s2:=bP g l r;have:=lc g3 sp G n (.node g l r) (!g.k) hn hm hw (show g.k≠!g.k by cases g.k <;> decide);rw [kT _ _ (by lia),Bool.not_not] at this;exact this
def nft (z:Str) (t:Tab) (n:Nat):Wy→Nat
  | .num _=>0
  | .node g l r=>(if g.k=true then gv t false 0 (Wy.node g l r).size else 0)+nfm z t n (.node g l r)
theorem qJ {gs:List Sg} (g3:gs.length≤3) (sp:aX gs) {t:Tab} {m:Nat} (G:Gd (ae gs) t m) {n:Nat} {w:Wy} (hn:w.size≤n) (hm:w.size≤m) (hw:w.within gs):nft (ae gs) t n w < hmf t w.size:=by
  cases w with
  | num i=>show 0 < 1;decide
  | node g l r =>
    have s2:=bP g l r;have:=gC g3 sp G hn hm hw;show (if g.k=true then gv t false 0 (Wy.node g l r).size else 0)+nfm (ae gs) t n (.node g l r) < _;unfold hmf;rw [if_neg (show (Wy.node g l r).size≠1 by lia)];cases e:g.k with
    | true=>rw [e] at this;rw [if_pos rfl];lia
    | false=>rw [e] at this;rw [if_neg (by decide)];lia
open PySem L2
def h1B (gs:List Sg) (k:Bool) (p:Nat) (h:Bool):Bool:=!(bR (bU k p (ae gs)) (hk k h)) || ((k || !(p == 0) || h) && (k || !(p == 1) || decide (jsg false true h∈gs)) && (k || decide (Sg.minus∈gs) || h) && (!k || decide (Sg.times∈gs)))
theorem vz:∀ gs:List Sg,gs.length≤3→aX gs→([false,true].all fun k=>(aaD 3).all fun p=>[false,true].all fun h=>h1B gs k p h)=true
  | [],_,h=>absurd h (by unfold aX;decide +kernel)
  | [a],_,h=>by cases a <;> decide +kernel
  | [a,b],_,h=>by cases a <;> cases b <;> first|exact absurd h (by unfold aX;decide +kernel)|decide +kernel
  | [a,b,c],_,h=>by cases a <;> cases b <;> cases c <;> first|exact absurd h (by unfold aX;decide +kernel)|decide +kernel
  | _ :: _ :: _ :: _ :: _,h,_=>by simp at h
theorem lm (gs:List Sg) (g3:gs.length≤3) (sp:aX gs) (k:Bool) (_:k∈[false,true]) (p:Nat) (hp:p∈aaD 3) (h:Bool) (_:h∈[false,true]) (hh:bR (bU k p (ae gs)) (hk k h)=true):(k=false→p=0→h=true)∧(k=false→p=1→jsg false true h∈gs)∧(k=false→Sg.minus∉gs→h=true)∧(k=true→Sg.times∈gs):=by
  have a:=aaH.mp (aaH.mp (aaH.mp (vz gs g3 sp) k (cg k)) p hp) h (cg h);unfold h1B at a;rw [hh] at a;simp only [Bool.not_true,Bool.false_or,abd,Bool.or_eq_true,Bool.not_eq_true',beq_eq_false_iff_ne,decide_eq_true_eq] at a;obtain ⟨⟨⟨a1,a2⟩,a3⟩,a4⟩:=a;refine ⟨fun e e0=>?_,fun e e0=>?_,fun e e0=>?_,fun e=>?_⟩
  · rcases a1 with (y|y)|y
    · rw [e] at y;cases y
    · exact absurd e0 y
    · exact y
  · rcases a2 with (y|y)|y
    · rw [e] at y;cases y
    · exact absurd e0 y
    · exact y
  · rcases a3 with (y|y)|y
    · rw [e] at y;cases y
    · exact absurd y e0
    · exact y
  · rcases a4 with y|y
    · rw [e] at y;cases y
    · exact y
theorem uu {gs:List Sg} {k b h:Bool} (hk:k=true→Sg.times∈gs) (hm:Sg.minus∉gs→h=b) (c:jsg k b h∉gs):k=false∧h=b∧Sg.plus∉gs:=by
  cases k with
  | true=>exact absurd (hk rfl) c
  | false =>
    by_cases e:b=h
    · have : jsg false b h=Sg.plus:=by unfold jsg;rw [if_neg (by decide),if_pos e]
      rw [this] at c;exact ⟨rfl,e.symm,c⟩
    · have : jsg false b h=Sg.minus:=by unfold jsg;rw [if_neg (by decide),if_neg e]
      rw [this] at c;exact absurd (hm c).symm e
theorem km {gs:List Sg} {k:Bool} (ht:k=true→Sg.times∈gs):∀ (n:Nat) (rest:List (Bool × Wy)) (b:Bool) (T:Wy) (q:Bool × Wy),rest.length≤n→T.within gs→(∀ p∈q :: rest,p.2.no k∧p.2.within gs)→jsg k b q.1∈gs→(k=true→∀ p∈q :: rest,p.1=b)→(Sg.minus∉gs→∀ p∈q :: rest,p.1=b) →
    ∃ g l r,g.k=k∧(Wy.node g l r).within gs∧lv k b (.node g l r)=lv k b T++q :: rest
  | n,[],b,T,(h1,u1),_,hT,hq,hj,hk,_=>by
    have a:=hq _ aai;refine ⟨jsg k b h1,T,u1,j9 _ _ _,⟨hj,hT,a.2⟩,?_⟩;rw [show lv k b (.node (jsg k b h1) T u1)=lv k b T++lv k (if jsg k b h1=.minus then !b else b) u1 from if_pos (j9 _ _ _),gE (fun e=>(hk e _ aai).symm),ju a.1]
  | 0,_ :: _,_,_,_,hl,_,_,_,_,_=>by simp at hl
  | n+1,(h2,u2) :: r,b,T,(h1,u1),hl,hT,hq,hj,hk,hm=>by
    have a:=hq _ aai;have hl:r.length≤n:=by simpa using hl
    by_cases c:jsg k b h2∈gs
    · have hW:(Wy.node (jsg k b h1) T u1).within gs:=⟨hj,hT,a.2⟩
      obtain ⟨g,l,rr,e1,e2,e3⟩:=km ht n r b (.node (jsg k b h1) T u1) (h2,u2) hl hW (fun p hp=>hq p (aae _ hp)) c (fun z p hp=>hk z p (aae _ hp)) (fun z p hp=>hm z p (aae _ hp));refine ⟨g,l,rr,e1,e2,e3.trans ?_⟩;rw [show lv k b (.node (jsg k b h1) T u1)=lv k b T++lv k (if jsg k b h1=.minus then !b else b) u1 from if_pos (j9 _ _ _),gE (fun e=>(hk e _ aai).symm),ju a.1,abH];rfl
    · obtain ⟨rfl,rfl,c3⟩:=uu ht (fun z=>hm z (h2,u2) (aae _ aai)) c;have n1:h2≠h1:=fun e=>by
        subst e;exact c3 (by simpa [jsg] using hj)
      have hmi:Sg.minus∈gs:=by
        have : jsg false h2 h1=Sg.minus:=by unfold jsg;rw [if_neg (by decide),if_neg n1]
        rw [this] at hj;exact hj
      have j2:jsg false h1 h2∈gs:=by
        have : jsg false h1 h2=Sg.minus:=by unfold jsg;rw [if_neg (by decide),if_neg (fun e=>n1 e.symm)]
        rw [this];exact hmi
      obtain ⟨g,l,rr,e1,e2,e3⟩:=km ht n r h1 u1 (h2,u2) hl a.2 (fun p hp=>hq p (aae _ hp)) j2 (fun z=>absurd z (by decide)) (fun z=>absurd hmi z);refine ⟨jsg false h2 h1,T,.node g l rr,j9 _ _ _,⟨hj,hT,e2⟩,?_⟩;rw [show lv false h2 (.node (jsg false h2 h1) T (.node g l rr))=lv false h2 T++lv false (if jsg false h2 h1=.minus then !h2 else h2) (.node g l rr) from if_pos (j9 _ _ _),gE (fun e=>absurd e (by decide)),e3,ju a.1];rfl
theorem Pk.mem {z:Str} {gs:List Sg} {k:Bool}:∀ {ps:List (Bool × Wy)} {p:Nat},p≤2→Pk z gs k p ps→∀ q∈ps,(∃ p'≤2,bR (bU k p' z) (hk k q.1)=true)∧(k=true→q.1=true)∧q.2.no k∧q.2.within gs
  | (h,u) :: r,p,hp,⟨a,b⟩,q,hq=>by
    rcases aaE.mp hq with rfl|hq
    · exact ⟨⟨p,hp,a.1⟩,a.2⟩
    · exact Pk.mem (mP p) b q hq
theorem Pk.way {gs:List Sg} (g3:gs.length≤3) (sp:aX gs) {k:Bool} {ps:List (Bool × Wy)} (h:Pk (ae gs) gs k 0 ps):∃ g l r,g.k=k∧(Wy.node g l r).within gs∧lv k true (.node g l r)=ps:=by
  have hm:=fun q hq=>h.mem (by decide) q hq;cases ps with
  | nil=>exact absurd (show 0=2 from h) (by decide)
  | cons q0 ps =>
    obtain ⟨h0,u0⟩:=q0;obtain ⟨⟨a1,a2,a3,a4⟩,b⟩:=h;cases ps with
    | nil=>exact absurd (show 1=2 from b) (by decide)
    | cons q1 r =>
      obtain ⟨h1,u1⟩:=q1;obtain ⟨⟨b1,b2,b3,b4⟩,c⟩:=b;have f0:=lm gs g3 sp k (cg k) 0 (by decide) h0 (cg h0) a1;have f1:=lm gs g3 sp k (cg k) 1 (by decide) h1 (cg h1) b1;have e0:h0=true:=by
        cases k with
        | true=>exact a2 rfl
        | false=>exact f0.1 rfl rfl
      subst e0;have j:jsg k true h1∈gs:=by
        cases k with
        | true=>exact f1.2.2.2 rfl
        | false=>exact f1.2.1 rfl rfl
      obtain ⟨g,l,rr,e1,e2,e3⟩:=km (gs:=gs) (k:=k) f0.2.2.2 r.length r true u0 (h1,u1) (aab _) a4 (fun p hp=>(hm p (aae _ hp)).2.2) j (fun z p hp=>(hm p (aae _ hp)).2.1 z) (fun z p hp=>by
        obtain ⟨⟨p',hp',x⟩,y,_⟩:=hm p (aae _ hp);cases k with
        | true=>exact y rfl
        | false=>exact (lm gs g3 sp false (cg _) p' (aaJ.mpr (by lia)) p.1 (cg _) x).2.2.1 rfl z)
      refine ⟨g,l,rr,e1,e2,e3.trans ?_⟩;rw [ju a3];rfl
def flN (ps:List (Bool × Wy)):List Int:=(ps.map fun p=>p.2.nums).flatten
theorem oS (ps:List (Bool × Wy)):(flN ps).length=szs ps:=by
  induction ps with
  | nil=>rfl
  | cons q r ih =>
    show (q.2.nums++flN r).length=_;rw [aal,ih,Wy.nums_len];simp [szs]
theorem sg {gs:List Sg} (g3:gs.length≤3) (sp:aX gs) {t:Tab} {m:Nat} (G:Gd (ae gs) t m) {n:Nat} (S:∀ (k:Bool) (row:List Int) (x:Nat),2≤row.length→row.length≤n→row.length≤m→x < gv t k 0 row.length→∃ g l r,g.k=k∧(Wy.node g l r).within gs∧(Wy.node g l r).nums=row∧nfm (ae gs) t n (.node g l r)=x) {k:Bool} :
    ∀ (c:Nat) (row:List Int) (p x:Nat),row.length≤c→p≤2→row.length≤(if p=0 then n+1 else n)→row.length≤m→(1≤row.length∨p=2)→x < gv t k p row.length→∃ ps,Pk (ae gs) gs k p ps∧flN ps=row∧nps (ae gs) t (nfm (ae gs) t n) k p ps=x:=by
  have hz:=bN g3 sp;intro c
  induction c with
  | zero =>
    intro row p x hc hp hn hm h1 hx;have e:row=[]:=abA.mp (by lia);subst e;have hp2:p=2:=by rcases h1 with h|h;(simp at h);exact h
    subst hp2;have : gv t k 2 0=1:=by unfold gv;rw [G.z0];rfl
    have hx:x < gv t k 2 0:=hx;refine ⟨[],rfl,rfl,?_⟩;show 0=x;lia
  | succ c ih =>
    intro row p x hc hp hn hm h1 hx;by_cases e0:row=[]
    · subst e0;have hp2:p=2:=by rcases h1 with h|h;(simp at h);exact h
      subst hp2;have : gv t k 2 0=1:=by unfold gv;rw [G.z0];rfl
      have hx:x < gv t k 2 0:=hx;refine ⟨[],rfl,rfl,?_⟩;show 0=x;lia
    have l1:1≤row.length:=List.length_pos_iff.mpr e0;have eg:gv t k p row.length=bj (cw (ae gs) t k p row.length):=by unfold gv;rw [G.sm k p _ hp l1 hm];rfl
    rw [eg] at hx;obtain ⟨i,cc,mm,f,R,q,s,a1,a2,a3,a4⟩:=j5 _ _ hx;obtain ⟨ch,j,b1,b2,b3,b4⟩:=nQ a1;have b1:(hcs (ae gs) k p)[i / aL p row.length]?=some ch:=b1;have hch:ch∈hcs (ae gs) k p:=aaf b1;have hix:=uB _ hz k (cg k) p (aaJ.mpr (by lia));have ei:(hcs (ae gs) k p).idxOf ch=i / aL p row.length:=by
      have e:=congrArg (fun l=>l[i / aL p row.length]?) hix;simp only [aao,b1,abP] at e;have hlt:=(aaq.mp b1).1;rw [abh hlt] at e;exact aaT e
    have hany:=uA _ hz k (cg k) p (aaJ.mpr (by lia)) ch hch;obtain ⟨h,-,hh⟩:=List.any_eq_true.mp hany;simp only [abd,decide_eq_true_eq,Bool.or_eq_true,Bool.not_eq_true'] at hh;obtain ⟨⟨hh1,hh2⟩,hh3⟩:=hh;have ek:k=true→h=true:=fun z=>by rcases hh3 with y|y;(rw [z] at y;cases y);exact y
    injection b4 with c1 b4
    injection b4 with c2 b4
    injection b4 with c3 c4
    have jb:j+1≤row.length∧(p=0→j+1 < row.length):=by
      unfold aL at b3;split at b3
      · exact ⟨by lia,fun _=>by lia⟩
      · exact ⟨by lia,fun z=>absurd z (by assumption)⟩
    have c3:f=pf t k (j+1):=c3;have c4:R=gv t k (aJ p) (row.length - (j+1)):=c4;have hu:∃ u:Wy,u.nums=row.take (j+1)∧u.no k∧u.within gs∧nfm (ae gs) t n u=q:=by
      by_cases j0:j=0
      · subst j0;rw [c3,qx] at a2;cases row with
        | nil=>exact absurd rfl e0
        | cons y row =>
          refine ⟨.num y,rfl,trivial,trivial,?_⟩;have : nfm (ae gs) t n (.num y)=0:=by cases n <;> rfl
          rw [this];lia
      · rw [c3,kT t k (by lia)] at a2;have lt:(row.take (j+1)).length=j+1:=by rw [aap];lia
        have jn:j+1≤n:=by
          by_cases p0:p=0
          · have:=jb.2 p0;rw [if_pos p0] at hn;lia
          · rw [if_neg p0] at hn;lia
        obtain ⟨g,l,r,d1,d2,d3,d4⟩:=S (!k) (row.take (j+1)) q (by lia) (by lia) (by lia) (by rw [lt];exact a2);exact ⟨_,d3,(show g.k≠k by rw [d1];cases k <;> decide),d2,d4⟩
    obtain ⟨u,u1,u2,u3,u4⟩:=hu;have us:u.size=j+1:=by rw [← Wy.nums_len,u1,aap];lia
    have ld:(row.drop (j+1)).length=row.length - (j+1):=aaR;obtain ⟨ps,p1,p2,p3⟩:=ih (row.drop (j+1)) (aJ p) s (by lia) (mP p) (by
      rw [if_neg (by have:=wb p;lia),ld];by_cases p0:p=0
      · rw [if_pos p0] at hn;lia
      · rw [if_neg p0] at hn;lia) (by lia) (by
      by_cases p0:p=0
      · have:=jb.2 p0;left;lia
      · right;unfold aJ;rw [if_neg p0]) (by rw [ld,← c4];exact a3)
    have sz:szs ps=row.length - (j+1):=by rw [← oS,p2,ld]
    refine ⟨(h,u) :: ps,⟨⟨hh2,ek,u2,u3⟩,p1⟩,?_,?_⟩
    · show u.nums++flN ps=row;rw [u1,p2,aaO]
    · show ahd (hk k h) u.size (cw (ae gs) t k p (u.size+szs ps))+(nfm (ae gs) t n u * gv t k (aJ p) (szs ps)+nps _ _ _ _ _ ps)=x;have at2:=(jr (t:=t) hz hp (u:=u) (s:=szs ps) hh2 (fun e=>p1.rest e)).2;rw [at2,← hh1,ei,us,sz,show j+1+(row.length - (j+1))=row.length by lia,show j+1 - 1=j by lia,u4,p3,← c4,a4,b2];have : i / aL p row.length * aL p row.length+i % aL p row.length=i:=by rw [abV];exact Nat.div_add_mod _ _
      rw [this]
theorem kW {gs:List Sg} (g3:gs.length≤3) (sp:aX gs) {t:Tab} {m:Nat} (G:Gd (ae gs) t m):∀ (n:Nat) (k:Bool) (row:List Int) (x:Nat),2≤row.length→row.length≤n→row.length≤m→x < gv t k 0 row.length→∃ g l r,g.k=k∧(Wy.node g l r).within gs∧(Wy.node g l r).nums=row∧nfm (ae gs) t n (.node g l r)=x
  | 0,_,row,_,h1,h2,_,_=>by lia
  | n+1,k,row,x,h1,h2,hm,hx=>by
    obtain ⟨ps,p1,p2,p3⟩:=sg g3 sp G (kW g3 sp G n) (k:=k) row.length row 0 x (aab _) (by decide) (by rw [if_pos rfl];exact h2) hm (.inl (by lia)) hx;obtain ⟨g,l,r,e1,e2,e3⟩:=p1.way g3 sp;subst e1;refine ⟨g,l,r,rfl,e2,?_,?_⟩
    · rw [← cO g.k true,e3];exact p2
    · show nps _ _ _ g.k 0 (lv g.k true (.node g l r))=x;rw [e3];exact p3
theorem gy {gs:List Sg} (g3:gs.length≤3) (sp:aX gs) {t:Tab} {m:Nat} (G:Gd (ae gs) t m) {n:Nat} {row:List Int} {x:Nat} (h1:1≤row.length) (hn:row.length≤n) (hm:row.length≤m) (hx:x < hmf t row.length):∃ w:Wy,w.within gs∧w.nums=row∧nft (ae gs) t n w=x:=by
  unfold hmf at hx;by_cases e:row.length=1
  · rw [if_pos e] at hx;obtain ⟨y,rfl⟩:=List.length_eq_one_iff.mp e;exact ⟨.num y,trivial,rfl,by show 0=x;lia⟩
  · rw [if_neg e] at hx;by_cases c:x < gv t false 0 row.length
    · obtain ⟨g,l,r,e1,e2,e3,e4⟩:=kW g3 sp G n false row x (by lia) hn hm c;refine ⟨_,e2,e3,?_⟩;show (if g.k=true then _ else 0)+nfm _ _ _ _=x;rw [e1,if_neg (by decide),e4,aaY]
    · obtain ⟨g,l,r,e1,e2,e3,e4⟩:=kW g3 sp G n true row (x - gv t false 0 row.length) (by lia) hn hm (by lia);refine ⟨_,e2,e3,?_⟩;show (if g.k=true then gv t false 0 (Wy.node g l r).size else 0)+nfm _ _ _ _=x;rw [e1,if_pos rfl,e4,← Wy.nums_len,e3];lia
open PySem L2
inductive Kt where
  | int (i:Int)
  | nil
  | cons (x r:Kt)
  deriving DecidableEq
def Kt.toL:Kt→List Kt
  | .cons x r=>x :: r.toL
  | _=>[]
def Kt.isL:Kt→Prop
  | .int _=>False
  | .nil=>True
  | .cons _ r=>r.isL
def Kt.dep:Kt→Nat
  | .int _=>0
  | .nil=>1
  | .cons x r=>max (x.dep+1) r.dep
def Sim:Kt→Kt→Prop
  | .int _,.int _=>True
  | .int _,_=>False
  | .nil,.int _=>False
  | .nil,_=>True
  | .cons _ _,.int _=>False
  | .cons _ _,.nil=>True
  | .cons x r,.cons y s=>Sim x y∧Sim r s
def ltT:Kt→Kt→Bool
  | .int i,.int j=>decide (i < j)
  | .nil,.cons _ _=>true
  | .cons x r,.cons y s=>if x=y then ltT r s else ltT x y
  | _,_=>false
def KtG (H:Hp):Kt→(V→Prop) × (List V→Prop)
  | .int i=>(fun v=>v=.int i,fun _=>False)
  | .nil=>(fun v=>∃ a ys,v=.ref a∧H a=some (.lst ys)∧ys=[],fun ys=>ys=[])
  | .cons x r=>(fun v=>∃ a ys,v=.ref a∧H a=some (.lst ys)∧∃ y zs,ys=y :: zs∧(KtG H x).1 y∧(KtG H r).2 zs,fun ys=>∃ y zs,ys=y :: zs∧(KtG H x).1 y∧(KtG H r).2 zs)
abbrev KtV (H:Hp) (k:Kt) (v:V):Prop:=(KtG H k).1 v
abbrev KtL (H:Hp) (k:Kt) (ys:List V):Prop:=(KtG H k).2 ys
theorem KtV.of {H:Hp} {k:Kt} {a:Addr} {ys:List V} (h:H a=some (.lst ys)) (l:KtL H k ys):KtV H k (.ref a):=by
  cases k with
  | int i=>exact absurd l id
  | nil=>exact ⟨a,ys,rfl,h,l⟩
  | cons x r=>exact ⟨a,ys,rfl,h,l⟩
theorem KtV.lst {H:Hp} {k:Kt} {v:V} (hk:k.isL) (h:KtV H k v):∃ a ys,v=.ref a∧H a=some (.lst ys)∧KtL H k ys:=by
  cases k with
  | int i=>exact absurd hk id
  | nil=>exact h
  | cons x r=>exact h
theorem KtG.mono {H H':Hp} (s:Same H H'):∀ k:Kt,(∀ v,KtV H k v→KtV H' k v)∧(∀ ys,KtL H k ys→KtL H' k ys)
  | .int i=>⟨fun v h=>h,fun ys h=>h⟩
  | .nil=>⟨fun v ⟨a,ys,e,h,z⟩=>⟨a,ys,e,s _ _ h,z⟩,fun ys h=>h⟩
  | .cons x r=>by
    have ix:=KtG.mono s x;have ir:=KtG.mono s r;exact ⟨fun v ⟨a,ys,e,h,y,zs,e2,h1,h2⟩=>⟨a,ys,e,s _ _ h,y,zs,e2,ix.1 _ h1,ir.2 _ h2⟩,fun ys ⟨y,zs,e2,h1,h2⟩=>⟨y,zs,e2,ix.1 _ h1,ir.2 _ h2⟩⟩
theorem KtL.len {H:Hp}:∀ {k:Kt} {ys:List V},KtL H k ys→ys.length=k.toL.length∧k.isL∧∀ (j:Nat) (y:V),ys[j]?=some y→∃ e,k.toL[j]?=some e∧KtV H e y
  | .int _,_,h=>absurd h id
  | .nil,ys,h=>by
    cases (show ys=[] from h);exact ⟨rfl,trivial,fun j y e=>by simp at e⟩
  | .cons x r,ys,h=>by
    obtain ⟨y,zs,rfl,h1,h2⟩:=h;obtain ⟨a,b,c⟩:=KtL.len (k:=r) h2;refine ⟨by simp only [aaQ,Kt.toL,a],b,fun j u e=>?_⟩;cases j with
    | zero =>
      have e:y=u:=by simpa using e
      subst e;exact ⟨x,rfl,h1⟩
    | succ j=>obtain ⟨d,d1,d2⟩:=c j u (by simpa using e);exact ⟨d,by simpa [Kt.toL] using d1,d2⟩
theorem Sim.at:∀ {k k':Kt} {j:Nat} {a b:Kt},Sim k k'→k.toL[j]?=some a→k'.toL[j]?=some b→Sim a b
  | .int _,_,_,_,_,_,h,_=>by simp [Kt.toL] at h
  | .nil,_,_,_,_,_,h,_=>by simp [Kt.toL] at h
  | .cons _ _,.int _,_,_,_,_,_,h=>by simp [Kt.toL] at h
  | .cons _ _,.nil,_,_,_,_,_,h=>by simp [Kt.toL] at h
  | .cons x r,.cons y s,0,a,b,h,h1,h2=>by
    have e1:x=a:=by simpa [Kt.toL] using h1
    have e2:y=b:=by simpa [Kt.toL] using h2
    subst e1 e2;exact h.1
  | .cons x r,.cons y s,j+1,a,b,h,h1,h2=>Sim.at (k:=r) (k':=s) (j:=j) h.2 (by simpa [Kt.toL] using h1) (by simpa [Kt.toL] using h2)
theorem lr:∀ {k:Kt} {j:Nat} {a:Kt},k.toL[j]?=some a→a.dep+1≤k.dep
  | .int _,_,_,h=>by simp [Kt.toL] at h
  | .nil,_,_,h=>by simp [Kt.toL] at h
  | .cons x r,0,a,h=>by
    have e1:x=a:=by simpa [Kt.toL] using h
    subst e1;show _≤max _ _;lia
  | .cons x r,j+1,a,h=>by
    have:=lr (k:=r) (j:=j) (a:=a) (by simpa [Kt.toL] using h);show _≤max _ _;lia
theorem nX:∀ {k k':Kt},k.isL→k'.isL→k.toL=k'.toL→k=k'
  | .int _,_,h,_,_=>absurd h id
  | .nil,.int _,_,h,_=>absurd h id
  | .nil,.nil,_,_,_=>rfl
  | .nil,.cons _ _,_,_,h=>by simp [Kt.toL] at h
  | .cons _ _,.int _,_,h,_=>absurd h id
  | .cons _ _,.nil,_,_,h=>by simp [Kt.toL] at h
  | .cons x r,.cons y s,h1,h2,h=>by
    have h:x :: r.toL=y :: s.toL:=h;injection h with a b
    rw [a,nX (k:=r) (k':=s) h1 h2 b]
theorem oJ:∀ {k:Kt},k.isL→1≤k.dep
  | .int _,h=>absurd h id
  | .nil,_=>aab _
  | .cons x r,_=>by show 1≤max _ _;lia
theorem gg {k k':Kt} (h:Sim k k'):(∃ i j,k=.int i∧k'=.int j)∨((∀ i,k≠.int i)∧∀ i,k'≠.int i):=by
  cases k <;> cases k' <;> first|exact .inl ⟨_,_,rfl,rfl⟩|exact absurd h id|exact .inr ⟨(fun _ e=>by cases e),(fun _ e=>by cases e)⟩
def Kt.ok:Kt→Prop
  | .int _=>True
  | .nil=>True
  | .cons x r=>x.ok∧r.isL∧r.ok
theorem Kt.ok.at:∀ {k:Kt} {j:Nat} {a:Kt},k.ok→k.toL[j]?=some a→a.ok
  | .int _,_,_,_,h=>by simp [Kt.toL] at h
  | .nil,_,_,_,h=>by simp [Kt.toL] at h
  | .cons x r,0,a,o,h=>by
    have e1:x=a:=by simpa [Kt.toL] using h
    subst e1;exact o.1
  | .cons x r,j+1,a,o,h=>Kt.ok.at (k:=r) (j:=j) o.2.2 (by simpa [Kt.toL] using h)
theorem Kt.ok.lst {k:Kt} (o:k.ok) (h:∀ i,k≠.int i):k.isL:=by
  cases k with
  | int i=>exact absurd rfl (h i)
  | nil=>trivial
  | cons x r=>exact o.2.1
def eAt (k k':Kt) (j:Nat):Bool:=decide (k.toL[j]?=k'.toL[j]?)
theorem vi (K:aaa) (H:Hp):∀ (n:Nat) (k k':Kt) (v v':V),k.dep≤n→k.ok→k'.ok→Sim k k'→KtV H k v→KtV H k' v'→EqR K H n v v' (decide (k=k')):=by
  intro n
  induction n with
  | zero =>
    intro k k' v v' hd o o' s h h';rcases gg s with ⟨i,j,rfl,rfl⟩|⟨c,c'⟩
    · cases (show v=.int i from h);cases (show v'=.int j from h');have e:=EqR.flat (K:=K) (H:=H) (n:=0) (x:=.int i) (y:=.int j) rfl rfl;rw [show eqV (.int i) (.int j)=decide (Kt.int i=Kt.int j) by rw [aaV,decide_eq_true_eq];simp [eqV]] at e;exact e
    · have:=oJ (o.lst c);lia
  | succ n ih =>
    intro k k' v v' hd o o' s h h';rcases gg s with ⟨i,j,rfl,rfl⟩|⟨c,c'⟩
    · cases (show v=.int i from h);cases (show v'=.int j from h');have e:=EqR.flat (K:=K) (H:=H) (n:=n+1) (x:=.int i) (y:=.int j) rfl rfl;rw [show eqV (.int i) (.int j)=decide (Kt.int i=Kt.int j) by rw [aaV,decide_eq_true_eq];simp [eqV]] at e;exact e
    · obtain ⟨a,ys,rfl,ha,hl⟩:=KtV.lst (o.lst c) h;obtain ⟨b,zs,rfl,hb,hl'⟩:=KtV.lst (o'.lst c') h';obtain ⟨l1,l2,l3⟩:=hl.len;obtain ⟨m1,m2,m3⟩:=hl'.len;by_cases e:ys.length=zs.length
      · have:=EqR.lst (K:=K) (H:=H) (n:=n) (e:=eAt k k') (SqL.of ha) (SqL.of hb) e (fun j x y h1 h2=>by
          obtain ⟨p,p1,p2⟩:=l3 j x h1;obtain ⟨q,q1,q2⟩:=m3 j y h2;have d:=lr p1;have:=ih p q x y (by lia) (o.at p1) (o'.at q1) (s.at p1 q1) p2 q2;unfold eAt;rw [p1,q1];simpa using this)
        rw [show (aaD ys.length).all (eAt k k')=decide (k=k') by
          rw [aaV,aaH,decide_eq_true_eq];constructor
          · intro z;refine nX l2 m2 (List.ext_getElem? fun j=>?_);by_cases hj:j < ys.length
            · exact of_decide_eq_true (z j (aaJ.mpr hj))
            · rw [abU (by lia),abU (by lia)]
          · rintro rfl j _;exact decide_eq_true rfl] at this
        exact this
      · rw [decide_eq_false (fun z=>e (by rw [l1,m1,z]))];exact .lens (SqL.of ha) (SqL.of hb) e
theorem oG (e l:Nat→Bool):∀ (k k':Kt) (i:Nat),k.isL→k'.isL→(∀ j a b,k.toL[j]?=some a→k'.toL[j]?=some b→e (i+j)=decide (a=b)∧(a≠b→l (i+j)=ltT a b)) →
    iF e l (i+k.toL.length) (i+k'.toL.length) i (min k.toL.length k'.toL.length)=ltT k k'
  | .int _,_,_,h,_,_=>absurd h id
  | .nil,.int _,_,_,h,_=>absurd h id
  | .cons _ _,.int _,_,_,h,_=>absurd h id
  | .nil,.nil,i,_,_,_=>by show decide (i+0 < i+0)=false;simp
  | .nil,.cons y s,i,_,_,_=>by
    show iF e l (i+0) (i+(s.toL.length+1)) i (min 0 (s.toL.length+1))=true;rw [Nat.zero_min];show decide (i+0 < i+(s.toL.length+1))=true;simp
  | .cons x r,.nil,i,_,_,_=>by
    show iF e l (i+(r.toL.length+1)) (i+0) i (min (r.toL.length+1) 0)=false;rw [Nat.min_zero];show decide (i+(r.toL.length+1) < i+0)=false;simp
  | .cons x r,.cons y s,i,h1,h2,h=>by
    have a:=h 0 x y rfl rfl;rw [Nat.add_zero] at a;have ih:=oG e l r s (i+1) h1 h2 (fun j p q e1 e2=>by
      have:=h (j+1) p q (by simpa [Kt.toL] using e1) (by simpa [Kt.toL] using e2);rw [show i+1+j=i+(j+1) by lia];exact this)
    show iF e l (i+(r.toL.length+1)) (i+(s.toL.length+1)) i (min (r.toL.length+1) (s.toL.length+1))=if x=y then ltT r s else ltT x y
    rw [show min (r.toL.length+1) (s.toL.length+1)=min r.toL.length s.toL.length+1 by lia];show (if e i=true then iF e l (i+(r.toL.length+1)) (i+(s.toL.length+1)) (i+1) (min r.toL.length s.toL.length) else l i)=_;rw [a.1,show i+(r.toL.length+1)=i+1+r.toL.length by lia,show i+(s.toL.length+1)=i+1+s.toL.length by lia,ih];by_cases c:x=y
    · rw [decide_eq_true c,if_pos rfl,if_pos c]
    · rw [decide_eq_false c,if_neg (by decide),if_neg c,a.2 c]
def lAt (k k':Kt) (j:Nat):Bool:=match k.toL[j]?,k'.toL[j]? with
  | some a,some b=>ltT a b
  | _,_=>false
theorem vh (K:aaa) (H:Hp):∀ (n:Nat) (k k':Kt) (v v':V),k.dep≤n→k.ok→k'.ok→Sim k k'→KtV H k v→KtV H k' v'→LtQ K H n v v' (ltT k k'):=by
  intro n
  induction n with
  | zero =>
    intro k k' v v' hd o o' s h h';rcases gg s with ⟨i,j,rfl,rfl⟩|⟨c,c'⟩
    · cases (show v=.int i from h);cases (show v'=.int j from h');exact .int
    · have:=oJ (o.lst c);lia
  | succ n ih =>
    intro k k' v v' hd o o' s h h';rcases gg s with ⟨i,j,rfl,rfl⟩|⟨c,c'⟩
    · cases (show v=.int i from h);cases (show v'=.int j from h');exact .int
    · obtain ⟨a,ys,rfl,ha,hl⟩:=KtV.lst (o.lst c) h;obtain ⟨b,zs,rfl,hb,hl'⟩:=KtV.lst (o'.lst c') h';obtain ⟨l1,l2,l3⟩:=hl.len;obtain ⟨m1,m2,m3⟩:=hl'.len;have:=LtQ.lst (K:=K) (H:=H) (n:=n) (e:=eAt k k') (l:=lAt k k') (SqL.of ha) (SqL.of hb) (fun j x y h1 h2=>by
          obtain ⟨p,p1,p2⟩:=l3 j x h1;obtain ⟨q,q1,q2⟩:=m3 j y h2;have d:=lr p1;have:=vi K H n p q x y (by lia) (o.at p1) (o'.at q1) (s.at p1 q1) p2 q2;unfold eAt;rw [p1,q1];simpa using this) (fun j x y h1 h2 _=>by
          obtain ⟨p,p1,p2⟩:=l3 j x h1;obtain ⟨q,q1,q2⟩:=m3 j y h2;have d:=lr p1;have:=ih p q x y (by lia) (o.at p1) (o'.at q1) (s.at p1 q1) p2 q2;unfold lAt;rw [p1,q1];exact this)
      rw [l1,m1] at this;have z:=oG (eAt k k') (lAt k k') k k' 0 l2 m2 (fun j a b e1 e2=>by
        rw [aaY];unfold eAt lAt;rw [e1,e2];exact ⟨by simp,fun _=>rfl⟩)
      rw [aaY,aaY] at z;rw [z] at this;exact this
def fks (N:Wy→Kt):List (Bool × Wy)→Kt
  | []=>.nil
  | (h,u) :: r=>.cons (.int (if h=true then 0 else 1)) (.cons (.int (u.size:Nat)) (.cons (N u) (fks N r)))
def fk:Nat→Wy→Kt
  | 0,_=>.nil
  | _+1,.num _=>.nil
  | n+1,.node g l r=>.cons (.int (if g.k=true then 1 else 0)) (fks (fk n) (lv g.k true (.node g l r)))
theorem fh {N:Wy→Kt}:∀ ps,(fks N ps).isL
  | []=>trivial
  | (h,u) :: r=>fh r
theorem rd {N:Wy→Kt}:∀ ps:List (Bool × Wy),(∀ q∈ps,(N q.2).ok)→(fks N ps).ok
  | [],_=>trivial
  | (h,u) :: r,hN=>⟨trivial,fh r,trivial,fh r,hN _ aai,fh r,rd r fun q hq=>hN q (aae _ hq)⟩
theorem ip:∀ (n:Nat) (w:Wy),(fk n w).isL
  | 0,_=>trivial
  | _+1,.num _=>trivial
  | n+1,.node g l r=>fh _
theorem rf:∀ (n:Nat) (w:Wy),(fk n w).ok
  | 0,_=>trivial
  | _+1,.num _=>trivial
  | n+1,.node g l r=>⟨trivial,fh _,rd _ fun q _=>rf n q.2⟩
theorem oT {N N':Wy→Kt} (h:∀ u u',Sim (N u) (N' u')):∀ ps qs,Sim (fks N ps) (fks N' qs)
  | [],[]=>trivial
  | [],_ :: _=>trivial
  | _ :: _,[]=>trivial
  | (_,u) :: r,(_,u') :: r'=>⟨trivial,trivial,h u u',oT h r r'⟩
theorem iM {k:Kt} (h:k.isL):Sim .nil k∧Sim k .nil:=by
  cases k with
  | int i=>exact absurd h id
  | nil=>exact ⟨trivial,trivial⟩
  | cons x r=>exact ⟨trivial,trivial⟩
theorem re:∀ (n n':Nat) (w w':Wy),Sim (fk n w) (fk n' w')
  | 0,n',w,w'=>(iM (ip n' w')).1
  | n+1,0,w,w'=>(iM (ip (n+1) w)).2
  | n+1,n'+1,.num _,w'=>(iM (ip (n'+1) w')).1
  | n+1,n'+1,.node g l r,.num _=>(iM (ip (n+1) (.node g l r))).2
  | n+1,n'+1,.node g l r,.node g' l' r'=>⟨trivial,oT (fun u u'=>re n n' u u') _ _⟩
theorem oV {N:Wy→Kt} {d:Nat}:∀ ps:List (Bool × Wy),(∀ q∈ps,(N q.2).dep≤d)→(fks N ps).dep≤d+1
  | [],_=>by show 1≤d+1;lia
  | (h,u) :: r,hN=>by
    have a:=hN _ aai;have b:=oV r fun q hq=>hN q (aae _ hq);show max (0+1) (max (0+1) (max ((N u).dep+1) (fks N r).dep))≤d+1;have a:(N u).dep≤d:=a;lia
theorem rg:∀ (n:Nat) (w:Wy),(fk n w).dep≤n+1
  | 0,_=>aab _
  | _+1,.num _=>by show 1≤_;lia
  | n+1,.node g l r=>by
    have:=oV (N:=fk n) (lv g.k true (.node g l r)) fun q _=>rg n q.2;show max (0+1) _≤_;lia
open PySem L2
theorem v6 {u u' c c' C:Nat} (h1:c < C) (h1':c' < C):(u * C+c < u' * C+c'↔u < u'∨(u=u'∧c < c'))∧(u * C+c=u' * C+c'↔u=u'∧c=c'):=by
  rcases Nat.lt_trichotomy u u' with h|h|h
  · have:=abJ C (show u+1≤u' by lia);rw [ab4,Nat.one_mul] at this;lia
  · subst h;lia
  · have:=abJ C (show u'+1≤u by lia);rw [ab4,Nat.one_mul] at this;lia
def ixP (z:Str) (k:Bool) (p:Nat) (h:Bool) (m l:Nat):Nat:=(hcs z k p).idxOf (hc k h) * aL p l+(m - 1)
theorem qI {z:Str} {t:Tab} {gs:List Sg} {m:Nat} (hz:z∈bZ) (G:Gd z t m) {N:Wy→Nat} {k:Bool} {h:Bool} {u:Wy} {r:List (Bool × Wy)} {p:Nat} (hp:p≤2) (hk':Pk z gs k p ((h,u) :: r)) (hm:szs ((h,u) :: r)≤m) (hN:∀ q∈(h,u) :: r,N q.2 < pf t k q.2.size) :
    ∃ row:Row,(cw z t k p (szs ((h,u) :: r)))[ixP z k p h u.size (szs ((h,u) :: r))]?=some row∧bj ((cw z t k p (szs ((h,u) :: r))).take (ixP z k p h u.size (szs ((h,u) :: r))))≤nps z t N k p ((h,u) :: r)∧nps z t N k p ((h,u) :: r) < bj ((cw z t k p (szs ((h,u) :: r))).take (ixP z k p h u.size (szs ((h,u) :: r))))+row.2.2.1 * row.2.2.2:=by
  obtain ⟨⟨h1,h2,h3,h4⟩,h5⟩:=hk';rw [bf] at hm ⊢;have ih:=ik hz G r (aJ p) (mP p) h5 (by lia) fun q hq=>hN q (aae _ hq);obtain ⟨a1,a2⟩:=jr (t:=t) hz hp (u:=u) h1 (fun e=>h5.rest e);have c:N u * gv t k (aJ p) (szs r)+nps z t N k (aJ p) r < pf t k u.size * gv t k (aJ p) (szs r):=qk (hN (h,u) aai) ih;refine ⟨_,a1,?_,?_⟩
  · show _≤ahd _ _ _+_;rw [a2];unfold ixP;lia
  · show ahd _ _ _+_ < _+pf t k u.size * gv t k (aJ p) (szs r);rw [a2];unfold ixP;lia
theorem gB {z:Str} {t:Tab} {gs:List Sg} {m:Nat} (hz:z∈bZ) (G:Gd z t m) {N:Wy→Nat} {k:Bool} {h h':Bool} {u u':Wy} {r r':List (Bool × Wy)} {p:Nat} (hp:p≤2) (hk':Pk z gs k p ((h,u) :: r)) (hk2:Pk z gs k p ((h',u') :: r')) (hm:szs ((h,u) :: r)≤m) (hs:szs ((h,u) :: r)=szs ((h',u') :: r'))
    (hN:∀ q∈(h,u) :: r,N q.2 < pf t k q.2.size) (hN':∀ q∈(h',u') :: r',N q.2 < pf t k q.2.size) (c:ixP z k p h u.size (szs ((h,u) :: r)) < ixP z k p h' u'.size (szs ((h,u) :: r))):nps z t N k p ((h,u) :: r) < nps z t N k p ((h',u') :: r'):=by
  obtain ⟨row,a1,a2,a3⟩:=qI hz G hp hk' hm hN;obtain ⟨row',b1,b2,b3⟩:=qI hz G hp hk2 (by lia) hN';rw [← hs] at b1 b2 b3;have:=rL a1 c;lia
theorem mD {z:Str} {k:Bool} {p:Nat} {h:Bool} {m m' l:Nat} (h1:1≤m) (c:m < m'):ixP z k p h m l < ixP z k p h m' l:=by unfold ixP;lia
theorem mE {z:Str} (hz:z∈bZ) {p:Nat} (hp:p≤2) {m m' l:Nat} (a:bR (bU false p z) (hk false true)=true) (b:bR (bU false p z) (hk false false)=true) (h1:m - 1 < aL p l):ixP z false p true m l < ixP z false p false m' l:=by
  have hr:=aaJ.mpr (show p < 3 by lia);have o:=sK z hz p hr true (cg _) false (cg _) (nH z hz false (cg _) p hr true (cg _) a) (nH z hz false (cg _) p hr false (cg _) b);have o:decide ((hcs z false p).idxOf (hc false true) < (hcs z false p).idxOf (hc false false))=true:=o;have o:=of_decide_eq_true o;unfold ixP;have:=abJ (aL p l) (show (hcs z false p).idxOf (hc false true)+1≤(hcs z false p).idxOf (hc false false) from o);rw [ab4,Nat.one_mul] at this;lia
theorem dI (x r y s:Kt):ltT (.cons x r) (.cons y s)=if x=y then ltT r s else ltT x y:=rfl
theorem qN {gs:List Sg} (g3:gs.length≤3) (sp:aX gs) {t:Tab} {m:Nat} (G:Gd (ae gs) t m) {N:Wy→Nat} {NK:Wy→Kt} {k:Bool} {C:Wy→Prop} (hN:∀ u,C u→N u < pf t k u.size) (hK:∀ u u',C u→C u'→u.size=u'.size→(NK u=NK u'↔N u=N u')∧ltT (NK u) (NK u')=decide (N u < N u')) :
    ∀ (ps qs:List (Bool × Wy)) (p:Nat),p≤2→Pk (ae gs) gs k p ps→Pk (ae gs) gs k p qs→szs ps=szs qs→szs ps≤m→(∀ q∈ps,C q.2)→(∀ q∈qs,C q.2) →
      (fks NK ps=fks NK qs↔nps (ae gs) t N k p ps=nps (ae gs) t N k p qs)∧ltT (fks NK ps) (fks NK qs)=decide (nps (ae gs) t N k p ps < nps (ae gs) t N k p qs)
  | [],[],p,_,_,_,_,_,_,_=>⟨⟨fun _=>rfl,fun _=>rfl⟩,(decide_eq_false (aa6 _)).symm⟩
  | [],(h,u) :: r,p,_,_,_,hs,_,_,_=>by
    rw [bf] at hs;have:=u.size_pos;have hs:0=u.size+szs r:=hs;lia
  | (h,u) :: r,[],p,_,_,_,hs,_,_,_=>by
    rw [bf] at hs;have:=u.size_pos;have hs:u.size+szs r=0:=hs;lia
  | (h,u) :: r,(h',u') :: r',p,hp,k1,k2,hs,hm,c1,c2=>by
    have hz:=bN g3 sp;have n1:∀ q∈(h,u) :: r,N q.2 < pf t k q.2.size:=fun q hq=>hN _ (c1 q hq);have n2:∀ q∈(h',u') :: r',N q.2 < pf t k q.2.size:=fun q hq=>hN _ (c2 q hq);have u1:=u.size_pos;have u1':=u'.size_pos;have mo:∀ {h:Bool} {u:Wy} {r:List (Bool × Wy)},Pk (ae gs) gs k p ((h,u) :: r)→u.size - 1 < aL p (szs ((h,u) :: r)):=fun {h u r} z=>by
      rw [bf];exact oD u.size_pos (by lia) fun e=>by have:=z.2.rest e;lia
    show (Kt.cons (.int (if h=true then 0 else 1)) (.cons (.int (u.size:Nat)) (.cons (NK u) (fks NK r)))=Kt.cons (.int (if h'=true then 0 else 1)) (.cons (.int (u'.size:Nat)) (.cons (NK u') (fks NK r')))↔_)∧ltT (.cons (.int (if h=true then 0 else 1)) (.cons (.int (u.size:Nat)) (.cons (NK u) (fks NK r)))) (.cons (.int (if h'=true then 0 else 1)) (.cons (.int (u'.size:Nat)) (.cons (NK u') (fks NK r'))))=_;by_cases eh:h=h'
    · subst eh;rw [dI,if_pos rfl,dI];rcases Nat.lt_trichotomy u.size u'.size with c|c|c
      · have lt:=gB hz G hp k1 k2 hm hs n1 n2 (mD u1 c);have ne:(Kt.int (u.size:Nat))≠Kt.int (u'.size:Nat):=fun e=>by injection e with e;lia
        rw [if_neg ne,decide_eq_true lt];refine ⟨⟨fun e=>?_,fun e=>by lia⟩,decide_eq_true (by lia)⟩;injection e with _ e;injection e with e _;exact absurd e ne
      · have sr:szs r=szs r':=by rw [bf,bf] at hs;lia
        rw [c,if_pos rfl,dI];obtain ⟨i1,i2⟩:=hK u u' (c1 _ aai) (c2 _ aai) c;obtain ⟨j1,j2⟩:=qN g3 sp G hN hK r r' (aJ p) (mP p) k1.2 k2.2 sr (by rw [bf] at hm;lia) (fun q hq=>c1 q (aae _ hq)) (fun q hq=>c2 q (aae _ hq));have b1:=ik hz G r (aJ p) (mP p) k1.2 (by rw [bf] at hm;lia) fun q hq=>n1 q (aae _ hq);have b2:=ik hz G r' (aJ p) (mP p) k2.2 (by rw [bf,bf] at hs;rw [bf] at hm;lia) fun q hq=>n2 q (aae _ hq);rw [← sr] at b2;obtain ⟨o1,o2⟩:=v6 (u:=N u) (u':=N u') b1 b2;have E1:nps (ae gs) t N k p ((h,u) :: r)=ahd (hk k h) u.size (cw (ae gs) t k p (u.size+szs r))+(N u * gv t k (aJ p) (szs r)+nps (ae gs) t N k (aJ p) r):=rfl;have E2:nps (ae gs) t N k p ((h,u') :: r')=ahd (hk k h) u.size (cw (ae gs) t k p (u.size+szs r))+(N u' * gv t k (aJ p) (szs r)+nps (ae gs) t N k (aJ p) r'):=by rw [c,sr];rfl
        rw [E1,E2,i2,j2];generalize ahd (hk k h) u.size (cw (ae gs) t k p (u.size+szs r))=A;generalize N u * gv t k (aJ p) (szs r)+nps (ae gs) t N k (aJ p) r=W at o1 o2 ⊢;generalize N u' * gv t k (aJ p) (szs r)+nps (ae gs) t N k (aJ p) r'=W' at o1 o2 ⊢;constructor
        · constructor
          · intro e;injection e with _ e;injection e with _ e;injection e with e1 e2
            have:=i1.mp e1;have:=j1.mp e2;lia
          · intro e;have:=o2.mp (by lia);rw [i1.mpr this.1,j1.mpr this.2]
        · by_cases e:NK u=NK u'
          · rw [if_pos e];have:=i1.mp e;rw [aaV,decide_eq_true_eq,decide_eq_true_eq];lia
          · rw [if_neg e];have : N u≠N u':=fun x=>e (i1.mpr x);rw [aaV,decide_eq_true_eq,decide_eq_true_eq];lia
      · have lt:=gB hz G hp k2 k1 (by lia) hs.symm n2 n1 (by rw [← hs];exact mD u1' c);have ne:(Kt.int (u.size:Nat))≠Kt.int (u'.size:Nat):=fun e=>by injection e with e;lia
        rw [if_neg ne,decide_eq_false (show ¬ nps (ae gs) t N k p ((h,u) :: r) < nps (ae gs) t N k p ((h,u') :: r') by lia)];refine ⟨⟨fun e=>?_,fun e=>by lia⟩,decide_eq_false (by lia)⟩;injection e with _ e;injection e with e _;exact absurd e ne
    · have kf:k=false:=by
        cases k with
        | false=>rfl
        | true=>exact absurd ((k1.1.2.1 rfl).trans (k2.1.2.1 rfl).symm) eh
      subst kf;rw [dI];cases h with
      | true =>
        cases h' with
        | true=>exact absurd rfl eh
        | false =>
          have lt:=gB hz G hp k1 k2 hm hs n1 n2 (mE hz hp k1.1.1 k2.1.1 (mo k1));rw [if_neg (show Kt.int (if true=true then 0 else 1)≠Kt.int (if false=true then 0 else 1) by decide),decide_eq_true lt];refine ⟨⟨fun e=>?_,fun e=>by lia⟩,rfl⟩;injection e with e _;exact absurd e (by decide)
      | false =>
        cases h' with
        | false=>exact absurd rfl eh
        | true =>
          have lt:=gB hz G hp k2 k1 (by lia) hs.symm n2 n1 (by rw [← hs];exact mE hz hp k2.1.1 k1.1.1 (by rw [hs];exact mo k2));rw [if_neg (show Kt.int (if false=true then 0 else 1)≠Kt.int (if true=true then 0 else 1) by decide),decide_eq_false (show ¬ nps (ae gs) t N false p ((false,u) :: r) < nps (ae gs) t N false p ((true,u') :: r') by lia)];refine ⟨⟨fun e=>?_,fun e=>by lia⟩,rfl⟩;injection e with e _;exact absurd e (by decide)
theorem qO {gs:List Sg} (g3:gs.length≤3) (sp:aX gs) {t:Tab} {m:Nat} (G:Gd (ae gs) t m):∀ (n:Nat) (k:Bool) (w w':Wy),w.size≤n→w.size=w'.size→w.size≤m→w.within gs→w'.within gs→w.no k→w'.no k →
    (fk n w=fk n w'↔nfm (ae gs) t n w=nfm (ae gs) t n w')∧ltT (fk n w) (fk n w')=decide (nfm (ae gs) t n w < nfm (ae gs) t n w')
  | 0,_,w,_,h,_,_,_,_,_,_=>by have:=w.size_pos;lia
  | n+1,k,.num _,.num _,_,_,_,_,_,_,_=>⟨⟨fun _=>rfl,fun _=>rfl⟩,(decide_eq_false (aa6 _)).symm⟩
  | n+1,k,.num _,.node g l r,_,h,_,_,_,_,_=>by have:=bP g l r;have h:1=(Wy.node g l r).size:=h;lia
  | n+1,k,.node g l r,.num _,_,h,_,_,_,_,_=>by have:=bP g l r;have h:(Wy.node g l r).size=1:=h;lia
  | n+1,k,.node g l r,.node g' l' r',hn,hs,hm,hw,hw',hk,hk'=>by
    have e1:=iP hk;have e2:=iP hk';have eg:g'.k=g.k:=by rw [e1,e2]
    have z:=qN g3 sp G (N:=nfm (ae gs) t n) (NK:=fk n) (k:=g.k) (C:=fun u=>u.size≤n∧u.size≤m∧u.within gs∧u.no g.k) (fun u c=>lc g3 sp G n u g.k c.1 c.2.1 c.2.2.1 c.2.2.2)
      (fun u u' c c' e=>qO g3 sp G n g.k u u' c.1 e c.2.1 c.2.2.1 c'.2.2.1 c.2.2.2 c'.2.2.2) (lv g.k true (.node g l r)) (lv g.k true (.node g' l' r')) 0 (by decide) (mB g3 sp hw) (by rw [← eg];exact mB g3 sp hw') (by rw [a8,a8];exact hs) (by rw [a8];exact hm)
      (fun q hq=>by have:=bw hq;exact ⟨by lia,by lia,bn _ _ _ hw q hq,cQ _ _ _ q hq⟩) (fun q hq=>by
        have:=bw (g:=g') (b:=true) (p:=q) (by rw [eg];exact hq);exact ⟨by lia,by lia,bn _ _ _ hw' q hq,cQ _ _ _ q hq⟩)
    have f1:fk (n+1) (.node g l r)=.cons (.int (if g.k=true then 1 else 0)) (fks (fk n) (lv g.k true (.node g l r))):=rfl;have f2:fk (n+1) (.node g' l' r')=.cons (.int (if g.k=true then 1 else 0)) (fks (fk n) (lv g.k true (.node g' l' r'))):=by rw [← eg];rfl
    have f3:nfm (ae gs) t (n+1) (.node g' l' r')=nps (ae gs) t (nfm (ae gs) t n) g.k 0 (lv g.k true (.node g' l' r')):=by rw [← eg];rfl
    rw [f1,f2,f3,dI,if_pos rfl];refine ⟨⟨fun e=>?_,fun e=>?_⟩,z.2⟩
    · injection e with _ e;exact z.1.mp e
    · rw [z.1.mpr e]
theorem uo {gs:List Sg} (g3:gs.length≤3) (sp:aX gs) {t:Tab} {m:Nat} (G:Gd (ae gs) t m) {n:Nat} {w w':Wy} (hn:w.size≤n+1) (hs:w.size=w'.size) (hm:w.size≤m) (hw:w.within gs) (hw':w'.within gs) :
    (fk (n+1) w=fk (n+1) w'↔nft (ae gs) t (n+1) w=nft (ae gs) t (n+1) w')∧ltT (fk (n+1) w) (fk (n+1) w')=decide (nft (ae gs) t (n+1) w < nft (ae gs) t (n+1) w'):=by
  cases w with
  | num i =>
    cases w' with
    | num j=>exact ⟨⟨fun _=>rfl,fun _=>rfl⟩,(decide_eq_false (aa6 _)).symm⟩
    | node g l r=>have:=bP g l r;have h:1=(Wy.node g l r).size:=hs;lia
  | node g l r =>
    cases w' with
    | num j=>have:=bP g l r;have h:(Wy.node g l r).size=1:=hs;lia
    | node g' l' r' =>
      have E1:nft (ae gs) t (n+1) (.node g l r)=(if g.k=true then gv t false 0 (Wy.node g l r).size else 0)+nfm (ae gs) t (n+1) (.node g l r):=rfl;have E2:nft (ae gs) t (n+1) (.node g' l' r')=(if g'.k=true then gv t false 0 (Wy.node g l r).size else 0)+nfm (ae gs) t (n+1) (.node g' l' r'):=by rw [hs];rfl
      have F1:fk (n+1) (.node g l r)=.cons (.int (if g.k=true then 1 else 0)) (fks (fk n) (lv g.k true (.node g l r))):=rfl;have F2:fk (n+1) (.node g' l' r')=.cons (.int (if g'.k=true then 1 else 0)) (fks (fk n) (lv g'.k true (.node g' l' r'))):=rfl;by_cases eg:g'.k=g.k
      · have z:=qO g3 sp G (n+1) (!g.k) (.node g l r) (.node g' l' r') hn hs hm hw hw' (show g.k≠!g.k by cases g.k <;> decide) (show g'.k≠!g.k by rw [eg];cases g.k <;> decide);rw [E1,E2,eg];refine ⟨⟨fun e=>by rw [z.1.mp e],fun e=>z.1.mpr (by lia)⟩,z.2.trans ?_⟩;rw [aaV,decide_eq_true_eq,decide_eq_true_eq];lia
      · have b1:=gC g3 sp G hn hm hw;have b2:=gC g3 sp G (n:=n+1) (by rw [← hs];exact hn) (by rw [← hs];exact hm) hw';rw [← hs] at b2;rw [E1,E2,F1,F2,dI];cases e1:g.k with
        | true =>
          have e2:g'.k=false:=by cases e:g'.k with|false=>rfl|true=>exact absurd (e.trans e1.symm) eg
          rw [e2] at b2 ⊢;simp only [Bool.false_eq_true,if_true,if_false];rw [if_neg (show Kt.int 1≠Kt.int 0 by decide)];refine ⟨⟨fun e=>?_,fun e=>by lia⟩,?_⟩
          · injection e with e _;exact absurd e (by decide)
          · rw [decide_eq_false (by lia)];rfl
        | false =>
          have e2:g'.k=true:=by cases e:g'.k with|true=>rfl|false=>exact absurd (e.trans e1.symm) eg
          rw [e1] at b1;rw [e2];simp only [Bool.false_eq_true,if_true,if_false];rw [if_neg (show Kt.int 0≠Kt.int 1 by decide)];refine ⟨⟨fun e=>?_,fun e=>by lia⟩,?_⟩
          · injection e with e _;exact absurd e (by decide)
          · rw [decide_eq_true (by lia)];rfl
open PySem L2
theorem EqR.hm {K:aaa} {H:Hp} {n:Nat} {a b:Addr} {c c':Str} {m m':Int} (ha:SqT K H a [.str c,.int m]) (hb:SqT K H b [.str c',.int m']):EqR K H (n+1) (.ref a) (.ref b) (decide (c=c'∧m=m')):=by
  have:=EqR.tup (K:=K) (n:=n) (e:=fun j=>if j=0 then c == c' else m == m') ha hb fun j x y hx hy=>by
    match j,hx,hy with
    | 0,hx,hy=>simp at hx hy;subst hx hy;exact EqR.flat (K:=K) (H:=H) (n:=n) (x:=.str c) (y:=.str c') rfl rfl
    | 1,hx,hy=>simp at hx hy;subst hx hy;exact EqR.flat (K:=K) (H:=H) (n:=n) (x:=.int m) (y:=.int m') rfl rfl
    | j+2,hx,hy=>simp at hx
  have e:((aaD (min [V.str c,V.int m].length [V.str c',V.int m'].length)).all (fun j=>if j=0 then c == c' else m == m') && [V.str c,V.int m].length == [V.str c',V.int m'].length)=decide (c=c'∧m=m'):=by
    have : aaD (min [V.str c,V.int m].length [V.str c',V.int m'].length)=[0,1]:=rfl;rw [this,aaV];simp
  rw [e] at this;exact this
theorem jB {z:Str} {t:Tab} {k:Bool} {p l:Nat} {r:Row} (h:r∈cw z t k p l):r.2.2.2=gv t k (aJ p) (l - r.2.1):=by
  obtain ⟨i,hi,e⟩:=abL h;have e2:(cw z t k p l)[i]?=some r:=by rw [aag hi,e]
  obtain ⟨c,j,_,_,_,rfl⟩:=nQ e2;rfl
section
variable {P:Program} {w:World} {K:aaa} {mg:Str→Option Value} {base:Heap} {f:Addr} {fd:FuncData}
def kF:Sp:=fun vs H Q _=>∃ (a:Addr) (ys:List V) (rs:List Row) (c:Str) (m n R:Nat),vs=[.ref a,.str c,.int m,.int n]∧H a=some (.lst ys)∧RowsIn H rs ys∧(∀ r∈rs,r.2.2.2 < 1152921504606846976)∧(∀ r∈rs,r.2.1=m→r.2.2.2=R)∧(∃ r∈rs,r.1=c∧r.2.1=m)∧∀ H',Same H H'→Q (.int (ahd c m rs+n * R:Nat)) H'
abbrev cV:Stmt:=top 55
theorem ba:FnScope ["choices","head","many","part_number","ahead","other_head","other_many","forms","rests"] ["choices","head","many","part_number"] (al cV):=⟨rfl,rfl,rfl,by decide +kernel,rfl,by decide +kernel,by decide +kernel⟩
theorem iD (F:Fun K "number_ahead" "number_ahead" cV f fd) (B:Bu K mg):FnOk P w K mg base CX0 1 f fd ["choices","head","many","part_number"] kF:=by
  refine F.ok ba (fun vs H Q E h=>?_) (fun cdv A outer s H vs Q E hr h=>?_)
  · obtain ⟨a,ys,rs,c,m,n,R,rfl,_⟩:=h;rfl
  obtain ⟨a,ys,rs,c,m,n,R,rfl,ea,hrs,hb,hR,hex,q⟩:=h;refine ⟨_,(@af _ _ _ _ _ (@aw _ _ (4) _ _ _ _ (ba).nd rfl (Or.inl rfl) ai (by rfl) (by first|exact .inl rfl|exact .inr rfl|assumption)) (@af _ _ _ _ _ (@bX _ _ _ _ _ _ _ _ aaF rfl (@b_ _ _ _ _ (pv 0)) (@bK _ _ _ _ _ _ rfl (@ao _ _ _ _ _ (@am _ _ (5) _ (ba).nd rfl (Or.inl rfl) (.inl rfl)) (@ao _ _ _ _ _ (@am _ _ (6) _ (ba).nd rfl (Or.inl rfl) (.inl rfl)) (@ao _ _ _ _ _ (@am _ _ (7) _ (ba).nd rfl (Or.inl rfl) (.inl rfl)) (@ao _ _ _ _ _ (@am _ _ (8) _ (ba).nd rfl (Or.inl rfl) (.inl rfl)) aV (by rfl)) (by rfl)) (by rfl)) (by rfl)) (by rfl) (by rfl)) (@af _ _ _ _ _ (@aH _ _ _ _ _ _ _ _ (@av _ _ _ _ _ _ _ _ (@ua _ _ rfl hr.units) (@aQ _ _ _ _ _ (@aa _ _ _ _ _ (pv 5) (@aa _ _ _ _ _ (pv 6) ad (by rfl)) (by rfl))) (@aQ _ _ _ _ _ (@aa _ _ _ _ _ (pv 1) (@aa _ _ _ _ _ (pv 2) ad (by rfl)) (by rfl))) (aA _)) (@ah _ _ _ (@aq _ _ _ _ (@ay _ _ _ _ _ _ _ _ bL (pv 4) (@ay _ _ _ _ _ _ _ _ c_ (pv 3) (pv 8))))) au) (@ah _ _ _ (@eV _ _ (4) _ _ _ _ _ _ (ba).nd rfl (Or.inl rfl) (@ay _ _ _ _ _ _ _ _ c_ (pv 7) (pv 8)) jz (by first|exact .inl rfl|exact .inr rfl|assumption)))) (by intro _;rfl)) (@ah _ _ _ (@aq _ _ _ _ (pv 4))))),?_⟩;have ly:=aav hrs;refine ⟨_,rfl,a,rfl,⟨_,SqL.of ea⟩,fY (Trn.list (xs:=ys)) (fun i σ H'=>∃ c5 c6 c7 c8,σ=[some (.ref a),some (.str c),some (.int m),some (.int n),some (.int (bj (rs.take i):Nat)),c5,c6,c7,c8]∧Same H H'∧∀ r∈rs.take i,¬ (r.1=c∧r.2.1=m)) ⟨_,_,_,_,rfl,Same.refl _,fun r hr=>by simp at hr⟩ (fun i σ H' hi z=>?_) (fun i x σ H2' H2 hi it z=>?_) (fun σ H' z=>?_)⟩
  · obtain ⟨_,_,_,_,rfl,S,_⟩:=z;exact SqL.of (S _ _ ea)
  · obtain ⟨c5,c6,c7,c8,rfl,S,hno⟩:=z;obtain ⟨rfl,hx⟩:=it;obtain ⟨r,hr1,a6,rfl,hr2⟩:=hrs.get hx;have hrb:=hb r (aaf hr1);have er:rs=rs.take i++r :: rs.drop (i+1):=by rw [← fj hr1,aaO]
    refine ⟨a6,_,rfl,SqT.of (S _ _ hr2),rfl,_,_,rfl,_,_,rfl,_,_,rfl,_,_,rfl,rfl,?_⟩;refine ⟨_,rfl,_,rfl,(by show 2≤sizeLine;decide),fun p1 n1=>⟨_,rfl,_,rfl,(by show 2≤sizeLine;decide),fun p2 n2=>?_⟩⟩;have s1:=Same.new n1 (.tup [.str r.1,.int r.2.1]);have s2:=Same.new n2 (.tup [.str c,.int m]);have S2:=S.trans (s1.trans s2);refine ⟨1,p1,p2,_,by decide,rfl,rfl,EqR.hm (SqT.of (s2 _ _ ag)) (SqT.of ag),?_⟩;refine ⟨_,rfl,uw (fun ce=>?_) (fun ce=>?_)⟩
    · have ce:=of_decide_eq_true ce;have c2:r.2.1=m:=by lia
      have eR:=hR r (aaf hr1) c2;have ea:ahd c m rs=bj (rs.take i):=by
        have z:ahd c m (rs.take i++r :: rs.drop (i+1))=_:=lF hno;rw [← er] at z;rw [z];show _+(if r.1=c∧r.2.1=m then 0 else _)=_;rw [if_pos ⟨ce.1,c2⟩];rfl
      refine ⟨_,rfl,_,rfl,_,rfl,_,_,rfl,rfl,.inr ⟨by lia,by lia⟩,_,_,rfl,rfl,?_⟩;have z:=q _ S2;rw [ea] at z;rw [eR];rw [show ((bj (rs.take i)+n * R:Nat):Int)=((bj (rs.take i):Nat):Int)+(n:Int) * (R:Int) by push_cast;rfl] at z;exact z
    · have ce:¬ (r.1=c∧r.2.1=m):=fun z=>by
        rw [decide_eq_true ⟨z.1,by lia⟩] at ce;cases ce
      refine ⟨_,rfl,_,rfl,_,rfl,_,_,rfl,rfl,.inr ⟨by lia,by lia⟩,_,_,rfl,rfl,?_⟩;refine ⟨some (.str r.1),some (.int r.2.1),some (.int r.2.2.1),some (.int r.2.2.2),?_,S2,fun r' hr'=>?_⟩
      · rw [bx hr1,iX,bY,show bj []=0 from rfl,show ((bj (rs.take i)+(r.2.2.1 * r.2.2.2+0):Nat):Int)=((bj (rs.take i):Nat):Int)+(r.2.2.1:Int) * (r.2.2.2:Int) by push_cast;lia];rfl
      · rw [bx hr1] at hr';rcases aaB.mp hr' with h|h
        · exact hno r' h
        · rw [aau.mp h];exact ce
  · obtain ⟨c5,c6,c7,c8,rfl,S,hno⟩:=z;obtain ⟨r,hr,hr2⟩:=hex;exact absurd hr2 (hno r (by rw [← ly,aaS];exact hr))
end
open PySem L2
theorem ot {H:Hp}:∀ {ps:List (Bool × Wy)} {us:List V},Paired (PtR H false) ps us→DatAll H ((ps.map wd).map tmD) us
  | [],_,.nil=>by simp only [abE,DatAll]
  | p :: ps,_,.cons ⟨a,u,e,ea,d⟩ t=>by
    subst e;simp only [aaz,DatAll];exact ⟨_,_,rfl,dg ea d,ot t⟩
section
variable {P:Program} {w:World} {K:aaa} {mg:Str→Option Value} {base:Heap} {f:Addr} {fd:FuncData}
def mY:Sp:=fun vs H Q _=>∃ (a:Addr) (ys:List V) (rs:List Row) (x:Nat) (c:Str) (m q' s':Nat),vs=[.ref a,.int x]∧H a=some (.lst ys)∧RowsIn H rs ys∧(∀ r∈rs,r.2.2.2 < 1152921504606846976)∧fC rs x=some (c,m,q',s')∧∀ p H',Same H H'→H' p=some (.tup [.str c,.int m,.int q',.int s'])→Q (.ref p) H'
abbrev dm:Stmt:=top 53
theorem a9:FnScope ["choices","number","at","head","many","forms","rests"] ["choices","number"] (al dm):=⟨rfl,rfl,rfl,by decide +kernel,rfl,by decide +kernel,by decide +kernel⟩
theorem jm (F:Fun K "pick_choice" "pick_choice" dm f fd) (B:Bu K mg):FnOk P w K mg base CX0 1 f fd ["choices","number"] mY:=by
  refine F.ok a9 (fun vs H Q E h=>?_) (fun cdv A outer s H vs Q E hr h=>?_)
  · obtain ⟨a,ys,rs,x,c,m,q',s',rfl,_⟩:=h;rfl
  obtain ⟨a,ys,rs,x,c,m,q',s',rfl,ea,hrs,hb,hp,q⟩:=h;refine ⟨_,(@af _ _ _ _ _ (@aw _ _ (2) _ _ _ _ (a9).nd rfl (Or.inl rfl) ai (by rfl) (by first|exact .inl rfl|exact .inr rfl|assumption)) (@af _ _ _ _ _ (@ji _ _ _ _ _ _ aaF (@av _ _ _ _ _ _ _ _ sX (pv 1) (@ay _ _ _ _ _ _ _ _ c_ (@aC _ _ _ _ _ _ _ bc (@aC _ _ _ _ _ _ _ aF (pv 0) (pv 2) (fun _ _=>rfl)) ai (fun _ _=>rfl)) (@aC _ _ _ _ _ _ _ bc (@aC _ _ _ _ _ _ _ aF (pv 0) (pv 2) (fun _ _=>rfl)) ai (fun _ _=>rfl))) (aA _)) (@af _ _ _ _ _ (@eV _ _ (1) _ _ _ _ _ _ (a9).nd rfl (Or.inl rfl) (@ay _ _ _ _ _ _ _ _ c_ (@aC _ _ _ _ _ _ _ bc (@aC _ _ _ _ _ _ _ aF (pv 0) (pv 2) (fun _ _=>rfl)) ai (fun _ _=>rfl)) (@aC _ _ _ _ _ _ _ bc (@aC _ _ _ _ _ _ _ aF (pv 0) (pv 2) (fun _ _=>rfl)) ai (fun _ _=>rfl))) qR (by first|exact .inl rfl|exact .inr rfl|assumption)) (@ah _ _ _ (@eV _ _ (2) _ _ _ _ _ _ (a9).nd rfl (Or.inl rfl) ai jz (by first|exact .inl rfl|exact .inr rfl|assumption))))) (@af _ _ _ _ _ (@cY _ _ _ _ _ _ (@aC _ _ _ _ _ _ _ aF (pv 0) (pv 2) (fun _ _=>rfl)) (@bK _ _ _ _ _ _ rfl (@ao _ _ _ _ _ (@am _ _ (3) _ (a9).nd rfl (Or.inl rfl) (.inl rfl)) (@ao _ _ _ _ _ (@am _ _ (4) _ (a9).nd rfl (Or.inl rfl) (.inl rfl)) (@ao _ _ _ _ _ (@am _ _ (5) _ (a9).nd rfl (Or.inl rfl) (.inl rfl)) (@ao _ _ _ _ _ (@am _ _ (6) _ (a9).nd rfl (Or.inl rfl) (.inl rfl)) aV (by rfl)) (by rfl)) (by rfl)) (by rfl)) (by rfl) (by rfl)) (by rfl) (by rfl) (by rfl)) (@ah _ _ _ (@aq _ _ _ _ (@aQ _ _ _ _ _ (@aa _ _ _ _ _ (pv 3) (@aa _ _ _ _ _ (pv 4) (@aa _ _ _ _ _ (@ay _ _ _ _ _ _ _ _ eX (pv 1) (pv 6)) (@aa _ _ _ _ _ (@ay _ _ _ _ _ _ _ _ fW (pv 1) (pv 6)) ad (by rfl)) (by rfl)) (by rfl)) (by rfl)))))))),?_⟩;have ly:=aav hrs;refine ⟨fun mm σ H'=>∃ (j:Nat) (y:Nat),σ=[some (.ref a),some (.int y),some (.int (j:Nat)),none,none,none,none]∧H=H'∧fC (rs.drop j) y=some (c,m,q',s')∧mm=rs.length - j,?_,?_⟩
  · exact ⟨_,0,x,rfl,rfl,hp,rfl⟩
  rintro mm σ H' ⟨j,y,rfl,rfl,hpj,rfl⟩;have hj:j < rs.length:=by
    rcases Nat.lt_or_ge j rs.length with h|h
    · exact h
    · rw [List.drop_eq_nil_of_le h] at hpj;cases hpj
  have hy:ys[j]?=some ys[j]:=aag (by lia);obtain ⟨r,hr1,a6,e6,hr2⟩:=hrs.get hy;rw [e6] at hy;have hrb:=hb r (aaf hr1);rw [fj hr1] at hpj;unfold fC at hpj;have at1:atI ys (j:Int)=some (.ref a6):=fA hy;refine ⟨_,rfl,_,rfl,_,rfl,a,_,_,_,rfl,rfl,SqL.of ea,at1,a6,_,_,_,rfl,rfl,SqT.of hr2,rfl,_,rfl,_,rfl,a,_,_,_,rfl,rfl,SqL.of ea,at1,a6,_,_,_,rfl,rfl,SqT.of hr2,rfl,_,_,rfl,rfl,.inr ⟨by lia,by lia⟩,_,_,rfl,rfl,?_⟩;by_cases ce:y < r.2.2.1 * r.2.2.2
  · rw [if_pos ce] at hpj;have R0:0 < r.2.2.2:=by
      rcases Nat.eq_zero_or_pos r.2.2.2 with e|e
      · rw [e,Nat.mul_zero] at ce;lia
      · exact e
    have cd:¬ ((r.2.2.1:Int) * (r.2.2.2:Int)≤(y:Int)):=by
      rw [← Int.natCast_mul];lia
    refine ⟨false,congrArg V.bl (decide_eq_false cd),aM ?_⟩;refine ⟨_,rfl,_,rfl,a,_,_,_,rfl,rfl,SqL.of ea,at1,?_⟩;refine ⟨a6,_,rfl,SqT.of hr2,rfl,_,_,rfl,_,_,rfl,_,_,rfl,_,_,rfl,rfl,?_⟩;injection hpj with hpj
    injection hpj with h1 hpj
    injection hpj with h2 hpj
    injection hpj with h3 h4
    refine ⟨_,rfl,_,rfl,_,rfl,_,rfl,_,_,rfl,rfl,⟨by lia,by lia⟩,_,rfl,_,rfl,_,_,rfl,rfl,(by lia),(by show 4≤sizeLine;decide),fun p np=>?_⟩;refine q p _ (Same.new np _) ?_;rw [ag,← h1,← h2,← h3,← h4,Int.natCast_ediv,Int.natCast_emod]
  · rw [if_neg ce] at hpj;have cd:(r.2.2.1:Int) * (r.2.2.2:Int)≤(y:Int):=by
      rw [← Int.natCast_mul];lia
    refine ⟨true,congrArg V.bl (decide_eq_true cd),bA ⟨fun σ' H'=>∃ m',m' < rs.length - j∧∃ (j:Nat) (y:Nat),σ'=[some (.ref a),some (.int y),some (.int (j:Nat)),none,none,none,none]∧H=H'∧fC (rs.drop j) y=some (c,m,q',s')∧m'=rs.length - j,fun _ _ h=>h,?_⟩⟩;refine ⟨_,rfl,_,rfl,_,rfl,a,_,_,_,rfl,rfl,SqL.of ea,at1,a6,_,_,_,rfl,rfl,SqT.of hr2,rfl,_,rfl,_,rfl,a,_,_,_,rfl,rfl,SqL.of ea,at1,a6,_,_,_,rfl,rfl,SqT.of hr2,rfl,_,_,rfl,rfl,.inr ⟨by lia,by lia⟩,_,_,rfl,rfl,?_⟩;refine ⟨_,rfl,_,_,rfl,rfl,rs.length - (j+1),by lia,j+1,y - r.2.2.1 * r.2.2.2,?_,rfl,hpj,rfl⟩;rw [show ((y - r.2.2.1 * r.2.2.2:Nat):Int)=(y:Int) - (r.2.2.1:Int) * (r.2.2.2:Int) by rw [← Int.natCast_mul];lia];rfl
end
open PySem L2
theorem lG {z:Str} {gs:List Sg} {k:Bool}:∀ (i:Nat) (ps:List (Bool × Wy)) (p0:Nat),Pk z gs k (min p0 2) ps→i≤ps.length→Pk z gs k (min (p0+i) 2) (ps.drop i)
  | 0,ps,p0,h,_=>h
  | i+1,[],p0,h,hl=>by simp at hl
  | i+1,(hh,u) :: r,p0,h,hl=>by
    have h2:=h.2;rw [show aJ (min p0 2)=min (p0+1) 2 by unfold aJ;split <;> lia] at h2;have:=lG i r (p0+1) h2 (by simpa using hl);rw [show p0+1+i=p0+(i+1) by lia] at this;exact this
theorem o0 (i:Nat):aJ (min i 2)=min (i+1) 2:=by unfold aJ;split <;> lia
theorem lJ (ps:List (Bool × Wy)) (i:Nat):szs (ps.take i)+szs (ps.drop i)=szs ps:=by rw [← iJ,aaO]
section
variable {P:Program} {w:World} {K:aaa} {mg:Str→Option Value} {base:Heap} {f:Addr} {fd:FuncData}
def rR (n:Nat):Sp:=fun vs H Q _=>∃ (w:Wy) (v:V) (gs:List Sg) (e:Addr) (t:Tab) (m:Nat),vs=[v,.str (ae gs),.ref e]∧Dat H w.fm.data v∧H e=some (.dT (kvs t))∧Gd (ae gs) t m∧w.size≤n∧w.size≤m∧m≤9∧w.Bd∧gs.length≤3∧aX gs∧w.within gs∧∀ H',Same H H'→Q (.int (nfm (ae gs) t n w:Nat)) H'
abbrev eL:Stmt:=top 54
theorem aZ:FnScope ["form","signs","ends","left","number","at","head","part","many","choices"] ["form","signs","ends"] (al eL):=⟨rfl,rfl,rfl,by decide +kernel,rfl,by decide +kernel,by decide +kernel⟩
theorem kY {tk:Tok} (F:Fun K "number_at" "number_at" eL f fd) (bF:Binds K fd ["form","signs","ends"] []) (mF:mg "number_at" = some (.ref f)) (B:Bu K mg) (B5:C5 mg tk) (C_is_whole:Cal P w K mg base "is_whole" 1 ["thing"] (bB K)) (C_numbers_in:Cal P w K mg base "numbers_in" 11 ["form"] (ez 9)) (C_parts_of:Cal P w K mg base "parts_of" 1 ["form"] j4) (C_choices_at:Cal P w K mg base "choices_at" 2 ["signs","ends","kind","place","left"] dC) (C_number_ahead:Cal P w K mg base "number_ahead" 1 ["choices","head","many","part_number"] kF):∀ n,FnOk P w K mg base CX0 (n+12) f fd ["form","signs","ends"] (rR n):=by
  intro n
  induction n with
  | zero =>
    refine ⟨fun vs H Q E h=>?_,fun A outer s H args us vs Q E _ _ _ _ h=>?_⟩
    · obtain ⟨wy,v,gs,e,t,m,rfl,_⟩:=h;rfl
    · obtain ⟨wy,v,gs,e,t,m,_,_,_,_,h0,_⟩:=h;have:=wy.size_pos;lia
  | succ n ih =>
    have C_number_at:Cal P w K mg base "number_at" (n+12) ["form","signs","ends"] (rR n):=⟨f,fd,ih,bF,F.kp,mF⟩
    refine F.ok aZ (fun vs H Q E h=>?_) (fun cdv A outer s H vs Q E hr h=>?_)
    · obtain ⟨wy,v,gs,e,t,m,rfl,_⟩:=h;rfl
    obtain ⟨wy,v,gs,e,t,m,rfl,hd',he,G,hn,hm,h9,hB,g3,sp,hw,q⟩:=h;refine ⟨_,(@af _ _ _ _ _ (@aH _ _ _ _ _ _ _ _ (@aR _ _ _ (@aj _ _ _ _ _ _ _ _ _ _ _ C_is_whole hr (by lia) rfl (@aa _ _ _ _ _ (pv 0) ad (by rfl)) (by decide) (by rfl) (by rfl)) (by intro _;rfl)) (@ah _ _ _ (@aq _ _ _ _ ai)) au) (@af _ _ _ _ _ (@aw _ _ (3) _ _ _ _ (aZ).nd rfl (Or.inl rfl) (@ap _ _ _ _ _ _ _ _ _ ar rfl B.ilen aay (@aa _ _ _ _ _ (@aj _ _ _ _ _ _ _ _ _ _ _ C_numbers_in hr (by lia) rfl (@aa _ _ _ _ _ (pv 0) ad (by rfl)) (by decide) (by rfl) (by rfl)) ad (by rfl)) (by decide) (by decide) (by rfl) (by rfl)) (by rfl) (by first|exact .inl rfl|exact .inr rfl|assumption)) (@af _ _ _ _ _ (@aw _ _ (4) _ _ _ _ (aZ).nd rfl (Or.inl rfl) ai (by rfl) (by first|exact .inl rfl|exact .inr rfl|assumption)) (@af _ _ _ _ _ (@bX _ _ _ _ _ _ _ _ aaF rfl (@iO _ _ _ _ _ _ _ _ rfl B.ienumerate (@aa _ _ _ _ _ (@aj _ _ _ _ _ _ _ _ _ _ _ C_parts_of hr (by lia) rfl (@aa _ _ _ _ _ (pv 0) ad (by rfl)) (by decide) (by rfl) (by rfl)) ad (by rfl)) (by rfl)) (@bK _ _ _ _ _ _ rfl (@ao _ _ _ _ _ (@am _ _ (5) _ (aZ).nd rfl (Or.inl rfl) (.inl rfl)) (@ao _ _ _ _ _ (@bK _ _ _ _ _ _ rfl (@ao _ _ _ _ _ (@am _ _ (6) _ (aZ).nd rfl (Or.inl rfl) (.inl rfl)) (@ao _ _ _ _ _ (@am _ _ (7) _ (aZ).nd rfl (Or.inl rfl) (.inl rfl)) aV (by rfl)) (by rfl)) (by rfl) (by rfl)) aV (by rfl)) (by rfl)) (by rfl) (by rfl)) (@af _ _ _ _ _ (@aw _ _ (8) _ _ _ _ (aZ).nd rfl (Or.inl rfl) (@ap _ _ _ _ _ _ _ _ _ ar rfl B.ilen aay (@aa _ _ _ _ _ (@aj _ _ _ _ _ _ _ _ _ _ _ C_numbers_in hr (by lia) rfl (@aa _ _ _ _ _ (pv 7) ad (by rfl)) (by decide) (by rfl) (by rfl)) ad (by rfl)) (by decide) (by decide) (by rfl) (by rfl)) (by rfl) (by first|exact .inl rfl|exact .inr rfl|assumption)) (@af _ _ _ _ _ (@aw _ _ (9) _ _ _ _ (aZ).nd rfl (Or.inl rfl) (@aj _ _ _ _ _ _ _ _ _ _ _ C_choices_at hr (by lia) rfl (@aa _ _ _ _ _ (pv 1) (@aa _ _ _ _ _ (pv 2) (@aa _ _ _ _ _ (@aC _ _ _ _ _ _ _ bc (pv 0) ai (fun _ _=>rfl)) (@aa _ _ _ _ _ (@ap _ _ _ _ _ _ _ _ _ (@dL _ rfl) rfl B.imin abo (@aa _ _ _ _ _ (pv 5) (@aa _ _ _ _ _ (@bi _ _ (.int 2) _ _ rfl B5.gLATER ⟨_,rfl⟩ (by decide)) ad (by rfl)) (by rfl)) (by decide) (by decide) (by rfl) (by rfl)) (@aa _ _ _ _ _ (pv 3) ad (by rfl)) (by rfl)) (by rfl)) (by rfl)) (by rfl)) (by decide) (by rfl) (by rfl)) (by rfl) (by first|exact .inl rfl|exact .inr rfl|assumption)) (@af _ _ _ _ _ (@eV _ _ (4) _ _ _ _ _ _ (aZ).nd rfl (Or.inl rfl) (@aj _ _ _ _ _ _ _ _ _ _ _ C_number_ahead hr (by lia) rfl (@aa _ _ _ _ _ (pv 9) (@aa _ _ _ _ _ (pv 6) (@aa _ _ _ _ _ (pv 8) (@aa _ _ _ _ _ (@aj _ _ _ _ _ _ _ _ _ _ _ C_number_at hr (by lia) rfl (@aa _ _ _ _ _ (pv 7) (@aa _ _ _ _ _ (pv 1) (@aa _ _ _ _ _ (pv 2) ad (by rfl)) (by rfl)) (by rfl)) (by decide) (by rfl) (by rfl)) ad (by rfl)) (by rfl)) (by rfl)) (by rfl)) (by decide) (by rfl) (by rfl)) jz (by first|exact .inl rfl|exact .inr rfl|assumption)) (@ah _ _ _ (@eV _ _ (3) _ _ _ _ _ _ (aZ).nd rfl (Or.inl rfl) (pv 8) qR (by first|exact .inl rfl|exact .inr rfl|assumption)))))) (by intro _;rfl)) (@ah _ _ _ (@aq _ _ _ _ (pv 4))))))),?_⟩;cases wy with
    | num i =>
      have e:v=.int i:=by simpa only [Wy.fm,Fm.data,Dat] using hd'
      subst e;exact ⟨_,rfl,_,"int",rfl,.int i,true,rfl,bA (q H (Same.refl _))⟩
    | node g l r =>
      obtain ⟨a,b,us,rfl,ea,eb,i1,i2⟩:=de hd';refine ⟨_,rfl,_,"tuple",rfl,.tup ea,false,rfl,aM ?_⟩;have ekS:(if g.k=true then ("times":Str) else "sum")=kS g.k:=by cases g.k <;> rfl
      rw [ekS] at ea;have pk:=mB g3 sp hw;have hlw:=bn (gs:=gs) g.k true _ hw;have hless:=fun q hq=>bw (g:=g) (l:=l) (r:=r) (b:=true) (p:=q) hq;have hLB:=fun p hp=>j8 (k:=g.k) (b:=true) hB (p:=p) hp;have hNF:nfm (ae gs) t (n+1) (.node g l r)=nps (ae gs) t (nfm (ae gs) t n) g.k 0 (lv g.k true (.node g l r)):=rfl;rw [hNF] at q;obtain ⟨ps,eps⟩:∃ ps,ps=lv g.k true (.node g l r):=⟨_,rfl⟩
      rw [← eps] at pk hlw hless hLB q i1 i2;have zp:szs ps=(Wy.node g l r).size:=by rw [eps,a8]
      have z2:=bP g l r;have nl:=(Wy.node g l r).nums_len;refine ⟨_,rfl,.node g l r,_,rfl,hd',by lia,by lia,hB,fun p1 H1 g1 np1 ep1=>?_⟩;refine ⟨p1,_,rfl,.inl (SqL.of ep1),?_⟩;rw [aac,nl];refine ⟨_,rfl,g,l,r,_,rfl,Dat.mono g1 _ _ hd',by lia,fun p2 us' H2 g2 np2 ep2 hp2=>?_⟩;rw [← eps] at hp2;have lp:=aav hp2;have G2:=g1.trans g2;refine ⟨p2,rfl,⟨_,SqL.of ep2⟩,?_⟩;refine fY (Trn.enum (xs:=us')) (fun i σ H'=>∃ c5 c6 c7 c8 c9 x,σ=[some (.ref a),some (.str (ae gs)),some (.ref e),some (.int (szs (ps.drop i):Nat)),some (.int (x:Nat)),c5,c6,c7,c8,c9]∧Same H2 H'∧x+nps (ae gs) t (nfm (ae gs) t n) g.k (min i 2) (ps.drop i)=nps (ae gs) t (nfm (ae gs) t n) g.k 0 ps) ⟨none,none,none,none,none,0,?_,Same.refl _,?_⟩ (fun i σ H' hi z=>?_) (fun i x σ H2' H3 hi it z=>?_) (fun σ H' z=>?_)
      · rw [abS,zp];rfl
      · rw [abS,aaY];rfl
      · obtain ⟨_,_,_,_,_,x,rfl,S,_⟩:=z;exact SqL.of (S _ _ ep2)
      · obtain ⟨c5,c6,c7,c8,c9,y,rfl,S,ey⟩:=z;obtain ⟨p',y',np',rfl,rfl,hy⟩:=it;obtain ⟨⟨ph,pw⟩,hpp,o,u,rfl,eo,du⟩:=Paired.at hp2 hy;have du:Dat H2 pw.fm.data u:=du;have eo:H2 o=some (.tup [.str (hk g.k ph),u]):=eo;have pm:=aaf hpp;have s3:=S.trans (Same.new np' (.tup [.int i,.ref o]));have e3:upd H2' p' (.tup [.int i,.ref o]) p'=some (.tup [.int i,.ref o]):=ag;generalize upd H2' p' (.tup [.int i,.ref o])=H3 at s3 e3 ⊢;have eo3:=s3 _ _ eo;have hdrop:=fj hpp;have hlt:pw.size < (Wy.node g l r).size:=hless (ph,pw) pm;have zi:=lJ ps i;have zd:szs (ps.drop i)=pw.size+szs (ps.drop (i+1)):=by rw [hdrop,bf]
        have up:=pw.size_pos;have hil:=(aaq.mp hpp).1;refine ⟨p',_,rfl,SqT.of e3,rfl,_,_,rfl,_,_,rfl,o,_,rfl,SqT.of eo3,rfl,_,_,rfl,_,_,rfl,rfl,rfl,?_⟩;refine ⟨_,rfl,pw,u,rfl,Dat.mono s3 _ _ du,by lia,by lia,hLB _ pm,fun p4 H4 g4 np4 ep4=>?_⟩;refine ⟨p4,_,rfl,.inl (SqL.of ep4),?_⟩;rw [aac,pw.nums_len];have s4:=s3.trans g4;have pkd:=lG i ps 0 pk (by lia);rw [aaY,hdrop] at pkd;obtain ⟨⟨k1,k2,k3,k4⟩,k5⟩:=pkd;obtain ⟨p0,hp0⟩:∃ p0,p0=min i 2:=⟨_,rfl⟩
        have p02:p0≤2:=by lia
        have bm:aJ p0=min (i+1) 2:=by rw [hp0];exact o0 i
        rw [← hp0] at k1 k5 ey;have sv:=bN g3 sp;have z0:p0=0→1≤szs (ps.drop (i+1)):=fun e=>k5.rest e;refine ⟨_,rfl,_,rfl,_,rfl,a,_,_,_,rfl,rfl,SqT.of ((G2.trans s4) _ _ ea),rfl,_,rfl,_,_,rfl,_,rfl,ae gs,e,t,g.k,p0,szs (ps.drop i),?_,sv,p02,by lia,by lia,(G2.trans s4) _ _ he,G.ok g.k p0 _ p02 (by lia) (by lia),fun ac rs H5 g5 eac hrows=>?_⟩
        · rw [show ((p0:Nat):Int)=(if (2:Int) < (i:Int) then 2 else (i:Int)) by rw [hp0];split <;> lia];rfl
        have s5:=s4.trans g5;rw [hdrop] at ey;rw [zd] at hrows;have hat:=jr (t:=t) (k:=g.k) sv p02 (u:=pw) (s:=szs (ps.drop (i+1))) k1 z0;refine ⟨_,rfl,_,rfl,_,rfl,_,rfl,_,rfl,_,rfl,_,rfl,pw,u,gs,e,t,m,rfl,Dat.mono s5 _ _ du,(G2.trans s5) _ _ he,G,by lia,by lia,h9,hLB _ pm,g3,sp,k4,fun H6 g6=>?_⟩;refine ⟨ac,rs,_,_,_,_,gv t g.k (aJ p0) (szs (ps.drop (i+1))),rfl,g6 _ _ eac,hrows.keep g6,fun r hr=>?_,fun r hr er=>?_,⟨_,aaf hat.1,rfl,rfl⟩,fun H7 g7=>?_⟩
        · rw [jB hr];exact G.bd _ _ _
        · rw [jB hr,er];have : pw.size+szs (ps.drop (i+1)) - pw.size=szs (ps.drop (i+1)):=by lia
          rw [this]
        rw [bm] at k5;have en:nps (ae gs) t (nfm (ae gs) t n) g.k p0 ((ph,pw) :: ps.drop (i+1))=ahd (hk g.k ph) pw.size (cw (ae gs) t g.k p0 (pw.size+szs (ps.drop (i+1))))+(nfm (ae gs) t n pw * gv t g.k (aJ p0) (szs (ps.drop (i+1)))+nps (ae gs) t (nfm (ae gs) t n) g.k (aJ p0) (ps.drop (i+1))):=rfl;rw [en,bm,← Nat.add_assoc (ahd _ _ _),← Nat.add_assoc y] at ey;rw [bm];clear en;generalize ahd (hk g.k ph) pw.size (cw (ae gs) t g.k p0 (pw.size+szs (ps.drop (i+1))))+nfm (ae gs) t n pw * gv t g.k (min (i+1) 2) (szs (ps.drop (i+1)))=A at ey ⊢;refine ⟨_,_,rfl,rfl,_,rfl,_,rfl,_,_,rfl,rfl,some (.int i),some (.str (hk g.k ph)),some u,some (.int (pw.size:Nat)),some (.ref ac),y+A,?_,s5.trans (g6.trans g7),ey⟩;rw [show ((szs (ps.drop (i+1)):Nat):Int)=(szs (ps.drop i):Nat) - (pw.size:Nat) by lia,show ((y+A:Nat):Int)=(y:Int)+(A:Int) by lia];rfl
      · obtain ⟨_,_,_,_,_,x,rfl,S,ex⟩:=z;rw [List.drop_eq_nil_of_le (by lia),show min us'.length 2=2 by have:=jt g l r true;rw [← eps] at this;lia] at ex;have ex:x=_:=ex;rw [ex];exact ⟨_,rfl,q _ (G2.trans S)⟩
end
open PySem L2
theorem rF (xs:List V) (c m:Nat) (h:c+m≤xs.length):iH xs (some (c:Int)) (some ((c:Int)+(m:Int)))=(xs.drop c).take m:=by
  have e0:HT.sIx xs.length 0 (some (c:Int))=c:=by
    simp only [HT.sIx];split <;> lia
  have e1:HT.sIx xs.length xs.length (some ((c:Int)+(m:Int)))=c+m:=by
    simp only [HT.sIx];split <;> lia
  unfold iH;rw [e0,e1,show c+m - c=m by lia]
theorem sN (a b:List (Bool × Wy)):flN (a++b)=flN a++flN b:=by unfold flN;rw [aan,abz]
theorem uF {ps:List (Bool × Wy)} {i:Nat} {q:Bool × Wy} (h:ps[i]?=some q):((flN ps).drop (szs (ps.take i))).take q.2.size=q.2.nums:=by
  have e:flN ps=flN (ps.take i)++(q.2.nums++flN (ps.drop (i+1))):=by
    conv=>lhs;rw [← aaO i ps,fj h]
    rw [sN];rfl
  rw [e,← oS,List.drop_left,← q.2.nums_len,List.take_left]
section
variable {P:Program} {w:World} {K:aaa} {mg:Str→Option Value} {base:Heap} {f:Addr} {fd:FuncData}
def mX:Sp:=fun vs H Q _=>∃ (g:Sg) (l r:Wy) (a:Addr) (us:List V),vs=[.str (kS g.k),.ref a]∧H a=some (.lst us)∧Paired (PtR H g.k) (lv g.k true (.node g l r)) us∧(Wy.node g l r).size≤20∧∀ v H',Same H H'→Dat H' (Wy.node g l r).fm.data v→Q v H'
abbrev eK:Stmt:=top 35
theorem kJ:FnScope ["kind","parts"] ["kind","parts"] (al eK):=⟨rfl,rfl,rfl,by decide +kernel,rfl,by decide +kernel,by decide +kernel⟩
theorem kX (F:Fun K "put_parts" "put_parts" eK f fd) (B:Bu K mg):FnOk P w K mg base CX0 1 f fd ["kind","parts"] mX:=by
  refine F.ok kJ (fun vs H Q E h=>?_) (fun cdv A outer s H vs Q E hr h=>?_)
  · obtain ⟨g,l,r,a,us,rfl,_⟩:=h;rfl
  obtain ⟨g,l,r,a,us,rfl,ea,hp,h20,q⟩:=h;refine ⟨_,(@ah _ _ _ (@aq _ _ _ _ (@aQ _ _ _ _ _ (@aa _ _ _ _ _ (pv 0) (@aa _ _ _ _ _ (@bT _ _ _ _ _ _ _ _ (@av _ _ _ _ _ _ _ _ bE (pv 0) aB (aA _)) (@cq _ _ _ _ _ _ _ _ _ dz rfl B.ituple aaM (@aa _ _ _ _ _ (pv 1) ad (by rfl)) (by decide) (by decide) (by rfl) (by rfl)) (@cq _ _ _ _ _ _ _ _ _ dz rfl B.ituple aaM (@aa _ _ _ _ _ (@dG _ _ _ _ _ _ _ _ (["head","factor"]) ([none,none]) _ _ _ _ rfl (@b_ _ _ _ _ (pv 1)) rfl trivial trivial (fun _ _ _ _=>⟨(@fe _ _ _ _ _ _ (2) rfl rfl (@ao _ _ _ _ _ (@am _ _ (0) _ (show aaK (["head","factor"]:List Str) by decide +kernel) rfl (Or.inl rfl) (.inr rfl)) (@ao _ _ _ _ _ (@am _ _ (1) _ (show aaK (["head","factor"]:List Str) by decide +kernel) rfl (Or.inl rfl) (.inr rfl)) aV (by rfl)) (by rfl)) (by rfl) (by rfl)),aU,(pv 1)⟩) (by rfl) (by rfl) (by rfl) (by rfl) (by intro _;rfl)) ad (by rfl)) (by decide) (by decide) (by rfl) (by rfl))) ad (by rfl)) (by rfl))))),?_⟩;have ll:=b0 (lv g.k true (.node g l r));rw [a8] at ll;have lp:=aav hp;rw [bI] at q;revert hp q;cases hg:g.k with
  | false =>
    intro hp q;rw [hg] at ll lp;refine ⟨_,rfl,_,rfl,rfl,true,rfl,bA ?_⟩;refine ⟨_,rfl,a,us,rfl,.inl ⟨SqL.of ea,fun p np=>?_⟩⟩;have s1:=Same.new np (.tup us);refine ⟨(by show 2≤sizeLine;decide),fun p2 np2=>?_⟩;have s2:=Same.new np2 (.tup [.str (kS false),.ref p]);refine q _ _ (s1.trans s2) (dg ag (gJ (s2 _ _ ag) (ot (eU (s1.trans s2) hp))))
  | true =>
    intro hp q;rw [hg] at ll lp;refine ⟨_,rfl,_,rfl,rfl,false,rfl,aM ?_⟩;refine ⟨_,rfl,a,rfl,⟨_,SqL.of ea⟩,?_⟩;refine eZ (Trn.list (xs:=us)) (fun i ys H'=>H'=H∧DatAll H ((((lv true true (.node g l r)).map wd).map ab6).take i) ys) ⟨rfl,by simp only [abK,DatAll]⟩ (fun i ys H' hi z=>⟨SqL.of (by rw [z.1];exact ea),aE (by have:=z.2.len;rw [aap] at this;lia)⟩) (fun i x ys H0 H' hi hx z Nx nx=>?_) (fun ys H' z p5 n5=>?_)
    · obtain ⟨rfl,hx⟩:=hx;obtain ⟨rfl,hy⟩:=z;obtain ⟨pp,hpp,o,u,rfl,eo,du⟩:=Paired.at hp hx;refine ⟨o,_,rfl,SqT.of eo,rfl,_,_,rfl,_,_,rfl,rfl,_,rfl,nx _ _ ⟨rfl,?_⟩⟩;rw [aaU,aao,aao,hpp];exact DatAll.app hy (DatAll.one du)
    · obtain ⟨rfl,hy⟩:=z;rw [← lp,aaL (by rw [aac,aac];exact aab _)] at hy;have s5:=Same.new n5 (.lst ys);refine ⟨p5,ys,rfl,.inl ⟨SqL.of ag,fun p np=>?_⟩⟩;have s6:=Same.new np (.tup ys);refine ⟨(by show 2≤sizeLine;decide),fun p2 np2=>?_⟩;have s7:=Same.new np2 (.tup [.str (kS true),.ref p]);have S:=s5.trans (s6.trans s7);exact q _ _ S (dg ag (gJ (s7 _ _ ag) (DatAll.mono S _ _ hy)))
def rU (n:Nat):Sp:=fun vs H Q _=>∃ (w:Wy) (a:Addr) (gs:List Sg) (e:Addr) (t:Tab) (m:Nat) (k:Bool),vs=[.ref a,.str (ae gs),.ref e,.str (kS k),.int (nfm (ae gs) t n w:Nat)]∧H a=some (.lst (w.nums.map V.int))∧H e=some (.dT (kvs t))∧Gd (ae gs) t m∧w.size≤n∧w.size≤m∧m≤9∧w.Bd∧w.no (!k)∧gs.length≤3∧aX gs∧w.within gs∧∀ v H',Same H H'→Dat H' w.fm.data v→Q v H'
abbrev hV:Stmt:=top 52
theorem bp:FnScope ["row","signs","ends","kind","number","parts","start","place","choices","head","many","part_number"] ["row","signs","ends","kind","number"] (al hV):=⟨rfl,rfl,rfl,by decide +kernel,rfl,by decide +kernel,by decide +kernel⟩
theorem nA {tk:Tok} {aK aW:Addr} (F:Fun K "form_at" "form_at" hV f fd) (bF:Binds K fd ["row","signs","ends","kind","number"] []) (mF:mg "form_at" = some (.ref f)) (B:Bu K mg) (B4:Cw P w K mg aK aW) (B5:C5 mg tk) (C_choices_at:Cal P w K mg base "choices_at" 2 ["signs","ends","kind","place","left"] dC) (C_pick_choice:Cal P w K mg base "pick_choice" 1 ["choices","number"] mY) (C_put_parts:Cal P w K mg base "put_parts" 1 ["kind","parts"] mX):∀ n,FnOk P w K mg base CX0 (n+3) f fd ["row","signs","ends","kind","number"] (rU n):=by
  intro n
  induction n with
  | zero =>
    refine ⟨fun vs H Q E h=>?_,fun A outer s H args us vs Q E _ _ _ _ h=>?_⟩
    · obtain ⟨wy,a,gs,e,t,m,k,rfl,_⟩:=h;rfl
    · obtain ⟨wy,a,gs,e,t,m,k,_,_,_,_,h0,_⟩:=h;have:=wy.size_pos;lia
  | succ n ih =>
    have C_form_at:Cal P w K mg base "form_at" (n+3) ["row","signs","ends","kind","number"] (rU n):=⟨f,fd,ih,bF,F.kp,mF⟩
    refine F.ok bp (fun vs H Q E h=>?_) (fun cdv A outer s H vs Q E hr h=>?_)
    · obtain ⟨wy,a,gs,e,t,m,k,rfl,_⟩:=h;rfl
    obtain ⟨wy,a,gs,e,t,m,k,rfl,ea,he,G,hn,hm,h9,hB,hk,g3,sp,hw,q⟩:=h;refine ⟨_,(@af _ _ _ _ _ (@aH _ _ _ _ _ _ _ _ (@av _ _ _ _ _ _ _ _ bE (@ap _ _ _ _ _ _ _ _ _ ar rfl B.ilen aay (@aa _ _ _ _ _ (pv 0) ad (by rfl)) (by decide) (by decide) (by rfl) (by rfl)) ai (aA _)) (@ah _ _ _ (@aq _ _ _ _ (@aC _ _ _ _ _ _ _ aF (pv 0) ai (fun _ _=>rfl)))) au) (@af _ _ _ _ _ (@aw _ _ (5) _ _ _ _ (bp).nd rfl (Or.inl rfl) (@bt _ _ _ _ ad) (by rfl) (by first|exact .inl rfl|exact .inr rfl|assumption)) (@af _ _ _ _ _ (@aw _ _ (6) _ _ _ _ (bp).nd rfl (Or.inl rfl) ai (by rfl) (by first|exact .inl rfl|exact .inr rfl|assumption)) (@af _ _ _ _ _ (@ji _ _ _ _ _ _ aaF (@av _ _ _ _ _ _ _ _ oA (pv 6) (@ap _ _ _ _ _ _ _ _ _ ar rfl B.ilen aay (@aa _ _ _ _ _ (pv 0) ad (by rfl)) (by decide) (by decide) (by rfl) (by rfl)) (aA _)) (@af _ _ _ _ _ (@aw _ _ (7) _ _ _ _ (bp).nd rfl (Or.inl rfl) (@ap _ _ _ _ _ _ _ _ _ (@dL _ rfl) rfl B.imin abo (@aa _ _ _ _ _ (@ap _ _ _ _ _ _ _ _ _ ar rfl B.ilen aay (@aa _ _ _ _ _ (pv 5) ad (by rfl)) (by decide) (by decide) (by rfl) (by rfl)) (@aa _ _ _ _ _ (@bi _ _ (.int 2) _ _ rfl B5.gLATER ⟨_,rfl⟩ (by decide)) ad (by rfl)) (by rfl)) (by decide) (by decide) (by rfl) (by rfl)) (by rfl) (by first|exact .inl rfl|exact .inr rfl|assumption)) (@af _ _ _ _ _ (@aw _ _ (8) _ _ _ _ (bp).nd rfl (Or.inl rfl) (@aj _ _ _ _ _ _ _ _ _ _ _ C_choices_at hr (by lia) rfl (@aa _ _ _ _ _ (pv 1) (@aa _ _ _ _ _ (pv 2) (@aa _ _ _ _ _ (pv 3) (@aa _ _ _ _ _ (pv 7) (@aa _ _ _ _ _ (@ay _ _ _ _ _ _ _ _ cL (@ap _ _ _ _ _ _ _ _ _ ar rfl B.ilen aay (@aa _ _ _ _ _ (pv 0) ad (by rfl)) (by decide) (by decide) (by rfl) (by rfl)) (pv 6)) ad (by rfl)) (by rfl)) (by rfl)) (by rfl)) (by rfl)) (by decide) (by rfl) (by rfl)) (by rfl) (by first|exact .inl rfl|exact .inr rfl|assumption)) (@af _ _ _ _ _ (@cY _ _ _ _ _ _ (@aj _ _ _ _ _ _ _ _ _ _ _ C_pick_choice hr (by lia) rfl (@aa _ _ _ _ _ (pv 8) (@aa _ _ _ _ _ (pv 4) ad (by rfl)) (by rfl)) (by decide) (by rfl) (by rfl)) (@bK _ _ _ _ _ _ rfl (@ao _ _ _ _ _ (@am _ _ (9) _ (bp).nd rfl (Or.inl rfl) (.inl rfl)) (@ao _ _ _ _ _ (@am _ _ (10) _ (bp).nd rfl (Or.inl rfl) (.inl rfl)) (@ao _ _ _ _ _ (@am _ _ (11) _ (bp).nd rfl (Or.inl rfl) (.inl rfl)) (@ao _ _ _ _ _ (@am _ _ (4) _ (bp).nd rfl (Or.inl rfl) (.inl rfl)) aV (by rfl)) (by rfl)) (by rfl)) (by rfl)) (by rfl) (by rfl)) (by rfl) (by rfl) (by rfl)) (@af _ _ _ _ _ (@bv _ _ _ _ (@l9 _ _ _ _ _ _ _ _ _ _ _ _ aa0 abb abc dH (pv 5) (@aa _ _ _ _ _ (@aQ _ _ _ _ _ (@aa _ _ _ _ _ (pv 9) (@aa _ _ _ _ _ (@aj _ _ _ _ _ _ _ _ _ _ _ C_form_at hr (by lia) rfl (@aa _ _ _ _ _ (@gu _ _ _ _ _ _ _ _ _ _ iL (pv 0) (@gr _ _ _ (pv 6)) (@gr _ _ _ (@ay _ _ _ _ _ _ _ _ bL (pv 6) (pv 10)))) (@aa _ _ _ _ _ (pv 1) (@aa _ _ _ _ _ (pv 2) (@aa _ _ _ _ _ (@gw _ _ _ _ _ _ _ _ _ _ _ B4.dWITHIN rfl rfl rfl (@bi _ _ (.ref aW) _ _ rfl B4.gWITHIN rfl (by decide)) rfl (pv 3) (fun _ _=>rfl)) (@aa _ _ _ _ _ (pv 11) ad (by rfl)) (by rfl)) (by rfl)) (by rfl)) (by rfl)) (by decide) (by rfl) (by rfl)) ad (by rfl)) (by rfl))) ad (by rfl)) (by rfl) (by rfl) (by rfl) (by rfl) (by rfl)) (by rfl)) (@ah _ _ _ (@eV _ _ (6) _ _ _ _ _ _ (bp).nd rfl (Or.inl rfl) (pv 10) jz (by first|exact .inl rfl|exact .inr rfl|assumption)))))))) (@ah _ _ _ (@aq _ _ _ _ (@aj _ _ _ _ _ _ _ _ _ _ _ C_put_parts hr (by lia) rfl (@aa _ _ _ _ _ (pv 3) (@aa _ _ _ _ _ (pv 5) ad (by rfl)) (by rfl)) (by decide) (by rfl) (by rfl)))))))),?_⟩;cases wy with
    | num i =>
      refine ⟨_,rfl,a,_,rfl,.inl (SqL.of ea),rfl,_,rfl,fD rfl ?_⟩;exact ⟨_,rfl,a,_,_,_,rfl,rfl,SqL.of ea,rfl,q _ _ (Same.refl _) (by simp only [Wy.fm,Fm.data,Dat])⟩
    | node g l r =>
      have eg:g.k=k:=by rw [iP hk,Bool.not_not]
      subst eg;obtain ⟨ps,eps⟩:∃ ps,ps=lv g.k true (.node g l r):=⟨_,rfl⟩
      have pk:=mB g3 sp hw;have hlw:=bn (gs:=gs) g.k true _ hw;have hless:=fun q hq=>bw (g:=g) (l:=l) (r:=r) (b:=true) (p:=q) hq;have hNF:nfm (ae gs) t (n+1) (.node g l r)=nps (ae gs) t (nfm (ae gs) t n) g.k 0 (lv g.k true (.node g l r)):=rfl;rw [hNF];have hLB:=fun p hp=>j8 (k:=g.k) (b:=true) hB (p:=p) hp;rw [← eps] at pk hlw hless hLB ⊢;have lz:=b0 ps;have zp:szs ps=(Wy.node g l r).size:=by rw [eps,a8]
      have z2:=bP g l r;have nl:=(Wy.node g l r).nums_len;have nf:(Wy.node g l r).nums=flN ps:=by rw [eps];exact (cO g.k true _).symm
      have sv:=bN g3 sp;have ml:((Wy.node g l r).nums.map V.int).length=szs ps:=by rw [aac,nl,zp]
      refine ⟨_,rfl,a,_,rfl,.inl (SqL.of ea),rfl,_,rfl,e_ (fun z=>by rw [ml] at z;injection z with z;lia) ?_⟩;refine ⟨(by show 0≤sizeLine;decide),fun p0 n0=>?_⟩;have g0:=Same.new n0 (.lst []);have e0:upd H p0 (.lst []) p0=some (.lst []):=ag;generalize upd H p0 (.lst [])=H0 at g0 e0 ⊢;have ne0:∀ b o,H b=some o→b≠p0:=fun b o hb z=>by rw [z,n0] at hb;cases hb
      refine ⟨fun mm σ H'=>∃ (i:Nat) (us:List V) (c8 c9 c10 c11 c12:Option V),σ=[some (.ref a),some (.str (ae gs)),some (.ref e),some (.str (kS g.k)),some (.int (nps (ae gs) t (nfm (ae gs) t n) g.k (min i 2) (ps.drop i):Nat)),some (.ref p0),some (.int (szs (ps.take i):Nat)),c8,c9,c10,c11,c12]∧But p0 H0 H'∧H' p0=some (.lst us)∧Paired (PtR H' g.k) (ps.take i) us∧i≤ps.length∧mm=ps.length - i,?_,?_⟩
      · exact ⟨_,0,[],none,none,none,none,none,by rw [abS];rfl,But.refl,e0,.nil,aaI _,rfl⟩
      rintro mm σ H1 ⟨i,us,c8,c9,c10,c11,c12,rfl,B1,e1,hp,hi,rfl⟩;have ea1:=B1 _ _ (ne0 _ _ ea) (g0 _ _ ea);have he1:=B1 _ _ (ne0 _ _ he) (g0 _ _ he);refine ⟨_,rfl,_,rfl,a,_,rfl,.inl (SqL.of ea1),_,_,rfl,rfl,?_⟩;rw [ml];have zi:=lJ ps i;by_cases hc:i < ps.length
      · have hpp:=aag hc;obtain ⟨⟨ph,pw⟩,hpq⟩:∃ q,ps[i]=q:=⟨_,rfl⟩
        rw [hpq] at hpp;have pm:=aaf hpp;have hlt:pw.size < (Wy.node g l r).size:=hless (ph,pw) pm;have hdrop:=fj hpp;have zd:szs (ps.drop i)=pw.size+szs (ps.drop (i+1)):=by rw [hdrop,bf]
        have up:=pw.size_pos;have lus:=aav hp;rw [aap,Nat.min_eq_left (by lia)] at lus;refine ⟨true,congrArg V.bl (decide_eq_true (by lia)),bA ⟨fun σ' H'=>∃ m',m' < ps.length - i∧∃ (i:Nat) (us:List V) (c8 c9 c10 c11 c12:Option V),σ'=[some (.ref a),some (.str (ae gs)),some (.ref e),some (.str (kS g.k)),some (.int (nps (ae gs) t (nfm (ae gs) t n) g.k (min i 2) (ps.drop i):Nat)),some (.ref p0),some (.int (szs (ps.take i):Nat)),c8,c9,c10,c11,c12]∧But p0 H0 H'∧H' p0=some (.lst us)∧Paired (PtR H' g.k) (ps.take i) us∧i≤ps.length∧m'=ps.length - i,fun _ _ h=>h,?_⟩⟩;have pkd:=lG i ps 0 pk (by lia);rw [aaY] at pkd;have pkd2:=pkd;rw [hdrop] at pkd2;obtain ⟨⟨k1,k2,k3,k4⟩,k5⟩:=pkd2;obtain ⟨q0,hq0⟩:∃ q0,q0=min i 2:=⟨_,rfl⟩
        have q02:q0≤2:=by lia
        have bm:aJ q0=min (i+1) 2:=by rw [hq0];exact o0 i
        rw [← hq0] at pkd k1 k5 ⊢;have z0:q0=0→1≤szs (ps.drop (i+1)):=fun e=>k5.rest e;refine ⟨_,rfl,p0,us,rfl,.inl (SqL.of e1),_,_,rfl,?_⟩;refine ⟨_,rfl,_,rfl,_,rfl,_,rfl,_,rfl,a,_,rfl,.inl (SqL.of ea1),_,rfl,_,_,rfl,rfl,ae gs,e,t,g.k,q0,szs (ps.drop i),?_,sv,q02,by lia,by lia,he1,G.ok g.k q0 _ q02 (by lia) (by lia),fun ac rs H2 g2 eac hrows=>?_⟩
        · rw [ml,show ((q0:Nat):Int)=(if (2:Int) < (us.length:Int) then 2 else (us.length:Int)) by rw [hq0,← lus];split <;> lia,show ((szs (ps.drop i):Nat):Int)=((szs ps:Nat):Int) - ((szs (ps.take i):Nat):Int) by lia];rfl
        rw [hdrop] at pkd hrows;rw [bf] at hrows;have hN:∀ q∈(ph,pw) :: ps.drop (i+1),nfm (ae gs) t n q.2 < pf t g.k q.2.size:=fun q hq=>by
          have hq':q∈ps:=by rw [← hdrop] at hq;exact List.mem_of_mem_drop hq
          have:=hless q hq';exact lc g3 sp G n q.2 g.k (by lia) (by lia) (hlw q hq') (by rw [eps] at hq';exact cQ _ _ _ _ hq')
        have hpick:=qH sv G (N:=nfm (ae gs) t n) q02 pkd (by rw [← hdrop];lia) hN;rw [bm] at hpick;refine ⟨_,rfl,_,rfl,ac,rs,_,nps (ae gs) t (nfm (ae gs) t n) g.k q0 (ps.drop i),_,_,_,_,rfl,eac,hrows,fun r hr=>?_,(by rw [hdrop];exact hpick),fun p2 H3 g3' ep2=>?_⟩
        · rw [jB hr];exact G.bd _ _ _
        refine ⟨p2,_,rfl,SqT.of ep2,rfl,_,_,rfl,_,_,rfl,_,_,rfl,_,_,rfl,rfl,?_⟩;have s3:=g2.trans g3';refine ⟨_,rfl,.inl ⟨rfl,_,SqL.of (s3 _ _ e1)⟩,_,rfl,_,rfl,_,rfl,_,rfl,_,rfl,_,rfl,_,_,rfl,rfl,_,rfl,a,_,rfl,SqL.of (s3 _ _ ea1),fun p4 np4=>?_⟩;rw [rF _ _ _ (by rw [ml];lia),← ab0,← ab1,nf,uF hpp];have s4:=s3.trans (Same.new np4 (.lst (pw.nums.map V.int)));refine ⟨_,rfl,_,rfl,_,rfl,.inr (kS g.k),.str (kS (!g.k)),rfl,(by cases g.k <;> decide +kernel),_,rfl,pw,p4,gs,e,t,m,(!g.k),rfl,ag,s4 _ _ he1,G,by lia,by lia,h9,hLB _ pm,(by rw [Bool.not_not];exact k3),g3,sp,k4,fun v H5 g5 dv=>?_⟩;have s5:=s4.trans g5;refine ⟨(by show 2≤sizeLine;decide),fun p6 np6=>?_⟩;have st:=Same.new np6 (.tup [.str (Put.hk g.k ph),v]);have s6:=s5.trans st;refine ⟨p0,us,_,rfl,rfl,s6 _ _ e1,aE (by lia),?_⟩;have hpt:PtR (upd H5 p6 (.tup [.str (Put.hk g.k ph),v])) g.k (ph,pw) (.ref p6):=⟨p6,v,rfl,ag,Dat.mono st _ _ dv⟩
        have hp6:=eU s6 hp;have e6:=s6 _ _ e1;generalize upd H5 p6 (.tup [.str (Put.hk g.k ph),v])=H6 at s6 hpt hp6 e6 ⊢;have bu:But p0 H6 (upd H6 p0 (.lst (us++[.ref p6]))):=But.put;have tu:=Tups.but bu e6;refine ⟨_,rfl,_,rfl,_,_,rfl,rfl,ps.length - (i+1),by lia,i+1,us++[.ref p6],some (.int (if (2:Int) < (us.length:Int) then 2 else (us.length:Int))),some (.ref ac),some (.str (Put.hk g.k ph)),some (.int (pw.size:Nat)),some (.int (nfm (ae gs) t n pw:Nat)),?_,B1.trans ((But.of s6).trans bu),ag,?_,by lia,rfl⟩
        · have e1:((szs (ps.take (i+1)):Nat):Int)=(szs (ps.take i):Nat)+(pw.size:Nat):=by
            rw [bx hpp,iJ];have : szs [(ph,pw)]=pw.size:=by simp [szs]
            lia
          rw [e1];rfl
        · rw [bx hpp];refine Paired.app (gn tu (fun p hp=>hLB p (abt hp)) hp6) (gn tu (fun p hp=>by rw [aau.mp hp];exact hLB _ pm) (.cons hpt .nil))
      · have ei:i=ps.length:=by lia
        subst ei;rw [aaS] at hp ⊢;refine ⟨false,congrArg V.bl (decide_eq_false (by lia)),aM ?_⟩;refine ⟨_,rfl,_,rfl,g,l,r,p0,us,rfl,e1,by rw [← eps];exact hp,by lia,fun v H2 s2 dv=>q v H2 (fun b o hb=>s2 _ _ (B1 _ _ (ne0 _ _ hb) (g0 _ _ hb))) dv⟩
end
open PySem L2
theorem Gd.z1 {z:Str} {t:Tab} {m:Nat} (G:Gd z t m) (h:1≤m) (hz:z∈bZ):gv t false 0 1=0:=by
  unfold gv;rw [G.sm false 0 1 (by decide) (aab _) h];have : ∀ cs:List Nat,bj (chF t false 1 1 0 cs)=0:=fun cs=>by
    induction cs with
    | nil=>rfl
    | cons c cs ih =>
      show bj (inF t false 1 1 ⟨#[c]⟩ 0++chF t false 1 1 0 cs)=0;rw [iX,ih];rfl
  exact this _
theorem DGet.e {H:Hp} {e p:Addr} {t:Tab} {k:Bool} {i l r:Nat} (he:H e=some (.dT (kvs t))) (hp:H p=some (.tup [.str (kS k),.int i,.int l])) (hg:dc t (k,i,l)=some r):DGet H e (.ref p) (some (.int r)):=by
  have z:=DGet.t (a:=e) (b:=p) (kvs:=kvs t) (k:=kyE (k,i,l)) he hp;rw [fb,hg] at z;exact z
section
variable {P:Program} {w:World} {K:aaa} {mg:Str→Option Value} {base:Heap} {f:Addr} {fd:FuncData}
def oh:Sp:=fun vs H Q _=>∃ (wy:Wy) (a:Addr) (gs:List Sg) (t:Tab),vs=[.ref a,.str (ae gs),.int (nft (ae gs) t 9 wy:Nat)]∧H a=some (.lst (wy.nums.map V.int))∧gh (ae gs) (stL 1 wy.size) tab0=some t∧wy.size≤9∧wy.Bd∧gs.length≤3∧aX gs∧wy.within gs∧∀ v H',Same H H'→Dat H' wy.fm.data v→Q v H'
abbrev fN:Stmt:=top 42
theorem eI:FnScope ["row","signs","number","ends","sums"] ["row","signs","number"] (al fN):=⟨rfl,rfl,rfl,by decide +kernel,rfl,by decide +kernel,by decide +kernel⟩
theorem mf (F:Fun K "nth_form" "nth_form" fN f fd) (B:Bu K mg) (C_need_row:Cal P w K mg base "need_row" 3 ["thing"] fc) (C_need_signs:Cal P w K mg base "need_signs" 2 ["thing"] cD) (C_count_ends:Cal P w K mg base "count_ends" 3 ["signs","many"] i7) (C_is_whole:Cal P w K mg base "is_whole" 1 ["thing"] (bB K)) (C_count_forms:Cal P w K mg base "count_forms" 1 ["ends","many"] iK) (C_form_at:Cal P w K mg base "form_at" 12 ["row","signs","ends","kind","number"] (rU 9)):FnOk P w K mg base CX0 13 f fd ["row","signs","number"] oh:=by
  refine F.ok eI (fun vs H Q E h=>?_) (fun cdv A outer s H vs Q E hr h=>?_)
  · obtain ⟨wy,a,gs,t,rfl,_⟩:=h;rfl
  obtain ⟨wy,a,gs,t,rfl,ea,hsim,h9,hB,g3,sp,hw,q⟩:=h;refine ⟨_,(@af _ _ _ _ _ (@bv _ _ _ _ (@aj _ _ _ _ _ _ _ _ _ _ _ C_need_row hr (by lia) rfl (@aa _ _ _ _ _ (pv 0) ad (by rfl)) (by decide) (by rfl) (by rfl)) (by rfl)) (@af _ _ _ _ _ (@bv _ _ _ _ (@aj _ _ _ _ _ _ _ _ _ _ _ C_need_signs hr (by lia) rfl (@aa _ _ _ _ _ (pv 1) ad (by rfl)) (by decide) (by rfl) (by rfl)) (by rfl)) (@af _ _ _ _ _ (@aw _ _ (3) _ _ _ _ (eI).nd rfl (Or.inl rfl) (@aj _ _ _ _ _ _ _ _ _ _ _ C_count_ends hr (by lia) rfl (@aa _ _ _ _ _ (pv 1) (@aa _ _ _ _ _ (@ap _ _ _ _ _ _ _ _ _ ar rfl B.ilen aay (@aa _ _ _ _ _ (pv 0) ad (by rfl)) (by decide) (by decide) (by rfl) (by rfl)) ad (by rfl)) (by rfl)) (by decide) (by rfl) (by rfl)) (by rfl) (by first|exact .inl rfl|exact .inr rfl|assumption)) (@af _ _ _ _ _ (@aH _ _ _ _ _ _ _ _ (@PW.pt _ _ _ (@fB _ _ _ _ _ _ _ (@bJ _ _ _ _ (@aR _ _ _ (@aj _ _ _ _ _ _ _ _ _ _ _ C_is_whole hr (by lia) rfl (@aa _ _ _ _ _ (pv 2) ad (by rfl)) (by decide) (by rfl) (by rfl)) (by intro _;rfl))) (@eT _ _ _ _ (@bJ _ _ _ _ (@jh _ _ _ _ _ _ _ _ _ _ _ _ iA oA ai (pv 2) (@aj _ _ _ _ _ _ _ _ _ _ _ C_count_forms hr (by lia) rfl (@aa _ _ _ _ _ (pv 3) (@aa _ _ _ _ _ (@ap _ _ _ _ _ _ _ _ _ ar rfl B.ilen aay (@aa _ _ _ _ _ (pv 0) ad (by rfl)) (by decide) (by decide) (by rfl) (by rfl)) ad (by rfl)) (by rfl)) (by decide) (by rfl) (by rfl)) (by with_unfolding_all rfl)))))) (@ah _ _ _ dE) au) (@af _ _ _ _ _ (@aw _ _ (4) _ _ _ _ (eI).nd rfl (Or.inl rfl) (@cz _ _ _ _ _ _ (u1 hr.units) (pv 3) (@aQ _ _ _ _ _ (@aa _ _ _ _ _ aB (@aa _ _ _ _ _ ai (@aa _ _ _ _ _ (@ap _ _ _ _ _ _ _ _ _ ar rfl B.ilen aay (@aa _ _ _ _ _ (pv 0) ad (by rfl)) (by decide) (by decide) (by rfl) (by rfl)) ad (by rfl)) (by rfl)) (by rfl))) (fun _ _=>rfl)) (by rfl) (by first|exact .inl rfl|exact .inr rfl|assumption)) (@af _ _ _ _ _ (@aH _ _ _ _ _ _ _ _ (@av _ _ _ _ _ _ _ _ oA (pv 2) (pv 4) (aA _)) (@ah _ _ _ (@aq _ _ _ _ (@aj _ _ _ _ _ _ _ _ _ _ _ C_form_at hr (by lia) rfl (@aa _ _ _ _ _ (pv 0) (@aa _ _ _ _ _ (pv 1) (@aa _ _ _ _ _ (pv 3) (@aa _ _ _ _ _ aB (@aa _ _ _ _ _ (pv 2) ad (by rfl)) (by rfl)) (by rfl)) (by rfl)) (by rfl)) (by decide) (by rfl) (by rfl)))) au) (@ah _ _ _ (@aq _ _ _ _ (@aj _ _ _ _ _ _ _ _ _ _ _ C_form_at hr (by lia) rfl (@aa _ _ _ _ _ (pv 0) (@aa _ _ _ _ _ (pv 1) (@aa _ _ _ _ _ (pv 3) (@aa _ _ _ _ _ aB (@aa _ _ _ _ _ (@ay _ _ _ _ _ _ _ _ cL (pv 2) (pv 4)) ad (by rfl)) (by rfl)) (by rfl)) (by rfl)) (by rfl)) (by decide) (by rfl) (by rfl)))))))))),?_⟩;have z1:=wy.size_pos;have nl:=wy.nums_len;have sv:=bN g3 sp;obtain ⟨t',e',G⟩:=gG sv z1 h9;cases hsim.symm.trans e';have ml:(wy.nums.map V.int).length=wy.size:=by rw [aac,nl]
  refine ⟨_,rfl,a,wy.nums,rfl,ea,by lia,by lia,fun H1 g1=>?_⟩;refine ⟨_,rfl,gs,rfl,sp,?_⟩;refine ⟨_,rfl,_,rfl,a,_,rfl,.inl (SqL.of (g1 _ _ ea)),?_⟩;rw [ml];refine ⟨ae gs,wy.size,t,rfl,sv,z1,h9,hsim,fun e H2 g2 he=>?_⟩;have G2:=g1.trans g2;refine ⟨_,rfl,_,"int",rfl,.int _,true,rfl,aM ?_⟩;have hlt:=qJ g3 sp G h9 (aab _) hw;have eg:=G.get (k:=false) (p:=0) (l:=wy.size) (aaI _) z1 (aab _);refine ⟨_,rfl,_,_,rfl,rfl,true,congrArg V.bl (decide_eq_true (by lia)),bA ?_⟩;refine ⟨_,rfl,_,rfl,a,_,rfl,.inl (SqL.of (G2 _ _ ea)),?_⟩;rw [ml];refine ⟨e,t,wy.size,_,rfl,he,G.forms z1 (aab _),fun H3 g3'=>?_⟩;have G3:=G2.trans g3';refine ⟨_,_,rfl,rfl,true,congrArg V.bl (decide_eq_true (by lia)),aM ?_⟩;refine ⟨_,rfl,_,rfl,a,_,rfl,.inl (SqL.of (G3 _ _ ea)),(by show 3≤sizeLine;decide),fun p np=>?_⟩;rw [ml];have sp3:=Same.new np (.tup [.str "sum",.int 0,.int (wy.size:Nat)]);have G4:=G3.trans sp3;have he4:=(g3'.trans sp3) _ _ he;refine ⟨e,_,rfl,DGet.e (k:=false) (i:=0) he4 ag eg,?_⟩;generalize upd H3 p (.tup [.str "sum",.int 0,.int (wy.size:Nat)])=H4 at G4 he4 ⊢;cases wy with
  | num i =>
    have e1:gv t false 0 (Wy.num i).size=0:=G.z1 z1 sv;rw [e1];refine ⟨_,rfl,_,rfl,_,_,rfl,rfl,false,congrArg V.bl (decide_eq_false (by show ¬ ((0:Nat):Int) < ((0:Nat):Int);decide)),aM ?_⟩;refine ⟨_,rfl,_,rfl,_,rfl,_,rfl,_,rfl,_,_,rfl,rfl,.num i,a,gs,e,t,_,true,rfl,G4 _ _ ea,he4,G,h9,aab _,h9,hB,trivial,g3,sp,hw,fun v H5 g5 dv=>q v H5 (G4.trans g5) dv⟩
  | node g l r =>
    have en:nft (ae gs) t 9 (.node g l r)=(if g.k=true then gv t false 0 (Wy.node g l r).size else 0)+nfm (ae gs) t 9 (.node g l r):=rfl;have bd:=gC g3 sp G (n:=9) h9 (aab _) hw;cases ek:g.k with
    | true =>
      rw [ek,if_pos rfl] at en;refine ⟨_,rfl,_,rfl,_,_,rfl,rfl,false,congrArg V.bl (decide_eq_false (by lia)),aM ?_⟩;refine ⟨_,rfl,_,rfl,_,rfl,_,rfl,_,rfl,_,_,rfl,rfl,.node g l r,a,gs,e,t,_,true,?_,G4 _ _ ea,he4,G,h9,aab _,h9,hB,(show g.k≠!true by rw [ek];decide),g3,sp,hw,fun v H5 g5 dv=>q v H5 (G4.trans g5) dv⟩;rw [en,show ((nfm (ae gs) t 9 (.node g l r):Nat):Int)=((gv t false 0 (Wy.node g l r).size+nfm (ae gs) t 9 (.node g l r):Nat):Int) - ((gv t false 0 (Wy.node g l r).size:Nat):Int) by lia];rfl
    | false =>
      rw [ek,if_neg (by decide),aaY] at en;rw [ek] at bd;refine ⟨_,rfl,_,rfl,_,_,rfl,rfl,true,congrArg V.bl (decide_eq_true (by lia)),bA ?_⟩;refine ⟨_,rfl,_,rfl,_,rfl,_,rfl,.node g l r,a,gs,e,t,_,false,?_,G4 _ _ ea,he4,G,h9,aab _,h9,hB,(show g.k≠!false by rw [ek];decide),g3,sp,hw,fun v H5 g5 dv=>q v H5 (G4.trans g5) dv⟩;rw [en];rfl
def oi:Sp:=fun vs H Q _=>∃ (wy:Wy) (a:Addr) (v:V) (gs:List Sg) (t:Tab),vs=[.ref a,.str (ae gs),v]∧H a=some (.lst (wy.nums.map V.int))∧Dat H wy.fm.data v∧gh (ae gs) (stL 1 wy.size) tab0=some t∧wy.size≤9∧wy.Bd∧gs.length≤3∧aX gs∧wy.within gs∧∀ H',Same H H'→Q (.int (nft (ae gs) t 9 wy:Nat)) H'
abbrev cj:Stmt:=top 43
theorem b8:FnScope ["row","signs","form","ends","ahead"] ["row","signs","form"] (al cj):=⟨rfl,rfl,rfl,by decide +kernel,rfl,by decide +kernel,by decide +kernel⟩
theorem gz (F:Fun K "number_of_form" "number_of_form" cj f fd) (B:Bu K mg) (C_need_form:Cal P w K mg base "need_form" 12 ["row","signs","thing"] rQ) (C_count_ends:Cal P w K mg base "count_ends" 3 ["signs","many"] i7) (C_is_whole:Cal P w K mg base "is_whole" 1 ["thing"] (bB K)) (C_number_at:Cal P w K mg base "number_at" 21 ["form","signs","ends"] (rR 9)):FnOk P w K mg base CX0 22 f fd ["row","signs","form"] oi:=by
  refine F.ok b8 (fun vs H Q E h=>?_) (fun cdv A outer s H vs Q E hr h=>?_)
  · obtain ⟨wy,a,v,gs,t,rfl,_⟩:=h;rfl
  obtain ⟨wy,a,v,gs,t,rfl,ea,hd',hsim,h9,hB,g3,sp,hw,q⟩:=h;refine ⟨_,(@af _ _ _ _ _ (@bv _ _ _ _ (@aj _ _ _ _ _ _ _ _ _ _ _ C_need_form hr (by lia) rfl (@aa _ _ _ _ _ (pv 0) (@aa _ _ _ _ _ (pv 1) (@aa _ _ _ _ _ (pv 2) ad (by rfl)) (by rfl)) (by rfl)) (by decide) (by rfl) (by rfl)) (by rfl)) (@af _ _ _ _ _ (@aH _ _ _ _ _ _ _ _ (@aR _ _ _ (@aj _ _ _ _ _ _ _ _ _ _ _ C_is_whole hr (by lia) rfl (@aa _ _ _ _ _ (pv 2) ad (by rfl)) (by decide) (by rfl) (by rfl)) (by intro _;rfl)) (@ah _ _ _ (@aq _ _ _ _ ai)) au) (@af _ _ _ _ _ (@aw _ _ (3) _ _ _ _ (b8).nd rfl (Or.inl rfl) (@aj _ _ _ _ _ _ _ _ _ _ _ C_count_ends hr (by lia) rfl (@aa _ _ _ _ _ (pv 1) (@aa _ _ _ _ _ (@ap _ _ _ _ _ _ _ _ _ ar rfl B.ilen aay (@aa _ _ _ _ _ (pv 0) ad (by rfl)) (by decide) (by decide) (by rfl) (by rfl)) ad (by rfl)) (by rfl)) (by decide) (by rfl) (by rfl)) (by rfl) (by first|exact .inl rfl|exact .inr rfl|assumption)) (@af _ _ _ _ _ (@aw _ _ (4) _ _ _ _ (b8).nd rfl (Or.inl rfl) (@bT _ _ _ _ _ _ _ _ (@av _ _ _ _ _ _ _ _ bE (@aC _ _ _ _ _ _ _ bc (pv 2) ai (fun _ _=>rfl)) aB (aA _)) ai (@cz _ _ _ _ _ _ (u1 hr.units) (pv 3) (@aQ _ _ _ _ _ (@aa _ _ _ _ _ aB (@aa _ _ _ _ _ ai (@aa _ _ _ _ _ (@ap _ _ _ _ _ _ _ _ _ ar rfl B.ilen aay (@aa _ _ _ _ _ (pv 0) ad (by rfl)) (by decide) (by decide) (by rfl) (by rfl)) ad (by rfl)) (by rfl)) (by rfl))) (fun _ _=>rfl))) (by rfl) (by first|exact .inl rfl|exact .inr rfl|assumption)) (@ah _ _ _ (@aq _ _ _ _ (@ay _ _ _ _ _ _ _ _ bL (pv 4) (@aj _ _ _ _ _ _ _ _ _ _ _ C_number_at hr (by lia) rfl (@aa _ _ _ _ _ (pv 2) (@aa _ _ _ _ _ (pv 1) (@aa _ _ _ _ _ (pv 3) ad (by rfl)) (by rfl)) (by rfl)) (by decide) (by rfl) (by rfl))))))))),?_⟩;have z1:=wy.size_pos;have nl:=wy.nums_len;have sv:=bN g3 sp;obtain ⟨t',e',G⟩:=gG sv z1 h9;cases hsim.symm.trans e';have ml:(wy.nums.map V.int).length=wy.size:=by rw [aac,nl]
  refine ⟨_,rfl,_,rfl,_,rfl,wy,a,v,gs,rfl,ea,hd',h9,hB,g3,sp,hw,fun H1 g1=>?_⟩;have hd1:=Dat.mono g1 _ _ hd';cases wy with
  | num i =>
    have e:v=.int i:=by simpa only [Wy.fm,Fm.data,Dat] using hd'
    subst e;exact ⟨_,rfl,_,"int",rfl,.int i,true,rfl,bA (q H1 g1)⟩
  | node g l r =>
    obtain ⟨b,c,us,rfl,eb,ec,i1,i2⟩:=de hd1;refine ⟨_,rfl,_,"tuple",rfl,.tup eb,false,rfl,aM ?_⟩;refine ⟨_,rfl,_,rfl,a,_,rfl,.inl (SqL.of (g1 _ _ ea)),?_⟩;rw [ml];refine ⟨ae gs,_,t,rfl,sv,z1,h9,hsim,fun e H2 g2 he=>?_⟩;have G2:=g1.trans g2;have eb2:=g2 _ _ eb;have en:nft (ae gs) t 9 (.node g l r)=(if g.k=true then gv t false 0 (Wy.node g l r).size else 0)+nfm (ae gs) t 9 (.node g l r):=rfl;have eg:=G.get (k:=false) (p:=0) (l:=(Wy.node g l r).size) (aaI _) z1 (aab _);refine ⟨_,rfl,b,_,_,_,rfl,rfl,SqT.of eb2,rfl,?_⟩;rw [en] at q;cases ek:g.k with
    | true =>
      rw [ek,if_pos rfl] at q;refine ⟨rfl,false,rfl,aM ?_⟩;refine ⟨_,rfl,_,rfl,a,_,rfl,.inl (SqL.of (G2 _ _ ea)),(by show 3≤sizeLine;decide),fun p np=>?_⟩;rw [ml];have sp3:=Same.new np (.tup [.str "sum",.int 0,.int ((Wy.node g l r).size:Nat)]);have G4:=G2.trans sp3;have he4:=sp3 _ _ he;refine ⟨e,_,rfl,DGet.e (k:=false) (i:=0) he4 ag eg,?_⟩;refine ⟨_,rfl,_,rfl,_,rfl,_,rfl,.node g l r,_,gs,e,t,_,rfl,Dat.mono (g2.trans sp3) _ _ hd1,he4,G,h9,aab _,h9,hB,g3,sp,hw,fun H5 g5=>⟨_,_,rfl,rfl,q H5 (G4.trans g5)⟩⟩
    | false =>
      rw [ek,if_neg (by decide),aaY] at q;refine ⟨rfl,true,rfl,bA ?_⟩;refine ⟨_,rfl,_,rfl,_,rfl,_,rfl,.node g l r,_,gs,e,t,_,rfl,Dat.mono g2 _ _ hd1,he,G,h9,aab _,h9,hB,g3,sp,hw,fun H5 g5=>⟨_,_,rfl,rfl,?_⟩⟩;have z:=q H5 (G2.trans g5);rw [show ((nfm (ae gs) t 9 (.node g l r):Nat):Int)=0+((nfm (ae gs) t 9 (.node g l r):Nat):Int) by lia] at z;exact z
end
open PySem L2
def Kt.app:Kt→Kt→Kt
  | .cons x r,k=>.cons x (r.app k)
  | _,k=>k
theorem KtL.app {H:Hp} {k':Kt} {zs:List V} (hz:KtL H k' zs):∀ {k:Kt} {ys:List V},KtL H k ys→KtL H (k.app k') (ys++zs)
  | .int _,_,h=>absurd h id
  | .nil,_,h=>by cases (show _=[] from h);exact hz
  | .cons x r,ys,h=>by
    obtain ⟨y,zs',rfl,h1,h2⟩:=h;exact ⟨y,zs'++zs,rfl,h1,KtL.app hz h2⟩
theorem oW {N:Wy→Kt} (qs:List (Bool × Wy)):∀ ps:List (Bool × Wy),fks N (ps++qs)=(fks N ps).app (fks N qs)
  | []=>rfl
  | (h,u) :: r=>by
    show Kt.cons _ (.cons _ (.cons _ (fks N (r++qs))))=.cons _ (.cons _ (.cons _ ((fks N r).app (fks N qs))));rw [oW qs r]
theorem oU {N:Wy→Kt}:∀ ps:List (Bool × Wy),(fks N ps).toL.length=3 * ps.length
  | []=>rfl
  | (h,u) :: r=>by
    show ((fks N r).toL.length+1+1+1)=3 * (r.length+1);rw [oU r];lia
theorem o_ (ps:List (Bool × Wy)):(ps.map fun p=>(p.2.size:Int)).sum=(szs ps:Int):=by
  induction ps with
  | nil=>rfl
  | cons p r ih=>rw [aaz,abl,ih];simp [szs]
def PdR (H:Hp) (p:Bool × Wy) (u:V):Prop:=Dat H p.2.fm.data u
theorem oy {H:Hp}:∀ {ps:List (Bool × Wy)} {us:List V},DatAll H ((ps.map wd).map ab6) us→Paired (PdR H) ps us
  | [],us,h=>by simp only [abE,DatAll] at h;subst h;exact .nil
  | p :: ps,us,h=>by
    simp only [aaz,DatAll] at h;obtain ⟨v,r,rfl,h1,h2⟩:=h;exact .cons h1 (oy h2)
section
variable {P:Program} {w:World} {K:aaa} {mg:Str→Option Value} {base:Heap} {f:Addr} {fd:FuncData}
def gc (n:Nat):Sp:=fun vs H Q _=>∃ (wy:Wy) (v:V),vs=[v]∧Dat H wy.fm.data v∧wy.size≤n∧wy.size≤9∧∀ H',Same H H'→Q (.int (wy.size:Nat)) H'
abbrev dt:Stmt:=top 68
theorem jc:FnScope ["form"] ["form"] (al dt):=⟨rfl,rfl,rfl,by decide +kernel,rfl,by decide +kernel,by decide +kernel⟩
theorem jq (F:Fun K "_law_leaves" "_law_leaves" dt f fd) (bF:Binds K fd ["form"] []) (mF:mg "_law_leaves" = some (.ref f)) (B:Bu K mg):∀ n,FnOk P w K mg base CX0 (n+1) f fd ["form"] (gc n):=by
  intro n
  induction n with
  | zero =>
    refine ⟨fun vs H Q E h=>?_,fun A outer s H args us vs Q E _ _ _ _ h=>?_⟩
    · obtain ⟨w,v,rfl,_⟩:=h;rfl
    · obtain ⟨w,v,_,_,h2,_⟩:=h;have:=w.size_pos;lia
  | succ n ih =>
    have C__law_leaves:Cal P w K mg base "_law_leaves" (n+1) ["form"] (gc n):=⟨f,fd,ih,bF,F.kp,mF⟩
    refine F.ok jc (fun vs H Q E h=>?_) (fun cdv A outer s H vs Q E hr h=>?_)
    · obtain ⟨w,v,rfl,_⟩:=h;rfl
    obtain ⟨wy,v,rfl,hd',hn,h9,q⟩:=h;refine ⟨_,(@af _ _ _ _ _ (@aH _ _ _ _ _ _ _ _ (@bJ _ _ _ _ (@aR _ _ _ (@ap _ _ _ _ _ _ _ _ _ (@aI _ ("tuple")) rfl B.iisinstance aar (@aa _ _ _ _ _ (pv 0) (@aa _ _ _ _ _ (@bM _ _ (.ty "tuple") _ _ rfl B.ituple aaM rfl (by decide) (by decide)) ad (by rfl)) (by rfl)) (by decide) (by decide) (by rfl) (by rfl)) (by intro _;rfl))) (@ah _ _ _ (@aq _ _ _ _ ai)) au) (@af _ _ _ _ _ (@aH _ _ _ _ _ _ _ _ (@av _ _ _ _ _ _ _ _ bE (@aC _ _ _ _ _ _ _ bc (pv 0) ai (fun _ _=>rfl)) aB (aA _)) (@ah _ _ _ (@aq _ _ _ _ (@ap _ _ _ _ _ _ _ _ _ (@gN _ rfl) rfl B.isum abF (@aa _ _ _ _ _ (@dG _ _ _ _ _ _ _ _ (["sign","part"]) ([none,none]) _ _ _ _ rfl (@dw _ _ _ _ (@aC _ _ _ _ _ _ _ bc (pv 0) ai (fun _ _=>rfl))) rfl trivial trivial (fun _ _ _ _=>⟨(@fe _ _ _ _ _ _ (2) rfl rfl (@ao _ _ _ _ _ (@am _ _ (0) _ (show aaK (["sign","part"]:List Str) by decide +kernel) rfl (Or.inl rfl) (.inr rfl)) (@ao _ _ _ _ _ (@am _ _ (1) _ (show aaK (["sign","part"]:List Str) by decide +kernel) rfl (Or.inl rfl) (.inr rfl)) aV (by rfl)) (by rfl)) (by rfl) (by rfl)),aU,(@aj _ _ _ _ _ _ _ _ _ _ _ C__law_leaves hr (by lia) rfl (@aa _ _ _ _ _ (pv 1) ad (by rfl)) (by decide) (by rfl) (by rfl))⟩) (by rfl) (by rfl) (by rfl) (by rfl) (by intro _;rfl)) ad (by rfl)) (by decide) (by decide) (by rfl) (by rfl)))) au) (@ah _ _ _ (@aq _ _ _ _ (@ap _ _ _ _ _ _ _ _ _ (@gN _ rfl) rfl B.isum abF (@aa _ _ _ _ _ (@dG _ _ _ _ _ _ _ _ (["part"]) ([none]) _ _ _ _ rfl (@dw _ _ _ _ (@aC _ _ _ _ _ _ _ bc (pv 0) ai (fun _ _=>rfl))) rfl trivial trivial (fun _ _ _ _=>⟨(@am _ _ (0) _ (show aaK (["part"]:List Str) by decide +kernel) rfl (Or.inl rfl) (.inr rfl)),aU,(@aj _ _ _ _ _ _ _ _ _ _ _ C__law_leaves hr (by lia) rfl (@aa _ _ _ _ _ (pv 0) ad (by rfl)) (by decide) (by rfl) (by rfl))⟩) (by rfl) (by rfl) (by rfl) (by rfl) (by intro _;rfl)) ad (by rfl)) (by decide) (by decide) (by rfl) (by rfl)))))),?_⟩;cases wy with
    | num i =>
      have e:v=.int i:=by simpa only [Wy.fm,Fm.data,Dat] using hd'
      subst e;exact ⟨_,rfl,_,_,false,rfl,.int i,rfl,false,rfl,bA (q H (Same.refl _))⟩
    | node g l r =>
      obtain ⟨a,b,us,rfl,ea,eb,i1,i2⟩:=de hd';refine ⟨_,rfl,_,_,true,rfl,.tup ea,rfl,true,rfl,aM ?_⟩;obtain ⟨ps,eps⟩:∃ ps,ps=lv g.k true (.node g l r):=⟨_,rfl⟩
      have hless:=fun q hq=>bw (g:=g) (l:=l) (r:=r) (b:=true) (p:=q) hq;rw [← eps] at i1 i2 hless;have zp:szs ps=(Wy.node g l r).size:=by rw [eps,a8]
      have lz:=b0 ps;rw [← zp,← o_] at q;cases ek:g.k with
      | true =>
        rw [ek] at ea;have da:=oy (i2 ek);have lu:=aav da;refine ⟨_,rfl,a,_,_,_,rfl,rfl,SqT.of ea,rfl,rfl,false,rfl,aM ?_⟩;refine ⟨_,rfl,a,_,_,_,rfl,rfl,SqT.of ea,rfl,b,rfl,⟨_,SqT.of eb⟩,?_⟩;refine eZ (Trn.tup (xs:=us)) (fun i ys H'=>Same H H'∧ys=((ps.take i).map fun p=>(p.2.size:Int)).map V.int) ⟨Same.refl _,rfl⟩ (fun i ys H' hi z=>⟨SqT.of (z.1 _ _ eb),aE (by rw [z.2,aac,aac,aap];lia)⟩) (fun i x ys H0 H' hi hx z Nx nx=>?_) (fun ys H' z p5 n5=>?_)
        · obtain ⟨rfl,hx⟩:=hx;obtain ⟨S,rfl⟩:=z;obtain ⟨pp,hpp,du⟩:=Paired.at da hx;have pm:=aaf hpp;have hlt:=hless pp pm;refine ⟨_,rfl,pp.2,x,rfl,Dat.mono S _ _ du,by lia,by lia,fun H2 g2=>nx _ _ ⟨S.trans g2,?_⟩⟩;rw [bx hpp,aan,aan];rfl
        · obtain ⟨S,rfl⟩:=z;rw [← lu,aaS];exact ⟨p5,_,rfl,SqL.of ag,q _ (S.trans (Same.new n5 _))⟩
      | false =>
        rw [ek] at ea;have da:=i1 ek;have lu:=aav da;refine ⟨_,rfl,a,_,_,_,rfl,rfl,SqT.of ea,rfl,rfl,true,rfl,bA ?_⟩;refine ⟨_,rfl,a,_,_,_,rfl,rfl,SqT.of ea,rfl,b,rfl,⟨_,SqT.of eb⟩,?_⟩;refine eZ (Trn.tup (xs:=us)) (fun i ys H'=>Same H H'∧ys=((ps.take i).map fun p=>(p.2.size:Int)).map V.int) ⟨Same.refl _,rfl⟩ (fun i ys H' hi z=>⟨SqT.of (z.1 _ _ eb),aE (by rw [z.2,aac,aac,aap];lia)⟩) (fun i x ys H0 H' hi hx z Nx nx=>?_) (fun ys H' z p5 n5=>?_)
        · obtain ⟨rfl,hx⟩:=hx;obtain ⟨S,rfl⟩:=z;obtain ⟨pp,hpp,o,u,rfl,eo,du⟩:=Paired.at da hx;have pm:=aaf hpp;have hlt:=hless pp pm;refine ⟨o,_,rfl,SqT.of (S _ _ eo),rfl,_,_,rfl,_,_,rfl,rfl,?_⟩;refine ⟨_,rfl,pp.2,u,rfl,Dat.mono S _ _ du,by lia,by lia,fun H2 g2=>nx _ _ ⟨S.trans g2,?_⟩⟩;rw [bx hpp,aan,aan];rfl
        · obtain ⟨S,rfl⟩:=z;rw [← lu,aaS];exact ⟨p5,_,rfl,SqL.of ag,q _ (S.trans (Same.new n5 _))⟩
def kE (n:Nat):Sp:=fun vs H Q _=>∃ (wy:Wy) (v:V),vs=[v]∧Dat H wy.fm.data v∧wy.size≤n∧wy.size≤9∧∀ v H',Same H H'→KtV H' (fk n wy) v→Q v H'
abbrev cJ:Stmt:=top 69
theorem aY:FnScope ["form","found","part","sign"] ["form"] (al cJ):=⟨rfl,rfl,rfl,by decide +kernel,rfl,by decide +kernel,by decide +kernel⟩
theorem ig (F:Fun K "_law_form_key" "_law_form_key" cJ f fd) (bF:Binds K fd ["form"] []) (mF:mg "_law_form_key" = some (.ref f)) (B:Bu K mg) (C__law_leaves:Cal P w K mg base "_law_leaves" 10 ["form"] (gc 9)):∀ n,FnOk P w K mg base CX0 (n+11) f fd ["form"] (kE n):=by
  intro n
  induction n with
  | zero =>
    refine ⟨fun vs H Q E h=>?_,fun A outer s H args us vs Q E _ _ _ _ h=>?_⟩
    · obtain ⟨w,v,rfl,_⟩:=h;rfl
    · obtain ⟨w,v,_,_,h2,_⟩:=h;have:=w.size_pos;lia
  | succ n ih =>
    have C__law_form_key:Cal P w K mg base "_law_form_key" (n+11) ["form"] (kE n):=⟨f,fd,ih,bF,F.kp,mF⟩
    refine F.ok aY (fun vs H Q E h=>?_) (fun cdv A outer s H vs Q E hr h=>?_)
    · obtain ⟨w,v,rfl,_⟩:=h;rfl
    obtain ⟨wy,v,rfl,hd',hn,h9,q⟩:=h;refine ⟨_,(@af _ _ _ _ _ (@aH _ _ _ _ _ _ _ _ (@bJ _ _ _ _ (@aR _ _ _ (@ap _ _ _ _ _ _ _ _ _ (@aI _ ("tuple")) rfl B.iisinstance aar (@aa _ _ _ _ _ (pv 0) (@aa _ _ _ _ _ (@bM _ _ (.ty "tuple") _ _ rfl B.ituple aaM rfl (by decide) (by decide)) ad (by rfl)) (by rfl)) (by decide) (by decide) (by rfl) (by rfl)) (by intro _;rfl))) (@ah _ _ _ (@aq _ _ _ _ (@bt _ _ _ _ ad))) au) (@af _ _ _ _ _ (@aw _ _ (1) _ _ _ _ (aY).nd rfl (Or.inl rfl) (@bt _ _ _ _ (@aa _ _ _ _ _ (@cq _ _ _ _ _ _ _ _ _ iu rfl B.iint abn (@aa _ _ _ _ _ (@cA _ _ _ _ _ _ _ _ bE (@aC _ _ _ _ _ _ _ bc (pv 0) ai (fun _ _=>rfl)) aB (aA _)) ad (by rfl)) (by decide) (by decide) (by rfl) (by rfl)) ad (by rfl))) (by rfl) (by first|exact .inl rfl|exact .inr rfl|assumption)) (@af _ _ _ _ _ (@bX _ _ _ _ _ _ _ _ aaF rfl (@dw _ _ _ _ (@aC _ _ _ _ _ _ _ bc (pv 0) ai (fun _ _=>rfl))) (@am _ _ (2) _ (aY).nd rfl (Or.inl rfl) (.inl rfl)) (@af _ _ _ _ _ (@aw _ _ (3) _ _ _ _ (aY).nd rfl (Or.inl rfl) ai (by rfl) (by first|exact .inl rfl|exact .inr rfl|assumption)) (@kP _ _ _ _ _ (@aH _ _ _ _ _ _ _ _ (@av _ _ _ _ _ _ _ _ bE (@aC _ _ _ _ _ _ _ bc (pv 0) ai (fun _ _=>rfl)) aB (aA _)) (@af _ _ _ _ _ (@aw _ _ (3) _ _ _ _ (aY).nd rfl (Or.inl rfl) (@cq _ _ _ _ _ _ _ _ _ iu rfl B.iint abn (@aa _ _ _ _ _ (@cA _ _ _ _ _ _ _ _ bE (@aC _ _ _ _ _ _ _ bc (pv 2) ai (fun _ _=>rfl)) aB (aA _)) ad (by rfl)) (by decide) (by decide) (by rfl) (by rfl)) (by rfl) (by first|exact .inl rfl|exact .inr rfl|assumption)) (@ah _ _ _ (@aw _ _ (2) _ _ _ _ (aY).nd rfl (Or.inl rfl) (@aC _ _ _ _ _ _ _ bc (pv 2) ai (fun _ _=>rfl)) (by rfl) (by first|exact .inl rfl|exact .inr rfl|assumption)))) au) (@ah _ _ _ (@aw _ _ (1) _ _ _ _ (aY).nd rfl (Or.inl rfl) (@ay _ _ _ _ _ _ _ _ jk (pv 1) (@bt _ _ _ _ (@aa _ _ _ _ _ (pv 3) (@aa _ _ _ _ _ (@aj _ _ _ _ _ _ _ _ _ _ _ C__law_leaves hr (by lia) rfl (@aa _ _ _ _ _ (pv 2) ad (by rfl)) (by decide) (by rfl) (by rfl)) (@aa _ _ _ _ _ (@aj _ _ _ _ _ _ _ _ _ _ _ C__law_form_key hr (by lia) rfl (@aa _ _ _ _ _ (pv 2) ad (by rfl)) (by decide) (by rfl) (by rfl)) ad (by rfl)) (by rfl)) (by rfl)))) (by rfl) (by first|exact .inl rfl|exact .inr rfl|assumption))))) (by intro _;rfl)) (@ah _ _ _ (@aq _ _ _ _ (pv 1)))))),?_⟩;cases wy with
    | num i =>
      have e:v=.int i:=by simpa only [Wy.fm,Fm.data,Dat] using hd'
      subst e;exact ⟨_,rfl,_,_,false,rfl,.int i,rfl,false,rfl,bA ⟨aaI _,fun p np=>q _ _ (Same.new np _) ⟨p,_,rfl,ag,rfl⟩⟩⟩
    | node g l r =>
      obtain ⟨a,b,us,rfl,ea,eb,i1,i2⟩:=de hd';refine ⟨_,rfl,_,_,true,rfl,.tup ea,rfl,true,rfl,aM ?_⟩;obtain ⟨ps,eps⟩:∃ ps,ps=lv g.k true (.node g l r):=⟨_,rfl⟩
      have hless:=fun q hq=>bw (g:=g) (l:=l) (r:=r) (b:=true) (p:=q) hq;have htr:g.k=true→∀ q∈lv g.k true (.node g l r),q.1=true:=fun z q hq=>fg rfl (.node g l r) q (z ▸ hq);have ekey:fk (n+1) (.node g l r)=.cons (.int (if g.k=true then 1 else 0)) (fks (fk n) (lv g.k true (.node g l r))):=rfl;rw [ekey] at q;rw [← eps] at i1 i2 hless htr q;have zp:szs ps=(Wy.node g l r).size:=by rw [eps,a8]
      have lz:=b0 ps;have lus:us.length=ps.length:=by
        cases ek:g.k with
        | false=>exact (aav (i1 ek)).symm
        | true=>exact (aav (oy (i2 ek))).symm
      refine ⟨_,rfl,a,_,_,_,rfl,rfl,SqT.of ea,rfl,rfl,.inr ⟨_,rfl,(by show 1≤sizeLine;decide),fun p0 n0=>?_⟩⟩;rw [show (if decide (V.str (if g.k=true then "times" else "sum")=V.str "times")=true then (1:Int) else 0)=(if g.k=true then 1 else 0) by cases g.k <;> decide +kernel];generalize (if g.k=true then (1:Int) else 0)=kk at q ⊢;have g0:=Same.new n0 (.lst [.int kk]);have e0:upd H p0 (.lst [.int kk]) p0=some (.lst [.int kk]):=ag;generalize upd H p0 (.lst [.int kk])=H0 at g0 e0 ⊢;refine ⟨_,rfl,a,_,_,_,rfl,rfl,SqT.of (g0 _ _ ea),rfl,b,rfl,⟨_,SqT.of (g0 _ _ eb)⟩,fY (Trn.tup (xs:=us)) (fun i σ H'=>∃ p ys c2 c3,σ=[some (.ref a),some (.ref p),c2,c3]∧Same H H'∧H' p=some (.lst ys)∧KtL H' (.cons (.int kk) (fks (fk n) (ps.take i))) ys) ⟨_,_,_,_,rfl,g0,e0,⟨_,_,rfl,rfl,rfl⟩⟩ (fun i σ H' hi z=>?_) (fun i x σ H2' H2 hi it z=>?_) (fun σ H' z=>?_)⟩
      · obtain ⟨p,ys,_,_,rfl,S,_⟩:=z;exact SqT.of (S _ _ eb)
      · obtain ⟨p,ys,c2,c3,rfl,S,ep,hk⟩:=z;obtain ⟨rfl,hx⟩:=it;have hip:i < ps.length:=by lia
        have hpp:=aag hip;obtain ⟨⟨ph,pw⟩,hpq⟩:∃ q,ps[i]=q:=⟨_,rfl⟩
        rw [hpq] at hpp;have pm:=aaf hpp;have hlt:pw.size < (Wy.node g l r).size:=hless (ph,pw) pm;refine ⟨fun σ' H'=>H'=H2∧∃ u,Dat H2 pw.fm.data u∧σ'=[some (.ref a),some (.ref p),some u,some (.int (if ph=true then 0 else 1))],?_,?_⟩
        · refine ⟨_,rfl,a,_,_,_,rfl,rfl,SqT.of (S _ _ ea),rfl,?_⟩;cases ek:g.k with
          | true =>
            obtain ⟨pp,hpp',du⟩:=Paired.at (oy (i2 ek)) hx;rw [hpp] at hpp';cases hpp';refine ⟨rfl,false,rfl,aM ⟨rfl,x,Dat.mono S _ _ du,?_⟩⟩;rw [if_pos (htr ek _ pm)];rfl
          | false =>
            obtain ⟨pp,hpp',o,u,rfl,eo,du⟩:=Paired.at (i1 ek) hx;rw [hpp] at hpp';cases hpp';refine ⟨rfl,true,rfl,bA ?_⟩;refine ⟨_,rfl,o,_,_,_,rfl,rfl,SqT.of (S _ _ eo),rfl,rfl,.inr ⟨_,rfl,?_⟩⟩;refine ⟨_,rfl,o,_,_,_,rfl,rfl,SqT.of (S _ _ eo),rfl,rfl,u,Dat.mono S _ _ du,?_⟩;rw [show (if decide (V.str (Put.hk false ph)=V.str "-")=true then (1:Int) else 0)=(if ph=true then 0 else 1) by cases ph <;> decide +kernel];rfl
        rintro σ' H' ⟨rfl,u,du,rfl⟩;refine ⟨_,rfl,_,rfl,_,rfl,pw,u,rfl,du,by lia,by lia,fun H3 g3=>?_⟩;refine ⟨_,rfl,pw,u,rfl,Dat.mono g3 _ _ du,by lia,by lia,fun v H4 g4 hv=>?_⟩;refine ⟨(by show 3≤sizeLine;decide),fun p5 np5=>?_⟩;have s5:=Same.new np5 (.lst [.int (if ph=true then 0 else 1),.int (pw.size:Nat),v]);have S5:=g3.trans (g4.trans s5);have hl:=hk.len;have lk:((Kt.cons (.int kk) (fks (fk n) (ps.take i))).toL).length≤31:=by
          show (fks (fk n) (ps.take i)).toL.length+1≤31;rw [oU,aap];lia
        refine ⟨p,p5,_,_,rfl,rfl,S5 _ _ ep,ag,bQ (by rw [hl.1];show _+3≤1000;lia),fun p6 np6=>?_⟩;have s6:=Same.new np6 (.lst (ys++[.int (if ph=true then 0 else 1),.int (pw.size:Nat),v]));refine ⟨p6,_,some u,some (.int (if ph=true then 0 else 1)),rfl,S.trans (S5.trans s6),ag,?_⟩;rw [bx hpp,oW];have hv':=(KtG.mono (s5.trans s6) (fk n pw)).1 _ hv;have hk':=(KtG.mono (S5.trans s6) _).2 _ hk;exact KtL.app (k':=fks (fk n) [(ph,pw)]) ⟨_,_,rfl,rfl,_,_,rfl,rfl,_,_,rfl,hv',rfl⟩ hk'
      · obtain ⟨p,ys,_,_,rfl,S,ep,hk⟩:=z;rw [lus,aaS] at hk;exact ⟨_,rfl,q _ _ S (KtV.of ep hk)⟩
end
open PySem L2
theorem rD (ns:List Int) (lo hi:Option Int):∃ ms:List Int,iH (ns.map V.int) lo hi=ms.map V.int∧ms.length≤ns.length:=by
  refine ⟨(ns.drop (HT.sIx ns.length 0 lo)).take (HT.sIx ns.length ns.length hi - HT.sIx ns.length 0 lo),?_,?_⟩
  · unfold iH;rw [aac,ab1,ab0]
  · rw [aap,aaR];lia
theorem But.same {H H1 H2:Hp} {wl:Addr} (s:Same H H1) (n:H wl=none) (b:But wl H1 H2):Same H H2:=fun c o h=>b c o (aD h n) (s c o h)
theorem lO {wy:Wy} {ns:List Int} (e:wy.nums=ns) (h:rH ns):wy.Bd:=fun i hi=>by
  have:=h i (by rw [← e];exact hi);have z:(1000000000000:Nat) < 2 ^ 131:=by decide
  lia
theorem j7:∀ (l l':List (Bool × Wy)),(∀ p∈l,∀ w':Wy,p.2.fm.data=w'.fm.data→p.2.nums=w'.nums)→l.map (fun p=>p.2.fm.data)=l'.map (fun p=>p.2.fm.data)→(l.map fun p=>p.2.nums).flatten=(l'.map fun p=>p.2.nums).flatten
  | [],[],_,_=>rfl
  | [],b :: l',_,e=>by cases e
  | a :: l,[],_,e=>by cases e
  | a :: l,b :: l',h,e=>by
    rw [aaz,aaz] at e;injection e with e1 e2
    rw [aaz,aaz,aa3,aa3,h a aai b.2 e1,j7 l l' (fun p hp=>h p (aae _ hp)) e2]
theorem uP {k k':Bool} {ts ts':List (Bool × PyData)} (e:Fd k ts=Fd k' ts'):ts.map ab6=ts'.map ab6:=by
  have s1:(PyData.str "sum" = PyData.str "times")→False:=fun z=>by
    injection z with z
    exact absurd z (by decide +kernel)
  cases k <;> cases k'
  · injection e with e
    injection e with _ e
    injection e with e _
    injection e with e
    have:=congrArg (List.map fun d=>match d with|.tuple [_,x]=>x|d=>d) e;rw [abN,abN] at this;exact this
  · injection e with e
    injection e with e _
    exact (s1 e).elim
  · injection e with e
    injection e with e _
    exact (s1 e.symm).elim
  · injection e with e
    injection e with _ e
    injection e with e _
    injection e
theorem kg:∀ (n:Nat) (w w':Wy),w.size≤n→w.fm.data=w'.fm.data→w.nums=w'.nums
  | 0,w,w',h,_=>by have:=w.size_pos;lia
  | n+1,.num i,.num j,_,e=>by
    have e:PyData.int i=PyData.int j:=e;injection e with e
    rw [e]
  | n+1,.num i,.node g l r,_,e=>by
    rw [bI] at e;have e:PyData.int i=_:=e;cases h:g.k <;> rw [h] at e <;> cases e
  | n+1,.node g l r,.num i,_,e=>by
    rw [bI] at e;have e:_=PyData.int i:=e;cases h:g.k <;> rw [h] at e <;> cases e
  | n+1,.node g l r,.node g' l' r',h,e=>by
    rw [bI,bI] at e;have e:=uP e;rw [abN,abN] at e;rw [← cO g.k true (.node g l r),← cO g'.k true (.node g' l' r')];exact j7 _ _ (fun p hp w' e'=>kg n p.2 w' (by have:=bw hp;lia) e') e
theorem sM {gs:List Sg} (hs:gs.length≤3) {w:Wy} (h9:w.size≤9) (hw:w.within gs):(fw gs 9 w).nums=w.nums:=kg 9 _ _ (by rw [(mG hs 9 w h9 h9 hw).size];exact h9) (mG hs 9 w h9 h9 hw).data
def wg (H:Hp) (w:Wy) (v:V):Prop:=Dat H w.fm.data v
abbrev jD (H:Hp) (ws:List Wy) (us:List V):Prop:=Paired (wg H) ws us
theorem cF {H H':Hp} (s:Same H H') {ws:List Wy} {us:List V} (h:jD H ws us):jD H' ws us:=Paired.imp' (fun _ _ z=>Dat.mono s _ _ z) h
section
variable {P:Program} {w:World} {K:aaa} {mg:Str→Option Value} {base:Heap} {f:Addr} {fd:FuncData}
def i3:Sp:=fun vs H Q _=>∃ (a pf:Addr) (gs:List Sg) (ns:List Int) (ws:List Wy) (us:List V),vs=[.ref a,.str (ae gs),.ref pf]∧H a=some (.lst (ns.map V.int))∧1≤ns.length∧ns.length≤9∧H pf=some (.lst us)∧jD H ws us∧ws.length≤20∧(∀ w∈ws,w.nums=ns∧w.within gs∧w.Bd)∧gs.length≤3∧aX gs∧∀ H',Same H H'→Q (.bl true) H'
abbrev d0:Stmt:=top 70
theorem bq:FnScope ["row","signs","forms","numbers","k","form","way","j","ahead"] ["row","signs","forms"] (al d0):=⟨rfl,rfl,rfl,by decide +kernel,rfl,by decide +kernel,by decide +kernel⟩
theorem jU (F:Fun K "_law_right" "_law_right" d0 f fd) (B:Bu K mg) (C_number_of_form:Cal P w K mg base "number_of_form" 22 ["row","signs","form"] oi) (C_nth_form:Cal P w K mg base "nth_form" 13 ["row","signs","number"] oh) (C_first_way:Cal P w K mg base "first_way" 13 ["row","signs","form"] tU) (C_numbers_of:Cal P w K mg base "numbers_of" 22 ["way"] eA) (C_form_of:Cal P w K mg base "form_of" 25 ["way"] ge) (C_signs_of:Cal P w K mg base "signs_of" 22 ["way"] gR) (C__law_form_key:Cal P w K mg base "_law_form_key" 20 ["form"] (kE 9)):FnOk P w K mg base CX0 30 f fd ["row","signs","forms"] i3:=by
  refine F.ok bq (fun vs H Q E h=>?_) (fun cdv A outer s H vs Q E hr h=>?_)
  · obtain ⟨a,pf,gs,ns,ws,us,rfl,_⟩:=h;rfl
  obtain ⟨a,pf,gs,ns,ws,us,rfl,ea,n1,n9,ef,hf,l20,hws,g3,sp,q⟩:=h;refine ⟨_,(@af _ _ _ _ _ (@ow _ (3) _ _ _ _ _ _ _ _ _ _ (["form","row","signs"]) ([none,some 0,some 1]) _ _ _ _ (bq).nd rfl (Or.inl rfl) rfl (@b_ _ _ _ _ (pv 2)) rfl ⟨rfl,⟨rfl,trivial⟩⟩ ⟨⟨rfl,Or.inl rfl,Or.inl rfl⟩,⟨⟨rfl,Or.inl rfl,Or.inl rfl⟩,trivial⟩⟩ (fun _ _ _ _=>⟨(@am _ _ (0) _ (show aaK (["form","row","signs"]:List Str) by decide +kernel) rfl (Or.inl rfl) (.inr rfl)),aU,(@aj _ _ _ _ _ _ _ _ _ _ _ C_number_of_form hr (by lia) rfl (@aa _ _ _ _ _ (pv 1) (@aa _ _ _ _ _ (pv 2) (@aa _ _ _ _ _ (pv 0) ad (by rfl)) (by rfl)) (by rfl)) (by decide) (by rfl) (by rfl))⟩) (by rfl) (by rfl) (by rfl) (by rfl) (by intro _;rfl) (by rfl) (by first|exact .inl rfl|exact .inr rfl|assumption)) (@af _ _ _ _ _ (@bX _ _ _ _ _ _ _ _ aaF rfl (@iO _ _ _ _ _ _ _ _ rfl B.ienumerate (@aa _ _ _ _ _ (pv 2) ad (by rfl)) (by rfl)) (@bK _ _ _ _ _ _ rfl (@ao _ _ _ _ _ (@am _ _ (4) _ (bq).nd rfl (Or.inl rfl) (.inl rfl)) (@ao _ _ _ _ _ (@am _ _ (5) _ (bq).nd rfl (Or.inl rfl) (.inl rfl)) aV (by rfl)) (by rfl)) (by rfl) (by rfl)) (@af _ _ _ _ _ (@aH _ _ _ _ _ _ _ _ (@PW.pt _ _ _ (@fB _ _ _ _ _ _ _ (@bJ _ _ _ _ (@aR _ _ _ (@ap _ _ _ _ _ _ _ _ _ (@aI _ ("int")) rfl B.iisinstance aar (@aa _ _ _ _ _ (@aC _ _ _ _ _ _ _ aF (pv 3) (pv 4) (fun _ _=>rfl)) (@aa _ _ _ _ _ (@bM _ _ (.ty "int") _ _ rfl B.iint abn rfl (by decide) (by decide)) ad (by rfl)) (by rfl)) (by decide) (by decide) (by rfl) (by rfl)) (by intro _;rfl))) (@eT _ _ _ _ (@aR _ _ _ (@ap _ _ _ _ _ _ _ _ _ (@aI _ ("bool")) rfl B.iisinstance aar (@aa _ _ _ _ _ (@aC _ _ _ _ _ _ _ aF (pv 3) (pv 4) (fun _ _=>rfl)) (@aa _ _ _ _ _ (@bM _ _ (.ty "bool") _ _ rfl B.ibool PyProof.Rows.boot_bool rfl (by decide) (by decide)) ad (by rfl)) (by rfl)) (by decide) (by decide) (by rfl) (by rfl)) (by intro _;rfl))))) (@ah _ _ _ (@aq _ _ _ _ cZ)) au) (@af _ _ _ _ _ (@aH _ _ _ _ _ _ _ _ (@av _ _ _ _ _ _ _ _ l_ (@ap _ _ _ _ _ _ _ _ _ (@fz _ hr.gd hr.units) rfl B.irepr abC (@aa _ _ _ _ _ (@aj _ _ _ _ _ _ _ _ _ _ _ C_nth_form hr (by lia) rfl (@aa _ _ _ _ _ (pv 0) (@aa _ _ _ _ _ (pv 1) (@aa _ _ _ _ _ (@aC _ _ _ _ _ _ _ aF (pv 3) (pv 4) (fun _ _=>rfl)) ad (by rfl)) (by rfl)) (by rfl)) (by decide) (by rfl) (by rfl)) ad (by rfl)) (by decide) (by decide) (by rfl) (by rfl)) (@ap _ _ _ _ _ _ _ _ _ (@fz _ hr.gd hr.units) rfl B.irepr abC (@aa _ _ _ _ _ (pv 5) ad (by rfl)) (by decide) (by decide) (by rfl) (by rfl)) (aA _)) (@ah _ _ _ (@aq _ _ _ _ cZ)) au) (@af _ _ _ _ _ (@aw _ _ (6) _ _ _ _ (bq).nd rfl (Or.inl rfl) (@aj _ _ _ _ _ _ _ _ _ _ _ C_first_way hr (by lia) rfl (@aa _ _ _ _ _ (pv 0) (@aa _ _ _ _ _ (pv 1) (@aa _ _ _ _ _ (pv 5) ad (by rfl)) (by rfl)) (by rfl)) (by decide) (by rfl) (by rfl)) (by rfl) (by first|exact .inl rfl|exact .inr rfl|assumption)) (@af _ _ _ _ _ (@aH _ _ _ _ _ _ _ _ (@PW.pt _ _ _ (@fB _ _ _ _ _ _ _ (@av _ _ _ _ _ _ _ _ (@ni _ hr.units) (@aj _ _ _ _ _ _ _ _ _ _ _ C_numbers_of hr (by lia) rfl (@aa _ _ _ _ _ (pv 6) ad (by rfl)) (by decide) (by rfl) (by rfl)) (pv 0) (aA _)) (@eT _ _ _ _ (@av _ _ _ _ _ _ _ _ l_ (@ap _ _ _ _ _ _ _ _ _ (@fz _ hr.gd hr.units) rfl B.irepr abC (@aa _ _ _ _ _ (@aj _ _ _ _ _ _ _ _ _ _ _ C_form_of hr (by lia) rfl (@aa _ _ _ _ _ (pv 6) ad (by rfl)) (by decide) (by rfl) (by rfl)) ad (by rfl)) (by decide) (by decide) (by rfl) (by rfl)) (@ap _ _ _ _ _ _ _ _ _ (@fz _ hr.gd hr.units) rfl B.irepr abC (@aa _ _ _ _ _ (pv 5) ad (by rfl)) (by decide) (by decide) (by rfl) (by rfl)) (aA _))))) (@ah _ _ _ (@aq _ _ _ _ cZ)) au) (@af _ _ _ _ _ (@aH _ _ _ _ _ _ _ _ (@av _ _ _ _ _ _ _ _ (@ni _ hr.units) (@dG _ _ _ _ _ _ _ _ (["sign","signs"]) ([none,some 1]) _ _ _ _ rfl (@qv _ _ _ _ (@aj _ _ _ _ _ _ _ _ _ _ _ C_signs_of hr (by lia) rfl (@aa _ _ _ _ _ (pv 6) ad (by rfl)) (by decide) (by rfl) (by rfl))) rfl ⟨rfl,trivial⟩ ⟨⟨rfl,Or.inl rfl,Or.inl rfl⟩,trivial⟩ (fun _ _ _ _=>⟨(@am _ _ (0) _ (show aaK (["sign","signs"]:List Str) by decide +kernel) rfl (Or.inl rfl) (.inr rfl)),(@qu _ _ _ (@av _ _ _ _ _ _ _ _ gx (pv 0) (pv 1) (by with_unfolding_all rfl))),(pv 0)⟩) (by rfl) (by rfl) (by rfl) (by rfl) (by intro _;rfl)) (@bt _ _ _ _ ad) (aA _)) (@ah _ _ _ (@aq _ _ _ _ cZ)) au) (@ah _ _ _ (@bX _ _ _ _ _ _ _ _ aaF rfl (@dF _ _ _ _ _ _ rfl B.irange (@aa _ _ _ _ _ (pv 4) ad (by rfl)) (by rfl)) (@am _ _ (7) _ (bq).nd rfl (Or.inl rfl) (.inl rfl)) (@af _ _ _ _ _ (@aw _ _ (8) _ _ _ _ (bq).nd rfl (Or.inl rfl) (@cA _ _ _ _ _ _ _ _ (t_ rfl hr.units) (@aj _ _ _ _ _ _ _ _ _ _ _ C__law_form_key hr (by lia) rfl (@aa _ _ _ _ _ (@aC _ _ _ _ _ _ _ aF (pv 2) (pv 7) (fun _ _=>rfl)) ad (by rfl)) (by decide) (by rfl) (by rfl)) (@aj _ _ _ _ _ _ _ _ _ _ _ C__law_form_key hr (by lia) rfl (@aa _ _ _ _ _ (pv 5) ad (by rfl)) (by decide) (by rfl) (by rfl)) (aA _)) (by rfl) (by first|exact .inl rfl|exact .inr rfl|assumption)) (@ah _ _ _ (@aH _ _ _ _ _ _ _ _ (@av _ _ _ _ _ _ _ _ l_ (pv 8) (@cA _ _ _ _ _ _ _ _ oA (@aC _ _ _ _ _ _ _ aF (pv 3) (pv 7) (fun _ _=>rfl)) (@aC _ _ _ _ _ _ _ aF (pv 3) (pv 4) (fun _ _=>rfl)) (aA _)) (aA _)) (@ah _ _ _ (@aq _ _ _ _ cZ)) au))) (by intro _;rfl)))))))) (by intro _;rfl)) (@ah _ _ _ (@aq _ _ _ _ cZ)))),?_⟩;have sv:=bN g3 sp;obtain ⟨t,hsim,G⟩:=gG sv n1 n9;have lf:=aav hf;have szw:∀ w∈ws,w.size=ns.length:=fun w hw=>by rw [← w.nums_len,(hws w hw).1]
  obtain ⟨N,hN⟩:∃ N:Wy→Int,N=fun w=>((nft (ae gs) t 9 w:Nat):Int):=⟨_,rfl⟩
  refine ⟨_,rfl,pf,rfl,⟨_,SqL.of ef⟩,?_⟩;refine eZ (Trn.list (xs:=us)) (fun i ys H'=>Same H H'∧ys=((ws.take i).map N).map V.int) ⟨Same.refl _,rfl⟩ (fun i ys H' hi z=>⟨SqL.of (z.1 _ _ ef),aE (by rw [z.2,aac,aac,aap];lia)⟩) (fun i x ys H0 H' hi hx z Nx nx=>?_) (fun ys H1 z p1 np1=>?_)
  · obtain ⟨rfl,hx⟩:=hx;obtain ⟨S,rfl⟩:=z;obtain ⟨wy,hwy,du⟩:=Paired.at hf hx;have wm:=aaf hwy;obtain ⟨w1,w2,w3⟩:=hws wy wm;have zz:=szw wy wm;refine ⟨_,rfl,_,rfl,_,rfl,wy,a,x,gs,t,rfl,by rw [w1];exact S _ _ ea,Dat.mono S _ _ du,by rw [zz];exact hsim,by lia,w3,g3,sp,w2,fun H2 g2=>nx _ _ ⟨S.trans g2,?_⟩⟩;rw [bx hwy,aan,aan,hN];rfl
  obtain ⟨S1,rfl⟩:=z;rw [← lf,aaS];have s1:=Same.new np1 (.lst ((ws.map N).map V.int));have e1:upd H1 p1 (.lst ((ws.map N).map V.int)) p1=some (.lst ((ws.map N).map V.int)):=ag;have S2:=S1.trans s1;generalize upd H1 p1 (.lst ((ws.map N).map V.int))=H2 at s1 e1 S2 ⊢;have nat:∀ {i:Nat} {u:Wy},ws[i]?=some u→atI ((ws.map N).map V.int) (i:Int)=some (.int (nft (ae gs) t 9 u:Nat)):=fun {i u} h=>fA (by rw [aao,aao,h,hN];rfl);refine ⟨_,rfl,pf,rfl,⟨_,SqL.of (S2 _ _ ef)⟩,?_⟩;refine mH (xs:=us) (fun i σ H'=>∃ c4 c5 c6 c7 c8,σ=[some (.ref a),some (.str (ae gs)),some (.ref pf),some (.ref p1),c4,c5,c6,c7,c8]∧Same H2 H') ⟨_,_,_,_,_,rfl,Same.refl _⟩ ?_ ?_ ?_
  · rintro i σ H' hi ⟨_,_,_,_,_,rfl,S⟩;exact SqL.of (S _ _ (S2 _ _ ef))
  · rintro i x p σ H' hx ⟨c4,c5,c6,c7,c8,rfl,S⟩ np;have sF:=Same.new np (.tup [.int i,x]);have SF:=S.trans sF;refine ⟨p,_,rfl,SqT.of ag,rfl,_,_,rfl,_,_,rfl,rfl,?_⟩;generalize upd H' p (.tup [.int i,x])=HF at SF ⊢;have SAF:=S2.trans SF;obtain ⟨wy,hwy,du⟩:=Paired.at (cF SAF hf) hx;have du:Dat HF wy.fm.data x:=du;have wm:=aaf hwy;obtain ⟨w1,w2,hB⟩:=hws wy wm;have zz:=szw wy wm;have sz:wy.size≤9:=by lia
    have dl:=wy.deep_le;have fo:=wy.fm_ok hB;have dp:=fo.dd;have sd:=fo.sd;refine ⟨_,rfl,_,rfl,p1,_,_,_,rfl,rfl,SqL.of (SF _ _ e1),nat hwy,_,_,true,rfl,.int _,rfl,true,rfl,aM ?_⟩;refine ⟨_,rfl,_,rfl,p1,_,_,_,rfl,rfl,SqL.of (SF _ _ e1),nat hwy,_,_,false,rfl,.int _,rfl,false,rfl,aM ?_⟩;refine ⟨_,rfl,_,rfl,_,rfl,_,rfl,p1,_,_,_,rfl,rfl,SqL.of (SF _ _ e1),nat hwy,wy,a,gs,t,rfl,by rw [w1];exact SAF _ _ ea,by rw [zz];exact hsim,sz,hB,g3,sp,w2,fun v H3 s3 dv=>?_⟩;refine ⟨v,wy.fm.data,rfl,dv,ee _ fo.d,by lia,f_ fo.d (by lia),_,rfl,x,wy.fm.data,rfl,Dat.mono s3 _ _ du,ee _ fo.d,by lia,f_ fo.d (by lia),rfl,false,congrArg V.bl (by simp),aM ?_⟩;have S3:=SAF.trans s3;refine ⟨_,rfl,_,rfl,_,rfl,wy,a,x,gs,rfl,by rw [w1];exact S3 _ _ ea,Dat.mono s3 _ _ du,sz,hB,g3,sp,w2,fun y H4 s4 iy=>?_⟩;have fq:=mG g3 9 wy sz sz w2;have fn:=sM g3 sz w2;have S4:=S3.trans s4;have sf:(fw gs 9 wy).size≤9:=by rw [fq.size];exact sz
    refine ⟨_,rfl,fw gs 9 wy,y,rfl,iy,sf,fun p5 H5 s5 np5 ep5=>?_⟩;have S5:=S4.trans s5;refine ⟨_,rfl,l7 (SqL.of ep5) (SqL.of (by rw [fn,w1];exact S5 _ _ ea)) (fun y hy=>by obtain ⟨i,_,rfl⟩:=abf.mp hy;rfl) ⟨_,rfl,aM ?_⟩⟩;refine ⟨_,rfl,fw gs 9 wy,y,rfl,iy.mono (Tups.of s5),sf,fun u2 H6 s6 d6=>?_⟩;rw [fq.data] at d6;have S6:=S5.trans s6;refine ⟨u2,wy.fm.data,rfl,d6,ee _ fo.d,by lia,f_ fo.d (by lia),_,rfl,x,wy.fm.data,rfl,Dat.mono (s3.trans (s4.trans (s5.trans s6))) _ _ du,ee _ fo.d,by lia,f_ fo.d (by lia),rfl,false,congrArg V.bl (by simp),aM ?_⟩;refine ⟨_,rfl,fw gs 9 wy,y,rfl,iy.mono (Tups.of (s5.trans s6)),sf,fun H7 s7=>?_⟩;refine ⟨_,rfl,m6 _,?_⟩;refine eZ (Trn.str (z:=ae (fw gs 9 wy).sgs)) (fun i ys H'=>H'=H7∧ys=[]) ⟨rfl,rfl⟩ (fun i ys H' hi z=>⟨trivial,by rw [z.2];decide⟩) (fun i y ys H7' H' hi it z Nx nx=>?_) (fun ys H' z p9 n9=>?_)
    · obtain ⟨rfl,rfl⟩:=z;obtain ⟨rfl,cc,hcc,rfl⟩:=it;obtain ⟨g,hg,rfl⟩:=u8 hcc;have hgi:=fI fq.win g (aaf hg);have ho:=(sk gs g3 sp g hgi).2;unfold bR at ho;refine ⟨_,rfl,_,rfl,_,_,rfl,rfl,_,rfl,?_⟩;rw [← eE,ho];exact aM (nx _ _ ⟨rfl,rfl⟩)
    obtain ⟨rfl,rfl⟩:=z;have s9:=Same.new n9 (.lst []);refine ⟨(by show 0≤sizeLine;decide),fun p10 n10=>?_⟩;have s10:=Same.new n10 (.lst []);have n910:p9≠p10:=fun e=>by rw [← e,ag] at n10;cases n10
    refine neE (xs:=[]) (SqL.of (by rw [az n910];exact ag)) (SqL.of ag) ⟨_,rfl,aM ?_⟩;have S10:=SF.trans (s3.trans (s4.trans (s5.trans (s6.trans (s7.trans (s9.trans s10))))));generalize upd (upd H' p9 (.lst [])) p10 (.lst [])=HG at S10 ⊢;have hi20:i < ws.length:=(aaq.mp hwy).1;refine ⟨_,rfl,(i:Int),rfl,by lia,by lia,?_⟩;refine io (n:=((i:Nat):Int).toNat) (fun j σ H'=>∃ c7 c8,σ=[some (.ref a),some (.str (ae gs)),some (.ref pf),some (.ref p1),some (.int (i:Nat)),some x,some y,c7,c8]∧Same H2 H') ⟨_,_,rfl,S10⟩ ?_ ?_
    · rintro j σ H'' hj ⟨c7,c8,rfl,SH⟩;have hj':j < i:=by lia
      have SAH:=S2.trans SH;have hji:j < us.length:=by lia
      obtain ⟨u',hu'',dx'⟩:=Paired.at (cF SAH hf) (aag hji);have mu':=aaf hu'';obtain ⟨m1',m2',m3'⟩:=hws u' mu';have zu':=szw u' mu';rw [Int.zero_add];have dxi:Dat H'' wy.fm.data x:=by
        obtain ⟨wy',hwy',du'⟩:=Paired.at (cF SAH hf) hx;rw [hwy] at hwy';cases hwy';exact du'
      refine ⟨_,rfl,_,rfl,pf,_,_,_,rfl,rfl,SqL.of (SAH _ _ ef),fA (aag hji),u',_,rfl,dx',by lia,by lia,fun kx H1' s1' hk=>?_⟩;refine ⟨_,rfl,wy,x,rfl,Dat.mono s1' _ _ dxi,by lia,by lia,fun ky H2' s2' hk'=>?_⟩;have hk:=(KtG.mono s2' _).1 _ hk;obtain ⟨ka,_,rfl,_⟩:=KtV.lst (ip 9 u') hk;obtain ⟨kb,_,rfl,_⟩:=KtV.lst (ip 9 wy) hk';have SI:=SH.trans (s1'.trans s2');obtain ⟨z1,z2⟩:=uo g3 sp G (n:=8) (w:=u') (w':=wy) (by lia) (by lia) (by lia) m2' w2;have dk:=rg 9 u';refine ⟨10,ka,kb,_,by decide,rfl,rfl,vh K H2' 10 (fk 9 u') (fk 9 wy) _ _ (by lia) (rf 9 u') (rf 9 wy) (re 9 9 u' wy) hk hk',?_⟩;refine ⟨_,rfl,_,rfl,_,rfl,p1,_,_,_,rfl,rfl,SqL.of (SI _ _ e1),nat hu'',_,rfl,_,rfl,p1,_,_,_,rfl,rfl,SqL.of (SI _ _ e1),nat hwy,_,_,rfl,rfl,?_⟩;refine ⟨rfl,false,congrArg V.bl ?_,aM ⟨_,_,rfl,SI⟩⟩;rw [show ltT (fk 9 u') (fk 9 wy)=decide (nft (ae gs) t 9 u' < nft (ae gs) t 9 wy) from z2];show (!decide (V.bl (decide (nft (ae gs) t 9 u' < nft (ae gs) t 9 wy))=V.bl (decide (((nft (ae gs) t 9 u':Nat):Int) < ((nft (ae gs) t 9 wy:Nat):Int)))))=false;rw [show decide (((nft (ae gs) t 9 u':Nat):Int) < ((nft (ae gs) t 9 wy:Nat):Int))=decide (nft (ae gs) t 9 u' < nft (ae gs) t 9 wy) by rw [aaV,decide_eq_true_eq,decide_eq_true_eq];lia,decide_eq_true rfl];rfl
    · rintro σ H'' ⟨c7,c8,rfl,SH⟩;exact ⟨_,_,_,_,_,rfl,SH⟩
  · rintro σ H' ⟨c4,c5,c6,c7,c8,rfl,S⟩;exact q _ (S2.trans S)
end
open PySem L2
theorem sE {gs:List Sg} (g3:gs.length≤3) (sp:aX gs) {t:Tab} {m:Nat} (G:Gd (ae gs) t m) (gl1:1≤gs.length) (h1:1≤m) (hm:m≤9):0 < hmf t m:=by
  obtain ⟨w,hw,hs⟩:∃ w:Wy,w.within gs∧w.size=m:=by
    obtain ⟨g,hg⟩:=List.exists_mem_of_length_pos (show 0 < gs.length by lia);clear hm G
    induction m with
    | zero=>lia
    | succ m ih =>
      by_cases e:m=0
      · subst e;exact ⟨.num 0,trivial,rfl⟩
      · obtain ⟨w,a,b⟩:=ih (by lia);exact ⟨.node g w (.num 0),⟨hg,a,trivial⟩,by show w.size+1=_;lia⟩
  have:=qJ g3 sp G (n:=9) (w:=w) (by lia) (by lia) hw;rw [hs] at this;lia
theorem uz {z:Str} {t:Tab} {m:Nat} (G:Gd z t m):hmf t m < 2305843009213693952:=by
  unfold hmf;have a:=G.bd false 0 m;have b:=G.bd true 0 m;unfold gv;split <;> lia
theorem uQ {gs:List Sg} (g3:gs.length≤3) (sp:aX gs) {t:Tab} {ns:List Int} (h1:1≤ns.length) (h9:ns.length≤9) (G:Gd (ae gs) t ns.length):∃ W:Nat→Wy,∀ x,x < hmf t ns.length→(W x).within gs∧(W x).nums=ns∧nft (ae gs) t 9 (W x)=x:=by
  refine ⟨fun x=>if h:x < hmf t ns.length then abY (gy g3 sp G (n:=9) h1 h9 (aab _) h) else .num 0,fun x h=>?_⟩;show (if h:x < hmf t ns.length then abY (gy g3 sp G (n:=9) h1 h9 (aab _) h) else Wy.num 0).within gs∧(if h:x < hmf t ns.length then abY (gy g3 sp G (n:=9) h1 h9 (aab _) h) else Wy.num 0).nums=ns∧nft (ae gs) t 9 (if h:x < hmf t ns.length then abY (gy g3 sp G (n:=9) h1 h9 (aab _) h) else Wy.num 0)=x;rw [dif_pos h];exact Classical.choose_spec (gy g3 sp G (n:=9) h1 h9 (aab _) h)
section
variable {P:Program} {w:World} {K:aaa} {mg:Str→Option Value} {base:Heap} {f:Addr} {fd:FuncData}
def oj (K:aaa):Sp:=fun vs H Q _=>∃ (a:Addr) (ns:List Int),vs=[.ref a]∧SqL K H a (ns.map V.int)∧ns.length≤63∧∀ H',Q (.bl true) H'
abbrev gl:Stmt:=top 71
theorem b9:FnScope ["script","cell","well","signs","row","most","at","last","numbers","forms","k","form","turn"] ["script"] (al gl):=⟨rfl,rfl,rfl,by decide +kernel,rfl,by decide +kernel,by decide +kernel⟩
theorem ud (F:Fun K "law" "law" gl f fd) (B:Bu K mg) (C__law_well:Cal P w K mg base "_law_well" 1 ["cell"] mW) (C__law_draw:Cal P w K mg base "_law_draw" 2 ["well","many"] fG) (C__law_row:Cal P w K mg base "_law_row" 4 ["well","many"] qc)
    (C__law_signs:Cal P w K mg base "_law_signs" 3 ["well"] fF) (C__law_way:Cal P w K mg base "_law_way" 11 ["well","row","signs"] (oe 9)) (C_form_of:Cal P w K mg base "form_of" 25 ["way"] ge) (C_how_many_forms:Cal P w K mg base "how_many_forms" 4 ["signs","many"] qd) (C_nth_form:Cal P w K mg base "nth_form" 13 ["row","signs","number"] oh) (C_number_of_form:Cal P w K mg base "number_of_form" 22 ["row","signs","form"] oi) (C__law_right:Cal P w K mg base "_law_right" 30 ["row","signs","forms"] i3):FnOk P w K mg base CX0 31 f fd ["script"] (oj K):=by
  refine F.ok b9 (fun vs H Q E h=>?_) (fun cdv A outer s H vs Q E hr h=>?_)
  · obtain ⟨a,ns,rfl,_⟩:=h;rfl
  obtain ⟨a,ns,rfl,hS,h63,q⟩:=h;refine ⟨_,(@af _ _ _ _ _ (@bX _ _ _ _ _ _ _ _ aaF rfl (@b_ _ _ _ _ (@ay _ _ _ _ _ _ _ _ jk (@bt _ _ _ _ (@aa _ _ _ _ _ ai ad (by rfl))) (@gu _ _ _ _ _ _ _ _ _ _ iL (pv 0) kR (@gr _ _ _ ai)))) (@am _ _ (1) _ (b9).nd rfl (Or.inl rfl) (.inl rfl)) (@af _ _ _ _ _ (@aw _ _ (2) _ _ _ _ (b9).nd rfl (Or.inl rfl) (@aj _ _ _ _ _ _ _ _ _ _ _ C__law_well hr (by lia) rfl (@aa _ _ _ _ _ (pv 1) ad (by rfl)) (by decide) (by rfl) (by rfl)) (by rfl) (by first|exact .inl rfl|exact .inr rfl|assumption)) (@af _ _ _ _ _ (@aw _ _ (3) _ _ _ _ (b9).nd rfl (Or.inr rfl) (@aj _ _ _ _ _ _ _ _ _ _ _ C__law_signs hr (by lia) rfl (@aa _ _ _ _ _ (pv 2) ad (by rfl)) (by decide) (by rfl) (by rfl)) (by rfl) (by first|exact .inl rfl|exact .inr rfl|assumption)) (@af _ _ _ _ _ (@aw _ _ (4) _ _ _ _ (b9).nd rfl (Or.inr rfl) (@aj _ _ _ _ _ _ _ _ _ _ _ C__law_row hr (by lia) rfl (@aa _ _ _ _ _ (pv 2) (@aa _ _ _ _ _ (@aC _ _ _ _ _ _ _ aF (@bt _ _ _ _ (@aa _ _ _ _ _ ai (@aa _ _ _ _ _ (@ay _ _ _ _ _ _ _ _ bL ai (@aj _ _ _ _ _ _ _ _ _ _ _ C__law_draw hr (by lia) rfl (@aa _ _ _ _ _ (pv 2) (@aa _ _ _ _ _ ai ad (by rfl)) (by rfl)) (by decide) (by rfl) (by rfl))) ad (by rfl)) (by rfl))) (@aj _ _ _ _ _ _ _ _ _ _ _ C__law_draw hr (by lia) rfl (@aa _ _ _ _ _ (pv 2) (@aa _ _ _ _ _ ai ad (by rfl)) (by rfl)) (by decide) (by rfl) (by rfl)) (fun _ _=>rfl)) ad (by rfl)) (by rfl)) (by decide) (by rfl) (by rfl)) (by rfl) (by first|exact .inl rfl|exact .inr rfl|assumption)) (@af _ _ _ _ _ (@aw _ _ (5) _ _ _ _ (b9).nd rfl (Or.inl rfl) (@aj _ _ _ _ _ _ _ _ _ _ _ C_how_many_forms hr (by lia) rfl (@aa _ _ _ _ _ (pv 3) (@aa _ _ _ _ _ (@ap _ _ _ _ _ _ _ _ _ ar rfl B.ilen aay (@aa _ _ _ _ _ (pv 4) ad (by rfl)) (by decide) (by decide) (by rfl) (by rfl)) ad (by rfl)) (by rfl)) (by decide) (by rfl) (by rfl)) (by rfl) (by first|exact .inl rfl|exact .inr rfl|assumption)) (@af _ _ _ _ _ (@aw _ _ (6) _ _ _ _ (b9).nd rfl (Or.inl rfl) (@aj _ _ _ _ _ _ _ _ _ _ _ C__law_draw hr (by lia) rfl (@aa _ _ _ _ _ (pv 2) (@aa _ _ _ _ _ (pv 5) ad (by rfl)) (by rfl)) (by decide) (by rfl) (by rfl)) (by rfl) (by first|exact .inl rfl|exact .inr rfl|assumption)) (@af _ _ _ _ _ (@aw _ _ (7) _ _ _ _ (b9).nd rfl (Or.inl rfl) (@ay _ _ _ _ _ _ _ _ cL (pv 5) ai) (by rfl) (by first|exact .inl rfl|exact .inr rfl|assumption)) (@af _ _ _ _ _ (@aw _ _ (8) _ _ _ _ (b9).nd rfl (Or.inl rfl) (@bt _ _ _ _ (@aa _ _ _ _ _ ai (@aa _ _ _ _ _ (pv 7) (@aa _ _ _ _ _ (@ay _ _ _ _ _ _ _ _ eX (pv 5) ai) (@aa _ _ _ _ _ (pv 6) ad (by rfl)) (by rfl)) (by rfl)) (by rfl))) (by rfl) (by first|exact .inl rfl|exact .inr rfl|assumption)) (@af _ _ _ _ _ (@aw _ _ (8) _ _ _ _ (b9).nd rfl (Or.inl rfl) (@ay _ _ _ _ _ _ _ _ jk (pv 8) (@bt _ _ _ _ (@aa _ _ _ _ _ (@ap _ _ _ _ _ _ _ _ _ (@dL _ rfl) rfl B.imin abo (@aa _ _ _ _ _ (@ay _ _ _ _ _ _ _ _ bL (pv 6) ai) (@aa _ _ _ _ _ (pv 7) ad (by rfl)) (by rfl)) (by decide) (by decide) (by rfl) (by rfl)) (@aa _ _ _ _ _ (@ap _ _ _ _ _ _ _ _ _ (@dL _ rfl) rfl B.imin abo (@aa _ _ _ _ _ (@ay _ _ _ _ _ _ _ _ bL (pv 6) ai) (@aa _ _ _ _ _ (pv 7) ad (by rfl)) (by rfl)) (by decide) (by decide) (by rfl) (by rfl)) ad (by rfl)) (by rfl)))) (by rfl) (by first|exact .inl rfl|exact .inr rfl|assumption)) (@af _ _ _ _ _ (@ow _ (9) _ _ _ _ _ _ _ _ _ _ (["number","row","signs"]) ([none,some 4,some 3]) _ _ _ _ (b9).nd rfl (Or.inl rfl) rfl (@b_ _ _ _ _ (pv 8)) rfl ⟨rfl,⟨rfl,trivial⟩⟩ ⟨⟨rfl,Or.inl rfl,Or.inl rfl⟩,⟨⟨rfl,Or.inl rfl,Or.inl rfl⟩,trivial⟩⟩ (fun _ _ _ _=>⟨(@am _ _ (0) _ (show aaK (["number","row","signs"]:List Str) by decide +kernel) rfl (Or.inl rfl) (.inr rfl)),aU,(@aj _ _ _ _ _ _ _ _ _ _ _ C_nth_form hr (by lia) rfl (@aa _ _ _ _ _ (pv 1) (@aa _ _ _ _ _ (pv 2) (@aa _ _ _ _ _ (pv 0) ad (by rfl)) (by rfl)) (by rfl)) (by decide) (by rfl) (by rfl))⟩) (by rfl) (by rfl) (by rfl) (by rfl) (by intro _;rfl) (by rfl) (by first|exact .inl rfl|exact .inr rfl|assumption)) (@af _ _ _ _ _ (@bX _ _ _ _ _ _ _ _ aaF rfl (@iO _ _ _ _ _ _ _ _ rfl B.ienumerate (@aa _ _ _ _ _ (pv 9) ad (by rfl)) (by rfl)) (@bK _ _ _ _ _ _ rfl (@ao _ _ _ _ _ (@am _ _ (10) _ (b9).nd rfl (Or.inl rfl) (.inl rfl)) (@ao _ _ _ _ _ (@am _ _ (11) _ (b9).nd rfl (Or.inl rfl) (.inl rfl)) aV (by rfl)) (by rfl)) (by rfl) (by rfl)) (@ah _ _ _ (@aH _ _ _ _ _ _ _ _ (@av _ _ _ _ _ _ _ _ l_ (@aj _ _ _ _ _ _ _ _ _ _ _ C_number_of_form hr (by lia) rfl (@aa _ _ _ _ _ (pv 4) (@aa _ _ _ _ _ (pv 3) (@aa _ _ _ _ _ (pv 11) ad (by rfl)) (by rfl)) (by rfl)) (by decide) (by rfl) (by rfl)) (@aC _ _ _ _ _ _ _ aF (pv 8) (pv 10) (fun _ _=>rfl)) (aA _)) (@ah _ _ _ (@aq _ _ _ _ cZ)) au)) (by intro _;rfl)) (@af _ _ _ _ _ (@bX _ _ _ _ _ _ _ _ aaF rfl (@dF _ _ _ _ _ _ rfl B.irange (@aa _ _ _ _ _ ai ad (by rfl)) (by rfl)) (@am _ _ (12) _ (b9).nd rfl (Or.inl rfl) (.inl rfl)) (@ah _ _ _ (@bv _ _ _ _ (@l9 _ _ _ _ _ _ _ _ _ _ _ _ aa0 abb abc dH (pv 9) (@aa _ _ _ _ _ (@aj _ _ _ _ _ _ _ _ _ _ _ C_form_of hr (by lia) rfl (@aa _ _ _ _ _ (@aj _ _ _ _ _ _ _ _ _ _ _ C__law_way hr (by lia) rfl (@aa _ _ _ _ _ (pv 2) (@aa _ _ _ _ _ (pv 4) (@aa _ _ _ _ _ (pv 3) ad (by rfl)) (by rfl)) (by rfl)) (by decide) (by rfl) (by rfl)) ad (by rfl)) (by decide) (by rfl) (by rfl)) ad (by rfl)) (by rfl) (by rfl) (by rfl) (by rfl) (by rfl)) (by rfl))) (by intro _;rfl)) (@ah _ _ _ (@aH _ _ _ _ _ _ _ _ (@bJ _ _ _ _ (@aR _ _ _ (@aj _ _ _ _ _ _ _ _ _ _ _ C__law_right hr (by lia) rfl (@aa _ _ _ _ _ (pv 4) (@aa _ _ _ _ _ (pv 3) (@aa _ _ _ _ _ (pv 9) ad (by rfl)) (by rfl)) (by rfl)) (by decide) (by rfl) (by rfl)) (by intro _;rfl))) (@ah _ _ _ (@aq _ _ _ _ cZ)) au))))))))))))) (by intro _;rfl)) (@ah _ _ _ (@aq _ _ _ _ cZ))),?_⟩;refine ⟨(by show 1≤sizeLine;decide),fun p1 n1=>?_⟩;have g1:=Same.new n1 (.lst [.int 0]);refine ⟨_,rfl,10,rfl,a,_,rfl,g1.seq hS,fun p2 n2=>?_⟩;obtain ⟨ms,em,hm⟩:=rD ns none (some 10);rw [em];have g2:=Same.new n2 (.lst (ms.map V.int));refine ⟨p1,p2,_,_,rfl,rfl,g2 _ _ ag,ag,bQ (by rw [aac];show 1+ms.length≤1000;lia),fun p3 n3=>?_⟩;have e3:upd (upd (upd H p1 (.lst [.int 0])) p2 (.lst (ms.map V.int))) p3 (.lst ([.int 0]++ms.map V.int)) p3=_:=ag;have el:[V.int 0]++ms.map V.int=(0 :: ms).map V.int:=rfl;rw [el] at e3 ⊢;revert e3;generalize upd (upd (upd H p1 (.lst [.int 0])) p2 (.lst (ms.map V.int))) p3 (.lst ((0 :: ms).map V.int))=H3;intro e3;refine ⟨p3,rfl,⟨_,SqL.of e3⟩,q_ (xs:=(0 :: ms).map V.int) (fun i σ H'=>∃ c1 c2 c3 c4 c5 c6 c7 c8 c9 c10 c11 c12,σ=[some (.ref a),c1,c2,c3,c4,c5,c6,c7,c8,c9,c10,c11,c12]∧Same H3 H') ⟨_,_,_,_,_,_,_,_,_,_,_,_,rfl,Same.refl _⟩ ?_ ?_ ?_⟩
  · rintro i σ H' _ ⟨_,_,_,_,_,_,_,_,_,_,_,_,rfl,S⟩;exact SqL.of (S _ _ e3)
  · rintro i x σ H' hx ⟨c1,c2,c3,c4,c5,c6,c7,c8,c9,c10,c11,c12,rfl,S⟩;rw [aao] at hx;obtain ⟨c,_,rfl⟩:=aaG.mp hx;refine ⟨_,rfl,c,rfl,fun wl ca cb H4 g4 nw ew=>?_⟩;have nwl:H3 wl=none:=S.free nw;have w4:Wel H4 wl 0:=⟨ca,cb,0,ew,by lia,by lia⟩
    refine ⟨_,rfl,wl,_,rfl,w4,by lia,fun gs H5 gl1 gl3 sp k5 w5=>?_⟩;have t2:(2:Nat)≤sizeLine:=by decide
    refine ⟨_,rfl,_,rfl,wl,9,_,rfl,by decide,by decide,w5,by lia,fun r1 H6 a1 b1 k6 w6=>⟨_,_,rfl,rfl,t2,fun pl nl=>⟨_,rfl,wl,2,_,rfl,by decide,by decide,w6.keep (Same.new nl _) (aaP _),by lia,fun r2 H7 a2 b2 k7 w7=>?_⟩⟩⟩;have npl:pl≠wl:=w6.ne nl;obtain ⟨z,hz,z1,z9⟩:∃ z:Int,atI [V.int 9,V.int (1+r1)] r2=some (.int z)∧1≤z∧z≤9:=by
      have : r2=0∨r2=1:=by lia
      rcases this with rfl|rfl
      · exact ⟨9,rfl,by decide,by decide⟩
      · exact ⟨1+r1,rfl,by lia,by lia⟩
    refine ⟨pl,_,_,_,rfl,rfl,SqL.of (k7 _ _ npl ag),hz,wl,z,_,rfl,by lia,by lia,w7,by lia,fun pr rs H8 k8 w8 nr er hlen hsm=>?_⟩;have nrw:pr≠wl:=w7.ne nr;have S8:Same H3 H8:=But.same (S.trans g4) nwl (((k5.trans k6).trans ((But.of (Same.new nl _)).trans k7)).trans k8);have r9:rs.length≤9:=by lia
    have r1':1≤rs.length:=by lia
    obtain ⟨t,hsim,G⟩:=gG (bN gl3 sp) r1' r9;obtain ⟨W,hW⟩:=uQ gl3 sp r1' r9 G;obtain ⟨N,hN⟩:∃ N,N=hmf t rs.length:=⟨_,rfl⟩
    have N0:0 < N:=by rw [hN];exact sE gl3 sp G gl1 r1' r9
    have NL:N < 2305843009213693952:=by rw [hN];exact uz G
    have ml:(rs.map V.int).length=rs.length:=aac _;refine ⟨_,rfl,_,rfl,pr,_,rfl,.inl (SqL.of er),?_⟩;rw [ml];refine ⟨gs,rs.length,t,rfl,gl3,sp,r1',r9,hsim,fun H9 s9=>?_⟩;rw [← hN];refine ⟨_,rfl,_,rfl,wl,(N:Int),_,rfl,by lia,by lia,w8.keep s9 (aaP _),by lia,fun r H10 ra rb k10 w10=>?_⟩;obtain ⟨r,rfl⟩:=aby ra;refine ⟨_,rfl,_,_,rfl,rfl,?_⟩;have S10:Same H3 H10:=But.same (S8.trans s9) nwl k10;have er10:=k10 _ _ nrw (s9 _ _ er);refine ⟨_,rfl,_,rfl,_,_,rfl,rfl,⟨by decide,by decide⟩,_,rfl,(by show 4≤sizeLine;decide),fun p11 np11=>?_⟩;have s11:=Same.new np11 (.lst [.int 0,.int ((N:Int) - 1),.int ((N:Int) / 2),.int (r:Int)]);have e11:upd H10 p11 (.lst [.int 0,.int ((N:Int) - 1),.int ((N:Int) / 2),.int (r:Int)]) p11=some (.lst [.int 0,.int ((N:Int) - 1),.int ((N:Int) / 2),.int (r:Int)]):=ag;generalize upd H10 p11 (.lst [.int 0,.int ((N:Int) - 1),.int ((N:Int) / 2),.int (r:Int)])=H11 at s11 e11 ⊢;refine ⟨_,rfl,_,rfl,_,_,rfl,rfl,_,rfl,_,_,rfl,_,rfl,_,_,rfl,rfl,_,rfl,_,_,rfl,(by show 2≤sizeLine;decide),fun p12 np12=>?_⟩;obtain ⟨xs,hxs⟩:∃ xs:List Nat,xs=[0,N - 1,N / 2,r,min (r+1) (N - 1),min (r+2) (N - 1)]:=⟨_,rfl⟩
    have hxl:xs.length=6:=by rw [hxs];rfl
    have hxN:∀ x∈xs,x < N:=fun x hx=>by
      rw [hxs] at hx;simp only [List.mem_cons,List.not_mem_nil,or_false] at hx;rcases hx with rfl|rfl|rfl|rfl|rfl|rfl <;> lia
    have ev:[V.int 0,.int ((N:Int) - 1),.int ((N:Int) / 2),.int (r:Int)]++[V.int (if (N:Int) - 1 < (r:Int)+1 then (N:Int) - 1 else (r:Int)+1),V.int (if (N:Int) - 1 < (r:Int)+2 then (N:Int) - 1 else (r:Int)+2)]=xs.map fun x:Nat=>V.int (x:Nat):=by
      rw [hxs];rw [show (if (N:Int) - 1 < (r:Int)+1 then (N:Int) - 1 else (r:Int)+1)=((min (r+1) (N - 1):Nat):Int) by split <;> lia,show (if (N:Int) - 1 < (r:Int)+2 then (N:Int) - 1 else (r:Int)+2)=((min (r+2) (N - 1):Nat):Int) by split <;> lia,show (N:Int) - 1=((N - 1:Nat):Int) by lia,show (N:Int) / 2=((N / 2:Nat):Int) by lia];rfl
    have s12:=Same.new np12 (.lst [V.int (if (N:Int) - 1 < (r:Int)+1 then (N:Int) - 1 else (r:Int)+1),V.int (if (N:Int) - 1 < (r:Int)+2 then (N:Int) - 1 else (r:Int)+2)]);refine ⟨p11,p12,_,_,rfl,rfl,s12 _ _ e11,ag,bQ (by show 4+2≤1000;decide),fun p13 np13=>?_⟩;rw [show [V.int 0,.int ((N:Int) - 1),.int ((N:Int) / 2),.int (r:Int)]++[(V.int (if (N:Int) - 1 < (r:Int)+1 then (N:Int) - 1 else (r:Int)+1)),V.int (if (N:Int) - 1 < (r:Int)+2 then (N:Int) - 1 else (r:Int)+2)]=xs.map fun x:Nat=>V.int (x:Nat) from ev];have s13:=s11.trans (s12.trans (Same.new np13 (.lst (xs.map fun x:Nat=>V.int (x:Nat)))));refine ⟨_,rfl,p13,rfl,⟨_,SqL.of ag⟩,?_⟩;have e13:upd (upd H11 p12 (.lst [V.int (if (N:Int) - 1 < (r:Int)+1 then (N:Int) - 1 else (r:Int)+1),V.int (if (N:Int) - 1 < (r:Int)+2 then (N:Int) - 1 else (r:Int)+2)])) p13 (.lst (xs.map fun x:Nat=>V.int (x:Nat))) p13=some (.lst (xs.map fun x:Nat=>V.int (x:Nat))):=ag;generalize upd (upd H11 p12 (.lst [V.int (if (N:Int) - 1 < (r:Int)+1 then (N:Int) - 1 else (r:Int)+1),V.int (if (N:Int) - 1 < (r:Int)+2 then (N:Int) - 1 else (r:Int)+2)])) p13 (.lst (xs.map fun x:Nat=>V.int (x:Nat)))=H13 at s13 e13 ⊢;have hWB:∀ x∈xs,(W x).within gs∧(W x).nums=rs∧nft (ae gs) t 9 (W x)=x∧(W x).size=rs.length∧(W x).Bd:=fun x hx=>by
      obtain ⟨a1,a2,a3⟩:=hW x (by rw [← hN];exact hxN x hx);exact ⟨a1,a2,a3,by rw [← (W x).nums_len,a2],lO a2 hsm⟩
    refine eZ (Trn.list (xs:=xs.map fun x:Nat=>V.int (x:Nat))) (fun i ys H'=>Same H13 H'∧jD H' ((xs.take i).map W) ys) ⟨Same.refl _,.nil⟩ (fun i ys H' hi z=>⟨SqL.of (z.1 _ _ e13),aE (by have:=aav z.2;rw [aac,aap] at this;lia)⟩) (fun i x ys H0 H' hi hx z Nx nx=>?_) (fun ys H14 z p14 np14=>?_)
    · obtain ⟨rfl,hx⟩:=hx;obtain ⟨S,hys⟩:=z;rw [aao] at hx;obtain ⟨x,hxi,rfl⟩:=aaG.mp hx;obtain ⟨a1,a2,a3,a4,a5⟩:=hWB x (aaf hxi);refine ⟨_,rfl,_,rfl,_,rfl,W x,pr,gs,t,by rw [a3];rfl,by rw [a2];exact S _ _ (s13 _ _ er10),by rw [a4];exact hsim,by lia,a5,gl3,sp,a1,fun v H2 s2 dv=>nx _ _ ⟨S.trans s2,?_⟩⟩;rw [bx hxi,aan];exact Paired.app (cF s2 hys) (.cons dv .nil)
    obtain ⟨S14,hys⟩:=z;rw [aac,aaS] at hys;have s14:=Same.new np14 (.lst ys);have e14:upd H14 p14 (.lst ys) p14=some (.lst ys):=ag;have SS:=s13.trans (S14.trans s14);have np14':H10 p14=none:=(s13.trans S14).free np14;have hys:=cF s14 hys;have e13':=(S14.trans s14) _ _ e13;generalize upd H14 p14 (.lst ys)=H15 at s14 e14 SS hys e13' ⊢;have w15:=w10.keep SS (aaP _);have np3:H3 p14=none:=S10.free np14';have npw:p14≠wl:=w10.ne np14';have npr:p14≠pr:=fun e=>by rw [e,er10] at np14';cases np14'
    have lys:=aav hys;rw [aac,hxl] at lys;refine ⟨_,rfl,p14,rfl,⟨_,SqL.of e14⟩,?_⟩;refine mH (xs:=ys) (fun i σ H'=>∃ c10 c11 c12,σ=[some (.ref a),some (.int c),some (.ref wl),some (.str (ae gs)),some (.ref pr),some (.int (N:Int)),some (.int (r:Int)),some (.int ((N:Int) - 1)),some (.ref p13),some (.ref p14),c10,c11,c12]∧Same H15 H') ⟨_,_,_,rfl,Same.refl _⟩ ?_ ?_ ?_
    · rintro i σ H' hi ⟨_,_,_,rfl,S⟩;exact SqL.of (S _ _ e14)
    · rintro i x p σ H' hx ⟨c10,c11,c12,rfl,S⟩ np;have sF:=Same.new np (.tup [.int i,x]);have SF:=S.trans sF;refine ⟨p,_,rfl,SqT.of ag,rfl,_,_,rfl,_,_,rfl,rfl,?_⟩;generalize upd H' p (.tup [.int i,x])=HF at SF ⊢;obtain ⟨wy,hwy,du⟩:=Paired.at (cF SF hys) hx;rw [aao] at hwy;obtain ⟨y,hyi,rfl⟩:=aaG.mp hwy;obtain ⟨a1,a2,a3,a4,a5⟩:=hWB y (aaf hyi);refine ⟨_,rfl,_,rfl,_,rfl,W y,pr,x,gs,t,rfl,by rw [a2];exact SF _ _ (SS _ _ er10),du,by rw [a4];exact hsim,by lia,a5,gl3,sp,a1,fun H2 s2=>?_⟩;refine ⟨_,rfl,_,rfl,p13,_,_,_,rfl,rfl,SqL.of ((SF.trans s2) _ _ e13'),fA (by rw [aao,hyi];rfl),rfl,false,congrArg V.bl (by rw [a3,decide_eq_true rfl];rfl),aM ⟨_,_,_,rfl,SF.trans s2⟩⟩
    · rintro σ H16 ⟨c10,c11,c12,rfl,S16⟩;have hys16:=cF S16 hys;have w16:=w15.keep S16 (aaP _);have S316:=S10.trans (SS.trans S16);refine ⟨4,rfl,by decide,by decide,io (n:=4) (fun j σ H'=>∃ c10 c11 c12 ws us,σ=[some (.ref a),some (.int c),some (.ref wl),some (.str (ae gs)),some (.ref pr),some (.int (N:Int)),some (.int (r:Int)),some (.int ((N:Int) - 1)),some (.ref p13),some (.ref p14),c10,c11,c12]∧Same H3 H'∧H' pr=some (.lst (rs.map V.int))∧H' p14=some (.lst us)∧jD H' ws us∧ws.length=6+j∧(∀ w∈ws,w.nums=rs∧w.within gs∧w.Bd)∧Wel H' wl (2000+1000 * j)) ⟨_,_,_,_,_,rfl,S316,(SS.trans S16) _ _ er10,S16 _ _ e14,hys16,by rw [aac,hxl],fun w hw=>?_,w16.more (by lia)⟩ ?_ ?_⟩
      · obtain ⟨y,hy,rfl⟩:=abf.mp hw;obtain ⟨a1,a2,a3,a4,a5⟩:=hWB y hy;exact ⟨a2,a1,a5⟩
      · rintro j σ H17 hj ⟨c10,c11,c12,ws,us,rfl,S17,er17,e17,hus,lws,hws,w17⟩;have bds:∀ w∈ws,w.Bd:=fun w hw=>(hws w hw).2.2;have fms_tups:∀ {Ha Hb:Hp},Tups Ha Hb→jD Ha ws us→jD Hb ws us:=fun {Ha Hb} t h=>by
          clear lws hws e17 hus
          induction h with
          | nil=>exact .nil
          | cons x y ih=>exact .cons (eu t _ _ (Wy.fm_ok _ (bds _ aai)).d x) (ih fun w hw=>bds w (aae _ hw))
        refine ⟨_,rfl,.inl ⟨rfl,_,SqL.of e17⟩,_,rfl,_,rfl,_,rfl,wl,pr,gs,rs,_,rfl,er17,nrw,by lia,by lia,by lia,gl1,gl3,w17,by lia,fun v wy H18 iw en wi k18 w18=>?_⟩;have sz:wy.size≤9:=by rw [← wy.nums_len,en];lia
        have hB:=lO en hsm;have S18:Same H3 H18:=But.same S17 nwl k18;refine ⟨wy,v,rfl,iw,sz,fun u H19 g19 du=>?_⟩;have e19:=g19 _ _ (k18 _ _ npw e17);have er19:=g19 _ _ (k18 _ _ nrw er17);have w19:=w18.keep g19 (aaP _);have hus19:=cF g19 (fms_tups (w17.tups k18) hus);have lus:=aav hus19;refine ⟨p14,us,_,rfl,rfl,e19,aE (by lia),?_⟩;have bu:But p14 H19 (upd H19 p14 (.lst (us++[u]))):=But.put;have tu:=Tups.but bu e19;refine ⟨_,_,_,ws++[wy],us++[u],rfl,But.same (S18.trans g19) np3 bu,bu _ _ (abO npr) er19,ag,?_,by rw [aal];show ws.length+1=_;lia,?_,?_⟩
        · exact Paired.app (fms_tups tu hus19) (.cons (eu tu _ _ (Wy.fm_ok _ hB).d du) .nil)
        · intro w hw;rcases aaB.mp hw with h|h
          · exact hws w h
          · rw [aau.mp h];exact ⟨en,wi,hB⟩
        · obtain ⟨x1,x2,x3,x4,x5,x6⟩:=w19;exact ⟨x1,x2,x3,bu _ _ (abO npw) x4,x5,by lia⟩
      · rintro σ H17 ⟨c10,c11,c12,ws,us,rfl,S17,er17,e17,hus,lws,hws,w17⟩;refine ⟨_,rfl,_,rfl,_,rfl,pr,p14,gs,rs,ws,us,rfl,er17,r1',r9,e17,hus,by lia,hws,gl3,sp,fun H18 s18=>⟨true,rfl,aM ?_⟩⟩;exact ⟨_,_,_,_,_,_,_,_,_,_,_,_,rfl,S17.trans s18⟩
  · rintro σ H4 ⟨c1,c2,c3,c4,c5,c6,c7,c8,c9,c10,c11,c12,rfl,S4⟩;exact q _
end
open PySem L2
theorem us0 {us:List Value} (h:us.length=0):us=[]:=abA.mp h
theorem us1 {us:List Value} (h:us.length=1):∃ a,us=[a]:=by
  cases us with
  | nil=>cases h
  | cons x us=>obtain rfl:=us0 (Nat.succ.inj h);exact ⟨x,rfl⟩
theorem us2 {us:List Value} (h:us.length=2):∃ a b,us=[a,b]:=by
  cases us with
  | nil=>cases h
  | cons x us=>obtain ⟨b,rfl⟩:=us1 (Nat.succ.inj h);exact ⟨x,b,rfl⟩
theorem us3 {us:List Value} (h:us.length=3):∃ a b c,us=[a,b,c]:=by
  cases us with
  | nil=>cases h
  | cons x us=>obtain ⟨b,c,rfl⟩:=us2 (Nat.succ.inj h);exact ⟨x,b,c,rfl⟩
theorem us4 {us:List Value} (h:us.length=4):∃ a b c d,us=[a,b,c,d]:=by
  cases us with
  | nil=>cases h
  | cons x us=>obtain ⟨b,c,d,rfl⟩:=us3 (Nat.succ.inj h);exact ⟨x,b,c,d,rfl⟩
theorem us5 {us:List Value} (h:us.length=5):∃ a b c d e,us=[a,b,c,d,e]:=by
  cases us with
  | nil=>cases h
  | cons x us=>obtain ⟨b,c,d,e,rfl⟩:=us4 (Nat.succ.inj h);exact ⟨x,b,c,d,e,rfl⟩
theorem all_mk {l:PySem.W.OpenLaw} {w:World} {K:aaa} {h:Heap} {mg:Str→Option Value} {fa:Addr} (X:K.In h) (G:h.Ns mainGlobals mg) (hfa:mg "law" = some (.ref fa))
    {tM tS1 tS2 tS3:Tok} {cS:Addr} {odS:Option Addr} {nS:Nat} {slS:Array (Option Value)}
    {tM3 tP1 tP2 tP3 tP4 tP5 tP6 tP7:Tok} {cP:Addr} {odP:Option Addr} {nP:Nat} {slP:Array (Option Value)}
    {tT1 tT2 tT3 tT4:Tok} {cT:Addr} {nT:Nat}
    {tK1 tK2 tW1 tW2 tW3 tW4:Tok} {cK cW:Addr} {odK:Option Addr} {nK nW:Nat} {slK:Array (Option Value)}
    {tL:Tok}
{f0:Addr}
{f1:Addr}
{f2:Addr}
{f3:Addr}
{f4:Addr}
{f5:Addr}
{f6:Addr}
{f7:Addr}
{f8:Addr}
{f9:Addr}
{f10:Addr}
{f11:Addr}
{f12:Addr}
{f13:Addr}
{f14:Addr}
{f15:Addr}
{f16:Addr}
{f17:Addr}
{f18:Addr}
{f19:Addr}
{f20:Addr}
{f21:Addr}
{f22:Addr}
{f23:Addr}
{f24:Addr}
{f25:Addr}
{f26:Addr}
{f27:Addr}
{f28:Addr}
{f29:Addr}
{f30:Addr}
{f31:Addr}
{f32:Addr}
{f33:Addr}
{f34:Addr}
{f35:Addr}
{f36:Addr}
{f37:Addr}
{f38:Addr}
{f39:Addr}
{f40:Addr}
{f41:Addr}
{f42:Addr}
{f43:Addr}
{f44:Addr}
{f45:Addr}
{f46:Addr}
{f47:Addr}
{f48:Addr}
{f49:Addr}
{f50:Addr}
{f51:Addr}
{f52:Addr}
{od53 an53:Option Addr} {sl53:Array (Option Value)} {oc53 kV53 dc53 pm53 cd53 ct53:Value} {f53:Addr}
    (q0:Fq K "is_whole" fQ f0)
    (q1:Fq K "is_row" je f1)
    (q2:Fq K "is_signs" fR f2)
    (q3:Fq K "is_many" g9 f3)
    (q4:Fq K "is_sign" gZ f4)
    (q5:Fq K "is_way" jd f5)
    (q6:Fq K "need_row" fP f6)
    (q7:Fq K "need_signs" dP f7)
    (q8:Fq K "need_way" fO f8)
    (q9:Fq K "need_many" eM f9)
    (q10:Fq K "shorter_first" cH f10)
    (q11:Fq K "cuts_of" hX f11)
    (q12:Fq K "numbers_of" dN f12)
    (q13:Fq K "list_numbers" cX f13)
    (q14:Fq K "signs_of" fL f14)
    (q15:Fq K "join_signs" dR f15)
    (q16:Fq K "form_of" hU f16)
    (q17:Fq K "find_form" eP f17)
    (q18:Fq K "is_kind" g_ f18)
    (q19:Fq K "terms_in" fK f19)
    (q20:Fq K "factors_in" dW f20)
    (q21:Fq K "parts_of" fM f21)
    (q22:Fq K "put_parts" eK f22)
    (q23:Fq K "numbers_in" dO f23)
    (q24:Fq K "how_many_forms" ck f24)
    (q25:Fq K "nth_form" fN f25)
    (q26:Fq K "number_of_form" cj f26)
    (q27:Fq K "first_way" eO f27)
    (q28:Fq K "need_form" eN f28)
    (q29:Fq K "is_form" hE f29)
    (q30:Fq K "heads_at" fS f30)
    (q31:Fq K "count_ends" dX f31)
    (q32:Fq K "choices_at" dY f32)
    (q33:Fq K "count_parts" dn f33)
    (q34:Fq K "count_forms" dq f34)
    (q35:Fq K "form_at" hV f35)
    (q36:Fq K "pick_choice" dm f36)
    (q37:Fq K "number_at" eL f37)
    (q38:Fq K "number_ahead" cV f38)
    (q39:Fq K "joint_sign" dQ f39)
    (q40:Fq K "joints_within" cI f40)
    (q41:Fq K "find_first" dU f41)
    (q42:Fq K "join_first" dS f42)
    (q43:Fq K "_law_mixed" d5 f43)
    (q44:Fq K "_law_well" eQ f44)
    (q45:Fq K "_law_draw" eS f45)
    (q46:Fq K "_law_number" dr f46)
    (q47:Fq K "_law_row" fU f47)
    (q48:Fq K "_law_signs" dZ f48)
    (q49:Fq K "_law_way" fT f49)
    (q50:Fq K "_law_leaves" dt f50)
    (q51:Fq K "_law_form_key" cJ f51)
    (q52:Fq K "_law_right" d0 f52)
    (a53:aax K mainGlobals "law" = some (some (.ref f53))) (l53:K.lookup f53=some ⟨oc53,od53,.func (aa8 "law" "law" (cB gl) (cf gl) (al gl) .none kV53 dc53 pm53 an53 cd53 ct53),sl53⟩) (c53:abB K cd53 "law" = true) (k53:aa7 K (.ref f53)=true)
    (ep:aax K mainGlobals "len" = some none)
    (eo : aax K mainGlobals "isinstance" = some none)
    (en:aax K mainGlobals "int" = some none)
    (ej:aax K mainGlobals "bool" = some none)
    (ey:aax K mainGlobals "str" = some none)
    (eC:aax K mainGlobals "tuple" = some none)
    (eq:aax K mainGlobals "list" = some none)
    (ex:aax K mainGlobals "sorted" = some none)
    (et:aax K mainGlobals "range" = some none)
    (eu:aax K mainGlobals "repr" = some none)
    (em:aax K mainGlobals "enumerate" = some none)
    (eB:aax K mainGlobals "sum" = some none)
    (eh:aax K mainGlobals "all" = some none)
    (es:aax K mainGlobals "min" = some none)
    (er:aax K mainGlobals "max" = some none)
    (eg:aax K mainGlobals "abs" = some none)
    (el:aax K mainGlobals "divmod" = some none)
    (ek:aax K mainGlobals "dict" = some none)
    (ew:aax K mainGlobals "set" = some none)
    (ev:aax K mainGlobals "reversed" = some none)
    (ei:aax K mainGlobals "any" = some none)
    (eD:aax K mainGlobals "zip" = some none)
    (gM:aax K mainGlobals "MOST_NUMBERS" = some (some (.int 9 tM)))
    (gS:aax K mainGlobals "SIGNS" = some (some (.ref cS)))
    (lS:K.lookup cS=some ⟨.type "tuple",odS,.seq #[.str "+" tS1,.str "-" tS2,.str "*" tS3] nS,slS⟩)
    (gM3:aax K mainGlobals "MOST_NUMBERS" = some (some (.int 9 tM3)))
    (gP:aax K mainGlobals "SIGNS_TO_PUT" = some (some (.ref cP)))
    (lP:K.lookup cP=some ⟨.type "tuple",odP,.seq #[.str "+" tP1,.str "-" tP2,.str "*" tP3,.str "+-" tP4,.str "+*" tP5,.str "-*" tP6,.str "+-*" tP7] nP,slP⟩)
    (gT:aax K mainGlobals "TURNED" = some (some (.ref cT)))
    (lT:K.lookup cT=some ⟨.type "dict",none,.dict #[⟨abr w.params "+",.str "+" tT1,.str "-" tT2⟩,⟨abr w.params "-",.str "-" tT3,.str "+" tT4⟩] nT,#[]⟩)
    (gK:aax K mainGlobals "KINDS" = some (some (.ref cK)))
    (lK:K.lookup cK=some ⟨.type "tuple",odK,.seq #[.str "sum" tK1,.str "times" tK2] nK,slK⟩)
    (gW:aax K mainGlobals "WITHIN" = some (some (.ref cW)))
    (lW:K.lookup cW=some ⟨.type "dict",none,.dict #[⟨abr w.params "sum",.str "sum" tW1,.str "times" tW2⟩,⟨abr w.params "times",.str "times" tW3,.str "sum" tW4⟩] nW,#[]⟩)
    (gL:aax K mainGlobals "LATER" = some (some (.int 2 tL))) :
    ∃ fd:FuncData,(∀ (s:Shared) (v:Value),BindsTo s fd ⟨[v],[]⟩ [("script",v)])∧∀ base:Heap,K.In base→base.Ns mainGlobals mg→FnOk l.prog w K mg base CX0 31 fa fd ["script"] (oj K):=by
  have e:=hfa.symm.trans (abe X G a53);cases e;obtain ⟨_,bz,cv,dG⟩:=q0.use X G (ps:=["thing"]) fun _ _ _ _ _ _ us hl=>by obtain ⟨_,rfl⟩:=us1 hl;rfl
  obtain ⟨_,bu,cr,dA⟩:=q1.use X G (ps:=["thing"]) fun _ _ _ _ _ _ us hl=>by obtain ⟨_,rfl⟩:=us1 hl;rfl
  obtain ⟨_,bw,ct,dE⟩:=q2.use X G (ps:=["thing"]) fun _ _ _ _ _ _ us hl=>by obtain ⟨_,rfl⟩:=us1 hl;rfl
  obtain ⟨_,bt,cq,dz⟩:=q3.use X G (ps:=["thing"]) fun _ _ _ _ _ _ us hl=>by obtain ⟨_,rfl⟩:=us1 hl;rfl
  obtain ⟨_,bv,cs,dD⟩:=q4.use X G (ps:=["thing"]) fun _ _ _ _ _ _ us hl=>by obtain ⟨_,rfl⟩:=us1 hl;rfl
  obtain ⟨_,bx,cu,dF⟩:=q5.use X G (ps:=["thing"]) fun _ _ _ _ _ _ us hl=>by obtain ⟨_,rfl⟩:=us1 hl;rfl
  obtain ⟨_,bJ,cF,dV⟩:=q6.use X G (ps:=["thing"]) fun _ _ _ _ _ _ us hl=>by obtain ⟨_,rfl⟩:=us1 hl;rfl
  obtain ⟨_,bK,cG,d1⟩:=q7.use X G (ps:=["thing"]) fun _ _ _ _ _ _ us hl=>by obtain ⟨_,rfl⟩:=us1 hl;rfl
  obtain ⟨_,bL,cL,d2⟩:=q8.use X G (ps:=["thing"]) fun _ _ _ _ _ _ us hl=>by obtain ⟨_,rfl⟩:=us1 hl;rfl
  obtain ⟨_,bI,cE,dT⟩:=q9.use X G (ps:=["thing"]) fun _ _ _ _ _ _ us hl=>by obtain ⟨_,rfl⟩:=us1 hl;rfl
  obtain ⟨_,bV,c1,ed⟩:=q10.use X G (ps:=["many"]) fun _ _ _ _ _ _ us hl=>by obtain ⟨_,rfl⟩:=us1 hl;rfl
  obtain ⟨_,bi,cc,di⟩:=q11.use X G (ps:=["stretch"]) fun _ _ _ _ _ _ us hl=>by obtain ⟨_,rfl⟩:=us1 hl;rfl
  obtain ⟨_,bR,cU,d9⟩:=q12.use X G (ps:=["way"]) fun _ _ _ _ _ _ us hl=>by obtain ⟨_,rfl⟩:=us1 hl;rfl
  obtain ⟨_,bG,cA,dL⟩:=q13.use X G (ps:=["way"]) fun _ _ _ _ _ _ us hl=>by obtain ⟨_,rfl⟩:=us1 hl;rfl
  obtain ⟨_,bW,c2,ee⟩:=q14.use X G (ps:=["way"]) fun _ _ _ _ _ _ us hl=>by obtain ⟨_,rfl⟩:=us1 hl;rfl
  obtain ⟨_,bC,cx,dI⟩:=q15.use X G (ps:=["way"]) fun _ _ _ _ _ _ us hl=>by obtain ⟨_,rfl⟩:=us1 hl;rfl
  obtain ⟨_,bo,cl,du⟩:=q16.use X G (ps:=["way"]) fun _ _ _ _ _ _ us hl=>by obtain ⟨_,rfl⟩:=us1 hl;rfl
  obtain ⟨_,bl,cg,dl⟩:=q17.use X G (ps:=["way"]) fun _ _ _ _ _ _ us hl=>by obtain ⟨_,rfl⟩:=us1 hl;rfl
  obtain ⟨_,bs,cp,dy⟩:=q18.use X G (ps:=["form","kind"]) fun _ _ _ _ _ _ us hl=>by obtain ⟨_,_,rfl⟩:=us2 hl;rfl
  obtain ⟨_,bX,c3,ef⟩:=q19.use X G (ps:=["form"]) fun _ _ _ _ _ _ us hl=>by obtain ⟨_,rfl⟩:=us1 hl;rfl
  obtain ⟨_,bj,cd,dj⟩:=q20.use X G (ps:=["form"]) fun _ _ _ _ _ _ us hl=>by obtain ⟨_,rfl⟩:=us1 hl;rfl
  obtain ⟨_,bS,cY,ea⟩:=q21.use X G (ps:=["form"]) fun _ _ _ _ _ _ us hl=>by obtain ⟨_,rfl⟩:=us1 hl;rfl
  obtain ⟨_,bU,c0,ec⟩:=q22.use X G (ps:=["kind","parts"]) fun _ _ _ _ _ _ us hl=>by obtain ⟨_,_,rfl⟩:=us2 hl;rfl
  obtain ⟨_,bQ,cR,d8⟩:=q23.use X G (ps:=["form"]) fun _ _ _ _ _ _ us hl=>by obtain ⟨_,rfl⟩:=us1 hl;rfl
  obtain ⟨_,bq,cn,dw⟩:=q24.use X G (ps:=["signs","many"]) fun _ _ _ _ _ _ us hl=>by obtain ⟨_,_,rfl⟩:=us2 hl;rfl
  obtain ⟨_,bM,cM,d3⟩:=q25.use X G (ps:=["row","signs","number"]) fun _ _ _ _ _ _ us hl=>by obtain ⟨_,_,_,rfl⟩:=us3 hl;rfl
  obtain ⟨_,bP,cQ,d7⟩:=q26.use X G (ps:=["row","signs","form"]) fun _ _ _ _ _ _ us hl=>by obtain ⟨_,_,_,rfl⟩:=us3 hl;rfl
  obtain ⟨_,bm,ch,dp⟩:=q27.use X G (ps:=["row","signs","form"]) fun _ _ _ _ _ _ us hl=>by obtain ⟨_,_,_,rfl⟩:=us3 hl;rfl
  obtain ⟨_,bH,cC,dM⟩:=q28.use X G (ps:=["row","signs","thing"]) fun _ _ _ _ _ _ us hl=>by obtain ⟨_,_,_,rfl⟩:=us3 hl;rfl
  obtain ⟨_,br,co,dx⟩:=q29.use X G (ps:=["thing","kinds","signs","room"]) fun _ _ _ _ _ _ us hl=>by obtain ⟨_,_,_,_,rfl⟩:=us4 hl;rfl
  obtain ⟨_,bp,cm,dv⟩:=q30.use X G (ps:=["kind","place","signs"]) fun _ _ _ _ _ _ us hl=>by obtain ⟨_,_,_,rfl⟩:=us3 hl;rfl
  obtain ⟨_,bf,b9,df⟩:=q31.use X G (ps:=["signs","many"]) fun _ _ _ _ _ _ us hl=>by obtain ⟨_,_,rfl⟩:=us2 hl;rfl
  obtain ⟨_,be,b8,de⟩:=q32.use X G (ps:=["signs","ends","kind","place","left"]) fun _ _ _ _ _ _ us hl=>by obtain ⟨_,_,_,_,_,rfl⟩:=us5 hl;rfl
  obtain ⟨_,bh,cb,dh⟩:=q33.use X G (ps:=["ends","kind","many"]) fun _ _ _ _ _ _ us hl=>by obtain ⟨_,_,_,rfl⟩:=us3 hl;rfl
  obtain ⟨_,bg,ca,dg⟩:=q34.use X G (ps:=["ends","many"]) fun _ _ _ _ _ _ us hl=>by obtain ⟨_,_,rfl⟩:=us2 hl;rfl
  obtain ⟨_,bn,ci,ds⟩:=q35.use X G (ps:=["row","signs","ends","kind","number"]) fun _ _ _ _ _ _ us hl=>by obtain ⟨_,_,_,_,_,rfl⟩:=us5 hl;rfl
  obtain ⟨_,bT,cZ,eb⟩:=q36.use X G (ps:=["choices","number"]) fun _ _ _ _ _ _ us hl=>by obtain ⟨_,_,rfl⟩:=us2 hl;rfl
  obtain ⟨_,bO,cO,d6⟩:=q37.use X G (ps:=["form","signs","ends"]) fun _ _ _ _ _ _ us hl=>by obtain ⟨_,_,_,rfl⟩:=us3 hl;rfl
  obtain ⟨_,bN,cN,d4⟩:=q38.use X G (ps:=["choices","head","many","part_number"]) fun _ _ _ _ _ _ us hl=>by obtain ⟨_,_,_,_,rfl⟩:=us4 hl;rfl
  obtain ⟨_,bD,cy,dJ⟩:=q39.use X G (ps:=["left_head","right_head"]) fun _ _ _ _ _ _ us hl=>by obtain ⟨_,_,rfl⟩:=us2 hl;rfl
  obtain ⟨_,bE,cz,dK⟩:=q40.use X G (ps:=["parts","signs","stretch"]) fun _ _ _ _ _ _ us hl=>by obtain ⟨_,_,_,rfl⟩:=us3 hl;rfl
  obtain ⟨_,bk,ce,dk⟩:=q41.use X G (ps:=["form","signs"]) fun _ _ _ _ _ _ us hl=>by obtain ⟨_,_,rfl⟩:=us2 hl;rfl
  obtain ⟨_,bA,cw,dH⟩:=q42.use X G (ps:=["firsts","joints"]) fun _ _ _ _ _ _ us hl=>by obtain ⟨_,_,rfl⟩:=us2 hl;rfl
  obtain ⟨_,a7,b1,c7⟩:=q43.use X G (ps:=["cell","k"]) fun _ _ _ _ _ _ us hl=>by obtain ⟨_,_,rfl⟩:=us2 hl;rfl
  obtain ⟨_,bd,b7,dd⟩:=q44.use X G (ps:=["cell"]) fun _ _ _ _ _ _ us hl=>by obtain ⟨_,rfl⟩:=us1 hl;rfl
  obtain ⟨_,a4,bY,c4⟩:=q45.use X G (ps:=["well","many"]) fun _ _ _ _ _ _ us hl=>by obtain ⟨_,_,rfl⟩:=us2 hl;rfl
  obtain ⟨_,a8,b2,c8⟩:=q46.use X G (ps:=["well"]) fun _ _ _ _ _ _ us hl=>by obtain ⟨_,rfl⟩:=us1 hl;rfl
  obtain ⟨_,ba,b4,da⟩:=q47.use X G (ps:=["well","many"]) fun _ _ _ _ _ _ us hl=>by obtain ⟨_,_,rfl⟩:=us2 hl;rfl
  obtain ⟨_,bb,b5,db⟩:=q48.use X G (ps:=["well"]) fun _ _ _ _ _ _ us hl=>by obtain ⟨_,rfl⟩:=us1 hl;rfl
  obtain ⟨_,bc,b6,dc⟩:=q49.use X G (ps:=["well","row","signs"]) fun _ _ _ _ _ _ us hl=>by obtain ⟨_,_,_,rfl⟩:=us3 hl;rfl
  obtain ⟨_,a6,b0,c6⟩:=q50.use X G (ps:=["form"]) fun _ _ _ _ _ _ us hl=>by obtain ⟨_,rfl⟩:=us1 hl;rfl
  obtain ⟨_,a5,bZ,c5⟩:=q51.use X G (ps:=["form"]) fun _ _ _ _ _ _ us hl=>by obtain ⟨_,rfl⟩:=us1 hl;rfl
  obtain ⟨_,a9,b3,c9⟩:=q52.use X G (ps:=["row","signs","forms"]) fun _ _ _ _ _ _ us hl=>by obtain ⟨_,_,_,rfl⟩:=us3 hl;rfl
  have bF:=qY (st:=gl) l53 c53 k53;have B:Bu K mg:=⟨aat X G ep,aat X G eo,aat X G en,aat X G ej,aat X G ey,aat X G eC,aat X G eq,aat X G ex,aat X G et,aat X G eu,aat X G em,aat X G eB,aat X G eh,aat X G es,aat X G er,aat X G eg,aat X G el,aat X G ek,aat X G ew,aat X G ev,aat X G ei,aat X G eD⟩
  have B':Co K mg tM cS:=⟨abe X G gM,abe X G gS,fun H=>.inr ⟨_,_,_,lS,rfl,rfl,by show 3≤sizeLine;decide,.cons ⟨_,rfl⟩ (.cons ⟨_,rfl⟩ (.cons ⟨_,rfl⟩ .nil))⟩⟩
  have B3:Cp K mg tM3 cP:=⟨abe X G gM3,abe X G gP,fun H=>.inr ⟨_,_,_,lP,rfl,rfl,by show 7≤sizeLine;decide,.cons ⟨_,rfl⟩ (.cons ⟨_,rfl⟩ (.cons ⟨_,rfl⟩ (.cons ⟨_,rfl⟩ (.cons ⟨_,rfl⟩ (.cons ⟨_,rfl⟩ (.cons ⟨_,rfl⟩ .nil))))))⟩⟩
  have B2:Ct l.prog w K mg cT:=⟨abe X G gT,KD.two lT (by decide) (by decide) (by decide)⟩
  have B4:Cw l.prog w K mg cK cW:=⟨abe X G gK,fun H=>.inr ⟨_,_,_,lK,rfl,rfl,by show 2≤sizeLine;decide,.cons ⟨_,rfl⟩ (.cons ⟨_,rfl⟩ .nil)⟩,abe X G gW,KD.two lW (by decide) (by decide) (by decide)⟩
  have B5:C5 mg tL:=⟨abe X G gL⟩
  refine ⟨aa8 "law" "law" (cB gl) (cf gl) (al gl) .none kV53 dc53 pm53 an53 cd53 ct53,fun s v=>.of_eq rfl,fun base _ _=>?_⟩;have aH:Cal l.prog w K mg base "is_whole" 1 ["thing"] (bB K):=⟨_,_,mq bz B,cv,bz.kp,dG⟩
  have aE:Cal l.prog w K mg base "is_sign" 1 ["thing"] kt:=⟨_,_,nk bv B B',cs,bv.kp,dD⟩
  have aG:Cal l.prog w K mg base "is_way" 2 ["thing"] kB:=⟨_,_,pG bx B B' aH aE,cu,bx.kp,dF⟩
  have aR:Cal l.prog w K mg base "need_way" 3 ["thing"] dB:=⟨_,_,mh bL aG,cL,bL.kp,d2⟩
  have aM:Cal l.prog w K mg base "list_numbers" 21 ["way"] (kw 20):=⟨_,_,iE bG cA dL aH 20,cA,bG.kp,dL⟩
  have aX:Cal l.prog w K mg base "numbers_of" 22 ["way"] eA:=⟨_,_,jK bR aR aM,cU,bR.kp,d9⟩
  have aJ:Cal l.prog w K mg base "join_signs" 21 ["way"] (og 20):=⟨_,_,jO bC cx dI aH 20,cx,bC.kp,dI⟩
  have a2:Cal l.prog w K mg base "signs_of" 22 ["way"] gR:=⟨_,_,md bW aR aJ,c2,bW.kp,ee⟩
  have ad:Cal l.prog w K mg base "_law_mixed" 1 ["cell","k"] kz:=⟨_,_,qE a7,b1,a7.kp,c7⟩
  have aj:Cal l.prog w K mg base "_law_well" 1 ["cell"] mW:=⟨_,_,sh bd B,b7,bd.kp,dd⟩
  have aa:Cal l.prog w K mg base "_law_draw" 2 ["well","many"] fG:=⟨_,_,si a4 ad,bY,a4.kp,c4⟩
  have ae:Cal l.prog w K mg base "_law_number" 3 ["well"] iZ:=⟨_,_,pF a8 aa,b2,a8.kp,c8⟩
  have ag:Cal l.prog w K mg base "_law_row" 4 ["well","many"] qc:=⟨_,_,uc ba B aa ae,b4,ba.kp,da⟩
  have ah:Cal l.prog w K mg base "_law_signs" 3 ["well"] fF:=⟨_,_,k_ bb aa,b5,bb.kp,db⟩
  have ai:Cal l.prog w K mg base "_law_way" 11 ["well","row","signs"] (oe 9):=⟨_,_,ub bc b6 dc B aa 9,b6,bc.kp,dc⟩
  have aB:Cal l.prog w K mg base "is_kind" 2 ["form","kind"] kA:=⟨_,_,nu bs aH,cp,bs.kp,dy⟩
  have a3:Cal l.prog w K mg base "terms_in" 3 ["form"] kq:=⟨_,_,ma bX aB,c3,bX.kp,ef⟩
  have aq:Cal l.prog w K mg base "factors_in" 3 ["form"] gX:=⟨_,_,jR bj aB,cd,bj.kp,dj⟩
  have au:Cal l.prog w K mg base "find_form" 24 ["way"] (kD 20):=⟨_,_,lb bl cg dl B B2 aH aq a3 20,cg,bl.kp,dl⟩
  have ax:Cal l.prog w K mg base "form_of" 25 ["way"] ge:=⟨_,_,nz bo aR au,cl,bo.kp,du⟩
  have aD:Cal l.prog w K mg base "is_row" 2 ["thing"] kC:=⟨_,_,pH bu B B3 aH,cr,bu.kp,dA⟩
  have aP:Cal l.prog w K mg base "need_row" 3 ["thing"] fc:=⟨_,_,mj bJ aD,cF,bJ.kp,dV⟩
  have aC:Cal l.prog w K mg base "is_many" 2 ["thing"] i6:=⟨_,_,nq bt B B3 aH,cq,bt.kp,dz⟩
  have aF:Cal l.prog w K mg base "is_signs" 1 ["thing"] gU:=⟨_,_,mr bw B B3,ct,bw.kp,dE⟩
  have aQ:Cal l.prog w K mg base "need_signs" 2 ["thing"] cD:=⟨_,_,jM bK aF,cG,bK.kp,d1⟩
  have aO:Cal l.prog w K mg base "need_many" 3 ["thing"] fE:=⟨_,_,kZ bI aC,cE,bI.kp,dT⟩
  have ap:Cal l.prog w K mg base "cuts_of" 1 ["stretch"] mZ:=⟨_,_,nB bi B,cc,bi.kp,di⟩
  have a1:Cal l.prog w K mg base "shorter_first" 1 ["many"] tQ:=⟨_,_,ic bV B,c1,bV.kp,ed⟩
  have aY:Cal l.prog w K mg base "parts_of" 1 ["form"] j4:=⟨_,_,me bS B,cY,bS.kp,ea⟩
  have aW:Cal l.prog w K mg base "numbers_in" 11 ["form"] (ez 9):=⟨_,_,jL bQ cR d8 B aH aY 9,cR,bQ.kp,d8⟩
  have aK:Cal l.prog w K mg base "joint_sign" 1 ["left_head","right_head"] tS:=⟨_,_,jN bD,cy,bD.kp,dJ⟩
  have aL:Cal l.prog w K mg base "joints_within" 2 ["parts","signs","stretch"] tR:=⟨_,_,ie bE B ap aK,cz,bE.kp,dK⟩
  have aI:Cal l.prog w K mg base "join_first" 1 ["firsts","joints"] tT:=⟨_,_,jP bA B,cw,bA.kp,dH⟩
  have ar:Cal l.prog w K mg base "find_first" 12 ["form","signs"] (rT 9):=⟨_,_,jQ bk ce dk B aH aY a1 aL aI 9,ce,bk.kp,dk⟩
  have ay:Cal l.prog w K mg base "heads_at" 1 ["kind","place","signs"] ol:=⟨_,_,mt bp,cm,bp.kp,dv⟩
  have aA:Cal l.prog w K mg base "is_form" 11 ["thing","kinds","signs","room"] (rS K 9):=⟨_,_,nv br co dx B B4 aH aY aE ay 9,co,br.kp,dx⟩
  have aN:Cal l.prog w K mg base "need_form" 12 ["row","signs","thing"] rQ:=⟨_,_,k9 bH B B4 aP aQ aA aW,cC,bH.kp,dM⟩
  have av:Cal l.prog w K mg base "first_way" 13 ["row","signs","form"] tU:=⟨_,_,la bm aN ar,ch,bm.kp,dp⟩
  have ao:Cal l.prog w K mg base "count_parts" 1 ["ends","kind","many"] ku:=⟨_,_,jo bh B4 B5,cb,bh.kp,dh⟩
  have ak:Cal l.prog w K mg base "choices_at" 2 ["signs","ends","kind","place","left"] dC:=⟨_,_,jT be B B4 B5 ay ao,b8,be.kp,de⟩
  have am:Cal l.prog w K mg base "count_ends" 3 ["signs","many"] i7:=⟨_,_,jS bf B B4 B5 ak,b9,bf.kp,df⟩
  have an:Cal l.prog w K mg base "count_forms" 1 ["ends","many"] iK:=⟨_,_,jp bg B B4 B5,ca,bg.kp,dg⟩
  have az:Cal l.prog w K mg base "how_many_forms" 4 ["signs","many"] qd:=⟨_,_,gA bq aQ aO am an,cn,bq.kp,dw⟩
  have aT:Cal l.prog w K mg base "number_ahead" 1 ["choices","head","many","part_number"] kF:=⟨_,_,iD bN B,cN,bN.kp,d4⟩
  have aZ:Cal l.prog w K mg base "pick_choice" 1 ["choices","number"] mY:=⟨_,_,jm bT B,cZ,bT.kp,eb⟩
  have aU:Cal l.prog w K mg base "number_at" 21 ["form","signs","ends"] (rR 9):=⟨_,_,kY bO cO d6 B B5 aH aW aY ak aT 9,cO,bO.kp,d6⟩
  have a0:Cal l.prog w K mg base "put_parts" 1 ["kind","parts"] mX:=⟨_,_,kX bU B,c0,bU.kp,ec⟩
  have aw:Cal l.prog w K mg base "form_at" 12 ["row","signs","ends","kind","number"] (rU 9):=⟨_,_,nA bn ci ds B B4 B5 ak aZ a0 9,ci,bn.kp,ds⟩
  have aS:Cal l.prog w K mg base "nth_form" 13 ["row","signs","number"] oh:=⟨_,_,mf bM B aP aQ am aH an aw,cM,bM.kp,d3⟩
  have aV:Cal l.prog w K mg base "number_of_form" 22 ["row","signs","form"] oi:=⟨_,_,gz bP B aN am aH aU,cQ,bP.kp,d7⟩
  have ac:Cal l.prog w K mg base "_law_leaves" 10 ["form"] (gc 9):=⟨_,_,jq a6 b0 c6 B 9,b0,a6.kp,c6⟩
  have ab:Cal l.prog w K mg base "_law_form_key" 20 ["form"] (kE 9):=⟨_,_,ig a5 bZ c5 B ac 9,bZ,a5.kp,c5⟩
  have af:Cal l.prog w K mg base "_law_right" 30 ["row","signs","forms"] i3:=⟨_,_,jU a9 B aV aS av aX ax a2 ab,b3,a9.kp,c9⟩
  exact ud bF B aj aa ag ah ai ax az aS aV af
theorem walk {l:PySem.W.OpenLaw} {q:Program} {loose:List Str} {XP:(Str→Option Value)→Heap→Prop} {YP:World→Heap→Prop} {d:DefRec} {K:Params→aaa} (hn:l.most=some 63) (hdf:d.params.defaults=[]) (hi:PyProof.Rows.importsNone q=true)
    (hY:∀ (w:World) (h:Heap),YP w h→(K w.params).In h)
    (F:∀ (w:World) (mg:Str→Option Value) (fa:Addr) (h:Heap),(K w.params).In h→h.Ns mainGlobals mg→mg d.name=some (.ref fa) →
      ∃ fd:FuncData,(∀ (s:Shared) (u:Value),BindsTo s fd ⟨[u],[]⟩ [("script",u)])∧∀ base:Heap,(K w.params).In base→base.Ns mainGlobals mg→FnOk l.prog w (K w.params) mg base CX0 31 fa fd ["script"] (oj (K w.params))) :
    PySem.W.WalkO q loose XP YP l.row.toRowW d [] (fun f vs=>PySem.call f vs) :=
  L2.walk_of (n:=63) (k:=31) (x:="script") (CX:=fun _=>CX0) (sp:=fun w=>oj (K w.params)) hn (by decide) hdf ⟨rfl,by decide,by decide,rfl⟩ hi hY F (fun _ _ a ns hl _ hS=>⟨a,ns,rfl,hS,hl,fun _=>rfl⟩) fun _ _ _ _ _ z=>z
end Put
namespace PySem.W.Fast
def tw18317855517451827299:=0
def tw6933834995514645523:=0
def tw3513706718323228794:=0
def tw10175452685081883898:=0
def tw2479591859689283438:=0
def tw8946566064407036322:=0
def tw14780072834968929744:=0
def tw1291432717156617607:=0
def tw3180569047019258286:=0
def tw17051017865441491790:=0
def tw17876106682026933271:=0
def tw4876723295031086302:=0
def tw14111150142760812966:=0
def tw13096267739614859251:=0
def tw18388922047529950611:=0
def tw366796165182503613:=0
def tw6619465850404642523:=0
def tw11901676888665654797:=0
def tw13257697195110727821:=0
def tw1176421578088575734:=0
def tw7910284339763438446:=0
def tw14375287483584460495:=0
def tw14357469178367625543:=0
def tw4259311620511916266:=0
def tw14833459172268469638:=0
def tw1658718617840362967:=0
def tw14291581698535800808:=0
def tw11470807199842094190:=0
def tw8265438558312009595:=0
def tw16441292530975389673:=0
def tw11933383887441838959:=0
def tw13761500940484563962:=0
def tw6107999586088367358:=0
def tw14769188636526817616:=0
def tw16881043479221557513:=0
def tw14955606396299866829:=0
def tw1934581967976752779:=0
def tw13303945508977065303:=0
def tw4751589749066601728:=0
def tw10854997728519801811:=0
def tw17980491897431727643:=0
def tw5625671634991153980:=0
def tw13357736894416985406:=0
def tw3047598453376985633:=0
def tw11332279747096818038:=0
def tw17163637510488146800:=0
def tw12420228881055186753:=0
def tw3228831510582091687:=0
def tw11678053700247480835:=0
def tw17651655806507646959:=0
def tw1351409596941708289:=0
def tw10084913499932108112:=0
def tw12012350784256985718:=0
def tw322613685461368264:=0
def tw9751010043660445392:=0
def tw7854438521540764023:=0
def tw5205387950716887675:=0
def tw6199850943611535020:=0
def tw12978654308366557194:=0
def tw16936925726616728267:=0
def tw4880363259172287474:=0
def tw13806351135435845128:=0
def tw15975553020294212974:=0
def tw1765270677339839203:=0
def tw8628980696722289398:=0
def tw15783395386673229918:=0
def tw9036503009101418000:=0
def tw5191510719094147836:=0
def tw7482191705145222936:=0
def tw9642588282695476812:=0
def tw18414263175062978018:=0
def tw5410868975207309162:=0
def tw11251877952363017416:=0
def tw5348976352302449036:=0
def tw13570447483611117813:=0
def tw6051961694283177556:=0
def tw7990017240243472550:=0
def tw4532667007754088537:=0
def tw18044978714433030238:=0
def tw5402951221108179571:=0
def tw12183833657125030288:=0
def tw12594760612380100734:=0
def tw6591821555363069230:=0
def tw8444402285965968625:=0
def tw17444844279567880554:=0
def tw14036483600582342241:=0
def tw14634086654794711422:=0
def tw10351168253608515530:=0
def tw1000071708142994704:=0
def tw4005206276376878648:=0
def tw4623496389462359150:=0
def tw15545852061778962461:=0
def tw8920394232611861131:=0
def tw10735058215056589956:=0
def tw18340720948153350044:=0
def tw3376755841726865551:=0
def tw8709578897806416173:=0
def tw2575346857235727569:=0
def tw593108073879456874:=0
def tw9842187836179387335:=0
def tw5791782952283652034:=0
def tw9661564838231396478:=0
def tw7962532814189778438:=0
def tw17710094862245148303:=0
def tw3573245506833769688:=0
def tw9675851999179089460:=0
def tw15512385127775246880:=0
def tw10496724585099508011:=0
def tw8038986481246718422:=0
def tw9495526457678944404:=0
def tw17305479241613398832:=0
def tw6222305839327660806:=0
def tw3039819456391772576:=0
def tw18061920281470980528:=0
def tw9734650737629129834:=0
def tw3421518831466451825:=0
def tw6928201689864866583:=0
def tw11462016529492971817:=0
def tw18031787473952119020:=0
def tw4253545048618673710:=0
def tw17909537138624051964:=0
def tw13508945161850695822:=0
def tw11119950150269934710:=0
def tw4166797980875771668:=0
def tw16247162034203291242:=0
def tw6894195133736285540:=0
def tw13231144900952190595:=0
def tw3305389058809511176:=0
def tw4002449618551874078:=0
def tw8745208787512646610:=0
def tw12400058434516058581:=0
def tw5254366245878305002:=0
def tw16947459730528903383:=0
def tw2505485570592705459:=0
def tw4661690334268781304:=0
def tw8705814273761949873:=0
def tw7701542911640823007:=0
def tw1179157338915645074:=0
def tw2767311411165176655:=0
def tw3118888094850529254:=0
def tw6881575637447326015:=0
def tw18239992262436133385:=0
def tw9208692570389102659:=0
def tw1045634408245548237:=0
def tw7312016569081343919:=0
def tw2801021119795227221:=0
def tw11100761534592617339:=0
def tw1489070743775642206:=0
def tw13887103390615159934:=0
def tw16086583375018469489:=0
def tw13503230567104797683:=0
def tw12725080616818801664:=0
def tw10603577178675805840:=0
def tw4563455388963668711:=0
def tw17916277318873557761:=0
def tw3640826554345256400:=0
def tw8220091210976666371:=0
def tw11296717026863693351:=0
def tw6437971647032392592:=0
def tw10915953922516861365:=0
def tw9456795535454721874:=0
def tw2073357466205605662:=0
def tw12898976927646002274:=0
def tw13314571153432429607:=0
def tw13332259298695281614:=0
def tw9933282738968737630:=0
def tw8759346163240810211:=0
def tw779553623542751040:=0
def tw6481773396368799354:=0
def tw3741204698123154310:=0
def tw16416373430245722922:=0
def tw13249303942308811505:=0
def tw6994308372811798928:=0
def tw6178079812638582306:=0
def tw1729597423805915141:=0
def tw7130936765775705828:=0
def tw5744434277736031533:=0
def tw9003753078775999808:=0
def tw3679238912491977322:=0
def tw5987807606399690100:=0
def tw1490133291852602960:=0
def tw1663225711814367076:=0
def tw7436617516377112318:=0
def tw11717834031410538382:=0
def tw2013689234654407030:=0
def tw18420185314331827907:=0
def tw13311596085960337729:=0
def tw3915140319590231771:=0
def tw8022765631308911367:=0
def tw12715770084074243120:=0
def tw5606981997848854724:=0
def tw373701876717377248:=0
def tw4658944954268168747:=0
def tw16882239392777348225:=0
def tw6864232290189840219:=0
def tw1970324274510305111:=0
def tw9181158088275599219:=0
def tw269854842604805669:=0
def tw9203482158027735604:=0
def tw878071808661729751:=0
def tw15349773929976009866:=0
def tw13129490093058416947:=0
def tw4235419107370232492:=0
def tw15836418868062011571:=0
def tw3011020719548316213:=0
def tw14610798003230392335:=0
def tw664771043174986639:=0
def tw11542775266544215506:=0
def tw5858743610394368869:=0
def tw6228368702407374528:=0
def tw5090769309317615397:=0
def tw11766258418411888369:=0
def tw14401405325714669035:=0
def tw17239243085644152185:=0
def tw8765316982981406812:=0
def tw13237369839945773606:=0
def tw12174324062103201636:=0
def tw6428457431728925677:=0
def tw13926100520248408600:=0
def tw6829274164383061551:=0
def tw7792849708957467141:=0
def tw9912376095984704652:=0
def tw9921430295442626429:=0
def tw16752745621256911347:=0
def tw4620995767288922841:=0
def tw10205609208892420372:=0
def tw13343913198401822848:=0
def tw1536297850734895982:=0
def tw9201537737226898644:=0
def tw8264878748011923955:=0
def tw10759721129749101625:=0
def tw4707003011247127263:=0
def tw7889739516946049667:=0
def tw11058123853693465238:=0
def tw2361264656180958828:=0
def tw12099190264698053789:=0
def tw11504424945077125740:=0
def tw6028605706430500371:=0
def tw16957828076063564387:=0
def tw5505909836307182684:=0
def tw3186564375592337287:=0
def tw4524108211683859549:=0
def tw1018333670433628505:=0
def tw3919873513563880654:=0
def tw3678013582351374623:=0
def tw3099905937249571798:=0
def tw5862211899574138110:=0
def tw15161207648064791912:=0
def tw1153347955732292939:=0
def tw666605808466503094:=0
def tw11689079610731389666:=0
def tw8712941014866196163:=0
def tw16958194287856828069:=0
def tw15542428290336140657:=0
def tw10594638653728710933:=0
def tw17050518068352835638:=0
def tw5949787740153474513:=0
def tw1202304558187623163:=0
def tw2043378479527835896:=0
def tw18026467390434024638:=0
def tw18130405528326326333:=0
def tw13066421749006054553:=0
def tw15396878835900307129:=0
def tw12354064883771191654:=0
def tw5303468542199091923:=0
def tw11885566098207711325:=0
def tw1690834548405011954:=0
def tw9772417183870237203:=0
def tw17990827208099587913:=0
def tw823512725829877757:=0
def tw1786754791581783936:=0
def tw7950363265698844693:=0
def tw12958317224262355355:=0
def tw16022299566614566048:=0
def tw14089341209248572164:=0
def tw18420768573796401237:=0
def tw1276906416921788503:=0
def tw9282620978801784455:=0
def tw5828256936801854698:=0
def tw7623107413014938571:=0
def tw15759629975264377711:=0
def tw16560023290835612336:=0
def tw12032391690549873530:=0
def tw15213041397210236985:=0
end PySem.W.Fast
open PySem PySem.W PyProof.Rows
set_option maxRecDepth 100000 in
set_option maxHeartbeats 0 in
theorem PySem.Challenge.cw_putsigns_k31_whole_forms_by_numbers_holds : PySem.Challenge.rw_putsigns_k31_whole_forms_by_numbers.Holds := by
  w_on;o_law;k_head;(case hw=>w_witness2)
  k_fill
  refine Put.walk (l:=PySem.Challenge.rw_putsigns_k31_whole_forms_by_numbers) rfl rfl ?hi (fun w h Y=>PySem.W.kIn_of Y) ?F
  case hi=>first|rfl|decide +kernel
  case F =>
    intro w mg fa h KX G hmg;refine' Put.all_mk KX G hmg ?q0 ?q1 ?q2 ?q3 ?q4 ?q5 ?q6 ?q7 ?q8 ?q9 ?q10 ?q11 ?q12 ?q13 ?q14 ?q15 ?q16 ?q17 ?q18 ?q19 ?q20 ?q21 ?q22 ?q23 ?q24 ?q25 ?q26 ?q27 ?q28 ?q29 ?q30 ?q31 ?q32 ?q33 ?q34 ?q35 ?q36 ?q37 ?q38 ?q39 ?q40 ?q41 ?q42 ?q43 ?q44 ?q45 ?q46 ?q47 ?q48 ?q49 ?q50 ?q51 ?q52 ?a53 ?l53 ?c53 ?k53 ?z_len ?z_isinstance ?z_int ?z_bool ?z_str ?z_tuple ?z_list ?z_sorted ?z_range ?z_repr ?z_enumerate ?z_sum ?z_all ?z_min ?z_max ?z_abs ?z_divmod ?z_dict ?z_set ?z_reversed ?z_any ?z_zip ?gM ?gS ?lS ?gM3 ?gP ?lP ?gT ?lT ?gK ?lK ?gW ?lW ?gL
    (case q0=>exact L2.Fq.mk4 (by k_is) (by k_is) (by k_is) (by k_is))
    (case q1=>exact L2.Fq.mk4 (by k_is) (by k_is) (by k_is) (by k_is))
    (case q2=>exact L2.Fq.mk4 (by k_is) (by k_is) (by k_is) (by k_is))
    (case q3=>exact L2.Fq.mk4 (by k_is) (by k_is) (by k_is) (by k_is))
    (case q4=>exact L2.Fq.mk4 (by k_is) (by k_is) (by k_is) (by k_is))
    (case q5=>exact L2.Fq.mk4 (by k_is) (by k_is) (by k_is) (by k_is))
    (case q6=>exact L2.Fq.mk4 (by k_is) (by k_is) (by k_is) (by k_is))
    (case q7=>exact L2.Fq.mk4 (by k_is) (by k_is) (by k_is) (by k_is))
    (case q8=>exact L2.Fq.mk4 (by k_is) (by k_is) (by k_is) (by k_is))
    (case q9=>exact L2.Fq.mk4 (by k_is) (by k_is) (by k_is) (by k_is))
    (case q10=>exact L2.Fq.mk4 (by k_is) (by k_is) (by k_is) (by k_is))
    (case q11=>exact L2.Fq.mk4 (by k_is) (by k_is) (by k_is) (by k_is))
    (case q12=>exact L2.Fq.mk4 (by k_is) (by k_is) (by k_is) (by k_is))
    (case q13=>exact L2.Fq.mk4 (by k_is) (by k_is) (by k_is) (by k_is))
    (case q14=>exact L2.Fq.mk4 (by k_is) (by k_is) (by k_is) (by k_is))
    (case q15=>exact L2.Fq.mk4 (by k_is) (by k_is) (by k_is) (by k_is))
    (case q16=>exact L2.Fq.mk4 (by k_is) (by k_is) (by k_is) (by k_is))
    (case q17=>exact L2.Fq.mk4 (by k_is) (by k_is) (by k_is) (by k_is))
    (case q18=>exact L2.Fq.mk4 (by k_is) (by k_is) (by k_is) (by k_is))
    (case q19=>exact L2.Fq.mk4 (by k_is) (by k_is) (by k_is) (by k_is))
    (case q20=>exact L2.Fq.mk4 (by k_is) (by k_is) (by k_is) (by k_is))
    (case q21=>exact L2.Fq.mk4 (by k_is) (by k_is) (by k_is) (by k_is))
    (case q22=>exact L2.Fq.mk4 (by k_is) (by k_is) (by k_is) (by k_is))
    (case q23=>exact L2.Fq.mk4 (by k_is) (by k_is) (by k_is) (by k_is))
    (case q24=>exact L2.Fq.mk4 (by k_is) (by k_is) (by k_is) (by k_is))
    (case q25=>exact L2.Fq.mk4 (by k_is) (by k_is) (by k_is) (by k_is))
    (case q26=>exact L2.Fq.mk4 (by k_is) (by k_is) (by k_is) (by k_is))
    (case q27=>exact L2.Fq.mk4 (by k_is) (by k_is) (by k_is) (by k_is))
    (case q28=>exact L2.Fq.mk4 (by k_is) (by k_is) (by k_is) (by k_is))
    (case q29=>exact L2.Fq.mk4 (by k_is) (by k_is) (by k_is) (by k_is))
    (case q30=>exact L2.Fq.mk4 (by k_is) (by k_is) (by k_is) (by k_is))
    (case q31=>exact L2.Fq.mk4 (by k_is) (by k_is) (by k_is) (by k_is))
    (case q32=>exact L2.Fq.mk4 (by k_is) (by k_is) (by k_is) (by k_is))
    (case q33=>exact L2.Fq.mk4 (by k_is) (by k_is) (by k_is) (by k_is))
    (case q34=>exact L2.Fq.mk4 (by k_is) (by k_is) (by k_is) (by k_is))
    (case q35=>exact L2.Fq.mk4 (by k_is) (by k_is) (by k_is) (by k_is))
    (case q36=>exact L2.Fq.mk4 (by k_is) (by k_is) (by k_is) (by k_is))
    (case q37=>exact L2.Fq.mk4 (by k_is) (by k_is) (by k_is) (by k_is))
    (case q38=>exact L2.Fq.mk4 (by k_is) (by k_is) (by k_is) (by k_is))
    (case q39=>exact L2.Fq.mk4 (by k_is) (by k_is) (by k_is) (by k_is))
    (case q40=>exact L2.Fq.mk4 (by k_is) (by k_is) (by k_is) (by k_is))
    (case q41=>exact L2.Fq.mk4 (by k_is) (by k_is) (by k_is) (by k_is))
    (case q42=>exact L2.Fq.mk4 (by k_is) (by k_is) (by k_is) (by k_is))
    (case q43=>exact L2.Fq.mk4 (by k_is) (by k_is) (by k_is) (by k_is))
    (case q44=>exact L2.Fq.mk4 (by k_is) (by k_is) (by k_is) (by k_is))
    (case q45=>exact L2.Fq.mk4 (by k_is) (by k_is) (by k_is) (by k_is))
    (case q46=>exact L2.Fq.mk4 (by k_is) (by k_is) (by k_is) (by k_is))
    (case q47=>exact L2.Fq.mk4 (by k_is) (by k_is) (by k_is) (by k_is))
    (case q48=>exact L2.Fq.mk4 (by k_is) (by k_is) (by k_is) (by k_is))
    (case q49=>exact L2.Fq.mk4 (by k_is) (by k_is) (by k_is) (by k_is))
    (case q50=>exact L2.Fq.mk4 (by k_is) (by k_is) (by k_is) (by k_is))
    (case q51=>exact L2.Fq.mk4 (by k_is) (by k_is) (by k_is) (by k_is))
    (case q52=>exact L2.Fq.mk4 (by k_is) (by k_is) (by k_is) (by k_is))
    (case a53=>k_is)
    (case l53=>k_is)
    (case c53=>k_is)
    (case k53=>k_is)
    (case z_len=>k_is)
    (case z_isinstance=>k_is)
    (case z_int=>k_is)
    (case z_bool=>k_is)
    (case z_str=>k_is)
    (case z_tuple=>k_is)
    (case z_list=>k_is)
    (case z_sorted=>k_is)
    (case z_range=>k_is)
    (case z_repr=>k_is)
    (case z_enumerate=>k_is)
    (case z_sum=>k_is)
    (case z_all=>k_is)
    (case z_min=>k_is)
    (case z_max=>k_is)
    (case z_abs=>k_is)
    (case z_divmod=>k_is)
    (case z_dict=>k_is)
    (case z_set=>k_is)
    (case z_reversed=>k_is)
    (case z_any=>k_is)
    (case z_zip=>k_is)
    (case gM=>k_is)
    (case gS=>k_is)
    (case lS=>k_is)
    (case gM3=>k_is)
    (case gP=>k_is)
    (case lP=>k_is)
    (case gT=>k_is)
    (case lT=>k_is)
    (case gK=>k_is)
    (case lK=>k_is)
    (case gW=>k_is)
    (case lW=>k_is)
    (case gL=>k_is)

