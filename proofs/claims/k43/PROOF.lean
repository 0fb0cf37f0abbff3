import PyProof.Rows.All
import Wide.All
import OpenK.AllK
import Wide.FinOn
import Lean
import PyProof.EqAt
import PyProof.EqKinds
import PyProof.TupleCall
import PySem.Challenge.RW_putsigns_k43_whole_held_and_barred
open PySem.W renaming Frag → aaa, mg_none_of → aaA, nsIn → aaF, fnOf → aaW, keepIn → aaZ, kia_one → aa5, codeIn → abf, mg_of → abB, cellsFrom_some → ack, findIn → acq, Looks → acx
open List renaming mem_append_right → aab, getElem?_eq_getElem → aac, mem_cons_of_mem → aae, length_map → aaf, size_toArray → aah, mem_cons_self → aai, mem_singleton → aaj, getElem?_eq_some_iff → aak, mem_cons → aam, mem_append → aan, replicate → aao, length_append → aap, length_take → aas, getD_eq_getElem?_getD → aau, mem_append_left → aaw, mem_of_getElem? → aax, mem_range → aaB, mem_map → aaC, mem_flatMap → aaG, range → aaI, map_append → aaJ, getElem?_map → aaL, Nodup → aaM, map_cons → aaO, take_add_one → aaP, take_length → aaQ, length_cons → aaS, pairwise_iff_getElem → aaX, length_drop → aaY, getElem_of_mem → aa0, length_replicate → aa1, all_eq_true → aa7, getElem_mem → aa8, replicate_succ → aba, take_of_length_le → abh, flatten_cons → abr, find?_cons → abu, not_mem_nil → abw, length_filter_le → abx, length_singleton → aby, sum_cons → abz, append_assoc → abC, append_nil → abD, getElem?_take_of_lt → abE, length_nil → abF, length_eq_zero_iff → abK, mem_filter → abP, flatMap_cons → abS, mem_of_mem_take → abT, length → abZ, length_pos_iff → ab0, length_reverse → ab1, map_congr_left → ab2, toArray → ab7, any_cons → ace, ne_nil_of_mem → acf, reverse_cons → acm, mem_iff_getElem? → acr, pairwise_flatMap → acs, nodup_cons → acy
open PySem.Heap renaming get?_push_of_some → aad, get?_push_size → aaq, lt_size → aar, SameBut → abI, size_push → abN
open Nat renaming le_refl → aag, lt_of_lt_of_le → aat, ne_of_lt → aaz, zero_le → aaN, ne_of_gt → aaT, le_trans → aaV, le_of_lt → abg, lt_irrefl → abm, mul_le_mul → abn, lt_of_le_of_lt → abA, lt_succ_of_lt → abG, lt_succ_self → abM, mul_le_mul_right → abU, lt_trans → ab8, le_succ → acn, le_succ_of_le → aco, succ_mul → act, not_lt → acz
open Bool renaming false_ne_true → aal, eq_iff_iff → aa3, and_eq_true → aa6, false_eq_true → ab9, or_eq_true → aca
open Int renaming le_refl → aav, mul_le_mul_of_nonneg_right → aaD, mul_nonneg → abe, add_mul → abk, one_mul → abl, le_of_lt → abJ, mul_le_mul_of_nonneg_left → abL, le_trans → ab5, mul_assoc → acb, natCast_add → acd
open PySem renaming boot_len → aay, mem_of_lookup → abb
open Array renaming getD_eq_getD_getElem? → aaE, getElem?_eq_getElem → abW
open PySem.F renaming plain_min_loop → aaH, plainAttrs_list → aa2, slot_list_append → abc, type_list_append → abd, entry_min_loop → abi, slot_dict_itemiterator_next → abo, args_dict_itemiterator_next_1 → acl
open PyProof.Rows renaming boot_isinstance → aaK, callWith_type1 → abR, boot_tuple → acg, boot_all → acu, boot_int → acv, boot_min → acw
open Option.some renaming inj → aaR
open PySem.Obj renaming mapSeq → aaU
open PySem.PassesOwn renaming never → aa4
open PySem.Paired renaming length → aa9
open PySem.Heap.SameBut renaming update → abj
open PySem.Around renaming under_plainId → abp
open False renaming elim → abq
open PySem.Builtin.Builtins renaming bindParams → abt
open Option renaming map_eq_some_iff → abv, isSome_iff_exists → abH, map_some → abQ
open PySem.Builtin.Dict_items renaming ownsTuple → abO, ownedTupleFields → abX, ownedTupleIsFree → abY, pairFromOwner → aci
open PySem.SeqAt renaming eqv_refl → abV
open Ne renaming symm → ab3
open PySem.Builtin.List renaming listTooLong → ab4
open List.Nodup renaming idxOf_getElem → ab6
open PySem.SeqAt.EqAt renaming int_int → ach
open PySem.Calls renaming callWith_builtin → acj
open PySem.Walks renaming list → acp
set_option Elab.async false
set_option linter.all false
set_option maxRecDepth 100000
namespace L2
open PySem PySem.Spec PyProof.Rows
abbrev Key:=Sum Int Str
def kO:Key→Value→Bool
  | .inl k,v=>Value.isInt k v
  | .inr x,v=>Value.isStrOf x v
def ze (w:World):Key→Int
  | .inl k=>hashInt k
  | .inr x=>hashStr w x
theorem a_:∀ {k:Key} {v:Value},kO k v=true→(∃ i t,k=Sum.inl i∧v=Value.int i t)∨(∃ x t,k=Sum.inr x∧v=Value.str x t)
  | .inl i,v,h=>by
    obtain ⟨t,e⟩:=Value.isInt_shape (k:=i) (v:=v) h;exact .inl ⟨i,t,rfl,e⟩
  | .inr x,v,h=>by
    obtain ⟨t,e⟩:=Value.isStrOf_shape (x:=x) (v:=v) h;exact .inr ⟨x,t,rfl,e⟩
theorem tu (i:Int) (t:Tok):kO (.inl i) (.int i t)=true:=by simp [kO,Value.isInt]
theorem tq (x:Str) (t:Tok):kO (.inr x) (.str x t)=true:=by simp [kO,Value.isStrOf]
theorem xH (a b:Int):decide ((Sum.inl a:Key)=Sum.inl b)=(a == b):=by
  by_cases e:a=b
  · subst e;simp
  · have h:¬ (Sum.inl a:Key)=Sum.inl b:=fun q=>e (Sum.inl.inj q);rw [decide_eq_false h];exact (beq_eq_false_iff_ne.mpr e).symm
theorem xE (a b:Str):decide ((Sum.inr a:Key)=Sum.inr b)=decide (a=b):=by
  by_cases e:a=b
  · subst e;simp
  · have h:¬ (Sum.inr a:Key)=Sum.inr b:=fun q=>e (Sum.inr.inj q);rw [decide_eq_false h,decide_eq_false e]
theorem xG (a:Int) (b:Str):decide ((Sum.inl a:Key)=Sum.inr b)=false:=decide_eq_false (fun q=>nomatch q)
theorem xF (a:Str) (b:Int):decide ((Sum.inr a:Key)=Sum.inl b)=false:=decide_eq_false (fun q=>nomatch q)
def a5 (prog:Program) (w:World):PySem.KeyKind prog w Key where
  is:=kO
  hash:=ze w
  inj:=fun v a b ha hb=>by
    rcases a_ ha with ⟨i,t,rfl,rfl⟩|⟨x,t,rfl,rfl⟩
    · rcases a_ hb with ⟨j,u,rfl,e⟩|⟨y,u,rfl,e⟩
      · injection e with e1 _;rw [e1]
      · exact nomatch e
    · rcases a_ hb with ⟨j,u,rfl,e⟩|⟨y,u,rfl,e⟩
      · exact nomatch e
      · injection e with e1 _;rw [e1]
  byValue:=fun k v h=>by
    rcases a_ h with ⟨i,t,rfl,rfl⟩|⟨x,t,rfl,rfl⟩ <;> rfl
  pyHash:=fun hv h=>by
    rcases a_ hv with ⟨i,t,rfl,rfl⟩|⟨x,t,rfl,rfl⟩
    · exact wpAny_pyHash_int h
    · exact wpAny_pyHash_str h
  eqBool:=fun hu hv h=>by
    rcases a_ hu with ⟨i,t,rfl,rfl⟩|⟨x,t,rfl,rfl⟩
    · rcases a_ hv with ⟨j,u,rfl,rfl⟩|⟨y,u,rfl,rfl⟩
      · rw [xH] at h;exact wpAny_eqBool_int h
      · rw [xG] at h;exact SeqAt.EqAt.int_str i t y u _ _ _ _ h
    · rcases a_ hv with ⟨j,u,rfl,rfl⟩|⟨y,u,rfl,rfl⟩
      · rw [xF] at h;exact SeqAt.EqAt.str_int x t j u _ _ _ _ h
      · rw [xE] at h;exact wpAny_eqBool_str h
  «strs»:=fun k x t v h=>by
    rcases a_ h with ⟨i,u,rfl,e⟩|⟨y,u,rfl,e⟩
    · exact nomatch e
    · injection e with e1 _
      subst e1;cases v <;> rfl
theorem qF (prog:Program) (w:World) (k:Key) (v:Value):(a5 prog w).is k v=kO k v:=rfl
theorem pA (prog:Program) (w:World) (i:Int) (t:Tok):(a5 prog w).is (.inl i) (.int i t)=true:=tu i t
theorem pz (prog:Program) (w:World) (x:Str) (t:Tok):(a5 prog w).is (.inr x) (.str x t)=true:=tq x t
open PySem PySem.Spec PyProof.Rows
inductive V where
  | non|bl (b:Bool)|int (i:Int)|str (x:Str)|byt (b:Array UInt8)|flt (b:UInt64)|ref (a:Addr)|ty (n:String)
  deriving DecidableEq
def RelV:V→Value→Prop
  | .non,u=>u=Value.none
  | .bl b,u=>u=Value.bool b
  | .int i,u=>∃ t,u=Value.int i t
  | .str x,u=>∃ t,u=Value.str x t
  | .byt b,u=>∃ t,u=Value.bytes b t
  | .flt b,u=>∃ t,u=Value.float b t
  | .ref a,u=>u=Value.ref a
  | .ty n,u=>u=Value.type n
abbrev Vals:List V→List Value→Prop:=Paired RelV
theorem Vals.length {xs:List V} {us:List Value} (r:Vals xs us):xs.length=us.length:=aa9 r
theorem Vals.get:∀ {xs:List V} {us:List Value} {i:Nat} {x:V},Vals xs us→xs[i]?=some x→∃ u,us[i]?=some u∧RelV x u
  | _,_,_,_,.nil,e=>by simp at e
  | _,_,0,_,.cons r _,e=>by simp at e;subst e;exact ⟨_,rfl,r⟩
  | _,_,i+1,x,.cons _ t,e=>by
    obtain ⟨u,h1,h2⟩:=Vals.get (i:=i) (x:=x) t (by simpa using e);exact ⟨u,by simpa using h1,h2⟩
theorem Vals.set {x:V} {u:Value} (r:RelV x u):∀ {xs:List V} {us:List Value} (i:Nat),Vals xs us→Vals (xs.set i x) (us.set i u)
  | _,_,_,.nil=>.nil
  | _,_,0,.cons _ t=>.cons r t
  | _,_,i+1,.cons q t=>.cons q (Vals.set r i t)
theorem Vals.append {xs ys:List V} {us ws:List Value} (h:Vals xs us) (s:Vals ys ws):Vals (xs++ys) (us++ws):=by
  induction h with
  | nil=>exact s
  | cons r t ih=>exact .cons r ih
theorem Vals.take:∀ {xs:List V} {us:List Value} (n:Nat),Vals xs us→Vals (xs.take n) (us.take n)
  | _,_,0,_=>.nil
  | _,_,_+1,.nil=>.nil
  | _,_,n+1,.cons r t=>.cons r (Vals.take n t)
theorem Vals.drop:∀ {xs:List V} {us:List Value} (n:Nat),Vals xs us→Vals (xs.drop n) (us.drop n)
  | _,_,0,r=>r
  | _,_,_+1,.nil=>.nil
  | _,_,n+1,.cons _ t=>Vals.drop n t
def RelO:Option V→Option Value→Prop
  | some v,some u=>RelV v u
  | none,none=>True
  | _,_=>False
def KV {κ:Type}:List (κ × V)→List (κ × Value)→Prop:=Paired fun (p:κ × V) (q:κ × Value)=>p.1=q.1∧RelV p.2 q.2
def kV:Key→V
  | .inl i=>.int i
  | .inr x=>.str x
inductive HO where
  | lst (xs:List V)
  | tup (xs:List V)
  | dK (kvs:List (Key × V))|dT (kvs:List (List Key × V))
  | set (S:Int→Bool) (n:Nat)
  | ins (C dx:Addr) (fs:List (Str × V))
  | own (x:Addr)
  | xd (fs:List (Str × V))
  | met (f x:Addr)
  | rng (lo hi:Int)
  | frz (o:Obj) (u:HO)
  | tbl (ps:Array Value)
  | ext (φ:Heap→Prop)
abbrev Hp:=Addr→Option HO
def upd (H:Hp) (a:Addr) (o:HO):Hp:=fun b=>if b=a then some o else H b
theorem af {H:Hp} {a:Addr} {o:HO}:upd H a o a=some o:=by unfold upd;rw [if_pos rfl]
theorem aq {H:Hp} {a b:Addr} {o:HO} (h:b≠a):upd H a o b=H b:=by unfold upd;rw [if_neg h]
theorem wK {H:Hp} {a b:Addr} {o u:HO} (h:H a=some o) (h':H b=some u) (d:o≠u):a≠b:=by
  intro e;subst e;rw [h] at h';exact d (aaR h')
theorem aF {H:Hp} {a b:Addr} {o:HO} (h:H a=some o) (h':H b=none):a≠b:=by
  intro e;subst e;rw [h] at h';cases h'
section
variable (P:Program) (w:World)
def ObjOk (H:Hp) (h:Heap) (a:Addr):HO→Prop
  | .lst xs=>xs.length≤sizeLine∧∃ (its:List Value) (n:Nat),Vals xs its∧h.get? a=some { cls:=.type "list",data:=.seq its.toArray n }
  | .tup xs=>xs.length≤sizeLine∧∃ its:List Value,Vals xs its∧IsTup h a its.toArray
  | .dK kvs=>kvs.length≤sizeLine∧(a == sysModules)=false∧∃ vs,KV kvs vs∧h.DictOf (a5 P w) a vs
  | .dT kvs=>kvs.length≤sizeLine∧(a == sysModules)=false∧∃ xs:List (List Key × Addr × Value),
      Paired (fun (p:List Key × V) (q:List Key × Addr × Value)=>p.1=q.1∧H q.2.1=some (.tup (p.1.map kV))∧RelV p.2 q.2.2) kvs xs ∧
      ∃ o es ep,h.get? a=some o∧o.ExactDict∧o.data=.dict es ep∧es.toList=xs.map (entryOfKey (tupleKind (a5 P w)))∧(xs.map (·.1)).Nodup
  | .set S n=>h.SetOf (intKind P w) a S n
  | .ins C dx fs=>H dx=some (.own a)∧fs.length≤1000∧dx≠a∧h.get? a=some (PySem.W.instObj C dx) ∧
      ∃ mA,h.Ns1 dx mA∧(∀ f,RelO (fs.lookup f) (mA f))∧PySem.Within mA (fs.map (·.1))
  | .own _=>∃ o,h.get? a=some o
  | .xd fs=>∃ mA,h.Ns1 a mA∧∀ f,RelO (fs.lookup f) (mA f)
  | .rng lo hi=>∃ t u v,h.get? a=some { cls:=.type "range",data:=.fields #[.int lo t,.int hi u,.int 1 v] }
  | .frz o u=>h.get? a=some o∧ObjOk H h a u
  | .tbl ps=>h.get? a=some { cls:=.none,data:=.fields ps }
  | .met f x=>h.get? a=some (PySem.W.methodObj (.ref f) (.ref x))
  | .ext φ=>φ h∧(∃ o,h.get? a=some o)∧∀ h1 h2:Heap,φ h1→(∀ o,h1.get? a=some o→h2.get? a=some o)→φ h2
def HOk (H:Hp) (h:Heap):Prop:=∀ a o,H a=some o→ObjOk P w H h a o
end
section
variable {P:Program} {w:World} {H H':Hp} {h h':Heap} {a:Addr} {o:HO}
theorem ObjOk.lt (x:ObjOk P w H h a o):a < h.objs.size:=by
  cases o with
  | lst xs=>obtain ⟨_,_,_,_,e⟩:=x;exact aar e
  | tup xs=>obtain ⟨_,_,_,p⟩:=x;exact p.lt
  | dK kvs=>obtain ⟨_,_,_,_,o,_,_,e,_⟩:=x;exact aar e
  | dT kvs=>obtain ⟨_,_,_,_,o,_,_,e,_⟩:=x;exact aar e
  | set S n=>obtain ⟨o,_,_,_,e,_⟩:=x;exact aar e
  | ins C dx fs=>obtain ⟨_,_,_,e,_⟩:=x;exact aar e
  | own y=>obtain ⟨_,e⟩:=x;exact aar e
  | xd fs=>obtain ⟨_,⟨_,_,_,e,_⟩,_⟩:=x;exact aar e
  | rng lo hi=>obtain ⟨_,_,_,e⟩:=x;exact aar e
  | frz ob u=>obtain ⟨e,_⟩:=x;exact aar e
  | tbl ps=>exact aar (show h.get? a=some _ from x)
  | met f y=>exact aar (show h.get? a=some _ from x)
  | ext φ=>obtain ⟨_,⟨_,e⟩,_⟩:=x;exact aar e
theorem Paired.mapP {α β:Type} {F G:α→β→Prop} {l₁:List α} {l₂:List β} (h:Paired F l₁ l₂) (f:∀ a b,F a b→G a b):Paired G l₁ l₂:=by
  induction h with
  | nil=>exact .nil
  | cons r t ih=>exact .cons (f _ _ r) ih
theorem ObjOk.stay (x:ObjOk P w H h a o) (k:∀ b u,(b=a∨H b=some (.own a))→h.get? b=some u→h'.get? b=some u)
    (ho:∀ b,H b=some (.own a)→H' b=some (.own a)) (ht:∀ b xs,H b=some (.tup xs)→H' b=some (.tup xs)):ObjOk P w H' h' a o:=by
  induction o with
  | lst xs=>obtain ⟨z,its,n,r,e⟩:=x;exact ⟨z,its,n,r,k _ _ (.inl rfl) e⟩
  | tup xs=>obtain ⟨z,its,r,ob,e,c⟩:=x;exact ⟨z,its,r,ob,k _ _ (.inl rfl) e,c⟩
  | dK kvs=>obtain ⟨z,y,vs,r,ob,es,ep,e,c⟩:=x;exact ⟨z,y,vs,r,ob,es,ep,k _ _ (.inl rfl) e,c⟩
  | dT kvs =>
    obtain ⟨z,y,xs,r,ob,es,ep,e,c⟩:=x;exact ⟨z,y,xs,Paired.mapP r fun p q z=>⟨z.1,ht _ _ z.2.1,z.2.2⟩,ob,es,ep,k _ _ (.inl rfl) e,c⟩
  | set S n=>obtain ⟨ob,es,ep,t,e,c⟩:=x;exact ⟨ob,es,ep,t,k _ _ (.inl rfl) e,c⟩
  | ins C dx fs =>
    obtain ⟨d,z,ne,e,mA,⟨od,es,ep,e2,c⟩,r⟩:=x;exact ⟨ho _ d,z,ne,k _ _ (.inl rfl) e,mA,⟨od,es,ep,k _ _ (.inr d) e2,c⟩,r⟩
  | own y=>obtain ⟨ob,e⟩:=x;exact ⟨ob,k _ _ (.inl rfl) e⟩
  | xd fs=>obtain ⟨mA,⟨od,es,ep,e,c⟩,r⟩:=x;exact ⟨mA,⟨od,es,ep,k _ _ (.inl rfl) e,c⟩,r⟩
  | rng lo hi=>obtain ⟨t,u,v,e⟩:=x;exact ⟨t,u,v,k _ _ (.inl rfl) e⟩
  | frz ob u ih=>obtain ⟨e,q⟩:=x;exact ⟨k _ _ (.inl rfl) e,ih q⟩
  | tbl ps =>
    have e:h.get? a=some { cls:=.none,data:=.fields ps }:=x;show h'.get? a=some { cls:=.none,data:=.fields ps };exact k a _ (.inl rfl) e
  | met f y =>
    have e:h.get? a=some (PySem.W.methodObj (.ref f) (.ref y)):=x;show h'.get? a=some (PySem.W.methodObj (.ref f) (.ref y));exact k a _ (.inl rfl) e
  | ext φ=>obtain ⟨p,⟨o,e⟩,st⟩:=x;exact ⟨st _ _ p fun o q=>k _ _ (.inl rfl) q,⟨o,k _ _ (.inl rfl) e⟩,st⟩
theorem HOk.lt (x:HOk P w H h) (e:H a=some o):a < h.objs.size:=(x a o e).lt
theorem HOk.fresh (x:HOk P w H h) (e:h.objs.size≤a):H a=none:=by
  cases q:H a with
  | none=>rfl
  | some u=>exact absurd (aat (x.lt q) e) (abm _)
theorem HOk.kept (x:HOk P w H h) (k:∀ b u,h.get? b=some u→h'.get? b=some u):HOk P w H h':=fun a o e =>
  (x a o e).stay (fun b u _ q=>k b u q) (fun _ q=>q) fun _ _ q=>q
theorem HOk.laid (x:HOk P w H h) (k:∀ b u,h.get? b=some u→h'.get? b=some u) (hp:h.objs.size≤a) (new:ObjOk P w (upd H a o) h' a o):HOk P w (upd H a o) h':=fun b u e=>by
  have hn:=x.fresh hp;by_cases hb:b=a
  · subst hb;rw [af] at e;cases e;exact new
  · rw [aq hb] at e;exact (x b u e).stay (fun c v _ q=>k c v q) (fun c q=>by rw [aq (aF q hn)];exact q) fun c xs q=>by rw [aq (aF q hn)];exact q
end
def Rd (H:Hp) (a:Addr) (u:HO):Prop:=H a=some u∨∃ o,H a=some (.frz o u)
theorem Rd.ok {P:Program} {w:World} {H:Hp} {h:Heap} {a:Addr} {u:HO} (r:Rd H a u) (x:HOk P w H h):ObjOk P w H h a u:=by
  rcases r with r|⟨o,r⟩
  · exact x a u r
  · obtain ⟨_,q⟩:=x a _ r;exact q
def Mut:Option HO→Prop
  | some (.lst _)=>True
  | some (.dK _)=>True
  | some (.dT _)=>True
  | some (.set _ _)=>True
  | some (.ins _ _ _)=>True
  | some (.ext _)=>True
  | _=>False
section
variable {P:Program} {w:World} {H:Hp} {h h':Heap} {x e:Addr} {o':HO}
theorem HOk.write (ok:HOk P w H h) (mu:Mut (H x)) (he:e=x∨H e=some (.own x)) (k:∀ b u,b≠e→h.get? b=some u→h'.get? b=some u) (heo:∃ u,h'.get? e=some u)
    (new:ObjOk P w (upd H x o') h' x o'):HOk P w (upd H x o') h':=fun b u q=>by
  have nown:∀ c y,H c=some (.own y)→c≠x:=fun c y r z=>by subst z;rw [r] at mu;exact mu
  have ntup:∀ c xs,H c=some (.tup xs)→c≠x:=fun c xs r z=>by subst z;rw [r] at mu;exact mu
  by_cases hb:b=x
  · subst hb;rw [af] at q;cases q;exact new
  · rw [aq hb] at q;by_cases hbe:b=e
    · have q':H b=some (.own x):=by
        rcases he with z|z
        · exact absurd (hbe.trans z) hb
        · rw [hbe];exact z
      rw [q] at q';cases q';obtain ⟨v,hv⟩:=heo;exact ⟨v,by rw [hbe];exact hv⟩
    · refine (ok b u q).stay (fun c v hc r=>k c v ?_ r) (fun c r=>by rw [aq (nown c b r)];exact r) fun c xs r=>by rw [aq (ntup c xs r)];exact r
      rcases hc with rfl|hc
      · exact hbe
      · rintro rfl;rcases he with z|z
        · exact nown c b hc z
        · rw [hc] at z;cases z;exact hb rfl
end
structure Un (fs ex:List Addr) (H H':Hp) (h h':Heap):Prop where
  keep:∀ b o,h.get? b=some o→H b=none→b∉fs→b∉ex→h'.get? b=some o
  slot:∀ b o,h.get? b=some o→H b=none→b∈fs→b∉ex→∃ sl,h'.get? b=some { o with slots:=sl }
  free:∀ b o,h.get? b=some o→H b=none→b∉ex→H' b=none
  there:∀ b o,h.get? b=some o→b∉ex→∃ o',h'.get? b=some o'
  tups:∀ b xs,H b=some (.tup xs)→H' b=some (.tup xs)
  frzs:∀ b o u,H b=some (.frz o u)→H' b=some (.frz o u)
  tbls:∀ b ps,H b=some (.tbl ps)→∃ more,H' b=some (.tbl (ps++more))
section
variable {fs fs' ex ex':List Addr} {H H1 H2:Hp} {h h1 h2 h':Heap} {a x e:Addr} {o:HO}
theorem Un.any (u:Un fs ex H H1 h h1) {b:Addr} {ob:Obj} (q:h.get? b=some ob) (n:H b=none) (hx:b∉ex):∃ sl,h1.get? b=some { ob with slots:=sl }:=by
  by_cases hb:b∈fs
  · exact u.slot b ob q n hb hx
  · exact ⟨ob.slots,u.keep b ob q n hb hx⟩
theorem Un.kept (k:∀ b u,h.get? b=some u→h'.get? b=some u):Un fs ex H H h h' :=
  ⟨fun b ob q _ _ _=>k b ob q,fun b ob q _ _ _=>⟨ob.slots,k b ob q⟩,fun _ _ _ n _=>n,fun b ob q _=>⟨ob,k b ob q⟩,fun _ _ q=>q,fun _ _ _ q=>q,fun _ ps q=>⟨#[],by rw [q];simp⟩⟩
theorem Un.refl:Un fs ex H H h h:=Un.kept fun _ _ q=>q
theorem Un.laid (k:∀ b u,h.get? b=some u→h'.get? b=some u) (hp:h.objs.size≤a) (hn:H a=none):Un fs ex H (upd H a o) h h' where
  keep:=fun b u q _ _ _=>k b u q
  slot:=fun b u q _ _ _=>⟨u.slots,k b u q⟩
  free:=fun b u q n _=>by rw [aq (aaz (aat (aar q) hp))];exact n
  there:=fun b u q _=>⟨u,k b u q⟩
  tups:=fun b xs q=>by rw [aq (aF q hn)];exact q
  frzs:=fun b u xs q=>by rw [aq (aF q hn)];exact q
  tbls:=fun b ps q=>⟨#[],by rw [aq (aF q hn),q];simp⟩
theorem Un.write (mu:Mut (H x)) (he:e=x∨H e=some (.own x)) (k:∀ b u,b≠e→h.get? b=some u→h'.get? b=some u) (heo:∃ u,h'.get? e=some u):Un fs ex H (upd H x o) h h':=by
  have hx:∀ b,H b=none→b≠x:=fun b n z=>by subst z;rw [n] at mu;exact mu
  have hb:∀ b,H b=none→b≠e:=fun b n z=>by
    subst z;rcases he with r|r
    · exact hx b n r
    · rw [n] at r;cases r
  have hm:∀ b u,H b=some u→¬ Mut (some u)→b≠x:=fun b u q nm z=>by subst z;rw [q] at mu;exact nm mu
  refine ⟨fun b u q n _ _=>k b u (hb b n) q,fun b u q n _ _=>⟨u.slots,k b u (hb b n) q⟩,fun b u q n _=>by rw [aq (hx b n)];exact n,fun b u q _=>?_,
    fun b xs q=>by rw [aq (hm b _ q fun z=>z)];exact q,fun b u xs q=>by rw [aq (hm b _ q fun z=>z)];exact q,fun b ps q=>⟨#[],by rw [aq (hm b _ q fun z=>z),q];simp⟩⟩
  by_cases hbe:b=e
  · subst hbe;exact heo
  · exact ⟨u,k b u hbe q⟩
end
def trk (h:Heap) (H:Hp):List Addr:=(aaI h.objs.size).filter fun a=>(H a).isSome
def l4 (h:Heap) (H:Hp):Heap:=PySem.W.hideAll h (trk h H)
theorem tE (h:Heap) (H:Hp):(l4 h H).objs.size=h.objs.size:=PySem.W.hideAll_size _ _
theorem uL {h:Heap} {H:Hp} {b:Addr} {o:Obj} (e:h.get? b=some o) (n:H b=none):(l4 h H).get? b=some o :=
  PySem.W.hideAll_get _ e fun hm=>by
    have q:(H b).isSome=true:=(List.mem_filter.mp hm).2;rw [n] at q;simp at q
theorem vU {h:Heap} {H:Hp} {b:Addr} {o:Obj} (e:(l4 h H).get? b=some o):h.get? b=some o∧H b=none:=by
  have e':h.get? b=some o:=PySem.W.of_hideAll (trk h H) e;refine ⟨e',?_⟩;cases q:H b with
  | none=>rfl
  | some x =>
    have hm:b∈trk h H:=List.mem_filter.mpr ⟨aaB.mpr (aar e'),by simp [q]⟩;have z:(l4 h H).get? b=none:=PySem.W.hideAll_none (trk h H) hm;rw [z] at e;cases e
def gJ (g h:Heap) (L:Addr):List (Addr × Obj):=(aaI h.objs.size).filterMap fun a=>if a=L∨(g.get? a).isSome=true then none else (h.get? a).map fun o=>(a,o)
theorem jE {g h:Heap} {L a:Addr} {o:Obj} (h1:a≠L) (h2:g.get? a=none) (h3:h.get? a=some o):(a,o)∈gJ g h L :=
  List.mem_filterMap.mpr ⟨a,aaB.mpr (aar h3),by simp [h1,h2,h3]⟩
theorem kH {g h:Heap} {L:Addr} {p:Addr × Obj} (hp:p∈gJ g h L):p.1≠L∧g.get? p.1=none∧h.get? p.1=some p.2:=by
  obtain ⟨b,_,e⟩:=List.mem_filterMap.mp hp;split at e
  · cases e
  · rename_i hn;cases q:h.get? b with
    | none=>rw [q] at e;simp at e
    | some u =>
      rw [q] at e;simp only [abQ,Option.some.injEq] at e;subst e;refine ⟨fun z=>hn (.inl z),?_,q⟩;show g.get? b=none;cases r:g.get? b with
      | none=>rfl
      | some v=>exact (hn (.inr (by simp [r]))).elim
def dY (g h:Heap) (L d:Addr):List (Addr × Obj):=(gJ g h L).filter fun p=>decide (p.1≠d)
theorem uu {g h:Heap} {L:Addr}:News g L h (gJ g h L):=fun p hp=>let ⟨a,b,c⟩:=kH hp;⟨c,a,b⟩
open PySem PySem.Spec PyProof.Rows
structure Mod (K:aaa) (mg:Str→Option Value) (base:Heap):Prop where
  kin:K.In base
  glob:base.Ns mainGlobals mg
  blt:∃ mb,base.Ns builtinsNs mb∧∀ x:Str,x ≠ "__name__"→mb x=bootBuiltins x
  nolimit:base.NoLimit
  sysm:∃ mm,base.Ns sysModules mm
structure Cx where
  prog:Program
  w:World
  K:aaa
  mg:Str→Option Value
  base:Heap
  A:Around
  N:List Str
  s₀:Shared
  H₀:Hp
  env:Env
  outer:List Env
  stack:List Env
  ex:List Addr
  fn:Str→Bool
  calm:Bool
  pn:List (Addr × Obj)
  xe:Value→Shared→Prop
def frs (l:List Env):List Addr:=l.filterMap (·.frame)
abbrev Cx.fs (X:Cx):List Addr:=frs X.outer
def Vis (sc:Scope) (x:Str):Prop:=sc.names.lookup x=some .local∨sc.names.lookup x=some .cell∨sc.names.lookup x=some .free
def Loc (sc:Scope) (x:Str):Prop:=sc.names.lookup x=some .local∨sc.names.lookup x=some .cell
def yI (env:Env) (h:Heap) (m:Str→Option Value) (x:Str) (u:Value):Prop :=
  (env.kindOf x=some .local∧m x=some u)∨((env.kindOf x=some .cell∨env.kindOf x=some .free)∧∃ c,env.cells.lookup x=some c∧h.IsCell c (some u))
structure Cx.Ok (X:Cx):Prop where
  mod:Mod X.K X.mg X.base
  kind:X.env.scope.kind=.function
  glob:X.env.globals=mainGlobals
  blt:X.env.builtins=builtinsNs
  above:X.s₀.heap.objs.size≤X.env.locals
  inj:∀ x y c,X.env.cells.lookup x=some c→X.env.cells.lookup y=some c→x=y
  has:∀ x,(X.env.kindOf x=some .cell∨X.env.kindOf x=some .free)→∃ c,X.env.cells.lookup x=some c
  cab:∀ x c,X.fn x=true→X.env.cells.lookup x=some c→X.s₀.heap.objs.size≤c
  hd:X.calm=true→X.A.handled=none
  frames:X.A.frames=some X.stack
  stk:X.stack=X.outer∨(X.stack=X.env :: X.outer∧X.env.frame=some X.env.locals)
  exf:∀ b∈X.ex,b≠X.env.locals∧∀ x c,X.env.cells.lookup x=some c→c≠b
  bs:∀ b o,X.base.get? b=some o→X.s₀.heap.get? b=some o∧X.H₀ b=none
  bsz:X.base.objs.size≤X.s₀.heap.objs.size
  noex:∀ b o,X.base.get? b=some o→b∉X.ex
  exfs:∀ b∈X.ex,b∉X.fs
  funs:X.s₀.heap.FunFrames X.base X.outer
  frf:∀ b∈X.fs,X.H₀ b=none
structure Inv (X:Cx) (pins:List (Addr × Obj)) (σ:List (Option V)) (H:Hp) (s:Shared):Prop where
  ok:X.Ok
  os:s.os=X.s₀.os
  bare:AllBare s.gens
  base:Un X.fs X.ex X.H₀ H X.s₀.heap s.heap
  loc:∃ m,s.heap.Ns X.env.locals m∧∀ (i:Nat) (x:Str) (v:V),X.N[i]?=some x→σ[i]?=some (some v)→Vis X.env.scope x→∃ u,RelV v u∧yI X.env s.heap m x u
  cell:∀ x c,X.env.cells.lookup x=some c→∃ v,s.heap.IsCell c v
  free:H X.env.locals=none
  freeC:∀ x c,X.env.cells.lookup x=some c→H c=none
  pin:∀ p∈X.pn++pins,s.heap.get? p.1=some p.2∧H p.1=none∧p.1≠X.env.locals∧p.1∉X.fs∧∀ v,p.2.data≠.cell v
  hok:HOk X.prog X.w H s.heap
  len:σ.length=X.N.length
section
variable {X:Cx} {pins:List (Addr × Obj)} {σ:List (Option V)} {H H':Hp} {s:Shared} {h':Heap}
theorem Cx.Ok.nofr (ok:X.Ok) {b:Addr} {o:Obj} (e:X.base.get? b=some o):b∉X.fs:=fun hb=>by
  have:=(ok.funs.mem hb).1;rw [e] at this;cases this
theorem Inv.bs (I:Inv X pins σ H s):∀ b o,X.base.get? b=some o→s.heap.get? b=some o∧H b=none:=fun b o e =>
  ⟨I.base.keep b o (I.ok.bs b o e).1 (I.ok.bs b o e).2 (I.ok.nofr e) (I.ok.noex b o e),I.base.free b o (I.ok.bs b o e).1 (I.ok.bs b o e).2 (I.ok.noex b o e)⟩
theorem Inv.bk (I:Inv X pins σ H s):∀ b o,X.base.get? b=some o→s.heap.get? b=some o:=fun b o e=>(I.bs b o e).1
theorem Inv.mod (I:Inv X pins σ H s):Mod X.K X.mg X.base:=I.ok.mod
theorem Inv.kIn (I:Inv X pins σ H s):X.K.In s.heap:=I.ok.mod.kin.keeps I.bk
theorem Inv.fr (I:Inv X pins σ H s):∃ m,Fr X.base X.env.locals s.heap m :=
  let ⟨m,hn,_⟩:=I.loc
  ⟨m,hn,I.bk,aaV I.ok.bsz I.ok.above⟩
theorem Inv.lt (I:Inv X pins σ H s):X.env.locals < s.heap.objs.size:=let ⟨_,hn,_⟩:=I.loc;hn.lt
theorem Inv.sz (I:Inv X pins σ H s):X.s₀.heap.objs.size≤s.heap.objs.size:=aaV I.ok.above (abg I.lt)
theorem Inv.nofs (I:Inv X pins σ H s) {a:Addr} (h:s.heap.objs.size≤a):a∉X.fs:=fun hb=>by
  obtain ⟨_,o,ho,_⟩:=I.ok.funs.mem hb;exact absurd (aat (aar ho) (aaV I.sz h)) (abm _)
theorem Inv.cne (I:Inv X pins σ H s):∀ x c,X.env.cells.lookup x=some c→c≠X.env.locals:=fun x c e z=>by
  obtain ⟨v,o,ho,hd⟩:=I.cell x c e;obtain ⟨m,⟨o',es,ep,ho',hd',_⟩,_⟩:=I.loc;rw [z,ho'] at ho;cases ho;rw [hd'] at hd;cases hd
theorem Inv.funs (I:Inv X pins σ H s):s.heap.FunFrames X.base X.outer:=by
  have all:∀ (l:List Env),(∀ b∈frs l,b∈X.fs)→X.s₀.heap.FunFrames X.base l→s.heap.FunFrames X.base l:=by
    intro l
    induction l with
    | nil=>intro _ _;trivial
    | cons env r ih =>
      intro hs hl;obtain ⟨hk,⟨L,o,hf,hn,ho,hd⟩,hr⟩:=hl;have hL:L∈X.fs:=hs L (by unfold frs;rw [List.filterMap_cons,hf];exact aai);obtain ⟨sl,e⟩:=I.base.slot L o ho (I.ok.frf L hL) hL fun z=>I.ok.exfs L z hL;exact ⟨hk,⟨L,_,hf,hn,e,hd⟩,ih (fun b hb=>hs b (by unfold frs;rw [List.filterMap_cons,hf];exact aae _ hb)) hr⟩
  exact all X.outer (fun _ hb=>hb) I.ok.funs
theorem Inv.stack (I:Inv X pins σ H s):s.heap.FunFrames X.base X.stack:=by
  rcases I.ok.stk with e|⟨e,hf⟩
  · rw [e];exact I.funs
  · rw [e];obtain ⟨m,hn,_⟩:=I.loc;refine .cons (by rw [I.ok.kind];decide) hf hn ?_ I.funs;exact Heap.get?_none_of_le (aaV I.ok.bsz I.ok.above)
theorem Inv.stkSub (I:Inv X pins σ H s):∀ b∈frs X.stack,b∈X.env.locals :: X.fs:=fun b hb=>by
  rcases I.ok.stk with e|⟨e,hf⟩
  · rw [e] at hb;exact aae _ hb
  · rw [e] at hb;unfold frs at hb;rw [List.filterMap_cons,hf] at hb;exact hb
theorem Inv.stkFree (I:Inv X pins σ H s):∀ b∈frs X.stack,H b=none:=fun b hb=>by
  rcases aam.mp (I.stkSub b hb) with e|hb
  · rw [e];exact I.free
  · obtain ⟨_,o,ho,_⟩:=I.ok.funs.mem hb;exact I.base.free b o ho (I.ok.frf b hb) fun z=>I.ok.exfs b z hb
theorem Inv.step {g':Array GenState} {t':Nat} {d':Drawn} {ch:List Addr} (I:Inv X pins σ H s)
    (hch:∀ b∈ch,(b∈X.ex∨X.s₀.heap.objs.size≤b)∧b≠X.env.locals∧(∀ x c,X.env.cells.lookup x=some c→c≠b)∧∀ p∈X.pn++pins,p.1≠b)
    (keep:∀ b o,b≠X.env.locals→b∉X.fs→b∉ch→s.heap.get? b=some o→H b=none→h'.get? b=some o)
    (slot:∀ b o,b≠X.env.locals→b∈X.fs→b∉ch→s.heap.get? b=some o→H b=none→∃ sl,h'.get? b=some { o with slots:=sl }) (free:∀ b o,b∉ch→s.heap.get? b=some o→H b=none→H' b=none)
    (there:∀ b o,b∉ch→s.heap.get? b=some o→∃ o',h'.get? b=some o')
    (tups:∀ b xs,H b=some (.tup xs)→H' b=some (.tup xs)) (frzs:∀ b o u,H b=some (.frz o u)→H' b=some (.frz o u)) (tbls:∀ b ps,H b=some (.tbl ps)→∃ more,H' b=some (.tbl (ps++more)))
    (ns:∀ m,s.heap.Ns X.env.locals m→h'.Ns X.env.locals m) (hok:HOk X.prog X.w H' h') (hg:AllBare g') :
    Inv X pins σ H' { s with heap:=h',gens:=g',drawn:=d',toks:=t' }:=by
  have neL:∀ b o,X.s₀.heap.get? b=some o→b≠X.env.locals:=fun b o e=>aaz (aat (aar e) I.ok.above);have neC:∀ b o,X.s₀.heap.get? b=some o→b∉X.ex→b∉ch:=fun b o e hx hb=>by
    rcases (hch b hb).1 with z|z
    · exact hx z
    · exact absurd (aat (aar e) z) (abm _)
  have cellK:∀ x c,X.env.cells.lookup x=some c→∀ v,s.heap.IsCell c v→h'.IsCell c v:=fun x c e v ⟨o,ho,hd⟩=>by
    have nch:c∉ch:=fun z=>(hch c z).2.2.1 x c e rfl;by_cases hc:c∈X.fs
    · obtain ⟨sl,q⟩:=slot c o (I.cne x c e) hc nch ho (I.freeC x c e);exact ⟨_,q,hd⟩
    · exact ⟨o,keep c o (I.cne x c e) hc nch ho (I.freeC x c e),hd⟩
  refine ⟨I.ok,I.os,hg,⟨fun b o e n hb hx=>?_,fun b o e n hb hx=>?_,fun b o e n hx=>?_,fun b o e hx=>?_,fun b xs e=>tups b xs (I.base.tups b xs e),fun b o xs e=>frzs b o xs (I.base.frzs b o xs e),fun b ps e=>?_⟩,?_,fun x c e=>?_,?_,fun x c e=>?_,fun p hp=>?_,hok,I.len⟩
  · exact keep b o (neL b o e) hb (neC b o e hx) (I.base.keep b o e n hb hx) (I.base.free b o e n hx)
  · obtain ⟨sl,e1⟩:=I.base.slot b o e n hb hx;obtain ⟨sl',e2⟩:=slot b _ (neL b o e) hb (neC b o e hx) e1 (I.base.free b o e n hx);exact ⟨sl',e2⟩
  · obtain ⟨o',e1⟩:=I.base.there b o e hx;exact free b o' (neC b o e hx) e1 (I.base.free b o e n hx)
  · obtain ⟨o',e1⟩:=I.base.there b o e hx;exact there b o' (neC b o e hx) e1
  · obtain ⟨m1,e1⟩:=I.base.tbls b ps e;obtain ⟨m2,e2⟩:=tbls b _ e1;exact ⟨m1++m2,by rw [e2,Array.append_assoc]⟩
  · obtain ⟨m,hn,hl⟩:=I.loc;refine ⟨m,ns m hn,fun i x v e1 e2 e3=>?_⟩;obtain ⟨u,r,l⟩:=hl i x v e1 e2 e3;refine ⟨u,r,?_⟩;rcases l with l|⟨k,c,e,z⟩
    · exact .inl l
    · exact .inr ⟨k,c,e,cellK x c e _ z⟩
  · obtain ⟨v,z⟩:=I.cell x c e;exact ⟨v,cellK x c e v z⟩
  · obtain ⟨m,⟨o,_,_,ho,_⟩,_⟩:=I.loc;exact free _ o (fun z=>(hch _ z).2.1 rfl) ho I.free
  · obtain ⟨v,o,ho,hd⟩:=I.cell x c e;exact free c o (fun z=>(hch c z).2.2.1 x c e rfl) ho (I.freeC x c e)
  · obtain ⟨e,n,ne,nf,d⟩:=I.pin p hp;have nch:p.1∉ch:=fun z=>(hch p.1 z).2.2.2 p hp rfl;exact ⟨keep p.1 p.2 ne nf nch e n,free p.1 p.2 nch e n,ne,nf,d⟩
theorem Inv.un {t':Nat} (I:Inv X pins σ H s) (u:Un X.fs [] H H' s.heap h') (hok:HOk X.prog X.w H' h'):Inv X pins σ H' { s with heap:=h',toks:=t' }:=by
  obtain ⟨m,⟨o,es,ep,ho,r⟩,_⟩:=id I.loc;obtain ⟨sl,hL⟩:=u.any ho I.free (by simp);exact I.step (g':=s.gens) (d':=s.drawn) (ch:=[]) (fun _ z=>nomatch z) (fun b o _ hb _ e n=>u.keep b o e n hb (by simp)) (fun b o _ hb _ e n=>u.slot b o e n hb (by simp)) (fun b o _ e n=>u.free b o e n (by simp)) (fun b o _ e=>u.there b o e (by simp)) u.tups u.frzs u.tbls (fun m' hm=>by
    obtain ⟨o',es',ep',ho',r'⟩:=hm;rw [ho] at ho';cases ho';exact ⟨_,es',ep',hL,r'⟩) hok I.bare
theorem Inv.call {g':Array GenState} {t':Nat} {d':Drawn} {ch:List Addr} (I:Inv X pins σ H s) (u:Un (frs X.stack) ch H H' s.heap h') (hok:HOk X.prog X.w H' h') (hg:AllBare g')
    (hch:∀ b∈ch,(b∈X.ex∨X.s₀.heap.objs.size≤b)∧b≠X.env.locals∧(∀ x c,X.env.cells.lookup x=some c→c≠b)∧∀ p∈X.pn++pins,p.1≠b) :
    Inv X pins σ H' { s with heap:=h',gens:=g',drawn:=d',toks:=t' }:=by
  obtain ⟨m,⟨o,es,ep,ho,r⟩,_⟩:=id I.loc;obtain ⟨sl,hL⟩:=u.any ho I.free fun z=>(hch _ z).2.1 rfl;exact I.step (ch:=ch) hch (fun b o hL hb hc e n=>u.keep b o e n (fun z=>(aam.mp (I.stkSub b z)).elim hL hb) hc) (fun b o _ _ hc e n=>u.any e n hc) (fun b o hc e n=>u.free b o e n hc) (fun b o hc e=>u.there b o e hc) u.tups u.frzs u.tbls (fun m' hm=>by
    obtain ⟨o',es',ep',ho',r'⟩:=hm;rw [ho] at ho';cases ho';exact ⟨_,es',ep',hL,r'⟩) hok hg
theorem Inv.turned {t':Nat} {it:Addr} (I:Inv X pins σ H s) (k:∀ b o,b≠it→s.heap.get? b=some o→h'.get? b=some o) (hn:H it=none) (hL:it≠X.env.locals)
    (h1:it∈X.ex∨X.s₀.heap.objs.size≤it) (h2:∀ x c,X.env.cells.lookup x=some c→c≠it) (h3:∀ p∈X.pn++pins,p.1≠it):Inv X pins σ H { s with heap:=h',toks:=t' }:=by
  have nit:∀ b u,H b=some u→b≠it:=fun b u e z=>by rw [z,hn] at e;cases e
  refine I.step (g':=s.gens) (d':=s.drawn) (ch:=[it]) (fun b hb=>?_) (fun b o _ _ hc e _=>k b o (fun z=>hc (by simp [z])) e) (fun b o _ _ hc e _=>⟨o.slots,k b o (fun z=>hc (by simp [z])) e⟩) (fun _ _ _ _ n=>n)
    (fun b o hc e=>⟨o,k b o (fun z=>hc (by simp [z])) e⟩) (fun _ _ e=>e) (fun _ _ _ e=>e) (fun b ps e=>⟨#[],by rw [e];simp⟩) (fun m hm=>?_) (fun b u e=>?_) I.bare
  · have e:b=it:=by simpa using hb
    subst e;exact ⟨h1,hL,h2,h3⟩
  · obtain ⟨o,es,ep,ho,r⟩:=hm;exact ⟨o,es,ep,k _ o (ab3 hL) ho,r⟩
  · refine (I.hok b u e).stay (fun c v hc q=>k c v ?_ q) (fun _ q=>q) fun _ _ q=>q;rcases hc with z|z
    · rw [z];exact nit b u e
    · exact nit c _ z
theorem Inv.tok (I:Inv X pins σ H s) (t:Nat):Inv X pins σ H { s with toks:=t }:=I.un (h':=s.heap) (t':=t) Un.refl I.hok
theorem Inv.kept {t':Nat} (I:Inv X pins σ H s) (k:∀ b u,s.heap.get? b=some u→h'.get? b=some u):Inv X pins σ H { s with heap:=h',toks:=t' }:=I.un (Un.kept k) (I.hok.kept k)
theorem Inv.laid {a:Addr} {o:HO} {t':Nat} (I:Inv X pins σ H s) (k:∀ b u,s.heap.get? b=some u→h'.get? b=some u) (hp:s.heap.objs.size≤a) (new:ObjOk X.prog X.w (upd H a o) h' a o) :
    Inv X pins σ (upd H a o) { s with heap:=h',toks:=t' }:=I.un (Un.laid k hp (I.hok.fresh hp)) (I.hok.laid k hp new)
theorem Inv.write {x e:Addr} {o:HO} {t':Nat} (I:Inv X pins σ H s) (mu:Mut (H x)) (he:e=x∨H e=some (.own x)) (k:∀ b u,b≠e→s.heap.get? b=some u→h'.get? b=some u) (heo:∃ u,h'.get? e=some u)
    (new:ObjOk X.prog X.w (upd H x o) h' x o):Inv X pins σ (upd H x o) { s with heap:=h',toks:=t' }:=I.un (Un.write mu he k heo) (I.hok.write mu he k heo new)
theorem Inv.pins_of {pins':List (Addr × Obj)} (I:Inv X pins σ H s) (h:∀ p∈pins',s.heap.get? p.1=some p.2∧H p.1=none∧p.1≠X.env.locals∧p.1∉X.fs∧∀ v,p.2.data≠.cell v):Inv X pins' σ H s :=
  ⟨I.ok,I.os,I.bare,I.base,I.loc,I.cell,I.free,I.freeC,fun p hp=>(aan.mp hp).elim (fun z=>I.pin p (aaw _ z)) (h p),I.hok,I.len⟩
theorem o_ {N:List Str} (hN:N.Nodup) {i j:Nat} {x:Str} (a:N[i]?=some x) (b:N[j]?=some x):i=j:=by
  obtain ⟨h1,e1⟩:=aak.mp a;obtain ⟨h2,e2⟩:=aak.mp b;exact (List.getElem_inj hN).mp (e1.trans e2.symm)
theorem se {M:Model} {A:Around} {E:Value→Shared→Prop} {i:Nat} {x:Str} {v:V} {u:Value} {Q:Unit→Shared→Prop} (I:Inv X pins σ H s) (hN:X.N.Nodup) (hi:X.N[i]?=some x) (hx:Loc X.env.scope x) (r:RelV v u)
    (h:∀ s',Inv X pins (σ.set i (some v)) H s'→(∃ a,abI a s.heap s'.heap∧(a=X.env.locals∨X.env.cells.lookup x=some a))→Q () s') (hf:X.fn x=true∨X.env.scope.names.lookup x=some .local:=by first|exact .inl rfl|exact .inr rfl|assumption):wpAny M A (storeName X.env x u) Q E s:=by
  obtain ⟨m,hn,hl⟩:=id I.loc;have hcls:(X.env.scope.kind == .class || (X.env.scope.kind == .module && X.env.locals != X.env.globals))=false:=by rw [I.ok.kind];rfl
  have hiσ:i < σ.length:=by rw [I.len];exact (aak.mp hi).1
  have cne:=I.cne;have tracked:∀ {a:Addr} {h':Heap},(∃ o,s.heap.get? a=some o∧H a=none)→abI a s.heap h'→HOk X.prog X.w H h':=fun {a h'} ha hs b ob e=>by
    obtain ⟨_,_,hfree⟩:=ha;refine (I.hok b ob e).stay (fun c w' hc q=>(hs.2 c ?_).trans q) (fun _ q=>q) fun _ _ q=>q;rintro rfl;rcases hc with rfl|hc
    · rw [hfree] at e;cases e
    · rw [hfree] at hc;cases hc
  rcases hx with hk|hk
  · refine wpAny_storeName_local hk hn (fun h' hn' hs=>?_) hcls;obtain ⟨oL,_,_,hoL,_⟩:=id hn;refine h _ ⟨I.ok,I.os,I.bare,⟨fun b o e n hb hx=>?_,fun b o e n hb hx=>?_,I.base.free,fun b o e hx=>?_,I.base.tups,I.base.frzs,I.base.tbls⟩,⟨_,hn',fun j y v' e1 e2 e3=>?_⟩,fun y c e=>?_,I.free,I.freeC,fun p hp=>?_,tracked ⟨oL,hoL,I.free⟩ hs,by simpa using I.len⟩ ⟨_,hs,.inl rfl⟩
    · exact (hs.2 b (aaz (aat (aar e) I.ok.above))).trans (I.base.keep b o e n hb hx)
    · obtain ⟨sl,e1⟩:=I.base.slot b o e n hb hx;exact ⟨sl,(hs.2 b (aaz (aat (aar e) I.ok.above))).trans e1⟩
    · obtain ⟨o',e1⟩:=I.base.there b o e hx;exact ⟨o',(hs.2 b (aaz (aat (aar e) I.ok.above))).trans e1⟩
    · by_cases hj:j=i
      · subst hj;rw [hi] at e1;cases e1;rw [List.getElem?_set_self hiσ] at e2;cases e2;exact ⟨u,r,.inl ⟨hk,by simp⟩⟩
      · rw [List.getElem?_set_ne (ab3 hj)] at e2;obtain ⟨u',r',q⟩:=hl j y v' e1 e2 e3;refine ⟨u',r',?_⟩;rcases q with ⟨k,e⟩|⟨k,c,e,z⟩
        · refine .inl ⟨k,?_⟩;have : y≠x:=fun e=>hj (o_ hN e1 (e ▸ hi));simp [this,e]
        · exact .inr ⟨k,c,e,z.sameBut hs (cne y c e)⟩
    · obtain ⟨w',z⟩:=I.cell y c e;exact ⟨w',z.sameBut hs (cne y c e)⟩
    · obtain ⟨e,n,ne,nf,d⟩:=I.pin p hp;exact ⟨(hs.2 p.1 ne).trans e,n,ne,nf,d⟩
  · have hfn:X.fn x=true:=by
      rcases hf with z|z
      · exact z
      · rw [z] at hk;cases hk
    obtain ⟨c,hc⟩:=I.ok.has x (.inl hk);obtain ⟨w',z⟩:=I.cell x c hc;refine wpAny_storeName_cell I.ok.kind hk hc z (fun h' hc' hs=>?_);obtain ⟨oc,hoc,hocd⟩:=id z;refine h { s with heap:=h' } ⟨I.ok,I.os,I.bare,⟨fun b o e n hb hx=>?_,fun b o e n hb hx=>?_,I.base.free,fun b o e hx=>?_,I.base.tups,I.base.frzs,I.base.tbls⟩,⟨m,hn.sameBut hs (ab3 (cne x c hc)),fun j y v' e1 e2 e3=>?_⟩,fun y c' e=>?_,I.free,I.freeC,fun p hp=>?_,tracked ⟨oc,hoc,I.freeC x c hc⟩ hs,by simpa using I.len⟩ ⟨c,hs,.inr hc⟩
    · exact (hs.2 b (aaz (aat (aar e) (I.ok.cab x c hfn hc)))).trans (I.base.keep b o e n hb hx)
    · obtain ⟨sl,e1⟩:=I.base.slot b o e n hb hx;exact ⟨sl,(hs.2 b (aaz (aat (aar e) (I.ok.cab x c hfn hc)))).trans e1⟩
    · obtain ⟨o',e1⟩:=I.base.there b o e hx;exact ⟨o',(hs.2 b (aaz (aat (aar e) (I.ok.cab x c hfn hc)))).trans e1⟩
    · by_cases hj:j=i
      · subst hj;rw [hi] at e1;cases e1;rw [List.getElem?_set_self hiσ] at e2;cases e2;exact ⟨u,r,.inr ⟨.inl hk,c,hc,hc'⟩⟩
      · rw [List.getElem?_set_ne (ab3 hj)] at e2;obtain ⟨u',r',q⟩:=hl j y v' e1 e2 e3;refine ⟨u',r',?_⟩;rcases q with q|⟨k,c',e,z'⟩
        · exact .inl q
        · refine .inr ⟨k,c',e,z'.sameBut hs ?_⟩;rintro rfl;exact hj (o_ hN e1 (I.ok.inj _ _ _ e hc ▸ hi))
    · by_cases hcc:c'=c
      · subst hcc;exact ⟨_,hc'⟩
      · obtain ⟨w2,z2⟩:=I.cell y c' e;exact ⟨w2,z2.sameBut hs hcc⟩
    · obtain ⟨e,n,ne,nf,d⟩:=I.pin p hp;refine ⟨(hs.2 p.1 ?_).trans e,n,ne,nf,d⟩;intro q;rw [q,hoc] at e;have q':oc=p.2:=aaR e;exact d w' (by rw [← q'];exact hocd)
theorem iu {M:Model} {A:Around} {E:Value→Shared→Prop} {i:Nat} {x:Str} {v:V} {u:Value} {Q:Unit→Shared→Prop} (I:Inv X pins σ H s) (hN:X.N.Nodup) (hi:X.N[i]?=some x) (hx:Loc X.env.scope x) (r:RelV v u)
    (h:∀ s',Inv X pins (σ.set i (some v)) H s'→Q () s') (hf:X.fn x=true∨X.env.scope.names.lookup x=some .local:=by first|exact .inl rfl|exact .inr rfl|assumption):wpAny M A (storeName X.env x u) Q E s :=
  se I hN hi hx r (fun s' I' _=>h s' I') hf
theorem Inv.call' {s':Shared} {ch:List Addr} (I:Inv X pins σ H s) (ho:s'.os=s.os) (u:Un (frs X.stack) ch H H' s.heap s'.heap) (hok:HOk X.prog X.w H' s'.heap) (hg:AllBare s'.gens)
    (hch:∀ b∈ch,(b∈X.ex∨X.s₀.heap.objs.size≤b)∧b≠X.env.locals∧(∀ x c,X.env.cells.lookup x=some c→c≠b)∧∀ p∈X.pn++pins,p.1≠b):Inv X pins σ H' s':=by
  obtain ⟨h',g',d',t',o'⟩:=s';have e:o'=s.os:=ho;subst e;exact I.call (g':=g') (t':=t') (d':=d') u hok hg hch
end
abbrev XK:=Value→Option Addr→Hp→Prop
abbrev St:=List (Option V)
abbrev VK:=V→Hp→Prop
abbrev TE:=St→Hp→VK→Prop
abbrev TT:=St→Hp→(Bool→Hp→Prop)→Prop
abbrev TA:=St→Hp→(List V→Hp→Prop)→Prop
structure Ends where
  nx:St→Hp→Prop
  rt:VK
  bk:St→Hp→Prop:=fun _ _=>False
  ct:St→Hp→Prop:=fun _ _=>False
abbrev TS:=Ends→St→Hp→Prop
def EP (X:Cx) (pins:List (Addr × Obj)) (σ:St) (Q:VK) (u:Value) (s':Shared):Prop:=∃ v H',Inv X pins σ H' s'∧RelV v u∧Q v H'
def TP (X:Cx) (pins:List (Addr × Obj)) (σ:St) (Q:Bool→Hp→Prop) (b:Bool) (s':Shared):Prop:=∃ H',Inv X pins σ H' s'∧Q b H'
def AP (X:Cx) (pins:List (Addr × Obj)) (σ:St) (Q:List V→Hp→Prop) (us:List Value) (s':Shared):Prop:=∃ vs H',Inv X pins σ H' s'∧Vals vs us∧Q vs H'
def SP (X:Cx) (pins:List (Addr × Obj)) (D:Ends) (f:Flow) (s':Shared):Prop :=
  match f with
  | .next=>∃ σ' H',Inv X pins σ' H' s'∧D.nx σ' H'
  | .brk=>∃ σ' H',Inv X pins σ' H' s'∧D.bk σ' H'
  | .cont=>∃ σ' H',Inv X pins σ' H' s'∧D.ct σ' H'
  | .ret u=>∃ v σ' H',Inv X pins σ' H' s'∧RelV v u∧D.rt v H'
def PE (X:Cx) (e:Expr) (t:TE):Prop :=
  ∀ (pins:List (Addr × Obj)) (s:Shared) (σ:St) (H:Hp) (Q:VK),Inv X pins σ H s→t σ H Q→wpAny (model X.prog X.w) X.A (eval e X.env) (EP X pins σ Q) X.xe s
def PT (X:Cx) (e:Expr) (t:TT):Prop :=
  ∀ (pins:List (Addr × Obj)) (s:Shared) (σ:St) (H:Hp) (Q:Bool→Hp→Prop),Inv X pins σ H s→t σ H Q→wpAny (model X.prog X.w) X.A (isTrue e X.env (eval e X.env)) (TP X pins σ Q) X.xe s
def PW (X:Cx) (e:Expr) (t:TT):Prop :=
  ∀ (whole:Sem Value) (pins:List (Addr × Obj)) (s:Shared) (σ:St) (H:Hp) (Q:Bool→Hp→Prop),Inv X pins σ H s→t σ H Q→wpAny (model X.prog X.w) X.A (isTrue e X.env whole) (TP X pins σ Q) X.xe s
theorem PW.pt {X:Cx} {e:Expr} {t:TT} (h:PW X e t):PT X e t:=h _
def PA (X:Cx) (es:List Expr) (t:TA):Prop :=
  ∀ (pos:Pos) (pins:List (Addr × Obj)) (s:Shared) (σ:St) (H:Hp) (Q:List V→Hp→Prop),Inv X pins σ H s→t σ H Q→wpAny (model X.prog X.w) X.A (spliced (backTo pos (starEach es X.env))) (AP X pins σ Q) X.xe s
def PS (X:Cx) (st:Stmt) (t:TS):Prop :=
  ∀ (pins:List (Addr × Obj)) (s:Shared) (σ:St) (H:Hp) (D:Ends),Inv X pins σ H s→t D σ H→wpAny (model X.prog X.w) X.A (exec st X.env) (SP X pins D) X.xe s
def PSs (X:Cx) (st:List Stmt) (t:TS):Prop :=
  ∀ (pins:List (Addr × Obj)) (s:Shared) (σ:St) (H:Hp) (D:Ends),Inv X pins σ H s→t D σ H→wpAny (model X.prog X.w) X.A (execs st X.env) (SP X pins D) X.xe s
theorem thn {α:Type} {t:Sem α} {Q Q':α→Shared→Prop} {M:Model} {A:Around} {E:Value→Shared→Prop} {s:Shared} (h:wpAny M A t Q E s) (hQ:∀ a s,Q a s→Q' a s):wpAny M A t Q' E s:=wpAny_mono h hQ fun _ _ x=>x
open PySem PySem.Spec PyProof.Rows
section
variable {X:Cx}
def wW (i:Nat):TE:=fun σ H Q=>∃ v,σ[i]?=some (some v)∧Q v H
def tC (v:V):TE:=fun _ H Q=>Q v H
theorem xk {i:Nat} {x:Str} {pos:Pos} (hN:X.N[i]?=some x) (hv:Vis X.env.scope x) (hd:(x == ("__debug__":Str))=false:=by decide) (hcd:(x == ("__classdict__":Str))=false:=by decide):PE X (.Name x pos) (wW i):=by
  intro pins s σ H Q I h;obtain ⟨v,e,h⟩:=h;obtain ⟨m,hn,hl⟩:=I.loc;obtain ⟨u,r,l⟩:=hl i x v hN e hv;have fin:EP X pins σ Q u s:=⟨v,H,I,r,h⟩
  rcases l with ⟨hk,hm⟩|⟨hk,c,hc,hcell⟩
  · exact wpAny_Name (wpAny_loadName_local I.ok.kind hk hn hm fin) hd
  · rcases hk with hk|hk
    · exact wpAny_Name (wpAny_loadName_cell I.ok.kind hk hc hcell fin) hd
    · exact wpAny_Name (wpAny_loadName_free I.ok.kind hk hc hcell fin hcd) hd
theorem ai {i j pos}:PE X (.Constant (.int i) j pos) (tC (.int i)):=fun _ _ _ H _ I h=>wpAny_Constant_int ⟨.int i,H,I.tok _,⟨_,rfl⟩,h⟩
theorem di {b j pos}:PE X (.Constant (.bool b) j pos) (tC (.bl b)):=fun _ _ _ H _ I h=>Constant_bool ⟨.bl b,H,I,rfl,h⟩
theorem kA {j pos}:PE X (.Constant .none j pos) (tC .non):=fun _ _ _ H _ I h=>Constant_none ⟨.non,H,I,rfl,h⟩
theorem dZ {x j pos}:PE X (.Constant (.str x) j pos) (tC (.str x)):=fun _ _ _ H _ I h=>Calls.Constant_str ⟨.str x,H,I.tok _,⟨_,rfl⟩,h⟩
def Gl (X:Cx) (x:Str):Prop:=X.env.kindOf x=some .globalImplicit
theorem rB {E:Value→Shared→Prop} {pins:List (Addr × Obj)} {s:Shared} {σ:St} {H:Hp} {x:Str} {u:Value} {pos:Pos} {Q:Value→Shared→Prop} (I:Inv X pins σ H s) (hg:Gl X x) (hm:X.mg x=some u) (h:Q u s)
    (hd:(x == ("__debug__":Str))=false:=by decide):wpAny (model X.prog X.w) X.A (eval (.Name x pos) X.env) Q E s :=
  Calls.Name_function_global I.ok.kind hg (Calls.loadGlobal_global (by rw [I.ok.glob];exact I.mod.glob.keeps I.bk) hm h) hd
theorem jq {E:Value→Shared→Prop} {pins:List (Addr × Obj)} {s:Shared} {σ:St} {H:Hp} {x:Str} {u:Value} {pos:Pos} {Q:Value→Shared→Prop} (I:Inv X pins σ H s) (hg:Gl X x) (hm:X.mg x=none) (hv:bootBuiltins x=some u) (h:Q u s)
    (hn:x ≠ "__name__":=by decide) (hd:(x == ("__debug__":Str))=false:=by decide):wpAny (model X.prog X.w) X.A (eval (.Name x pos) X.env) Q E s:=by
  obtain ⟨mb,h1,h2⟩:=I.mod.blt;exact Calls.Name_function_global I.ok.kind hg (Calls.loadGlobal_builtin (by rw [I.ok.glob];exact I.mod.glob.keeps I.bk) hm (by rw [I.ok.blt];exact h1.keeps I.bk) ((h2 x hn).trans hv) h) hd
theorem gF {x:Str} {v:V} {u:Value} {pos:Pos} (hg:Gl X x) (hm:X.mg x=some u) (r:RelV v u) (hd:(x == ("__debug__":Str))=false:=by decide):PE X (.Name x pos) (tC v) :=
  fun _ _ _ H _ I h=>rB I hg hm ⟨v,H,I,r,h⟩ hd
theorem dm {x:Str} {v:V} {u:Value} {pos:Pos} (hg:Gl X x) (hm:X.mg x=none) (hv:bootBuiltins x=some u) (r:RelV v u) (hn:x ≠ "__name__":=by decide) (hd:(x == ("__debug__":Str))=false:=by decide):PE X (.Name x pos) (tC v) :=
  fun _ _ _ H _ I h=>jq I hg hm hv ⟨v,H,I,r,h⟩ hn hd
variable {a b:Expr} {ta tb:TE} {pos:Pos}
def tB (t:TE):TT:=fun σ H Q=>t σ H fun x H1=>∃ c,x=.bl c∧Q c H1
theorem bQ {e:Expr} {t:TE} (h:PE X e t) (he:∀ whole,isTrue e X.env whole=(do let v ← whole;standAt e.pos;holding [v] (truthy v)):=by intro _;rfl):PT X e (tB t):=by
  intro pins s σ H Q I hw;refine isTrue_plain (thn (h pins s σ H _ I hw) fun v s1 ⟨x,H1,I1,r1,q1⟩=>?_) (he _);obtain ⟨d,rfl,q⟩:=q1;cases r1;exact wpAny_truthy_bool ⟨H1,I1,q⟩
variable {tA tB':TT} {dY:List Expr}
def y0 (t u:TT):TT:=fun σ H Q=>t σ H fun c H1=>if c=true then u σ H1 Q else Q false H1
def tOr (t u:TT):TT:=fun σ H Q=>t σ H fun c H1=>if c=true then Q true H1 else u σ H1 Q
def yP (t:TT):TT:=fun σ H Q=>t σ H fun c H1=>Q (!c) H1
theorem iE (ha:PT X a tA):PW X (.BoolOp .And [a] pos) tA:=by
  intro wh pins s σ H Q I h;refine isTrue_and (thn (ha pins s σ H Q I h) fun c s1 e=>?_);cases c with
  | true=>exact isTrue_and_nil e
  | false=>exact e
theorem fZ (ha:PT X a tA):PW X (.BoolOp .Or [a] pos) tA:=by
  intro wh pins s σ H Q I h;refine isTrue_or (thn (ha pins s σ H Q I h) fun c s1 e=>?_);cases c with
  | false=>exact isTrue_or_nil e
  | true=>exact e
theorem jb (ha:PT X a tA) (hb:PW X (.BoolOp .And (b :: dY) pos) tB'):PW X (.BoolOp .And (a :: b :: dY) pos) (y0 tA tB'):=by
  intro wh pins s σ H Q I h;refine isTrue_and (thn (ha pins s σ H _ I h) fun c s1 ⟨H1,I1,q1⟩=>?_);cases c with
  | true=>exact hb wh pins s1 σ H1 Q I1 q1
  | false=>exact ⟨H1,I1,q1⟩
theorem iD (ha:PT X a tA) (hb:PW X (.BoolOp .Or (b :: dY) pos) tB'):PW X (.BoolOp .Or (a :: b :: dY) pos) (tOr tA tB'):=by
  intro wh pins s σ H Q I h;refine isTrue_or (thn (ha pins s σ H _ I h) fun c s1 ⟨H1,I1,q1⟩=>?_);cases c with
  | true=>exact ⟨H1,I1,q1⟩
  | false=>exact hb wh pins s1 σ H1 Q I1 q1
theorem cx (ha:PT X a tA):PT X (.UnaryOp .Not a pos) (yP tA):=by
  intro pins s σ H Q I h;exact isTrue_not (ha pins s σ H (fun c H1=>Q (!c) H1) I h)
def yd (ta tb:TE):TE:=fun σ H Q=>ta σ H fun x H1=>∃ c,x=.bl c∧if c=true then tb σ H1 Q else Q (.bl false) H1
def yO (ta tb:TE):TE:=fun σ H Q=>ta σ H fun x H1=>∃ c,x=.bl c∧if c=true then Q (.bl true) H1 else tb σ H1 Q
def x6 (ta:TE):TE:=fun σ H Q=>ta σ H fun x H1=>∃ c,x=.bl c∧Q (.bl (!c)) H1
theorem fC {op} {t:TE} (h:PE X a t):PE X (.BoolOp op [a] pos) t:=fun pins s σ H Q I hw=>BoolOp_one (h pins s σ H Q I hw)
theorem d5 (ha:PE X a ta) (hb:PE X (.BoolOp .And (b :: dY) pos) tb):PE X (.BoolOp .And (a :: b :: dY) pos) (yd ta tb):=by
  intro pins s σ H Q I h;refine BoolOp_and (thn (ha pins s σ H _ I h) fun v s1 ⟨x,H1,I1,r1,q1⟩=>?_);obtain ⟨c,rfl,q1⟩:=q1;cases r1;refine wpAny_truthy_bool ?_;cases c with
  | true=>exact hb pins s1 σ H1 Q I1 q1
  | false=>exact ⟨.bl false,H1,I1,rfl,q1⟩
theorem ym (ha:PE X a ta) (hb:PE X (.BoolOp .Or (b :: dY) pos) tb):PE X (.BoolOp .Or (a :: b :: dY) pos) (yO ta tb):=by
  intro pins s σ H Q I h;refine BoolOp_or (thn (ha pins s σ H _ I h) fun v s1 ⟨x,H1,I1,r1,q1⟩=>?_);obtain ⟨c,rfl,q1⟩:=q1;cases r1;refine wpAny_truthy_bool ?_;cases c with
  | false=>exact hb pins s1 σ H1 Q I1 q1
  | true=>exact ⟨.bl true,H1,I1,rfl,q1⟩
theorem xl (ha:PE X a ta):PE X (.UnaryOp .Not a pos) (x6 ta):=by
  intro pins s σ H Q I h;refine UnaryOp_ (thn (ha pins s σ H _ I h) fun v s1 ⟨x,H1,I1,r1,q1⟩=>?_);obtain ⟨c,rfl,q1⟩:=q1;cases r1;exact not_of (wpAny_truthy_bool ⟨.bl (!c),H1,I1,rfl,q1⟩)
def tIf (t:TT) (ta tb:TE):TE:=fun σ H Q=>t σ H fun c H1=>if c=true then ta σ H1 Q else tb σ H1 Q
theorem eK {c:Expr} (hc:PT X c tA) (ha:PE X a ta) (hb:PE X b tb):PE X (.IfExp c a b pos) (tIf tA ta tb):=by
  intro pins s σ H Q I h;refine wpAny_IfExp (thn (hc pins s σ H _ I h) fun d s1 ⟨H1,I1,q1⟩=>?_);cases d with
  | true=>exact ha pins s1 σ H1 Q I1 q1
  | false=>exact hb pins s1 σ H1 Q I1 q1
end
open PySem PySem.Spec PyProof.Rows
def SqL (K:aaa) (H:Hp) (a:Addr) (xs:List V):Prop :=
  Rd H a (.lst xs) ∨
    ∃ (o:Obj) (its:Array Value) (n:Nat),K.lookup a=some o∧o.cls=.type "list"∧o.dict=none∧o.data=.seq its n∧its.size≤sizeLine∧Vals xs its.toList
def SqT (K:aaa) (H:Hp) (a:Addr) (xs:List V):Prop :=
  Rd H a (.tup xs) ∨
    ∃ (o:Obj) (its:Array Value) (n:Nat),K.lookup a=some o∧o.cls=.type "tuple"∧o.data=.seq its n∧its.size≤sizeLine∧Vals xs its.toList
def zm:Value→Option V
  | .none=>some .non
  | .bool b=>some (.bl b)
  | .int i _=>some (.int i)
  | .str x _=>some (.str x)
  | .bytes b _=>some (.byt b)
  | .float b _=>some (.flt b)
  | .ref a=>some (.ref a)
  | .type n=>some (.ty n)
  | _=>none
theorem RelV.abs {x:V} {u:Value} (r:RelV x u):zm u=some x:=by
  cases x with
  | non=>cases r;rfl
  | bl _=>cases r;rfl
  | int _=>obtain ⟨t,rfl⟩:=r;rfl
  | str _=>obtain ⟨t,rfl⟩:=r;rfl
  | byt _=>obtain ⟨t,rfl⟩:=r;rfl
  | flt _=>obtain ⟨t,rfl⟩:=r;rfl
  | ref _=>cases r;rfl
  | ty _=>cases r;rfl
theorem RelV.inj {x y:V} {u:Value} (r:RelV x u) (q:RelV y u):x=y:=aaR (r.abs.symm.trans q.abs)
theorem Vals.inj {xs ys:List V} {us:List Value} (h:Vals xs us) (h':Vals ys us):xs=ys:=by
  induction h generalizing ys with
  | nil=>cases h';rfl
  | cons r t ih =>
    cases h' with
    | cons r' t'=>rw [r.inj r',ih t']
section
variable {X:Cx} {pins:List (Addr × Obj)} {σ:St} {H:Hp} {s:Shared} {a:Addr} {xs ys:List V}
theorem SqL.of {K:aaa} (h:H a=some (.lst xs)):SqL K H a xs:=.inl (.inl h)
theorem SqT.of {K:aaa} (h:H a=some (.tup xs)):SqT K H a xs:=.inl (.inl h)
theorem Inv.list (I:Inv X pins σ H s) (h:SqL X.K H a xs):∃ its:List Value,Vals xs its∧PlainL s.heap a its.toArray∧xs.length≤sizeLine:=by
  rcases h with h|⟨o,its,n,hk,hc,hd,hs,hz,r⟩
  · obtain ⟨z,its,n,r,e⟩:=h.ok I.hok;exact ⟨its,r,⟨_,n,e,rfl,rfl,rfl⟩,z⟩
  · refine ⟨its.toList,r,⟨o,n,I.kIn a o hk,hc,hd,by simpa using hs⟩,?_⟩;have e:=r.length;simp only [Array.length_toList] at e;lia
theorem Inv.tuple (I:Inv X pins σ H s) (h:SqT X.K H a xs):∃ its:List Value,Vals xs its∧IsTup s.heap a its.toArray∧xs.length≤sizeLine:=by
  rcases h with h|⟨o,its,n,hk,hc,hs,hz,r⟩
  · obtain ⟨z,its,r,p⟩:=h.ok I.hok;exact ⟨its,r,p,z⟩
  · refine ⟨its.toList,r,⟨o,I.kIn a o hk,hc,n,by simpa using hs⟩,?_⟩;have e:=r.length;simp only [Array.length_toList] at e;lia
theorem Inv.list_inj (I:Inv X pins σ H s) (h:SqL X.K H a xs) (h':SqL X.K H a ys):xs=ys:=by
  obtain ⟨its,r,⟨o,n,e,_,_,d⟩,_⟩:=I.list h;obtain ⟨its',r',⟨o',n',e',_,_,d'⟩,_⟩:=I.list h';rw [e] at e';cases e';rw [d] at d';injection d' with d1 _
  have : its=its':=by simpa using congrArg Array.toList d1
  subst this;exact r.inj r'
theorem Inv.tuple_inj (I:Inv X pins σ H s) (h:SqT X.K H a xs) (h':SqT X.K H a ys):xs=ys:=by
  obtain ⟨its,r,⟨o,e,_,n,d⟩,_⟩:=I.tuple h;obtain ⟨its',r',⟨o',e',_,n',d'⟩,_⟩:=I.tuple h';rw [e] at e';cases e';rw [d] at d';injection d' with d1 _
  have : its=its':=by simpa using congrArg Array.toList d1
  subst this;exact r.inj r'
end
abbrev Cx.wish (X:Cx) (E:Value→Shared→Prop):Cx:={ X with xe:=E }
abbrev Cx.nox (X:Cx):Cx:=X.wish fun _ _=>False
theorem Cx.Ok.wish {X:Cx} (ok:X.Ok) (E:Value→Shared→Prop):(X.wish E).Ok :=
  ⟨ok.mod,ok.kind,ok.glob,ok.blt,ok.above,ok.inj,ok.has,ok.cab,ok.hd,ok.frames,ok.stk,ok.exf,ok.bs,ok.bsz,ok.noex,ok.exfs,ok.funs,ok.frf⟩
theorem Cx.Ok.unwish {X:Cx} {E:Value→Shared→Prop} (ok:(X.wish E).Ok):X.Ok :=
  ⟨ok.mod,ok.kind,ok.glob,ok.blt,ok.above,ok.inj,ok.has,ok.cab,ok.hd,ok.frames,ok.stk,ok.exf,ok.bs,ok.bsz,ok.noex,ok.exfs,ok.funs,ok.frf⟩
section
variable {X:Cx} {pins:List (Addr × Obj)} {σ:St} {H:Hp} {s:Shared} {E:Value→Shared→Prop}
theorem Inv.wish (I:Inv X pins σ H s) (E:Value→Shared→Prop):Inv (X.wish E) pins σ H s:=⟨I.ok.wish E,I.os,I.bare,I.base,I.loc,I.cell,I.free,I.freeC,I.pin,I.hok,I.len⟩
theorem Inv.unwish (I:Inv (X.wish E) pins σ H s):Inv X pins σ H s:=⟨I.ok.unwish,I.os,I.bare,I.base,I.loc,I.cell,I.free,I.freeC,I.pin,I.hok,I.len⟩
theorem SP.unwish {D:Ends} {f:Flow} {s':Shared} (h:SP (X.wish E) pins D f s'):SP X pins D f s':=by
  cases f with
  | next=>obtain ⟨σ',H',I,q⟩:=h;exact ⟨σ',H',I.unwish,q⟩
  | brk=>obtain ⟨σ',H',I,q⟩:=h;exact ⟨σ',H',I.unwish,q⟩
  | cont=>obtain ⟨σ',H',I,q⟩:=h;exact ⟨σ',H',I.unwish,q⟩
  | ret u=>obtain ⟨v,σ',H',I,r,q⟩:=h;exact ⟨v,σ',H',I.unwish,r,q⟩
theorem PSs.nox {st:List Stmt} {t:TS} (h:PSs X.nox st t):PSs X st t:=fun pins s σ H D I hw =>
  wpAny_mono (h pins s σ H D (I.wish _) hw) (fun _ _ q=>q.unwish) fun _ _ z=>abq z
end
section
variable {X:Cx} {st:Stmt} {dY:List Stmt} {t u:TS} {e:Expr} {te:TE} {pos:Pos}
def x8:TS:=fun D σ H=>D.nx σ H
def yM (t u:TS):TS:=fun D σ H=>t { D with nx:=u D } σ H
theorem aO:PSs X [] x8:=fun _ _ σ H _ I h=>wpAny_execs_nil ⟨σ,H,I,h⟩
theorem ag (h1:PS X st t) (h2:PSs X dY u):PSs X (st :: dY) (yM t u):=by
  intro pins s σ H D I h;refine wpAny_execs_cons (thn (h1 pins s σ H { D with nx:=u D } I h) fun f s1 q=>?_);cases f with
  | next =>
    obtain ⟨σ',H',I',q⟩:=q;exact h2 pins s1 σ' H' D I' q
  | ret v=>exact q
  | brk=>exact q
  | cont=>exact q
theorem ak (h1:PS X st t):PSs X [st] t:=by
  intro pins s σ H D I h;refine wpAny_execs_cons (thn (h1 pins s σ H D I h) fun f s1 q=>?_);cases f with
  | next=>exact wpAny_execs_nil q
  | ret v=>exact q
  | brk=>exact q
  | cont=>exact q
theorem Inv.quiet {pins:List (Addr × Obj)} {σ:St} {H:Hp} {s:Shared} (I:Inv X pins σ H s):interactive X.env=false:=by simp [interactive,I.ok.kind]
def x_ (te:TE):TS:=fun D σ H=>te σ H fun _ H1=>D.nx σ H1
theorem aX (he:PE X e te) (hs:swapsWith e none pos.line X.env=pure false:=by rfl):PS X (.Expr e pos) (x_ te):=by
  intro pins s σ H D I h;exact wpAny_Expr_any (thn (he pins s σ H _ I h) fun v s1 ⟨x,H1,I1,r1,q1⟩=>⟨σ,H1,I1,q1⟩) I.quiet hs
def yN (te:TE):TS:=fun D σ H=>te σ H D.rt
theorem au (he:PE X e te):PS X (.Return (some e) pos) (yN te):=by
  intro pins s σ H D I h;exact wpAny_Return_some (thn (he pins s σ H _ I h) fun v s1 ⟨x,H1,I1,r1,q1⟩=>⟨x,σ,H1,I1,r1,q1⟩)
def yV (c:TT) (t u:TS):TS:=fun D σ H=>c σ H fun b H1=>if b=true then t D σ H1 else u D σ H1
theorem bh {c:Expr} {a b:List Stmt} {tc:TT} (hc:PT X c tc) (ha:PSs X a t) (hb:PSs X b u):PS X (.If c a b pos) (yV tc t u):=by
  intro pins s σ H D I h;refine wpAny_If (thn (hc pins s σ H _ I h) fun d s1 ⟨H1,I1,q1⟩=>?_);cases d with
  | true=>exact ha pins s1 σ H1 D I1 q1
  | false=>exact hb pins s1 σ H1 D I1 q1
def wX:TS:=fun _ _ _=>False
theorem eF:PS X st wX:=fun _ _ _ _ _ _ h=>h.elim
end
abbrev TG:=V→St→Hp→(St→Hp→Prop)→Prop
abbrev TGs:=List V→St→Hp→(St→Hp→Prop)→Prop
def PG (X:Cx) (target:Expr) (t:TG):Prop :=
  ∀ (pins:List (Addr × Obj)) (s:Shared) (σ:St) (H:Hp) (v:V) (u:Value) (Q:St→Hp→Prop),Inv X pins σ H s→RelV v u→t v σ H Q →
    wpAny (model X.prog X.w) X.A (assign target X.env u) (fun _ s'=>∃ σ' H',Inv X pins σ' H' s'∧Q σ' H') X.xe s
def PGs (X:Cx) (ts:List Expr) (t:TGs):Prop :=
  ∀ (pins:List (Addr × Obj)) (s:Shared) (σ:St) (H:Hp) (vs:List V) (us:List Value) (Q:St→Hp→Prop),Inv X pins σ H s→Vals vs us→t vs σ H Q →
    wpAny (model X.prog X.w) X.A (assignInOrder ((assignEach ts X.env).map (·.2)) us) (fun _ s'=>∃ σ' H',Inv X pins σ' H' s'∧Q σ' H') X.xe s
abbrev xV:=V→V→V→Hp→(Hp→Prop)→Prop
def yG (X:Cx) (t:xV):Prop :=
  ∀ (pins:List (Addr × Obj)) (s:Shared) (σ:St) (H:Hp) (o i v:V) (ov iv u:Value) (Q:Hp→Prop),Inv X pins σ H s→RelV o ov→RelV i iv→RelV v u→t o i v H Q →
    wpAny (model X.prog X.w) X.A (setItem ov iv u) (fun _ s'=>∃ H',Inv X pins σ H' s'∧Q H') X.xe s
abbrev TIp:=V→V→Hp→VK→Prop
def PIp (X:Cx) (op:Operator) (t:TIp):Prop :=
  ∀ (pins:List (Addr × Obj)) (s:Shared) (σ:St) (H:Hp) (x y:V) (v u:Value) (Q:VK),Inv X pins σ H s→RelV x v→RelV y u→t x y H Q →
    wpAny (model X.prog X.w) X.A (inplaceOp op v u) (EP X pins σ Q) X.xe s
section
variable {X:Cx} {pos:Pos}
def uN (i:Nat):TG:=fun v σ H Q=>Q (σ.set i (some v)) H
theorem ao {i:Nat} {x:Str} (hN:X.N.Nodup) (hi:X.N[i]?=some x) (hx:Loc X.env.scope x) (hf:X.fn x=true∨X.env.scope.names.lookup x=some .local:=by first|exact .inl rfl|exact .inr rfl|assumption):PG X (.Name x pos) (uN i):=by
  intro pins s σ H v u Q I r h;exact wpAny_assign_Name (iu I hN hi hx r (fun s' I'=>⟨_,H,I',h⟩) hf)
def zh:TGs:=fun vs σ H Q=>vs=[]∧Q σ H
def yA (t:TG) (u:TGs):TGs:=fun vs σ H Q=>∃ v r,vs=v :: r∧t v σ H fun σ' H'=>u r σ' H' Q
theorem a8:PGs X [] zh:=by
  intro pins s σ H vs us Q I r h;obtain ⟨e,h⟩:=h;subst e;cases r;exact assignInOrder_nil ⟨σ,H,I,h⟩
theorem az {e:Expr} {es:List Expr} {t:TG} {u:TGs} (h1:PG X e t) (h2:PGs X es u)
    (hs:(assignEach (e :: es) X.env).map (·.2)=assign e X.env :: (assignEach es X.env).map (·.2):=by rfl):PGs X (e :: es) (yA t u):=by
  intro pins s σ H vs us Q I r h;obtain ⟨v,vr,e1,h⟩:=h;subst e1;cases r with
  | cons r rr =>
    rw [hs];refine assignInOrder_cons (thn (h1 pins s σ H _ _ _ I r h) fun _ s1 ⟨σ1,H1,I1,q1⟩=>?_);exact h2 pins s1 σ1 H1 _ _ Q I1 rr q1
def yz (K:aaa) (n:Nat) (t:TGs):TG:=fun v σ H Q=>∃ a xs,v=.ref a∧SqT K H a xs∧xs.length=n∧t xs σ H Q
theorem cz {es:List Expr} {k:Nat} {t:TGs} {n:Nat} (hc:X.calm=true) (h:PGs X es t)
    (hn:(assignEach es X.env).length=n:=by rfl) (hst:(assignEach es X.env).findIdx? (·.1)=none:=by rfl):PG X (.Tuple es k pos) (yz X.K n t):=by
  intro pins s σ H v u Q I r hw;obtain ⟨a,xs,e1,hq,hl,hw⟩:=hw;subst e1;cases r;obtain ⟨its,rv,ht,hz⟩:=I.tuple hq;refine assign_Tuple_tuple (I.ok.hd hc) ht (by simp [hn,← hl,rv.length]) hst fun h' hx=>?_;have I1:Inv X pins σ H { s with heap:=h' }:=I.kept (t':=s.toks) fun b o e=>hx b o (aaz (aar e)) e;exact h pins _ σ H xs _ Q I1 (by simpa using rv) hw
def zg (to ti:TE) (t:xV):TG:=fun v σ H Q=>to σ H fun o H1=>ti σ H1 fun i H2=>t o i v H2 fun H3=>Q σ H3
theorem ud {o i:Expr} {to ti:TE} {t:xV} (ho:PE X o to) (hi:PE X i ti) (hs:yG X t)
    (ha:∀ v,assign (.Subscript o i pos) X.env v=(do
      let ov ← holding [v] (eval o X.env)
      let iv ← holding [v,ov] (eval i X.env)
      standAt pos
      holding [v,ov,iv] (setItem ov iv v)
      release [v,ov,iv] []):=by intro _;rfl):PG X (.Subscript o i pos) (zg to ti t):=by
  intro pins s σ H v u Q I r h;rw [ha];refine wpAny_bind (wpAny_holding (thn (ho pins s σ H _ I h) fun ov s1 ⟨x,H1,I1,r1,q1⟩=>?_));refine wpAny_bind (wpAny_holding (thn (hi pins s1 σ H1 _ I1 q1) fun iv s2 ⟨y,H2,I2,r2,q2⟩=>?_));refine wpAny_bind (wpAny_standAt (wpAny_bind (wpAny_holding (thn (hs pins s2 σ H2 x y v ov iv u _ I2 r1 r2 r q2) fun _ s3 ⟨H3,I3,q3⟩=>?_))));exact wpAny_release ⟨σ,H3,I3,q3⟩
def wZ (te:TE) (g:TG):TS:=fun D σ H=>te σ H fun x H1=>g x σ H1 D.nx
theorem cy {tg e:Expr} {te:TE} {g:TG} (he:PE X e te) (hg:PG X tg g) (hs:swapsWithSole [tg] e pos.line X.env=pure false:=by rfl) (hw:swappedStores [tg] e X.env=pure none:=by rfl)
    (h1:(assignEach [tg] X.env).map (·.2)=[assign tg X.env]:=by rfl):PS X (.Assign [tg] e pos) (wZ te g):=by
  intro pins s σ H D I h;refine wpAny_Assign_stores (thn (he pins s σ H _ I h) fun v s1 ⟨x,H1,I1,r1,q1⟩=>?_) hs hw;rw [h1];exact thn (hg pins s1 σ H1 x v _ I1 r1 q1) fun _ s2 q=>q
theorem aH {i:Nat} {x:Str} {e:Expr} {te:TE} {pos':Pos} (hN:X.N.Nodup) (hi:X.N[i]?=some x) (hx:Loc X.env.scope x) (he:PE X e te) (hs:swapsWith e (some (.Name x pos')) pos.line X.env=pure false:=by rfl) (hf:X.fn x=true∨X.env.scope.names.lookup x=some .local:=by first|exact .inl rfl|exact .inr rfl|assumption) :
    PS X (.Assign [.Name x pos'] e pos) (wZ te (uN i)):=by
  intro pins s σ H D I h;refine wpAny_Assign_Name (thn (he pins s σ H _ I h) fun v s1 ⟨y,H1,I1,r1,q1⟩=>?_) hs;exact iu I1 hN hi hx r1 (fun s2 I2=>⟨_,H1,I2,q1⟩) hf
def yZ (i:Nat) (te:TE) (ti:TIp):TS:=fun D σ H=>∃ x,σ[i]?=some (some x)∧te σ H fun y H1=>ti x y H1 fun z H2=>D.nx (σ.set i (some z)) H2
theorem nG {i:Nat} {x:Str} {e:Expr} {te:TE} {op:Operator} {ti:TIp} {pos':Pos} (hN:X.N.Nodup) (hi:X.N[i]?=some x) (hx:Loc X.env.scope x) (he:PE X e te) (ho:PIp X op ti) (hf:X.fn x=true∨X.env.scope.names.lookup x=some .local:=by first|exact .inl rfl|exact .inr rfl|assumption) :
    PS X (.AugAssign (.Name x pos') op e pos) (yZ i te ti):=by
  intro pins s σ H D I h;obtain ⟨v,e1,h⟩:=h;obtain ⟨m,hn,hl⟩:=I.loc;have vis:Vis X.env.scope x:=by rcases hx with k|k;exact .inl k;exact .inr (.inl k)
  obtain ⟨u,r,l⟩:=hl i x v hi e1 vis;refine wpAny_AugAssign_Name ?_;have go:wpAny (model X.prog X.w) X.A (eval e X.env) (fun w s₂=>wpAny (model X.prog X.w) X.A (inplaceOp op u w) (fun r s₃=>wpAny (model X.prog X.w) X.A (storeName X.env x r) (fun _=>SP X pins D .next) X.xe s₃) X.xe s₂) X.xe s:=by
    refine thn (he pins s σ H _ I h) fun w s1 ⟨y,H1,I1,r1,q1⟩=>?_;refine thn (ho pins s1 σ H1 v y u w _ I1 r r1 q1) fun z s2 ⟨zv,H2,I2,r2,q2⟩=>?_;exact iu I2 hN hi hx r2 (fun s3 I3=>⟨_,H2,I3,q2⟩) hf
  rcases l with ⟨hk,hm⟩|⟨hk,c,hc,hcell⟩
  · exact wpAny_loadName_local I.ok.kind hk hn hm go
  · rcases hk with hk|hk
    · exact wpAny_loadName_cell I.ok.kind hk hc hcell go
    · rcases hx with k|k
      · have : X.env.scope.names.lookup x=some .free:=hk;rw [k] at this;cases this
      · have : X.env.scope.names.lookup x=some .free:=hk;rw [k] at this;cases this
def ipI (f:Int→Int→Int):TIp:=fun x y H Q=>∃ i j,x=.int i∧y=.int j∧Q (.int (f i j)) H
theorem qM:PIp X .Add (ipI fun i j=>i+j):=by
  intro pins s σ H x y v u Q I r1 r2 h;obtain ⟨i,j,e1,e2,q⟩:=h;subst e1;subst e2;obtain ⟨t,rfl⟩:=r1;obtain ⟨t',rfl⟩:=r2;exact iadd_int ⟨.int _,H,I.tok _,⟨_,rfl⟩,q⟩
theorem xJ:PIp X .Sub (ipI fun i j=>i - j):=by
  intro pins s σ H x y v u Q I r1 r2 h;obtain ⟨i,j,e1,e2,q⟩:=h;subst e1;subst e2;obtain ⟨t,rfl⟩:=r1;obtain ⟨t',rfl⟩:=r2;exact isub_int ⟨.int _,H,I.tok _,⟨_,rfl⟩,q⟩
end
section
variable {X:Cx} {pos:Pos}
def wV (c:TT) (tb:TS):TS:=fun D σ H=>∃ W:Nat→St→Hp→Prop,(∃ m,W m σ H)∧∀ m σ H,W m σ H →
  c σ H fun b H1=>if b=true then ∃ N:St→Hp→Prop,(∀ σ' H',N σ' H'→∃ m',m' < m∧W m' σ' H')∧tb { D with nx:=N,ct:=N,bk:=D.nx } σ H1 else D.nx σ H1
theorem oP {c:Expr} {body:List Stmt} {tc:TT} {tb:TS} (hp:PassesOwn (model X.prog X.w) X.A X.env X.xe) (hc:PT X c tc) (hb:PSs X body tb):PS X (.While c body [] pos) (wV tc tb):=by
  intro pins s σ H D I h;obtain ⟨W,⟨m0,w0⟩,turn⟩:=h;refine wpAny_While (codeAny_whileLoop (fun n s'=>∃ σ' H',Inv X pins σ' H' s'∧W n σ' H') ?_ m0 ⟨σ,H,I,w0⟩);rintro n s1 ⟨σ1,H1,I1,w1⟩;refine wpAny_passesOwn hp (thn (hc pins s1 σ1 H1 _ I1 (turn n σ1 H1 w1)) fun b s2 ⟨H2,I2,q2⟩=>?_);cases b with
  | true =>
    obtain ⟨N,hN,q2⟩:=q2;rw [if_pos rfl];refine wpAny_passesOwn hp (thn (hb pins s2 σ1 H2 _ I2 q2) fun f s3 q3=>?_);cases f with
    | next =>
      obtain ⟨σ3,H3,I3,n3⟩:=q3;obtain ⟨m',hm,w3⟩:=hN σ3 H3 n3;exact ⟨m',hm,σ3,H3,I3,w3⟩
    | cont =>
      obtain ⟨σ3,H3,I3,n3⟩:=q3;obtain ⟨m',hm,w3⟩:=hN σ3 H3 n3;exact ⟨m',hm,σ3,H3,I3,w3⟩
    | brk=>exact q3
    | ret v=>exact q3
  | false =>
    rw [if_neg aal];exact wpAny_execs_nil ⟨σ1,H2,I2,q2⟩
end
structure It where
  go:Nat→Hp→Prop
  yld:Nat→Hp→V→Hp→Prop
  stop:Nat→Hp→Prop
def d9 (X:Cx) (pins:List (Addr × Obj)) (H:Hp) (b:Addr):Prop :=
  H b=none∧b≠X.env.locals∧b∉X.fs∧(b∈X.ex∨X.s₀.heap.objs.size≤b)∧(∀ x c,X.env.cells.lookup x=some c→c≠b)∧∀ p∈X.pn++pins,p.1≠b
theorem Inv.fpOk {X:Cx} {pins:List (Addr × Obj)} {σ:St} {H H':Hp} {s:Shared} {b:Addr} (I:Inv X pins σ H s) (hb:s.heap.objs.size≤b) (hn:H' b=none):d9 X pins H' b:=by
  refine ⟨hn,aaT (aat I.lt hb),I.nofs hb,.inr (aaV I.sz hb),fun x c e z=>?_,fun p hp z=>?_⟩
  · obtain ⟨v,q⟩:=I.cell x c e;exact absurd (aat q.lt (by rw [z];exact hb)) (abm _)
  · exact absurd (aat (aar (I.pin p hp).1) (by rw [z];exact hb)) (abm _)
structure Turn (P:Program) (w:World) (K:aaa) (tg:Expr) (J:It) (fp:List Addr) (it:Addr) (tn:Nat→Heap→Prop):Prop where
  mem:it∈fp
  obj:∀ i h,tn i h→∀ b∈fp,∃ o,h.get? b=some o∧∀ v,o.data≠.cell v
  keep:∀ i h h',tn i h→(∀ b∈fp,∀ o,h.get? b=some o→h'.get? b=some o)→tn i h'
  item:∀ (X:Cx),X.prog=P→X.w=w→X.K=K→X.calm=true→∀ (i:Nat) (pins:List (Addr × Obj)) (s:Shared) (σ:St) (H:Hp) (E:Value→Shared→Prop),Inv X pins σ H s→(∀ b∈fp,d9 X pins H b)→tn i s.heap→J.go i H →
    wpAny (model P w) X.A (pyNext (.ref it)) (fun r s1=>∃ u,r=some u ∧
      wpAny (model P w) X.A (letOwnedTupleGo tg (.ref it) u) (fun _ s2=>∃ x H',Inv X pins σ H' s2∧RelV x u∧J.yld i H x H'∧tn (i+1) s2.heap∧∀ b∈fp,H' b=none) E s1) E s
  done:∀ (X:Cx),X.prog=P→X.w=w→X.K=K→X.calm=true→∀ (i:Nat) (pins:List (Addr × Obj)) (s:Shared) (σ:St) (H:Hp) (E:Value→Shared→Prop),Inv X pins σ H s→(∀ b∈fp,d9 X pins H b)→tn i s.heap→J.stop i H →
    wpAny (model P w) X.A (pyNext (.ref it)) (fun r s1=>r=none∧Inv X pins σ H s1) E s
  self:∀ (A:Around) (i:Nat) (s:Shared) (Q:Value→Shared→Prop) (E:Value→Shared→Prop),tn i s.heap→Q (.ref it) s→wpAny (model P w) A (pyIter (.ref it)) Q E s
abbrev TI:=St→Hp→(It→Hp→Prop)→Prop
def PIE (X:Cx) (pins:List (Addr × Obj)) (σ:St) (tg:Expr) (R:It→Hp→Prop) (itv:Value) (s2:Shared):Prop :=
  ∃ (it:Addr) (fp:List Addr) (tn:Nat→Heap→Prop) (J:It) (H':Hp),itv=.ref it∧Inv X pins σ H' s2∧Turn X.prog X.w X.K tg J fp it tn∧tn 0 s2.heap∧(∀ b∈fp,d9 X pins H' b)∧R J H'
def PI (X:Cx) (tg iter:Expr) (wi:TI):Prop :=
  ∀ (pins:List (Addr × Obj)) (s:Shared) (σ:St) (H:Hp) (R:It→Hp→Prop),Inv X pins σ H s→wi σ H R →
    wpAny (model X.prog X.w) X.A (eval iter X.env) (fun v s1=>wpAny (model X.prog X.w) X.A (pyIter v) (PIE X pins σ tg R) X.xe s1) X.xe s
theorem rK {M:Model} {A:Around} {E:Value→Shared→Prop} {s:Shared} {tg:Expr} {it:Addr} {u:Value} {o:Obj} {n:String} {vs:Array Value} {Q:Unit→Shared→Prop} (ho:s.heap.get? it=some o) (hc:o.cls=.type n) (hd:o.data=.fields vs)
    (hn:["enumerate","zip","dict_itemiterator","dict_reverseitemiterator","odict_iterator","itertools.zip_longest","itertools.pairwise"].contains n=false) (hQ:Q () s):wpAny M A (letOwnedTupleGo tg (.ref it) u) Q E s:=by
  unfold letOwnedTupleGo;cases tg <;> first
    | exact wpAny_pure hQ
    | (cases u <;> first
        | exact wpAny_pure hQ
        | (refine wpAny_bind (wpAny_load ho ?_)
           rw [hc,hd];show wpAny M A (if (["enumerate","zip","dict_itemiterator","dict_reverseitemiterator","odict_iterator","itertools.zip_longest","itertools.pairwise"].contains n && vs[0]? == some (rawInt _))=true then _ else _) Q E s;rw [if_neg (by intro h;rw [hn,Bool.false_and] at h;cases h)];exact wpAny_pure hQ))
def Itl (K:aaa) (a:Addr):It :=
  ⟨fun i H=>∃ xs x,SqL K H a xs∧xs[i]?=some x,fun i H x H'=>H'=H∧∀ xs,SqL K H a xs→xs[i]?=some x,fun i H=>∃ xs,SqL K H a xs∧xs.length≤i⟩
def Itt (K:aaa) (a:Addr):It :=
  ⟨fun i H=>∃ xs x,SqT K H a xs∧xs[i]?=some x,fun i H x H'=>H'=H∧∀ xs,SqT K H a xs→xs[i]?=some x,fun i H=>∃ xs,SqT K H a xs∧xs.length≤i⟩
def Itr (lo:Int) (n:Nat):It:=⟨fun i _=>i < n,fun i H x H'=>H'=H∧x=.int (lo+i),fun i _=>n≤i⟩
theorem r_ {P:Program} {w:World} {K:aaa} {tg:Expr} (a it:Addr):Turn P w K tg (Itl K a) [it] it (fun i h=>h.IsListIter it a i) where
  mem:=by simp
  obj:=fun i h st b hb=>by
    have e:b=it:=by simpa using hb
    subst e;obtain ⟨o,e,c,d⟩:=st;exact ⟨o,e,fun v z=>by rw [d] at z;cases z⟩
  keep:=fun i h h' st k=>st.at fun o e=>k it (by simp) o e
  item:=by
    intro X hP hw hK hc i pins s σ H E I hf st hg;subst hP hw hK;obtain ⟨xs,x,hq,hx⟩:=hg;obtain ⟨its,rv,p,hz⟩:=I.list hq;obtain ⟨u,hu,ru⟩:=rv.get hx;obtain ⟨f0,f1,f2,f3,f4,f5⟩:=hf it (by simp);refine wpAny_pyNext_list_item st p.isList (x:=u) (by simpa using hu) fun h' st' sb=>?_;have I1:Inv X pins σ H { s with heap:=h' }:=I.turned (t':=s.toks) (fun b o hb e=>(sb.2 b hb).trans e) f0 f1 f3 f4 f5;obtain ⟨o,e,c,d⟩:=id st';exact ⟨u,rfl,rK (s:={ s with heap:=h' }) e c d (by decide) ⟨x,H,I1,ru,⟨rfl,fun ys hy=>by rw [I.list_inj hy hq];exact hx⟩,st',fun b hb=>(hf b hb).1⟩⟩
  done:=by
    intro X hP hw hK hc i pins s σ H E I hf st hg;subst hP hw hK;obtain ⟨xs,hq,hx⟩:=hg;obtain ⟨its,rv,p,hz⟩:=I.list hq;obtain ⟨f0,f1,f2,f3,f4,f5⟩:=hf it (by simp);have hl:=rv.length;exact wpAny_pyNext_list_end (I.ok.hd hc) st p.isList (by simp;lia) fun h' eb=>⟨rfl,I.turned (t':=s.toks) (fun b o hb e=>eb b o hb e) f0 f1 f3 f4 f5⟩
  self:=fun _ _ _ _ _ st h=>wpAny_pyIter_listiter st h
theorem pV {P:Program} {w:World} {K:aaa} {tg:Expr} (a it:Addr):Turn P w K tg (Itt K a) [it] it (fun i h=>h.IsTupleIter it a i) where
  mem:=by simp
  obj:=fun i h st b hb=>by
    have e:b=it:=by simpa using hb
    subst e;obtain ⟨o,e,c,d⟩:=st;exact ⟨o,e,fun v z=>by rw [d] at z;cases z⟩
  keep:=fun i h h' st k=>st.at fun o e=>k it (by simp) o e
  item:=by
    intro X hP hw hK hc i pins s σ H E I hf st hg;subst hP hw hK;obtain ⟨xs,x,hq,hx⟩:=hg;obtain ⟨its,rv,p,hz⟩:=I.tuple hq;obtain ⟨u,hu,ru⟩:=rv.get hx;obtain ⟨f0,f1,f2,f3,f4,f5⟩:=hf it (by simp);refine wpAny_pyNext_tuple_item st (show s.heap.IsTuple a its.toArray from p) (x:=u) (by simpa using hu) fun h' st' sb=>?_;have I1:Inv X pins σ H { s with heap:=h' }:=I.turned (t':=s.toks) (fun b o hb e=>(sb.2 b hb).trans e) f0 f1 f3 f4 f5;obtain ⟨o,e,c,d⟩:=id st';exact ⟨u,rfl,rK (s:={ s with heap:=h' }) e c d (by decide) ⟨x,H,I1,ru,⟨rfl,fun ys hy=>by rw [I.tuple_inj hy hq];exact hx⟩,st',fun b hb=>(hf b hb).1⟩⟩
  done:=by
    intro X hP hw hK hc i pins s σ H E I hf st hg;subst hP hw hK;obtain ⟨xs,hq,hx⟩:=hg;obtain ⟨its,rv,p,hz⟩:=I.tuple hq;obtain ⟨f0,f1,f2,f3,f4,f5⟩:=hf it (by simp);have hl:=rv.length;exact wpAny_pyNext_tuple_end (I.ok.hd hc) st (show s.heap.IsTuple a its.toArray from p) (by simp;lia) fun h' eb=>⟨rfl,I.turned (t':=s.toks) (fun b o hb e=>eb b o hb e) f0 f1 f3 f4 f5⟩
  self:=fun _ _ _ _ _ st h=>wpAny_pyIter_tupleiter st h
theorem pW {P:Program} {w:World} {K:aaa} {tg:Expr} (it:Addr) (lo:Int) (n:Nat):Turn P w K tg (Itr lo n) [it] it (fun i h=>IsRangeIter h it (lo+(i:Nat) * 1) ((n:Int) - (i:Nat)) 1) where
  mem:=by simp
  obj:=fun i h st b hb=>by
    have e:b=it:=by simpa using hb
    subst e;exact ⟨_,st,fun v z=>by
      have z':Data.fields _=Data.cell v:=z;cases z'⟩
  keep:=fun i h h' st k=>k it (by simp) _ st
  item:=by
    intro X hP hw hK hc i pins s σ H E I hf st hg;subst hP hw hK;obtain ⟨f0,f1,f2,f3,f4,f5⟩:=hf it (by simp);have W:=Walks.range (prog:=X.prog) (w:=X.w) (I.ok.hd hc) it lo 1 n;refine W.item i s _ _ hg st fun v h' tk hv st' kk=>?_;obtain ⟨t,rfl⟩:=hv;have I1:Inv X pins σ H { s with heap:=h',toks:=tk }:=I.turned (fun b o hb e=>kk b o (by simpa using hb) e) f0 f1 f3 f4 f5;refine ⟨_,rfl,rK (s:={ s with heap:=h',toks:=tk }) (n:="range_iterator") st' rfl rfl (by decide) ⟨.int (lo+i),H,I1,⟨t,?_⟩,⟨rfl,rfl⟩,st',fun b hb=>(hf b hb).1⟩⟩;rw [Int.mul_one]
  done:=by
    intro X hP hw hK hc i pins s σ H E I hf st hg;subst hP hw hK;obtain ⟨f0,f1,f2,f3,f4,f5⟩:=hf it (by simp);exact wpAny_pyNext_range_end (I.ok.hd hc) st (by have : n≤i:=hg;lia) fun h' eb=>⟨rfl,I.turned (t':=s.toks) (fun b o hb e=>eb b o hb e) f0 f1 f3 f4 f5⟩
  self:=fun _ _ _ _ _ st h=>wpAny_pyIter_rangeiter st h
open PySem PySem.Spec PyProof.Rows
section
variable {X:Cx} {tg:Expr}
def wM (K:aaa) (tl:TE):TI:=fun σ H R=>tl σ H fun x H1=>∃ a,x=.ref a∧(∃ xs,SqL K H1 a xs)∧R (Itl K a) H1
def yw (K:aaa) (tl:TE):TI:=fun σ H R=>tl σ H fun x H1=>∃ a,x=.ref a∧(∃ xs,SqT K H1 a xs)∧R (Itt K a) H1
theorem bO {l:Expr} {tl:TE} (hl:PE X l tl):PI X tg l (wM X.K tl):=by
  intro pins s σ H R I h;refine thn (hl pins s σ H _ I h) fun v s1 ⟨x,H1,I1,r1,q1⟩=>?_;obtain ⟨a,e,⟨xs,hq⟩,q⟩:=q1;subst e;cases r1;obtain ⟨its,rv,p,hz⟩:=I1.list hq;refine wpAny_pyIter_list p.isList ?_;refine ⟨s1.heap.objs.size,[s1.heap.objs.size],_,_,H1,rfl,I1.kept (t':=s1.toks) fun b o e=>aad _ e,r_ a _,⟨_,aaq _ rfl,rfl,rfl⟩,fun b hb=>?_,q⟩;have e:b=s1.heap.objs.size:=by simpa using hb
  subst e;exact I1.fpOk (aag _) (I1.hok.fresh (aag _))
theorem t_ {l:Expr} {tl:TE} (hl:PE X l tl):PI X tg l (yw X.K tl):=by
  intro pins s σ H R I h;refine thn (hl pins s σ H _ I h) fun v s1 ⟨x,H1,I1,r1,q1⟩=>?_;obtain ⟨a,e,⟨xs,hq⟩,q⟩:=q1;subst e;cases r1;obtain ⟨its,rv,p,hz⟩:=I1.tuple hq;refine wpAny_pyIter_tuple (show s1.heap.IsTuple a its.toArray from p) ?_;refine ⟨s1.heap.objs.size,[s1.heap.objs.size],_,_,H1,rfl,I1.kept (t':=s1.toks) fun b o e=>aad _ e,pV a _,⟨_,aaq _ rfl,rfl,rfl⟩,fun b hb=>?_,q⟩;have e:b=s1.heap.objs.size:=by simpa using hb
  subst e;exact I1.fpOk (aag _) (I1.hok.fresh (aag _))
theorem oM {pins:List (Addr × Obj)} {σ:St} {H:Hp} {s:Shared} {R:It→Hp→Prop} {E:Value→Shared→Prop} {lo hi:Int} {t u v:Tok} {tk:Nat} (I:Inv X pins σ H s) (h1:-(2 ^ 62)≤lo) (h2:lo < 2 ^ 62) (h3:-(2 ^ 62)≤hi) (h4:hi < 2 ^ 62)
    (q:R (Itr lo (hi - lo).toNat) H):wpAny (model X.prog X.w) X.A (pyIter (.ref s.heap.objs.size)) (PIE X pins σ tg R) E { s with heap:=s.heap.push { cls:=.type "range",data:=.fields #[.int lo t,.int hi u,.int 1 v] },toks:=tk }:=by
  refine wpAny_pyIter_range (IsRange.new ..) (small_one h1 h2 h3 h4) ?_;have I1:Inv X pins σ H { s with heap:=s.heap.push { cls:=.type "range",data:=.fields #[.int lo t,.int hi u,.int 1 v] },toks:=tk }:=I.kept fun b o e=>aad _ e;refine ⟨(s.heap.push { cls:=.type "range",data:=.fields #[.int lo t,.int hi u,.int 1 v] }).objs.size,[(s.heap.push { cls:=.type "range",data:=.fields #[.int lo t,.int hi u,.int 1 v] }).objs.size],_,_,H,rfl,
    I1.kept (t':=tk) fun b o e=>aad _ e,pW _ lo (hi - lo).toNat,?_,fun b hb=>?_,q⟩
  · have e1:lo+((0:Nat):Int) * 1=lo:=by simp
    have e2:(((hi - lo).toNat:Nat):Int) - ((0:Nat):Int)=Builtin.Range.rangeSize lo hi 1:=by rw [rangeSize_one];split <;> lia
    show IsRangeIter _ _ (lo+((0:Nat):Int) * 1) ((((hi - lo).toNat:Nat):Int) - ((0:Nat):Int)) 1;rw [e1,e2];exact aaq _ rfl
  · have e:b=(s.heap.push { cls:=.type "range",data:=.fields #[.int lo t,.int hi u,.int 1 v] }).objs.size:=by simpa using hb
    subst e;exact I1.fpOk (aag _) (I1.hok.fresh (aag _))
def yy (ta:TA):TI:=fun σ H R=>ta σ H fun vs H1=>∃ j:Int,vs=[.int j]∧-(2 ^ 62)≤j∧j < 2 ^ 62∧R (Itr 0 j.toNat) H1
def yx (ta:TA):TI:=fun σ H R=>ta σ H fun vs H1=>∃ i j:Int,vs=[.int i,.int j]∧(-(2 ^ 62)≤i∧i < 2 ^ 62∧-(2 ^ 62)≤j∧j < 2 ^ 62)∧R (Itr i (j - i).toNat) H1
theorem eI {a:Expr} {ta:TA} {p pos:Pos} (hg:Gl X "range") (hm:X.mg "range" = none) (ha:PA X [a] ta) (hs:starEach [a] X.env=[(false,eval a X.env)]:=by rfl):PI X tg (.Call (.Name "range" p) [a] [] pos) (yy ta):=by
  intro pins s σ H R I h;refine Call_ (jq I hg hm boot_range (abR (thn (ha pos pins s σ H _ I h) fun us s1 ⟨vs,H1,I1,r1,q1⟩=>?_) hs rfl));obtain ⟨j,e,q1,q2,q⟩:=q1;subst e;cases r1 with
  | cons r rr =>
    cases rr;obtain ⟨t,rfl⟩:=r;exact call_range_1 (oM I1 (by lia) (by lia) q1 q2 (by simpa using q))
theorem je {a b:Expr} {ta:TA} {p pos:Pos} (hg:Gl X "range") (hm:X.mg "range" = none) (ha:PA X [a,b] ta) (hs:starEach [a,b] X.env=[(false,eval a X.env),(false,eval b X.env)]:=by rfl) (hs2:starEach [b] X.env=[(false,eval b X.env)]:=by rfl) :
    PI X tg (.Call (.Name "range" p) [a,b] [] pos) (yx ta):=by
  intro pins s σ H R I h;refine Call_ (jq I hg hm boot_range (abR (thn (ha pos pins s σ H _ I h) fun us s1 ⟨vs,H1,I1,r1,q1⟩=>?_) (by rw [hs,hs2]) (by rw [hs2];rfl)));obtain ⟨i,j,e,⟨q1,q2,q3,q4⟩,q⟩:=q1;subst e;cases r1 with
  | cons r rr =>
    cases rr with
    | cons r' rr =>
      cases rr;obtain ⟨t,rfl⟩:=r;obtain ⟨t',rfl⟩:=r';exact call_range_2 (oM I1 q1 q2 q3 q4 q)
def yW (wi:TI) (g:TG) (tb:TS):TS:=fun D σ H=>wi σ H fun J H1=>∃ W:Nat→Nat→St→Hp→Prop,(∃ m,W 0 m σ H1)∧∀ i m σ H,W i m σ H →
  (J.stop i H∧D.nx σ H)∨(J.go i H∧∃ N:St→Hp→Prop,(∀ σ' H',N σ' H'→∃ m',m' < m∧W (i+1) m' σ' H')∧∀ x H',J.yld i H x H'→g x σ H' fun σ2 H2=>tb { D with nx:=N,ct:=N,bk:=D.nx } σ2 H2)
def cO (fp:List Addr) (h:Heap):List (Addr × Obj):=fp.filterMap fun b=>(h.get? b).map fun o=>(b,o)
theorem cT {fp:List Addr} {h:Heap} {b:Addr} {o:Obj} (hb:b∈fp) (e:h.get? b=some o):(b,o)∈cO fp h:=List.mem_filterMap.mpr ⟨b,hb,by rw [e];rfl⟩
theorem jp {fp:List Addr} {h:Heap} {p:Addr × Obj} (hp:p∈cO fp h):p.1∈fp∧h.get? p.1=some p.2:=by
  obtain ⟨b,hb,e⟩:=List.mem_filterMap.mp hp;cases q:h.get? b with
  | none=>rw [q] at e;cases e
  | some o =>
    rw [q] at e;have e':(b,o)=p:=aaR e;subst e';exact ⟨hb,q⟩
theorem Inv.pinned {pins:List (Addr × Obj)} {σ:St} {H:Hp} {s:Shared} {fp:List Addr} (I:Inv X pins σ H s) (hf:∀ b∈fp,d9 X pins H b) (ho:∀ b∈fp,∃ o,s.heap.get? b=some o∧∀ v,o.data≠.cell v):Inv X (pins++cO fp s.heap) σ H s :=
  I.pins_of fun p hp=>(aan.mp hp).elim (fun z=>I.pin p (aab _ z)) fun z=>by
    obtain ⟨hb,e⟩:=jp z;obtain ⟨f0,f1,f2,_⟩:=hf p.1 hb;obtain ⟨o,e',d⟩:=ho p.1 hb;rw [e] at e';cases e';exact ⟨e,f0,f1,f2,d⟩
theorem Inv.unpinned {pins pl:List (Addr × Obj)} {σ:St} {H:Hp} {s:Shared} (I:Inv X (pins++pl) σ H s):Inv X pins σ H s:=I.pins_of fun p hp=>I.pin p (aab _ (aaw _ hp))
theorem fz {iter:Expr} {body:List Stmt} {wi:TI} {g:TG} {tb:TS} {pos:Pos} (hp:PassesOwn (model X.prog X.w) X.A X.env X.xe) (hc:X.calm=true) (hi:PI X tg iter wi) (hg:PG X tg g) (hb:PSs X body tb)
    (hs:∀ x,foldedSetIterable iter X.env x=pure x:=by intro _;rfl):PS X (.For tg iter body [] pos) (yW wi g tb):=by
  intro pins s σ H D I h;refine wpAny_For (thn (hi pins s σ H _ I h) fun v s1 h1=>thn h1 fun itv s2 h2=>?_) hs;obtain ⟨it,fp,tn,J,H2,e,I2,T,st2,f2,W,⟨m0,w0⟩,turn⟩:=h2;subst e;have stat:∀ {H':Hp},(∀ b∈fp,H' b=none)→∀ b∈fp,d9 X pins H' b:=fun hn b hb=>⟨hn b hb,(f2 b hb).2⟩
  refine codeAny_forLoop_any (fun n s'=>∃ i σ' H',Inv X pins σ' H' s'∧tn i s'.heap∧(∀ b∈fp,H' b=none)∧W i n σ' H') ?_ m0 ⟨0,σ,H2,I2,st2,fun b hb=>(f2 b hb).1,w0⟩;rintro n s3 ⟨i,σ3,H3,I3,st3,fr3,w3⟩;rcases turn i n σ3 H3 w3 with ⟨stop,qn⟩|⟨go,N,hN,step⟩
  · refine wpAny_passesOwn hp (thn (T.done X rfl rfl rfl hc i pins s3 σ3 H3 X.xe I3 (stat fr3) st3 stop) fun r s4 ⟨hr,I4⟩=>?_);subst hr;exact wpAny_execs_nil ⟨σ3,H3,I4,qn⟩
  · refine wpAny_passesOwn hp (thn (T.item X rfl rfl rfl hc i pins s3 σ3 H3 X.xe I3 (stat fr3) st3 go) fun r s4 ⟨u,hr,h4⟩=>?_);subst hr;refine wpAny_passesOwn hp (thn h4 fun _ s5 ⟨x,H5,I5,r5,y5,st5,fr5⟩=>?_);have I5':=I5.pinned (stat fr5) (T.obj _ _ st5);refine wpAny_passesOwn hp (thn (hg _ s5 σ3 H5 x u _ I5' r5 (step x H5 y5)) fun _ s6 ⟨σ6,H6,I6,q6⟩=>?_);refine wpAny_passesOwn hp (thn (hb _ s6 σ6 H6 _ I6 q6) fun f s7 q7=>?_);have again:∀ {σ7:St} {H7:Hp},Inv X (pins++cO fp s5.heap) σ7 H7 s7→N σ7 H7→∃ m,m < n∧∃ i σ' H',Inv X pins σ' H' s7∧tn i s7.heap∧(∀ b∈fp,H' b=none)∧W i m σ' H':=fun {σ7 H7} I7 n7=>by
      obtain ⟨m',hm,w7⟩:=hN σ7 H7 n7;refine ⟨m',hm,i+1,σ7,H7,I7.unpinned,T.keep _ _ _ st5 fun b hb o e=>(I7.pin (b,o) (aab _ (aab _ (cT hb e)))).1,fun b hb=>?_,w7⟩;obtain ⟨o,e,d⟩:=T.obj _ _ st5 b hb;exact (I7.pin (b,o) (aab _ (aab _ (cT hb e)))).2.1
    cases f with
    | next=>obtain ⟨σ7,H7,I7,n7⟩:=q7;exact again I7 n7
    | cont=>obtain ⟨σ7,H7,I7,n7⟩:=q7;exact again I7 n7
    | brk=>obtain ⟨σ7,H7,I7,q7⟩:=q7;exact ⟨σ7,H7,I7.unpinned,q7⟩
    | ret v=>obtain ⟨x7,σ7,H7,I7,r7,q7⟩:=q7;exact ⟨x7,σ7,H7,I7.unpinned,r7,q7⟩
end
theorem kU {K:aaa} {a:Addr} {xs:List V} {g:TG} {tb:TS} {D:Ends} {σ:St} {H:Hp} (Pv:Nat→St→Hp→Prop) (h0:Pv 0 σ H) (hl:∀ i σ H,i≤xs.length→Pv i σ H→SqL K H a xs)
    (hs:∀ i x σ H,xs[i]?=some x→Pv i σ H→g x σ H fun σ2 H2=>tb { D with nx:=Pv (i+1),ct:=Pv (i+1),bk:=D.nx } σ2 H2) (hd:∀ σ H,Pv xs.length σ H→D.nx σ H) :
    ∃ W:Nat→Nat→St→Hp→Prop,(∃ m,W 0 m σ H)∧∀ i m σ H,W i m σ H →
      ((Itl K a).stop i H∧D.nx σ H)∨((Itl K a).go i H∧∃ N:St→Hp→Prop,(∀ σ' H',N σ' H'→∃ m',m' < m∧W (i+1) m' σ' H')∧∀ x H',(Itl K a).yld i H x H'→g x σ H' fun σ2 H2=>tb { D with nx:=N,ct:=N,bk:=D.nx } σ2 H2):=by
  refine ⟨fun i m σ H=>m=xs.length - i∧i≤xs.length∧Pv i σ H,⟨xs.length,by simp,aaN _,h0⟩,?_⟩;rintro i m σ H ⟨rfl,hi,p⟩;have q:=hl i σ H hi p;by_cases hlt:i < xs.length
  · refine .inr ⟨⟨xs,xs[i],q,by simp [hlt]⟩,Pv (i+1),fun σ' H' p'=>⟨xs.length - (i+1),by lia,rfl,hlt,p'⟩,fun x H' y=>?_⟩;obtain ⟨e,y⟩:=y;subst e;exact hs i x σ _ (y xs q) p
  · have e:i=xs.length:=by lia
    subst e;exact .inl ⟨⟨xs,q,aag _⟩,hd σ H p⟩
theorem jt {lo:Int} {n:Nat} {g:TG} {tb:TS} {D:Ends} {σ:St} {H:Hp} (Pv:Nat→St→Hp→Prop) (h0:Pv 0 σ H)
    (hs:∀ i σ H,i < n→Pv i σ H→g (.int (lo+i)) σ H fun σ2 H2=>tb { D with nx:=Pv (i+1),ct:=Pv (i+1),bk:=D.nx } σ2 H2) (hd:∀ σ H,Pv n σ H→D.nx σ H) :
    ∃ W:Nat→Nat→St→Hp→Prop,(∃ m,W 0 m σ H)∧∀ i m σ H,W i m σ H →
      ((Itr lo n).stop i H∧D.nx σ H)∨((Itr lo n).go i H∧∃ N:St→Hp→Prop,(∀ σ' H',N σ' H'→∃ m',m' < m∧W (i+1) m' σ' H')∧∀ x H',(Itr lo n).yld i H x H'→g x σ H' fun σ2 H2=>tb { D with nx:=N,ct:=N,bk:=D.nx } σ2 H2):=by
  refine ⟨fun i m σ H=>m=n - i∧i≤n∧Pv i σ H,⟨n,by simp,aaN _,h0⟩,?_⟩;rintro i m σ H ⟨rfl,hi,p⟩;by_cases hlt:i < n
  · refine .inr ⟨hlt,Pv (i+1),fun σ' H' p'=>⟨n - (i+1),by lia,rfl,hlt,p'⟩,fun x H' y=>?_⟩;obtain ⟨e,y⟩:=y;subst e y;exact hs i σ _ hlt p
  · have e:i=n:=by lia
    subst e;exact .inl ⟨aag _,hd σ H p⟩
open PySem PySem.Spec PyProof.Rows
abbrev R2:=V→V→Hp→VK→Prop
def OpR (X:Cx) (f:Value→Value→Sem Value) (r:R2):Prop :=
  ∀ (pins:List (Addr × Obj)) (s:Shared) (σ:St) (H:Hp) (x y:V) (v u:Value) (Q:VK),Inv X pins σ H s→RelV x v→RelV y u→r x y H Q →
    wpAny (model X.prog X.w) X.A (f v u) (EP X pins σ Q) X.xe s
def UnR (X:Cx) (f:Value→Sem Value) (r:V→Hp→VK→Prop):Prop :=
  ∀ (pins:List (Addr × Obj)) (s:Shared) (σ:St) (H:Hp) (x:V) (v:Value) (Q:VK),Inv X pins σ H s→RelV x v→r x H Q →
    wpAny (model X.prog X.w) X.A (f v) (EP X pins σ Q) X.xe s
def eW (X:Cx) (f:Value) (r:List V→Hp→VK→Prop):Prop :=
  ∀ (pins:List (Addr × Obj)) (s:Shared) (σ:St) (H:Hp) (xs:List V) (us:List Value) (Q:VK),Inv X pins σ H s→Vals xs us→r xs H Q →
    wpAny (model X.prog X.w) X.A (call f us) (EP X pins σ Q) X.xe s
def zn (X:Cx) (r:V→Hp→(Bool→Hp→Prop)→Prop):Prop :=
  ∀ (pins:List (Addr × Obj)) (s:Shared) (σ:St) (H:Hp) (x:V) (v:Value) (Q:Bool→Hp→Prop),Inv X pins σ H s→RelV x v→r x H Q →
    wpAny (model X.prog X.w) X.A (truthy v) (TP X pins σ Q) X.xe s
def tOp (r:R2) (ta tb:TE):TE:=fun σ H Q=>ta σ H fun x H1=>tb σ H1 fun y H2=>r x y H2 Q
def tUn (r:V→Hp→VK→Prop) (ta:TE):TE:=fun σ H Q=>ta σ H fun x H1=>r x H1 Q
def rI (C:Int→Int→Prop) (g:Int→Int→V):R2:=fun x y H Q=>∃ i j,x=.int i∧y=.int j∧C i j∧Q (g i j) H
def rI0 (g:Int→Int→V):R2:=fun x y H Q=>∃ i j,x=.int i∧y=.int j∧Q (g i j) H
def rU (g:Int→V):V→Hp→VK→Prop:=fun x H Q=>∃ i,x=.int i∧Q (g i) H
section
variable {X:Cx} {a b c:Expr} {ta tb tc:TE} {pos:Pos}
theorem xQ (ha:PE X a ta) (hb:PE X b tb) {pins:List (Addr × Obj)} {s:Shared} {σ:St} {H:Hp} {R:V→V→Hp→Prop} (I:Inv X pins σ H s)
    (h:ta σ H fun x H1=>tb σ H1 fun y H2=>R x y H2) {Q:Value→Shared→Prop} {f:Value→Value→Sem Value}
    (hf:∀ v u s2 x y H2,Inv X pins σ H2 s2→RelV x v→RelV y u→R x y H2→wpAny (model X.prog X.w) X.A (f v u) Q X.xe s2) :
    wpAny (model X.prog X.w) X.A (eval a X.env) (fun v s₁=>wpAny (model X.prog X.w) X.A (eval b X.env) (fun u s₂=>wpAny (model X.prog X.w) X.A (f v u) Q X.xe s₂) X.xe s₁) X.xe s:=by
  refine thn (ha pins s σ H _ I h) fun v s1 ⟨x,H1,I1,r1,q1⟩=>?_;refine thn (hb pins s1 σ H1 _ I1 q1) fun u s2 ⟨y,H2,I2,r2,q2⟩=>?_;exact hf v u s2 x y H2 I2 r1 r2 q2
theorem aC {op:Operator} {r:R2} (ho:OpR X (binaryOp op) r) (ha:PE X a ta) (hb:PE X b tb):PE X (.BinOp a op b pos) (tOp r ta tb):=by
  intro pins s σ H Q I h;exact wpAny_BinOp (xQ ha hb I h fun v u s2 x y H2 I2 rx ry q=>ho pins s2 σ H2 x y v u Q I2 rx ry q)
theorem oS {op:UnaryOp} {r:V→Hp→VK→Prop} (ho:UnR X (unaryOp op) r) (ha:PE X a ta):PE X (.UnaryOp op a pos) (tUn r ta):=by
  intro pins s σ H Q I h;exact UnaryOp_ (thn (ha pins s σ H _ I h) fun v s1 ⟨x,H1,I1,r1,q1⟩=>ho pins s1 σ H1 x v Q I1 r1 q1)
theorem opI {f:Value→Value→Sem Value} {C:Int→Int→Prop} {g:Int→Int→Int}
    (rule:∀ (i j:Int) (t u:Tok) (s:Shared) (Q:Value→Shared→Prop) (E:Value→Shared→Prop),C i j→Q (.int (g i j) s.toks) { s with toks:=s.toks+1 }→wpAny (model X.prog X.w) X.A (f (.int i t) (.int j u)) Q E s) :
    OpR X f (rI C fun i j=>.int (g i j)):=by
  intro pins s σ H x y v u Q I rx ry h;obtain ⟨i,j,rfl,rfl,hc,q⟩:=h;obtain ⟨t,rfl⟩:=rx;obtain ⟨t',rfl⟩:=ry;exact rule i j t t' s _ _ hc ⟨.int (g i j),H,I.tok _,⟨_,rfl⟩,q⟩
theorem yp {f:Value→Value→Sem Value} {g:Int→Int→Int}
    (rule:∀ (i j:Int) (t u:Tok) (s:Shared) (Q:Value→Shared→Prop) (E:Value→Shared→Prop),Q (.int (g i j) s.toks) { s with toks:=s.toks+1 }→wpAny (model X.prog X.w) X.A (f (.int i t) (.int j u)) Q E s) :
    OpR X f (rI0 fun i j=>.int (g i j)):=by
  intro pins s σ H x y v u Q I rx ry h;obtain ⟨i,j,rfl,rfl,q⟩:=h;obtain ⟨t,rfl⟩:=rx;obtain ⟨t',rfl⟩:=ry;exact rule i j t t' s _ _ ⟨.int (g i j),H,I.tok _,⟨_,rfl⟩,q⟩
theorem vQ {f:Value→Value→Sem Value} {g:Int→Int→Bool}
    (rule:∀ (i j:Int) (t u:Tok) (s:Shared) (Q:Value→Shared→Prop) (E:Value→Shared→Prop),Q (.bool (g i j)) s→wpAny (model X.prog X.w) X.A (f (.int i t) (.int j u)) Q E s) :
    OpR X f (rI0 fun i j=>.bl (g i j)):=by
  intro pins s σ H x y v u Q I rx ry h;obtain ⟨i,j,rfl,rfl,q⟩:=h;obtain ⟨t,rfl⟩:=rx;obtain ⟨t',rfl⟩:=ry;exact rule i j t t' s _ _ ⟨.bl (g i j),H,I,rfl,q⟩
def zt (i j:Int):Prop:=0 < j∧j < 1073741824
def zq (i j:Int):Prop:=0≤j∧j≤1000000∧i.natAbs < 2 ^ 64
def CMul (i j:Int):Prop:=(-(2 ^ 64) < i∧i < 2 ^ 64)∨(-(2 ^ 64) < j∧j < 2 ^ 64)
theorem CMul.ok {i j:Int} (h:CMul i j):IntMulOk i j:=by
  rcases h with ⟨h1,h2⟩|⟨h1,h2⟩
  · exact .of_left (intBits_le_64 h1 h2)
  · exact .of_right (intBits_le_64 h1 h2)
theorem bU:OpR X (binaryOp .Add) (rI0 fun i j=>.int (i+j)):=yp fun _ _ _ _ _ _ _ q=>add_int q
theorem bz:OpR X (binaryOp .Sub) (rI0 fun i j=>.int (i - j)):=yp fun _ _ _ _ _ _ _ q=>sub_int q
theorem gg:OpR X (binaryOp .Mult) (rI CMul fun i j=>.int (i * j)):=opI fun _ _ _ _ _ _ _ hc q=>mul_int q hc.ok
theorem gk:OpR X (binaryOp .Mod) (rI (fun _ j=>0 < j) fun i j=>.int (i % j)):=opI fun i j _ _ _ _ _ hc q=>by
  have h1:(0:Int) < j:=hc;exact mod_int' (by lia) (by rw [Int.fmod_eq_emod_of_nonneg i (by lia)];exact q)
theorem fF:OpR X (binaryOp .Pow) (rI zq fun i j=>.int (i ^ j.toNat)):=opI fun _ _ _ _ _ _ _ hc q=>pow_int_small hc.1 hc.2.1 hc.2.2 q
theorem unI {f:Value→Sem Value} {g:Int→Int}
    (rule:∀ (i:Int) (t:Tok) (s:Shared) (Q:Value→Shared→Prop) (E:Value→Shared→Prop),Q (.int (g i) s.toks) { s with toks:=s.toks+1 }→wpAny (model X.prog X.w) X.A (f (.int i t)) Q E s) :
    UnR X f (rU fun i=>.int (g i)):=by
  intro pins s σ H x v Q I rx h;obtain ⟨i,rfl,q⟩:=h;obtain ⟨t,rfl⟩:=rx;exact rule i t s _ _ ⟨.int (g i),H,I.tok _,⟨_,rfl⟩,q⟩
theorem j8:UnR X (unaryOp .USub) (rU fun i=>.int (-i)):=unI fun _ _ _ _ _ q=>neg_int q
end
def yf:V→V→Bool
  | .non,.non=>true|.non,.int _=>true|.int _,.non=>true|.non,.bl _=>true|.bl _,.non=>true|.non,.str _=>true|.str _,.non=>true
  | .int _,.int _=>true|.bl _,.bl _=>true|.str _,.str _=>true|.byt _,.byt _=>true
  | .int _,.str _=>true|.str _,.int _=>true|.bl _,.str _=>true|.str _,.bl _=>true
  | _,_=>false
def rEq:R2:=fun x y H Q=>yf x y=true∧Q (.bl (decide (x=y))) H
def rNe:R2:=fun x y H Q=>yf x y=true∧Q (.bl (!decide (x=y))) H
theorem rQ {i j:Int}:decide (V.int i=V.int j)=(i == j):=by
  rw [aa3];simp
theorem vc {i j:Bool}:decide (V.bl i=V.bl j)=(i == j):=by
  rw [aa3];simp
theorem rP {i j:Str}:decide (V.str i=V.str j)=(i == j):=by
  rw [aa3];simp
theorem rR {i j:Array UInt8}:decide (V.byt i=V.byt j)=(i.toList == j.toList):=by
  rw [aa3];cases i;cases j;simp
section
variable {X:Cx} {a b c:Expr} {ta tb tc:TE} {pos:Pos}
theorem aW {pins:List (Addr × Obj)} {σ:St} {H:Hp} {s:Shared} {Q:VK} {k k':Bool} (I:Inv X pins σ H s) (q:Q (.bl k) H) (e:k=k'):EP X pins σ Q (.bool k') s:=by
  subst e;exact ⟨.bl k,H,I,rfl,q⟩
theorem eQ:OpR X (compareOp .Eq) rEq:=by
  intro pins s σ H x y v u Q I rx ry h;obtain ⟨hs,q⟩:=h;cases x with
  | non =>
    cases rx;cases y with
    | non=>cases ry;exact PySem.EqNone.eq_none_none (aW I q (by simp))
    | bl j=>cases ry;exact PySem.EqNone.eq_none_bool (aW I q (by simp))
    | int j=>obtain ⟨t',rfl⟩:=ry;exact PySem.EqNone.eq_none_int (aW I q (by simp))
    | str j=>obtain ⟨t',rfl⟩:=ry;exact PySem.EqNone.eq_none_str (aW I q (by simp))
    | _=>exact absurd (show false=true from hs) aal
  | bl i =>
    cases rx;cases y with
    | non=>cases ry;exact PySem.EqNone.eq_bool_none (aW I q (by simp))
    | bl j=>cases ry;exact eq_bool (aW I q vc)
    | str j=>obtain ⟨t',rfl⟩:=ry;exact PySem.EqMixed.eq_bool_str (aW I q (by simp))
    | _=>exact absurd (show false=true from hs) aal
  | int i =>
    obtain ⟨t,rfl⟩:=rx;cases y with
    | non=>cases ry;exact PySem.EqNone.eq_int_none (aW I q (by simp))
    | int j=>obtain ⟨t',rfl⟩:=ry;exact eq_int (aW I q rQ)
    | str j=>obtain ⟨t',rfl⟩:=ry;exact PySem.EqMixed.eq_int_str (aW I q (by simp))
    | _=>exact absurd (show false=true from hs) aal
  | str i =>
    obtain ⟨t,rfl⟩:=rx;cases y with
    | non=>cases ry;exact PySem.EqNone.eq_str_none (aW I q (by simp))
    | bl j=>cases ry;exact PySem.EqMixed.eq_str_bool (aW I q (by simp))
    | int j=>obtain ⟨t',rfl⟩:=ry;exact PySem.EqMixed.eq_str_int (aW I q (by simp))
    | str j=>obtain ⟨t',rfl⟩:=ry;exact eq_str (aW I q rP)
    | _=>exact absurd (show false=true from hs) aal
  | byt i =>
    obtain ⟨t,rfl⟩:=rx;cases y with
    | byt j=>obtain ⟨t',rfl⟩:=ry;exact PySem.W.eq_bytes (aW I q rR)
    | _=>exact absurd (show false=true from hs) aal
  | _=>cases y <;> exact absurd (show false=true from hs) aal
theorem mz:OpR X (compareOp .NotEq) rNe:=by
  intro pins s σ H x y v u Q I rx ry h;obtain ⟨hs,q⟩:=h;cases x with
  | non =>
    cases rx;cases y with
    | non=>cases ry;exact PySem.EqNone.ne_none_none (aW I q (by simp))
    | bl j=>cases ry;exact PySem.EqNone.ne_none_bool (aW I q (by simp))
    | int j=>obtain ⟨t',rfl⟩:=ry;exact PySem.EqNone.ne_none_int (aW I q (by simp))
    | str j=>obtain ⟨t',rfl⟩:=ry;exact PySem.EqNone.ne_none_str (aW I q (by simp))
    | _=>exact absurd (show false=true from hs) aal
  | bl i =>
    cases rx;cases y with
    | non=>cases ry;exact PySem.EqNone.ne_bool_none (aW I q (by simp))
    | bl j=>cases ry;exact ne_bool (aW I q (congrArg not vc))
    | str j=>obtain ⟨t',rfl⟩:=ry;exact PySem.EqMixed.ne_bool_str (aW I q (by simp))
    | _=>exact absurd (show false=true from hs) aal
  | int i =>
    obtain ⟨t,rfl⟩:=rx;cases y with
    | non=>cases ry;exact PySem.EqNone.ne_int_none (aW I q (by simp))
    | int j=>obtain ⟨t',rfl⟩:=ry;exact ne_int (aW I q (congrArg not rQ))
    | str j=>obtain ⟨t',rfl⟩:=ry;exact PySem.EqMixed.ne_int_str (aW I q (by simp))
    | _=>exact absurd (show false=true from hs) aal
  | str i =>
    obtain ⟨t,rfl⟩:=rx;cases y with
    | non=>cases ry;exact PySem.EqNone.ne_str_none (aW I q (by simp))
    | bl j=>cases ry;exact PySem.EqMixed.ne_str_bool (aW I q (by simp))
    | int j=>obtain ⟨t',rfl⟩:=ry;exact PySem.EqMixed.ne_str_int (aW I q (by simp))
    | str j=>obtain ⟨t',rfl⟩:=ry;exact ne_str (aW I q (congrArg not rP))
    | _=>exact absurd (show false=true from hs) aal
  | byt i =>
    obtain ⟨t,rfl⟩:=rx;cases y with
    | byt j=>obtain ⟨t',rfl⟩:=ry;exact PySem.W.ne_bytes (aW I q (congrArg not rR))
    | _=>exact absurd (show false=true from hs) aal
  | _=>cases y <;> exact absurd (show false=true from hs) aal
theorem jC:OpR X (compareOp .Lt) (rI0 fun i j=>.bl (decide (i < j))):=vQ fun _ _ _ _ _ _ _ q=>lt_int q
theorem gl:OpR X (compareOp .LtE) (rI0 fun i j=>.bl (decide (i≤j))):=vQ fun _ _ _ _ _ _ _ q=>le_int q
theorem mC:OpR X (compareOp .Gt) (rI0 fun i j=>.bl (decide (j < i))):=vQ fun _ _ _ _ _ _ _ q=>gt_int q
theorem wJ:OpR X (compareOp .GtE) (rI0 fun i j=>.bl (decide (j≤i))):=vQ fun _ _ _ _ _ _ _ q=>ge_int q
theorem aN (b:Expr) {op:CmpOp} (h:op≠.In:=by decide) (h2:op≠.NotIn:=by decide):behindInMarks op b=false:=by
  have e1:(op == CmpOp.In)=false:=by cases op <;> first|rfl|exact absurd rfl h
  have e2:(op == CmpOp.NotIn)=false:=by cases op <;> first|rfl|exact absurd rfl h2
  cases b <;> simp [behindInMarks,e1,e2]
theorem bZ {op:CmpOp} {r:R2} (ho:OpR X (compareOp op) r) (ha:PE X a ta) (hb:PE X b tb) (hm:behindInMarks op b=false):PE X (.Compare a [op] [b] pos) (tOp r ta tb):=by
  intro pins s σ H Q I h;exact wpAny_Compare1 (xQ ha hb I h fun v u s2 x y H2 I2 rx ry q=>ho pins s2 σ H2 x y v u Q I2 rx ry q) hm
def wG (t:TE):TT:=fun σ H Q=>t σ H fun x H'=>∃ k,x=.bl k∧Q k H'
theorem aK {op:CmpOp} {r:R2} (ho:OpR X (compareOp op) r) (ha:PE X a ta) (hb:PE X b tb) (hm:behindInMarks op b=false):PT X (.Compare a [op] [b] pos) (wG (tOp r ta tb)):=by
  intro pins s σ H Q I h;refine wpAny_isTrue_Compare1 (thn (ha pins s σ H _ I h) fun v s1 ⟨x,H1,I1,r1,q1⟩=>thn (hb pins s1 σ H1 _ I1 q1) fun u s2 ⟨y,H2,I2,r2,q2⟩ =>
    thn (ho pins s2 σ H2 x y v u _ I2 r1 r2 q2) fun c s3 ⟨z,H3,I3,r3,k,e,q3⟩=>?_) hm
  subst e;cases r3;exact wpAny_truthy_bool ⟨H3,I3,q3⟩
def tQ (r r':R2) (ta tb tc:TE):TE:=fun σ H Q=>ta σ H fun x H1=>tb σ H1 fun y H2=>r x y H2 fun z H3=>∃ k,z=.bl k ∧
  (if k=true then tc σ H3 fun w' H4=>r' y w' H4 Q else Q (.bl false) H3)
theorem oU {op op':CmpOp} {r r':R2} (ho:OpR X (compareOp op) r) (ho':OpR X (compareOp op') r') (ha:PE X a ta) (hb:PE X b tb) (hc:PE X c tc)
    (hm:lastMarks [op,op'] [b,c]=false:=by with_unfolding_all rfl):PE X (.Compare a [op,op'] [b,c] pos) (tQ r r' ta tb tc):=by
  intro pins s σ H Q I h;refine Compare_chain (thn (ha pins s σ H _ I h) fun v s1 ⟨x,H1,I1,r1,q1⟩=>chain_link (thn (hb pins s1 σ H1 _ I1 q1) fun u s2 ⟨y,H2,I2,r2,q2⟩ =>
    thn (ho pins s2 σ H2 x y v u _ I2 r1 r2 q2) fun d s3 ⟨z,H3,I3,r3,k,e,q3⟩=>?_)) hm
  subst e;cases r3;refine wpAny_truthy_bool ?_;cases k with
  | false=>exact ite_ff ⟨.bl false,H3,I3,rfl,q3⟩
  | true=>exact ite_tt (chain_last (thn (hc pins s3 σ H3 _ I3 q3) fun w' s4 ⟨z',H4,I4,r4,q4⟩=>ho' pins s4 σ H4 y z' u w' Q I4 r2 r4 q4))
theorem oO {op op':CmpOp} {r r':R2} (ho:OpR X (compareOp op) r) (ho':OpR X (compareOp op') r') (ha:PE X a ta) (hb:PE X b tb) (hc:PE X c tc)
    (hm:lastMarks [op,op'] [b,c]=false:=by with_unfolding_all rfl):PT X (.Compare a [op,op'] [b,c] pos) (wG (tQ r r' ta tb tc)):=by
  intro pins s σ H Q I h;refine isTrue_chain (thn (ha pins s σ H _ I h) fun v s1 ⟨x,H1,I1,r1,q1⟩=>test_link (thn (hb pins s1 σ H1 _ I1 q1) fun u s2 ⟨y,H2,I2,r2,q2⟩ =>
    thn (ho pins s2 σ H2 x y v u _ I2 r1 r2 q2) fun d s3 ⟨z,H3,I3,r3,k,e,q3⟩=>?_)) hm
  subst e;cases r3;refine wpAny_truthy_bool ?_;cases k with
  | false =>
    obtain ⟨k',e',q'⟩:=q3;cases e';exact ite_ff ⟨H3,I3,q'⟩
  | true =>
    refine ite_tt (test_last (thn (hc pins s3 σ H3 _ I3 q3) fun w' s4 ⟨z',H4,I4,r4,q4⟩=>thn (ho' pins s4 σ H4 y z' u w' _ I4 r2 r4 q4) fun d' s5 ⟨z2,H5,I5,r5,k2,e2,q5⟩=>?_));subst e2;cases r5;exact wpAny_truthy_bool ⟨H5,I5,q5⟩
def wu (K:aaa) (x:V) (H:Hp) (k:Bool):Prop :=
  match x with
  | .non=>k=false
  | .bl b=>k=b
  | .int i=>k=(i != 0)
  | .str y=>y.length≤sizeLine∧k=((y.length:Int) != 0)
  | .byt y=>y.size≤sizeLine∧k=((y.size:Int) != 0)
  | .ref p=>(∃ xs,SqL K H p xs∧k=!xs.isEmpty)∨(∃ xs,SqT K H p xs∧k=!xs.isEmpty)∨∃ kvs,H p=some (.dK kvs)∧k=!kvs.isEmpty
  | _=>False
theorem qL {κ:Type} {kvs:List (κ × V)} {vs:List (κ × Value)} (r:KV kvs vs):(!vs.isEmpty)=!kvs.isEmpty:=by
  cases r <;> rfl
theorem kR {xs:List V} {its:List Value} (r:Vals xs its):(!its.toArray.isEmpty)=!xs.isEmpty:=by
  cases r <;> simp
theorem il:(sizeLine:Nat) < 2 ^ 63:=by rw [sizeLine_eq];decide
theorem tP:zn X (fun x H Q=>∃ k,wu X.K x H k∧Q k H):=by
  intro pins s σ H x v Q I rx h;obtain ⟨k,e,q⟩:=h;have hl:=il;have hs:sizeLine=16777216:=sizeLine_eq;cases x with
  | non =>
    cases rx;have e':k=false:=e;subst e';exact truthy_none ⟨H,I,q⟩
  | bl b =>
    cases rx;have e':k=b:=e;subst e';exact wpAny_truthy_bool ⟨H,I,q⟩
  | int i =>
    obtain ⟨t,rfl⟩:=rx;have e':k=(i != 0):=e;subst e';exact PySem.P.truthy_int ⟨H,I,q⟩
  | str y =>
    obtain ⟨t,rfl⟩:=rx;obtain ⟨hy,e'⟩:y.length≤sizeLine∧k=((y.length:Int) != 0):=e;subst e';exact PySem.P.truthy_str (by lia) ⟨H,I.tok _,q⟩
  | byt y =>
    obtain ⟨t,rfl⟩:=rx;obtain ⟨hy,e'⟩:y.size≤sizeLine∧k=((y.size:Int) != 0):=e;subst e';exact PySem.W.truthy_bytes (by lia) ⟨H,I.tok _,q⟩
  | ref p =>
    cases rx;have e':(∃ xs,SqL X.K H p xs∧k=!xs.isEmpty)∨(∃ xs,SqT X.K H p xs∧k=!xs.isEmpty)∨∃ kvs,H p=some (.dK kvs)∧k=!kvs.isEmpty:=e;rcases e' with ⟨xs,hx,e'⟩|⟨xs,hx,e'⟩|⟨kvs,hx,e'⟩
    · subst e';obtain ⟨its,r,pl,hz⟩:=I.list hx;have hlen:=r.length;exact wpAny_truthy_list pl.isList (by simp only [aah];lia) ⟨H,I.tok _,by rw [kR r];exact q⟩
    · subst e';obtain ⟨its,r,pl,hz⟩:=I.tuple hx;have hlen:=r.length;exact truthy_tuple pl (by simp only [aah];lia) ⟨H,I.tok _,by rw [kR r];exact q⟩
    · subst e';obtain ⟨hz,hS,vs,r,m⟩:kvs.length≤sizeLine∧(p == sysModules)=false∧∃ vs,KV kvs vs∧s.heap.DictOf (a5 X.prog X.w) p vs:=I.hok p _ hx;have hlen:kvs.length=vs.length:=aa9 r;exact wpAny_truthy_dict hS m (by lia) ⟨H,I.tok _,by rw [qL r];exact q⟩
  | _=>exact (show False from e).elim
theorem dG (ha:PE X a ta) (he:∀ whole,isTrue a X.env whole=(do let v ← whole;standAt a.pos;holding [v] (truthy v))) :
    PT X a (fun σ H Q=>ta σ H fun x H'=>∃ k,wu X.K x H' k∧Q k H'):=by
  intro pins s σ H Q I h;exact isTrue_plain (thn (ha pins s σ H _ I h) fun v s1 ⟨x,H1,I1,r1,q1⟩=>tP pins s1 σ H1 x v Q I1 r1 q1) (he _)
theorem jw {x:V} {us:List Value} (r:Vals [x] us):∃ u,us=[u]∧RelV x u:=by
  cases r with
  | cons r1 r2=>cases r2;exact ⟨_,rfl,r1⟩
theorem tL {x y:V} {us:List Value} (r:Vals [x,y] us):∃ u w',us=[u,w']∧RelV x u∧RelV y w':=by
  cases r with
  | cons r1 r2 =>
    cases r2 with
    | cons r3 r4=>cases r4;exact ⟨_,_,rfl,r1,r3⟩
theorem mR:eW X (.type "int") (fun xs H Q=>(∃ i,xs=[.int i]∧Q (.int i) H)∨∃ k,xs=[.bl k]∧Q (.int (if k then 1 else 0)) H):=by
  intro pins s σ H xs us Q I r h;rcases h with ⟨i,rfl,q⟩|⟨k,rfl,q⟩
  · obtain ⟨u,rfl,t,rfl⟩:=jw r;exact call_int_int ⟨.int i,H,I,⟨_,rfl⟩,q⟩
  · obtain ⟨u,rfl,r1⟩:=jw r;cases r1;exact call_int_bool ⟨.int (if k then 1 else 0),H,I.tok _,⟨_,rfl⟩,q⟩
theorem jH:eW X (.builtin "divmod") (fun xs H Q=>∃ i j,xs=[.int i,.int j]∧zt i j∧∀ p,H p=none→Q (.ref p) (upd H p (.tup [.int (i / j),.int (i % j)]))):=by
  intro pins s σ H xs us Q I r h;obtain ⟨i,j,rfl,⟨h1,h2⟩,q⟩:=h;obtain ⟨u,w',rfl,⟨t,rfl⟩,⟨t',rfl⟩⟩:=tL r;refine divmod_int (by lia) ?_ (.inl (PyProof.noPylong_small (by lia)));rw [Int.fdiv_eq_ediv_of_nonneg i (by lia),Int.fmod_eq_emod_of_nonneg i (by lia)];have hn:H s.heap.objs.size=none:=I.hok.fresh (aag _);refine ⟨.ref s.heap.objs.size,_,?_,rfl,q _ hn⟩;refine I.laid (fun b o e=>aad _ e) (aag _) ⟨by simp only [aaS,abF];rw [sizeLine_eq];decide,[.int (i / j) s.toks,.int (i % j) (s.toks+1)],.cons ⟨_,rfl⟩ (.cons ⟨_,rfl⟩ .nil),?_⟩;exact ⟨_,aaq s.heap rfl,rfl,0,rfl⟩
end
open PySem PySem.Spec PyProof.Rows
structure ObjM (h:Heap) (x dx C:Addr) (mA:Str→Option Value):Prop where
  obj:h.get? x=some (PySem.W.instObj C dx)
  ns:h.Ns1 dx mA
  ne:dx≠x
theorem sZ {h:Heap} {dx:Addr} {mA:Str→Option Value} (n:h.Ns1 dx mA):∃ od,h.get? dx=some od∧∀ name,PySem.W.lookIn name od=some (mA name):=by
  obtain ⟨o,es,ep,ho,hd,hk,_,hm⟩:=n;refine ⟨o,ho,fun name=>?_⟩;have e:=hm name;unfold nsFind findBy at e;rw [← Array.find?_toList] at e;unfold PySem.W.lookIn;rw [hd];dsimp only;split
  · rename_i y q;rw [q] at e;exact congrArg some e
  · rename_i q;rw [q] at e;have a:es.toList.any (·.refKey)=false:=by
      rw [List.any_eq_false];intro y hy;obtain ⟨z,t,hkey⟩:=hk y (Array.mem_toList_iff.mp hy);simp [DictEntry.refKey,hkey]
    have a':¬ es.toList.any (·.refKey)=true:=by rw [a];exact aal
    rw [if_neg a'];exact congrArg some e
theorem ObjM.look {h:Heap} {x dx C:Addr} {mA:Str→Option Value} (I:ObjM h x dx C mA):∃ od,PySem.W.InstAt h x (PySem.W.instObj C dx) C (some od)∧∀ name,PySem.W.lookIn name od=some (mA name) :=
  let ⟨od,ho,hl⟩:=sZ I.ns
  ⟨od,⟨I.obj,rfl,rfl,ho⟩,hl⟩
section
variable {prog:Program} {w:World} {A:Around} {E:Value→Shared→Prop} {s:Shared} {K:aaa} {x dx C f:Addr} {mA:Str→Option Value} {name:Str} {v:Value}
end
theorem RelO.some_of {v:V} {o:Option Value} (r:RelO (some v) o):∃ u,o=some u∧RelV v u:=by
  cases o with
  | none=>exact (show False from r).elim
  | some u=>exact ⟨u,rfl,r⟩
section
variable {P:Program} {w:World} {H H':Hp} {h h':Heap} {a C dx:Addr} {fs fs':List (Str × V)}
theorem v8 (hok:HOk P w H h) (e:H a=some (.ins C dx fs)):∃ mA,ObjM h a dx C mA∧(∀ f,RelO (fs.lookup f) (mA f))∧PySem.Within mA (fs.map (·.1))∧fs.length≤1000∧H dx=some (.own a):=by
  obtain ⟨d,z,ne,ob,mA,n,r,q⟩:=(show ObjOk P w H h a (.ins C dx fs) from hok a _ e)
  exact ⟨mA,⟨ob,n,ne⟩,r,q,z,d⟩
end
structure Cls (K:aaa) (C:Addr):Prop where
  pg:PySem.W.plainGet K C Str.empty=true
  hd:PySem.W.hasDictIn K C=true
  po:PySem.W.plainOver K C=true
  sa:acq K (.ref C) "__setattr__" = some (some (.builtin "object.__setattr__"))
theorem Cls.get {K:aaa} {C:Addr} (c:Cls K C) (f:Str):PySem.W.plainGet K C f=true:=c.pg
structure Con (K:aaa) (C:Addr) (f:Str) (v:V) (u:Value):Prop where
  at_:acq K (.ref C) f=some (some u)
  rel:RelV v u
  get:PySem.W.specialIn K u "__get__" = some none
  cp:PySem.W.copiedNames.contains f=false
structure Meth (K:aaa) (C:Addr) (m:Str) (f:Addr):Prop where
  at_:acq K (.ref C) m=some (some (.ref f))
  fn:PySem.W.isFn K (.ref f)=true
  kp:aaZ K (.ref f)=true
section
variable {X:Cx} {pins:List (Addr × Obj)} {σ:St} {H:Hp} {s:Shared} {a C dx:Addr} {fs:List (Str × V)} {f:Str} {v:V} {A:Around} {E:Value→Shared→Prop}
end
section
variable {X:Cx} {o e value:Expr} {f:Str} {pos pos' tpos:Pos} {ta tv:TE}
end
section
variable {X:Cx} {pins:List (Addr × Obj)} {σ:St} {H:Hp} {s:Shared} {A:Around} {E:Value→Shared→Prop} {Q:Value→Shared→Prop} {c:Value} {b:Bool}
inductive TyOf (K:aaa) (H:Hp):V→Value→Prop where
  | non:TyOf K H .non (.type "NoneType")
  | bl (x:Bool):TyOf K H (.bl x) (.type "bool")
  | int (i:Int):TyOf K H (.int i) (.type "int")
  | str (x:Str):TyOf K H (.str x) (.type "str")
  | flt (x:UInt64):TyOf K H (.flt x) (.type "float")
  | lst {a:Addr} {xs:List V} (e:H a=some (.lst xs)):TyOf K H (.ref a) (.type "list")
  | frz {a:Addr} {o:Obj} {xs:List V} (e:H a=some (.frz o (.lst xs))):TyOf K H (.ref a) (.type "list")
  | tup {a:Addr} {xs:List V} (e:H a=some (.tup xs)):TyOf K H (.ref a) (.type "tuple")
  | dK {a:Addr} {kvs:List (Key × V)} (e:H a=some (.dK kvs)):TyOf K H (.ref a) (.type "dict")
  | dT {a:Addr} {kvs:List (List Key × V)} (e:H a=some (.dT kvs)):TyOf K H (.ref a) (.type "dict")
  | ins {a C dx:Addr} {fs:List (Str × V)} (e:H a=some (.ins C dx fs)) (cl:Cls K C) (ha:acq K (.ref C) "__class__" = some (some (.builtin "object.__class__")))
      (hn:PySem.W.specialIn K (.builtin "object.__class__") "__get__" = some (some (.builtin "getset_descriptor.__get__"))) (htk:PySem.W.takesIn K (.builtin "object.__class__")=some true)
      (hm:PySem.W.mroIn K C (.type "object")=some true):TyOf K H (.ref a) (.ref C)
theorem tz {x:V} {u t:Value} (I:Inv X pins σ H s) (rx:RelV x u) (ty:TyOf X.K H x t) (e:PySem.W.kitOne X.K t c=some b) (h:∀ tk,Q (.bool b) { s with toks:=tk }) :
    wpAny (model X.prog X.w) A (call (.builtin "isinstance") [u,c]) Q E s:=by
  cases ty with
  | non=>cases (show u=Value.none from rx);exact aa5 PySem.W.kitx_none I.kIn True.intro e (fun z=>nomatch z) h
  | bl y=>cases (show u=Value.bool y from rx);exact aa5 PySem.W.kitx_bool I.kIn True.intro e (fun z=>nomatch z) h
  | int i=>obtain ⟨t,q⟩:=(show ∃ t,u=Value.int i t from rx);cases q;exact aa5 PySem.W.kitx_int I.kIn True.intro e (fun z=>nomatch z) h
  | str y=>obtain ⟨t,q⟩:=(show ∃ t,u=Value.str y t from rx);cases q;exact aa5 PySem.W.kitx_str I.kIn True.intro e (fun z=>nomatch z) h
  | flt y=>obtain ⟨t,q⟩:=(show ∃ t,u=Value.float y t from rx);cases q;exact aa5 PySem.W.kitx_float I.kIn True.intro e (fun z=>nomatch z) h
  | @lst a xs ea =>
    cases (show u=Value.ref a from rx);obtain ⟨_,_,n,_,h1⟩:=(show ObjOk X.prog X.w H s.heap a (.lst xs) from I.hok a _ ea)
    exact aa5 PySem.W.kitx_list I.kIn ⟨_,h1,rfl⟩ e (fun z=>nomatch z) h
  | @frz a ob xs ea =>
    cases (show u=Value.ref a from rx);obtain ⟨_,_,_,n,_,h1⟩:=(show ObjOk X.prog X.w H s.heap a (.frz ob (.lst xs)) from I.hok a _ ea)
    exact aa5 PySem.W.kitx_list I.kIn ⟨_,h1,rfl⟩ e (fun z=>nomatch z) h
  | @tup a xs ea =>
    cases (show u=Value.ref a from rx);obtain ⟨_,_,_,p⟩:=(show ObjOk X.prog X.w H s.heap a (.tup xs) from I.hok a _ ea)
    obtain ⟨o,h1,h2,_⟩:=p;exact aa5 PySem.W.kitx_tuple I.kIn ⟨o,h1,h2⟩ e (fun z=>nomatch z) h
  | @dK a kvs ea =>
    cases (show u=Value.ref a from rx);obtain ⟨_,_,vs,_,p⟩:=(show ObjOk X.prog X.w H s.heap a (.dK kvs) from I.hok a _ ea)
    obtain ⟨o,es,ep,h1,h2,_⟩:=p;exact aa5 PySem.W.kitx_dict I.kIn ⟨o,h1,h2.1⟩ e (fun z=>nomatch z) h
  | @dT a kvs ea =>
    cases (show u=Value.ref a from rx);obtain ⟨_,_,xs,_,o,es,ep,h1,h2,_⟩:=(show ObjOk X.prog X.w H s.heap a (.dT kvs) from I.hok a _ ea)
    exact aa5 PySem.W.kitx_dict I.kIn ⟨o,h1,h2.1⟩ e (fun z=>nomatch z) h
  | @ins a C dx fs ea cl ha hn htk hm =>
    cases (show u=Value.ref a from rx);obtain ⟨mA,O,_⟩:=v8 I.hok ea;obtain ⟨od,J,_⟩:=O.look;exact aa5 (PySem.W.kitx_own (cl.get _) cl.hd ha hn htk hm) I.kIn J e (fun z=>nomatch z) h
end
open PySem PySem.Spec PyProof.Rows
structure Room (k:Nat) (A:Around):Prop where
  hd:A.handled=none
  dp:A.depth+3 * k+5 < recursionLimit
  un:A.units+16 * k+200 < cLine
  gd:A.guards=some []
theorem Room.mono {j k:Nat} {A:Around} (r:Room k A) (h:j≤k):Room j A:=⟨r.hd,by have:=r.dp;lia,by have:=r.un;lia,r.gd⟩
theorem Room.deeper {k:Nat} {A:Around} (r:Room (k+1) A) (env:Env):Room k (A.deeper env) :=
  ⟨r.hd,by have:=r.dp;show A.depth+1+3 * k+5 < _;lia,by have:=r.un;show A.units+3+16 * k+200 < _;lia,r.gd⟩
theorem Room.in1 {k:Nat} {A:Around} (r:Room (k+1) A):Room k A.in1 :=
  ⟨r.hd,by have:=r.dp;show A.depth+3 * k+5 < _;lia,by have:=r.un;show A.units+1+16 * k+200 < _;lia,r.gd⟩
theorem Room.depth {k:Nat} {A:Around} (r:Room k A):A.depth < recursionLimit:=by have:=r.dp;lia
theorem Room.units {k:Nat} {A:Around} (r:Room k A):A.units+64 < cLine:=by have:=r.un;lia
theorem Room.units0 {k:Nat} {A:Around} (r:Room k A):A.units < cLine:=by have:=r.un;lia
def yQ:TA:=fun _ H Q=>Q [] H
def yc (ta:TE) (tr:TA):TA:=fun σ H Q=>ta σ H fun x H1=>tr σ H1 fun xs H2=>Q (x :: xs) H2
section
variable {X:Cx} {e:Expr} {es:List Expr} {te:TE} {t:TA} {pos:Pos}
theorem ac:PA X [] yQ:=fun _ _ _ _ H Q I h=>Calls.spliced_nil ⟨[],H,I,.nil,h⟩
theorem aa (ha:PE X e te) (hr:PA X es t) (hs:starEach (e :: es) X.env=(false,eval e X.env) :: starEach es X.env:=by rfl):PA X (e :: es) (yc te t):=by
  intro pos pins s σ H Q I h;rw [hs];show wpAny _ _ (spliced ((false,eval e X.env) :: backTo pos (starEach es X.env))) _ _ s;refine Calls.spliced_cons (thn (ha pins s σ H _ I h) fun u s1 ⟨x,H1,I1,r1,q1⟩=>?_);exact thn (hr pos pins s1 σ H1 _ I1 q1) fun us s2 ⟨xs,H2,I2,r2,q2⟩=>⟨x :: xs,H2,I2,.cons r1 r2,q2⟩
def yL (t:TA):TE:=fun σ H Q=>t σ H fun xs H1=>xs.length≤sizeLine∧∀ p,H1 p=none→Q (.ref p) (upd H1 p (.tup xs))
def yR (t:TA):TE:=fun σ H Q=>t σ H fun xs H1=>xs.length≤sizeLine∧∀ p,H1 p=none→Q (.ref p) (upd H1 p (.lst xs))
theorem aY {x1} (h:PA X es t):PE X (.Tuple es x1 pos) (yL t):=by
  intro pins s σ H Q I hq;refine wpAny_Tuple_spliced (thn (h pos pins s σ H _ I hq) fun us s1 ⟨xs,H1,I1,r,z,q⟩=>⟨by rw [← r.length];exact z,?_⟩);have hf:H1 s1.heap.objs.size=none:=I1.hok.fresh (aag _);refine ⟨.ref s1.heap.objs.size,upd H1 s1.heap.objs.size (.tup xs),I1.laid (t':=s1.toks) (fun b u e=>aad _ e) (aag _) ?_,rfl,q _ hf⟩;exact ⟨z,us,r,⟨_,aaq _ rfl,rfl,_,rfl⟩⟩
theorem aV (h:PA X es t):PE X (.List es pos) (yR t):=by
  intro pins s σ H Q I hq;refine wpAny_List_spliced (thn (h pos pins s σ H _ I hq) fun us s1 ⟨xs,H1,I1,r,z,q⟩=>⟨by rw [← r.length];exact z,?_⟩);have hf:H1 s1.heap.objs.size=none:=I1.hok.fresh (aag _);refine ⟨.ref s1.heap.objs.size,upd H1 s1.heap.objs.size (.lst xs),I1.laid (t':=s1.toks) (fun b u e=>aad _ e) (aag _) ?_,rfl,q _ hf⟩;exact ⟨z,us,0,r,aaq _ rfl⟩
end
abbrev Sp:=List V→Hp→VK→XK→Prop
abbrev CXT:=List Env→Hp→Shared→XK→Value→Shared→Prop
structure Env0 (P:Program) (w:World) (K:aaa) (mg:Str→Option Value) (base:Heap) (A:Around) (outer:List Env) (s:Shared) (H:Hp):Prop where
  frames:A.frames=some outer
  mod:Mod K mg base
  bs:∀ b o,base.get? b=some o→s.heap.get? b=some o∧H b=none
  bsz:base.objs.size≤s.heap.objs.size
  funs:s.heap.FunFrames base outer
  frf:∀ b∈frs outer,H b=none
  hok:HOk P w H s.heap
  bare:AllBare s.gens
def CE (outer:List Env) (P:Program) (w:World) (H:Hp) (s:Shared) (Q:VK) (u:Value) (s':Shared):Prop :=
  ∃ v H',s'.os=s.os∧AllBare s'.gens∧Un (frs outer) [] H H' s.heap s'.heap∧HOk P w H' s'.heap∧RelV v u∧Q v H'
def CR (CX:CXT) (outer:List Env) (P:Program) (w:World) (H:Hp) (s:Shared) (Q:VK) (E:XK) (r:Result) (s':Shared):Prop :=
  match r with
  | .ok (.ret u)=>CE outer P w H s Q u s'
  | .ok _=>False
  | .error e=>CX outer H s E e s'
structure FnOk (P:Program) (w:World) (K:aaa) (mg:Str→Option Value) (base:Heap) (CX:CXT) (k:Nat) (f:Addr) (fd:FuncData) (ps:List Str) (sp:Sp):Prop where
  len:∀ vs H Q E,sp vs H Q E→vs.length=ps.length
  run:∀ (A:Around) (outer:List Env) (s:Shared) (H:Hp) (args:Args) (us:List Value) (vs:List V) (Q:VK) (E:XK),Room k A→Env0 P w K mg base A outer s H→BindsTo s fd args (ps.zip us)→Vals vs us→sp vs H Q E →
    codeAny (model P w) A (.call (.ref f) args) (CR CX outer P w H s Q E) s
theorem Env0.in1 {P:Program} {w:World} {K:aaa} {mg:Str→Option Value} {base:Heap} {A:Around} {outer:List Env} {s:Shared} {H:Hp} (e:Env0 P w K mg base A outer s H) :
    Env0 P w K mg base A.in1 outer s H:=⟨e.frames,e.mod,e.bs,e.bsz,e.funs,e.frf,e.hok,e.bare⟩
section
variable {X:Cx} {pins:List (Addr × Obj)} {σ:St} {H:Hp} {s s':Shared}
theorem Inv.env0 (I:Inv X pins σ H s):Env0 X.prog X.w X.K X.mg X.base X.A X.stack s H :=
  ⟨I.ok.frames,I.ok.mod,I.bs,aaV I.ok.bsz I.sz,I.stack,I.stkFree,I.hok,I.bare⟩
theorem Inv.after {Q:VK} {u:Value} (I:Inv X pins σ H s) (h:CE X.stack X.prog X.w H s Q u s'):EP X pins σ Q u s':=by
  obtain ⟨v,H',os,bare,un,hok,r,q⟩:=h;obtain ⟨hh,g,d,t,os'⟩:=s';obtain rfl:os'=s.os:=os;exact ⟨v,H',I.call (h':=hh) (g':=g) (d':=d) (t':=t) (ch:=[]) un hok bare (fun b z=>absurd z (by simp)),r,q⟩
end
def tR (sp:Sp) (dvs:List V) (E:XK) (t:TA):TE:=fun σ H Q=>t σ H fun vs H1=>sp (vs++dvs) H1 Q E
def Binds (K:aaa) (fd:FuncData) (ps:List Str) (ds:List Value):Prop :=
  ∀ (s:Shared) (us:List Value),K.In s.heap→(us++ds).length=ps.length→BindsTo s fd ⟨us,[]⟩ (ps.zip (us++ds))
theorem Binds.all {K:aaa} {fd:FuncData} {ps:List Str} (h:∀ us:List Value,us.length=ps.length→bindArgs fd ⟨us,[]⟩=pure (ps.zip us)):Binds K fd ps []:=fun s us _ hl=>by
  rw [abD] at hl ⊢;exact .of_eq (h us hl)
def qT (CX:CXT) (X:Cx) (E:XK):Prop:=∀ (pins:List (Addr × Obj)) (σ:St) (H:Hp) (s:Shared) (e:Value) (s':Shared),Inv X pins σ H s→CX X.stack H s E e s'→X.xe e s'
section
variable {X:Cx} {CX:CXT} {k:Nat} {f C:Addr} {fd:FuncData} {ps:List Str} {sp:Sp} {dvs:List V} {ds:List Value} {E:XK} {x m:Str} {p pos apos:Pos} {e o:Expr} {es:List Expr} {ta:TE} {t:TA}
theorem xh {pins:List (Addr × Obj)} {σ:St} {H:Hp} {s:Shared} {Q:VK} {us:List Value} {vs:List V} (F:FnOk X.prog X.w X.K X.mg X.base CX k f fd ps sp) (hr:Room k X.A) (hb:Binds X.K fd ps ds) (hd:Vals dvs ds) (hx:qT CX X E)
    (I:Inv X pins σ H s) (r:Vals vs us) (h:sp (vs++dvs) H Q E):wpAny (model X.prog X.w) X.A (call (.ref f) us) (EP X pins σ Q) X.xe s:=by
  have r2:Vals (vs++dvs) (us++ds):=r.append hd;have hl:(us++ds).length=ps.length:=by rw [← r2.length];exact F.len _ _ _ _ h
  refine wpAny_call (codeAny_mono (F.run X.A X.stack s H ⟨us,[]⟩ (us++ds) (vs++dvs) Q E hr I.env0 (hb s us I.kIn hl) r2 h) fun r s' hq=>?_);cases r with
  | error e=>exact hx pins σ H s e s' I hq
  | ok fl =>
    cases fl with
    | ret u=>exact I.after hq
    | next=>exact abq hq
    | brk=>exact abq hq
    | cont=>exact abq hq
theorem rq (F:FnOk X.prog X.w X.K X.mg X.base CX k f fd ps sp) (hr:Room k X.A) (hg:Gl X x) (hm:X.mg x=some (.ref f)) (hk:aaZ X.K (.ref f)=true) (hb:Binds X.K fd ps ds) (hd:Vals dvs ds) (hx:qT CX X E)
    (ha:PA X (e :: es) t) (hdb:(x == ("__debug__":Str))=false:=by decide) (he:starEach (e :: es) X.env=(false,eval e X.env) :: starEach es X.env:=by rfl) (hpl:(backTo pos (starEach es X.env)).any (·.1)=false:=by rfl) :
    PE X (.Call (.Name x p) (e :: es) [] pos) (tR sp dvs E t):=by
  intro pins s σ H Q I h;refine wpAny_Call_Name_kw (rB I hg hm ?_ hdb);refine PySem.W.callWith_K (h₀:=X.base) I.ok.mod.kin hk (thn (ha pos pins s σ H _ I h) fun us s1 ⟨vs,H1,I1,r,q⟩=>⟨I1.kIn,?_⟩) he hpl;exact xh F hr hb hd hx I1 r q
structure Mk (K:aaa) (C f:Addr):Prop where
  makes:PySem.W.makesIn K C=true
  init:acq K (.ref C) "__init__" = some (some (.ref f))
  fn:PySem.W.isFn K (.ref f)=true
  kp:aaZ K (.ref C)=true
end
section
variable {X:Cx} {CX:CXT} {k:Nat} {f C:Addr} {fd:FuncData} {ps ks:List Str} {sp:Sp} {E:XK} {x m:Str} {p pos apos kpos:Pos} {e o:Expr} {es:List Expr} {kws:List Keyword} {te ta:TE} {t tk:TA} {nm:Option Str}
structure KBinds (K:aaa) (fd:FuncData) (ps ks:List Str) (g:List Value→List Value→List Value) (gV:List V→List V→List V):Prop where
  to:∀ (s:Shared) (us ws:List Value),K.In s.heap→(g us ws).length=ps.length→BindsTo s fd ⟨us,ks.zip ws⟩ (ps.zip (g us ws))
  rel:∀ {vs:List V} {us:List Value} {zs:List V} {ws:List Value},Vals vs us→Vals zs ws→Vals (gV vs zs) (g us ws)
variable {g:List Value→List Value→List Value} {gV:List V→List V→List V}
end
structure FnScope (N P:List Str) (sc:Scope):Prop where
  kind:sc.kind=.function
  co:sc.isCoroutine=false
  gen:sc.isGenerator=false
  nd:N.Nodup
  pre:N.take P.length=P
  par:∀ x∈P,sc.names.lookup x=some .local∨sc.names.lookup x=some .cell
  nofree:∀ y∈sc.names,y.2≠.free
theorem mS {kindOf:Str→Option NameKind} {x:Str}:∀ {binds:List (Str × Value)} {m:Str→Option Value},(∀ v,(x,v)∉binds)→bindL kindOf binds m x=m x
  | [],_,_=>rfl
  | (n,v) :: r,m,h=>by
    unfold bindL;rw [mS fun w hw=>h w (aae _ hw)];split
    · have : x≠n:=by rintro rfl;exact h v aai
      simp [this]
    · rfl
theorem mU {kindOf:Str→Option NameKind} {x:Str}:∀ {binds:List (Str × Value)} {m:Str→Option Value},(∀ v,(x,v)∉binds)→bindC kindOf binds m x=m x
  | [],_,_=>rfl
  | (n,v) :: r,m,h=>by
    unfold bindC;rw [mU fun w hw=>h w (aae _ hw)];split
    · rfl
    · have : x≠n:=by rintro rfl;exact h v aai
      simp [this]
theorem mT {kindOf:Str→Option NameKind} {x:Str} {v:Value}:∀ {P:List Str} {vs:List Value} {i:Nat} {m:Str→Option Value},P.Nodup→P[i]?=some x→vs[i]?=some v→kindOf x=some .local →
    bindL kindOf (P.zip vs) m x=some v
  | [],_,_,_,_,h,_,_=>by simp at h
  | _ :: _,[],_,_,_,_,h,_=>by simp at h
  | p :: P,w :: vs,0,m,nd,h1,h2,hk=>by
    simp at h1 h2;subst h1;subst h2;show bindL kindOf ((p,w) :: P.zip vs) m p=_;unfold bindL;rw [mS fun v hv=>(acy.mp nd).1 (List.of_mem_zip hv).1,if_pos hk];simp
  | p :: P,w :: vs,i+1,m,nd,h1,h2,hk=>by
    show bindL kindOf ((p,w) :: P.zip vs) m x=_;unfold bindL;exact mT (i:=i) (acy.mp nd).2 (by simpa using h1) (by simpa using h2) hk
theorem mV {kindOf:Str→Option NameKind} {x:Str} {v:Value}:∀ {P:List Str} {vs:List Value} {i:Nat} {m:Str→Option Value},P.Nodup→P[i]?=some x→vs[i]?=some v→kindOf x≠some .local →
    bindC kindOf (P.zip vs) m x=some v
  | [],_,_,_,_,h,_,_=>by simp at h
  | _ :: _,[],_,_,_,_,h,_=>by simp at h
  | p :: P,w :: vs,0,m,nd,h1,h2,hk=>by
    simp at h1 h2;subst h1;subst h2;show bindC kindOf ((p,w) :: P.zip vs) m p=_;unfold bindC;rw [mU fun v hv=>(acy.mp nd).1 (List.of_mem_zip hv).1,if_neg hk];simp
  | p :: P,w :: vs,i+1,m,nd,h1,h2,hk=>by
    show bindC kindOf ((p,w) :: P.zip vs) m x=_;unfold bindC;exact mV (i:=i) (acy.mp nd).2 (by simpa using h1) (by simpa using h2) hk
def start (N:List Str) (vs:List V):St:=vs.map some++aao (N.length - vs.length) none
def kW (CX:CXT) (P:Program) (w:World) (K:aaa) (mg:Str→Option Value) (base:Heap) (N:List Str) (qual:Str) (scope:Scope) (f:Addr) (cd:Value) (A:Around) (outer:List Env) (s:Shared) (H:Hp) (E:XK):Cx where
  prog:=P
  w:=w
  K:=K
  mg:=mg
  base:=base
  A:=A.deeper (envOfC qual scope s.heap.objs.size f cd)
  N:=N
  s₀:=s
  H₀:=H
  env:=envOfC qual scope s.heap.objs.size f cd
  outer:=outer
  stack:=envOfC qual scope s.heap.objs.size f cd :: outer
  ex:=[]
  calm:=true
  fn:=fun _=>true
  pn:=[]
  xe:=fun e s'=>wpAny (model P w) (A.deeper (envOfC qual scope s.heap.objs.size f cd)) (leaving (envOfC qual scope s.heap.objs.size f cd) e) (fun _ s''=>CX outer H s E e s'') (fun e' s''=>CX outer H s E e' s'') s'
theorem pR {sc:Scope} {n:Nat} {x:Str} (h:sc.names.lookup x=some .cell):∃ c,(cellsFrom n sc.names []).lookup x=some c:=by
  have q:=ack sc.names n [] (.inl h);exact abH.mp q
theorem mI {CX:CXT} {P:Program} {w:World} {K:aaa} {mg:Str→Option Value} {base:Heap} {N ps:List Str} {qual:Str} {scope:Scope} {f:Addr} {cd:Value} {A:Around} {outer:List Env} {s s1:Shared} {H:Hp} {E:XK} {us:List Value} {vs:List V}
    (S:FnScope N ps scope) (hd:A.handled=none) (e0:Env0 P w K mg base A outer s H) (hl:vs.length=ps.length) (r:Vals vs us)
    (x:InCallC s s.heap.objs.size (bindL (envOfC qual scope s.heap.objs.size f cd).kindOf (ps.zip us) fun _=>none) (cellsFrom (s.heap.objs.size+1) scope.names []) (bindC (envOfC qual scope s.heap.objs.size f cd).kindOf (ps.zip us) fun _=>none) s1) :
    Inv (kW CX P w K mg base N qual scope f cd A outer s H E) [] (start N vs) H s1:=by
  have hpl:ps.length≤N.length:=by have:=congrArg abZ S.pre;rw [aas] at this;lia
  obtain ⟨h1,tk,rfl,hk⟩:=x.done;have noA:∀ b:Addr,b∉(kW CX P w K mg base N qual scope f cd A outer s H E).ex:=fun b z=>absurd (show b∈([]:List Addr) from z) (by simp);refine ⟨⟨e0.mod,S.kind,rfl,rfl,aag _,fun y z c h1 h2=>?_,fun y hy=>?_,fun y c _ h=>?_,fun _=>hd,Around.frames_deeper e0.frames,.inr ⟨rfl,rfl⟩,fun b z=>absurd z (noA b),e0.bs,e0.bsz,fun b _ _=>noA b,fun b z=>absurd z (noA b),e0.funs,e0.frf⟩,
    rfl,e0.bare,Un.kept hk,⟨_,x.toInCall.ns,fun i y v h1 h2 h3=>?_⟩,fun y c h=>⟨_,x.cell y c h⟩,e0.hok.fresh (aag _),fun y c h=>?_,fun p hp=>absurd (show p∈([]:List (Addr × Obj)) from hp) (by simp),e0.hok.kept hk,?_⟩
  · exact name_of_addr x.apart (abb h1) (abb h2)
  · have hy:scope.names.lookup y=some .cell∨scope.names.lookup y=some .free:=hy;rcases hy with hy|hy
    · exact pR hy
    · exact absurd rfl (S.nofree _ (abb hy))
  · exact abg (x.above y c (abb h))
  · have hi:i < vs.length:=by
      unfold start at h2;by_cases hi:i < vs.length
      · exact hi
      · rw [List.getElem?_append_right (by simpa using hi)] at h2;rw [List.getElem?_replicate] at h2;split at h2 <;> cases h2
    have ha:vs[i]?=some v:=by
      unfold start at h2;rw [List.getElem?_append_left (by simpa using hi),aaL] at h2;cases e:vs[i]? with
      | none=>rw [e] at h2;cases h2
      | some a=>rw [e] at h2;cases h2;rfl
    obtain ⟨u,hu,rv⟩:=r.get ha;have hp:ps[i]?=some y:=by
      rw [← S.pre,abE (by lia)];exact h1
    have ndP:ps.Nodup:=by rw [← S.pre];exact S.nd.sublist (List.take_sublist _ _)
    refine ⟨u,rv,?_⟩;rcases S.par y (aax hp) with k|k
    · exact .inl ⟨k,mT ndP hp hu k⟩
    · obtain ⟨c,e⟩:=pR (n:=s.heap.objs.size+1) k;refine .inr ⟨.inl k,c,e,?_⟩;have q:=x.cell y c e;rw [mV ndP hp hu (by show scope.names.lookup y≠_;rw [k];decide)] at q;exact q
  · exact e0.hok.fresh (abg (x.above y c (abb h)))
  · unfold start;show _=N.length;rw [aap,aaf,aa1];lia
theorem uS {CX:CXT} {P:Program} {w:World} {K:aaa} {mg:Str→Option Value} {base:Heap} {k:Nat} {f:Addr} {name qual:Str} {params:Arguments} {body:List Stmt} {scope:Scope} {dV kV doc pm cdv ct oc:Value} {an od:Option Addr}
    {osl:Array (Option Value)} {N ps:List Str} {sp:Sp} (lk:K.lookup f=some ⟨oc,od,.func (aaW name qual params body scope dV kV doc pm an cdv ct),osl⟩) (hcd:abf K cdv qual=true) (S:FnScope N ps scope)
    (len:∀ vs H Q E,sp vs H Q E→vs.length=ps.length)
    (hbody:∀ (A:Around) (outer:List Env) (s:Shared) (H:Hp) (vs:List V) (Q:VK) (E:XK),Room k (A.deeper (envOfC qual scope s.heap.objs.size f cdv))→sp vs H Q E →
      ∃ t,PSs (kW CX P w K mg base N qual scope f cdv A outer s H E) body t∧t { nx:=fun _ H'=>Q .non H',rt:=Q } (start N vs) H) :
    FnOk P w K mg base CX (k+1) f (aaW name qual params body scope dV kV doc pm an cdv ct) ps sp:=by
  refine ⟨len,fun A outer s H args us vs Q E hr e0 hb r hsp=>?_⟩;have hl:=len _ _ _ _ hsp;have KX:K.In s.heap:=e0.mod.kin.keeps fun b o e=>(e0.bs b o e).1;have lim:s.heap.NoLimit:=e0.mod.nolimit.keeps fun b o e=>(e0.bs b o e).1;have hkind:∀ y∈ps.zip us,scope.names.lookup y.1=some .local∨(scope.names.lookup y.1=some .cell∧((cellsFrom (s.heap.objs.size+1) scope.names []).lookup y.1).isSome=true):=fun ⟨n,v⟩ hy=>by
    rcases S.par n (List.of_mem_zip hy).1 with q|q
    · exact .inl q
    · exact .inr ⟨q,ack _ _ _ (.inl q)⟩
  refine codeAny_call_function hr.depth (KX _ _ lk) rfl S.co S.gen rfl (PySem.W.codeRec_of KX hcd) (hb _ _ _ _ ?_);refine wpAny_newFunctionEnv_cells S.kind hkind fun env he s1 x=>?_;subst he;refine ⟨lim.keeps x.toInCall.keep,codeAny_func ?_⟩;obtain ⟨t,ht,hq⟩:=hbody A outer s H vs Q E (hr.deeper _) hsp;have I:Inv (kW CX P w K mg base N qual scope f cdv A outer s H E) [] (start N vs) H s1:=mI S hr.hd e0 hl r x;refine wpAny_mono (ht [] s1 (start N vs) H _ I hq) (fun fl s' hs=>?_) fun e s' hs=>hs;have fin:∀ {σ':St} {H':Hp} {v:V} {u:Value},Inv (kW CX P w K mg base N qual scope f cdv A outer s H E) [] σ' H' s'→RelV v u→Q v H'→CE outer P w H s Q u s' :=
    fun {σ' H' v u} J rv q=>⟨v,H',J.os,J.bare,J.base,J.hok,rv,q⟩
  cases fl with
  | ret u =>
    obtain ⟨v,σ',H',J,rv,q⟩:=hs;exact fin J rv q
  | next =>
    obtain ⟨σ',H',J,q⟩:=hs;exact fin (v:=V.non) (u:=Value.none) J rfl q
  | brk =>
    obtain ⟨_,_,_,q⟩:=hs;exact abq q
  | cont =>
    obtain ⟨_,_,_,q⟩:=hs;exact abq q
open PySem PySem.Spec PyProof.Rows
section
variable {X:Cx} {x:Str} {p pos:Pos} {e:Expr} {es:List Expr} {t:TA} {id T:String} {r:List V→Hp→VK→Prop}
def tCB (r:List V→Hp→VK→Prop) (t:TA):TE:=fun σ H Q=>t σ H fun vs H1=>r vs H1 Q
theorem aA (hc:eW X (.builtin id) r) (hg:Gl X x) (hm:X.mg x=none) (hv:bootBuiltins x=some (.builtin id)) (ha:PA X (e :: es) t) (hn:x ≠ "__name__":=by decide) (hdb:(x == ("__debug__":Str))=false:=by decide)
    (he:starEach (e :: es) X.env=(false,eval e X.env) :: starEach es X.env:=by rfl) (hpl:(backTo pos (starEach es X.env)).any (·.1)=false:=by rfl):PE X (.Call (.Name x p) (e :: es) [] pos) (tCB r t):=by
  intro pins s σ H Q I h;refine wpAny_Call_Name_kw (jq I hg hm hv ?_ hn hdb);exact PyProof.Rows.callWith_builtin1 (thn (ha pos pins s σ H _ I h) fun us s1 ⟨vs,H1,I1,r1,q1⟩=>hc pins s1 σ H1 vs us Q I1 r1 q1) he hpl
theorem mo (hc:eW X (.type T) r) (hg:Gl X x) (hm:X.mg x=none) (hv:bootBuiltins x=some (.type T)) (ha:PA X (e :: es) t) (hn:x ≠ "__name__":=by decide) (hdb:(x == ("__debug__":Str))=false:=by decide)
    (he:starEach (e :: es) X.env=(false,eval e X.env) :: starEach es X.env:=by rfl) (hpl:(backTo pos (starEach es X.env)).any (·.1)=false:=by rfl):PE X (.Call (.Name x p) (e :: es) [] pos) (tCB r t):=by
  intro pins s σ H Q I h;refine wpAny_Call_Name_kw (jq I hg hm hv ?_ hn hdb);exact abR (thn (ha pos pins s σ H _ I h) fun us s1 ⟨vs,H1,I1,r1,q1⟩=>hc pins s1 σ H1 vs us Q I1 r1 q1) he hpl
end
end L2
namespace HT
open PySem PyProof.Rows
def lexLt:List Int→List Int→Bool
  | [],[]=>false
  | [],_ :: _=>true
  | _ :: _,[]=>false
  | x :: xs,y :: ys=>if x=y then lexLt xs ys else decide (x < y)
theorem qH (x y:Int) (xs ys:List Int):lexLt (x :: xs) (y :: ys)=if x=y then lexLt xs ys else decide (x < y):=rfl
theorem lexLt_nil_nil:lexLt [] []=false:=rfl
theorem kJ (y:Int) (ys:List Int):lexLt [] (y :: ys)=true:=rfl
theorem kK (x:Int) (xs:List Int):lexLt (x :: xs) []=false:=rfl
theorem uV (A:Around) (s:Shared) (a:Int) (t:Tok) (c:Int) (u:Tok):∃ e,SeqAt.EqAt A s (.int a t) (.int c u) e∧(e=true↔a=c) :=
  ⟨(a == c),ach a t c u,by simp⟩
theorem t8 (A:Around) (s:Shared) (a:Int) (t:Tok) (c:Int) (u:Tok) (prog:Program) (w:World) (E:Value→Shared→Prop) (Q:Value→Shared→Prop) (h:Q (.bool (decide (a < c))) s) :
    wpAny (model prog w) A (richCompare .Lt (.int a t) (.int c u)) Q E s :=
  (PyProof.Rows.lt_int h:wpAny (model prog w) A (compareOp .Lt (.int a t) (.int c u)) Q E s)
section
open PySem.SeqAt
open PySem.AutoSeq1 (wpAny_loadPart')
open PySem.MeetsSeq PySem.MeetsSeq2 PySem.MeetsSeq3
theorem lA (l b:Addr) (items items2:Array Value) (n n2:Nat) (dd dd2:Option Addr) (sl sl2:Array (Option Value)) (ns ms:List Int) (hi:IntsAre items.toList ns) (hj:IntsAre items2.toList ms) :
    Meets (Builtin.«tuple.__lt__» ⟨[.ref l,.ref b],[]⟩)
      (fun _ R s=>s.heap.get? l=some { cls:=.type "tuple",dict:=dd,data:=.seq items n,slots:=sl }∧s.heap.get? b=some { cls:=.type "tuple",dict:=dd2,data:=.seq items2 n2,slots:=sl2 } ∧
        R (.ok (.ret (.bool (lexLt ns ms)))) s) :=
  .of_wp fun prog w A R s h=>by
    obtain ⟨hp,g,d,tk,os⟩:=s;obtain ⟨hl,hb,h⟩:=h;have f2:=AutoSeq1.sub_tuple_tuple;have z1:items.size=ns.length:=by rw [← hi.length];simp
    have z2:items2.size=ms.length:=by rw [← hj.length];simp
    wp_walk using wpAny_loadPart' hl,wpAny_loadPart' hb,wpAny_forIn_list _ (fun dY b s'=>b.1=none∧s'=⟨hp,g,d,tk,os⟩∧∃ (vs ws:List Value) (ns' ms':List Int),dY=vs.zip ws ∧
      IntsAre vs ns'∧IntsAre ws ms'∧ns'.length+items2.size=ms'.length+items.size∧R (.ok (.ret (.bool (lexLt ns' ms')))) ⟨hp,g,d,tk,os⟩) _
    case turn =>
      rintro ⟨y,x⟩ dY b s' ⟨hb',rfl,vs,ws,ns',ms',hz,hvi,hwi,hlen,hR⟩;cases hvi with
      | nil=>rw [List.zip_nil_left] at hz;cases hz
      | cons a t hvi' =>
        cases hwi with
        | nil=>rw [List.zip_nil_right] at hz;cases hz
        | cons c u hwi' =>
          rw [List.zip_cons_cons] at hz;injection hz with hyx hrest
          injection hyx with hy hx
          subst hy hx;rw [qH] at hR;simp only [aaS] at hlen;obtain ⟨e,he,hiff⟩:=uV A.in1 ⟨hp,g,d,tk,os⟩ a t c u;refine wpAny_bind (he prog w _ _ ?_);cases e with
          | true =>
            rw [if_pos (hiff.mp rfl)] at hR
            wp_walk
            exact ⟨rfl,rfl,_,_,_,_,hrest,hvi',hwi',by lia,hR⟩
          | false =>
            rw [if_neg (fun q=>absurd (hiff.mpr q) aal)] at hR;have hri:=t8 A.in1 ⟨hp,g,d,tk,os⟩ a t c u prog w
            wp_walk using hri
            exact ⟨_,rfl,by simpa using hR⟩
    case fin =>
      rintro ⟨b1,b2⟩ s' ⟨hb',rfl,vs,ws,ns',ms',hz,hvi,hwi,hlen,hR⟩;simp only at hb';subst hb';have hv:lexLt ns' ms'=decide (items.size < items2.size):=by
        cases hvi with
        | nil =>
          cases hwi with
          | nil =>
            simp only [abF] at hlen;rw [lexLt_nil_nil];exact (decide_eq_false (by lia)).symm
          | cons c u hw =>
            simp only [abF,aaS] at hlen;rw [kJ];exact (decide_eq_true (by lia)).symm
        | cons a t hv =>
          cases hwi with
          | nil =>
            simp only [abF,aaS] at hlen;rw [kK];exact (decide_eq_false (by lia)).symm
          | cons c u hw =>
            rw [List.zip_cons_cons] at hz;cases hz
      rw [hv] at hR
      wp_walk
      exact ⟨_,rfl,by simpa [Builtin.Tuple.tupleCompareSizes] using hR⟩
    case h =>
      exact ⟨rfl,rfl,items.toList,items2.toList,ns,ms,rfl,hi,hj,by lia,h⟩
end
section
variable {prog:Program} {w:World} {A:Around} {E:Value→Shared→Prop} {s:Shared}
theorem lt_tupInts {l b:Addr} {items items2:Array Value} {ns ms:List Int} {Q:Value→Shared→Prop} (hl:IsTup s.heap l items) (hb:IsTup s.heap b items2) (hi:IntsAre items.toList ns) (hj:IntsAre items2.toList ms)
    (hu:A.units < cLine) (h:Q (.bool (lexLt ns ms)) s):wpAny (model prog w) A (compareOp .Lt (.ref l) (.ref b)) Q E s:=by
  obtain ⟨⟨cls,dd,data,sl⟩,ho,hc,n,hd⟩:=id hl;obtain ⟨⟨cls2,dd2,data2,sl2⟩,ho2,hc2,n2,hd2⟩:=id hb;simp only at hc hd hc2 hd2;subst hc hd hc2 hd2;exact richCompare_meets_room (op:=.Lt) ⟨_,ho,rfl⟩ ⟨_,ho2,rfl⟩ PySem.F.slot_tuple_lt PySem.F.entry_tuple_lt (PySem.F.args_tuple_lt_2 _ _) (lA l b items items2 n n2 dd dd2 sl sl2 ns ms hi hj)
    ⟨ho,ho2,show Value.bool (lexLt ns ms)≠Value.notImplemented∧Q (.bool (lexLt ns ms)) s from ⟨(fun x=>nomatch x),h⟩⟩ hu
def sIx (n d:Nat):Option Int→Nat
  | none=>d
  | some v=>if v < 0 then (v+(n:Int)).toNat else min v.toNat n
end
end HT
namespace L2
open PySem PySem.Spec PyProof.Rows
abbrev TO:=St→Hp→(Option Int→Hp→Prop)→Prop
def PO (X:Cx) (e:Option Expr) (t:TO):Prop :=
  ∀ (pins:List (Addr × Obj)) (s:Shared) (σ:St) (H:Hp) (Q:Option Int→Hp→Prop),Inv X pins σ H s→t σ H Q →
    wpAny (model X.prog X.w) X.A (evalPart e X.env) (fun u s'=>∃ o H',Inv X pins σ H' s'∧IsPart u o∧Q o H') X.xe s
def vF:TO:=fun _ H Q=>Q none H
def x5 (t:TE):TO:=fun σ H Q=>t σ H fun x H1=>∃ i,x=.int i∧Q (some i) H1
theorem fJ {ns:List Int}:∀ {us:List Value},Vals (ns.map V.int) us→IntsAre us ns:=by
  induction ns with
  | nil=>intro us r;rw [List.map_nil] at r;cases r;exact .nil
  | cons n ns ih =>
    intro us r;rw [aaO] at r;cases r with
    | cons r1 r2 =>
      obtain ⟨t,e⟩:=r1;subst e;exact .cons n t (ih r2)
section
variable {X:Cx} {e:Expr} {te:TE} {lo hi:Option Expr} {tl th:TO} {pos p2:Pos}
theorem gC:PO X none vF:=by
  intro pins s σ H Q I h;rw [evalPart_none];exact wpAny_pure ⟨none,H,I,.none,h⟩
theorem gB (h:PE X e te):PO X (some e) (x5 te):=by
  intro pins s σ H Q I hw;rw [evalPart_some];refine thn (h pins s σ H _ I hw) fun u s1 ⟨x,H1,I1,r1,q1⟩=>?_;obtain ⟨i,rfl,q⟩:=q1;obtain ⟨t,rfl⟩:=r1;exact ⟨some i,H1,I1,.int i t,q⟩
def SlR (X:Cx) (r:V→Option Int→Option Int→Hp→VK→Prop):Prop :=
  ∀ (pins:List (Addr × Obj)) (s:Shared) (σ:St) (H:Hp) (x:V) (v vl vu:Value) (lo hi:Option Int) (sl:Addr) (Q:VK),Inv X pins σ H s→RelV x v→s.heap.IsSliceOf sl vl vu .none→IsPart vl lo→IsPart vu hi→r x lo hi H Q →
    ∃ T id,typeLookup (.type T) "__getitem__" = pure (some (.builtin id))∧s.TypeIs v T∧wpAny (model X.prog X.w) X.A (getItem v (.ref sl)) (EP X pins σ Q) X.xe s
def tSl (r:V→Option Int→Option Int→Hp→VK→Prop) (te:TE) (tl th:TO):TE:=fun σ H Q=>te σ H fun x H1=>tl σ H1 fun l H2=>th σ H2 fun u H3=>r x l u H3 Q
theorem eJ {r:V→Option Int→Option Int→Hp→VK→Prop} (hr:SlR X r) (he:PE X e te) (hl:PO X lo tl) (hu:PO X hi th):PE X (.Subscript e (.Slice lo hi none p2) pos) (tSl r te tl th):=by
  intro pins s σ H Q I h;refine Subscript_ (thn (he pins s σ H _ I h) fun v s1 ⟨x,H1,I1,r1,q1⟩=>?_);refine wpAny_Slice (thn (hl pins s1 σ H1 _ I1 q1) fun vl s2 ⟨l,H2,I2,pl,q2⟩=>thn (hu pins s2 σ H2 _ I2 q2) fun vu s3 ⟨u,H3,I3,pu,q3⟩=>?_);rw [evalPart_none];refine wpAny_pure ?_;have I4:Inv X pins σ H3 { s3 with heap:=s3.heap.push { cls:=.type "slice",data:=.fields #[vl,vu,.none] } }:=I3.kept (t':=s3.toks) fun b ob q=>aad _ q;obtain ⟨T,id,hT,ht,hg⟩:=hr pins { s3 with heap:=s3.heap.push { cls:=.type "slice",data:=.fields #[vl,vu,.none] } } σ H3 x v vl vu l u s3.heap.objs.size Q I4 r1 (Heap.IsSliceOf.new ..) pl pu q3;show wpAny (model X.prog X.w) X.A (subscriptTail e (.Slice lo hi none p2) v (.ref s3.heap.objs.size)) (EP X pins σ Q) X.xe { s3 with heap:=s3.heap.push { cls:=.type "slice",data:=.fields #[vl,vu,.none] } };exact tail_any (ops:=[.ref s3.heap.objs.size,v]) ht hT hg (by with_unfolding_all rfl)
def ju (xs:List V) (lo hi:Option Int):List V:=(xs.drop (HT.sIx xs.length 0 lo)).take (HT.sIx xs.length xs.length hi - HT.sIx xs.length 0 lo)
theorem pO (xs:List V) (lo hi:Option Int):(ju xs lo hi).length≤xs.length:=by
  unfold ju;rw [aas,aaY];lia
end
open PySem PySem.Spec PyProof.Rows
def ixN (n:Nat) (i:Int):Option Nat:=if 0≤i then (if i < n then some i.toNat else none) else if -(n:Int)≤i then some (i+n).toNat else none
def atI {α:Type} (xs:List α) (i:Int):Option α:=(ixN xs.length i).bind fun j=>xs[j]?
theorem rG {n:Nat} {i:Int} {j:Nat} (h:ixN n i=some j):seqIndex? i n=some j∧j < n∧-(n:Int)≤i∧i < n:=by
  unfold ixN at h;by_cases h0:0≤i
  · rw [if_pos h0] at h;by_cases h1:i < n
    · rw [if_pos h1] at h;have e:i.toNat=j:=aaR h;exact ⟨by rw [seqIndex_of h0 h1,e],by lia,by lia,h1⟩
    · rw [if_neg h1] at h;cases h
  · rw [if_neg h0] at h;by_cases h1:-(n:Int)≤i
    · rw [if_pos h1] at h;have e:(i+n).toNat=j:=aaR h;exact ⟨by rw [seqIndex_neg (by lia) h1,e],by lia,h1,by lia⟩
    · rw [if_neg h1] at h;cases h
theorem on {α:Type} {xs:List α} {i:Int} {v:α} (h:atI xs i=some v):∃ j,seqIndex? i xs.length=some j∧xs[j]?=some v∧j < xs.length∧-(xs.length:Int)≤i∧i < xs.length:=by
  unfold atI at h;cases e:ixN xs.length i with
  | none=>rw [e] at h;cases h
  | some j =>
    rw [e] at h;obtain ⟨h1,h2,h3,h4⟩:=rG e;exact ⟨j,h1,h,h2,h3,h4⟩
theorem iN {α:Type} {xs:List α} {j:Nat} {v:α} (h:xs[j]?=some v):atI xs (j:Int)=some v:=by
  have hj:j < xs.length:=(aak.mp h).1;have e:ixN xs.length (j:Int)=some j:=by
    unfold ixN;rw [if_pos (by lia),if_pos (by lia)];simp
  unfold atI;rw [e];exact h
def ww (b:Expr):Prop:=∀ o i,subscripted b false o i=operate [o,i] (getItem o i)
def IxR (X:Cx) (r:R2):Prop :=
  ∀ (value slice:Expr) (pins:List (Addr × Obj)) (s:Shared) (σ:St) (H:Hp) (x y:V) (v u:Value) (Q:VK),Inv X pins σ H s→RelV x v→RelV y u→r x y H Q →
    subscripted slice false v u=operate [v,u] (getItem v u)→wpAny (model X.prog X.w) X.A (subscriptTail value slice v u) (EP X pins σ Q) X.xe s
def MtR (X:Cx) (id:String) (r:V→List V→Hp→VK→Prop):Prop :=
  ∀ (pins:List (Addr × Obj)) (s:Shared) (σ:St) (H:Hp) (x:V) (xs:List V) (v:Value) (us:List Value) (Q:VK),Inv X pins σ H s→RelV x v→Vals xs us→r x xs H Q →
    wpAny (model X.prog X.w) X.A (call (.builtin id) (v :: us)) (EP X pins σ Q) X.xe s
section
variable {X:Cx} {a b:Expr} {ta tb:TE} {pos:Pos}
theorem aI {r:R2} (hr:IxR X r) (ha:PE X a ta) (hb:PE X b tb) (hs:ww b):PE X (.Subscript a b pos) (tOp r ta tb):=by
  intro pins s σ H Q I h;exact Subscript_ (xQ ha hb I h fun v u s2 x y H2 I2 rx ry q=>hr a b pins s2 σ H2 x y v u Q I2 rx ry q (hs _ _))
def za (K:aaa):R2:=fun x y H Q=>∃ p xs i v,x=.ref p∧y=.int i∧SqL K H p xs∧atI xs i=some v∧Q v H
def xi (K:aaa):R2:=fun x y H Q=>∃ p xs i v,x=.ref p∧y=.int i∧SqT K H p xs∧atI xs i=some v∧Q v H
def y_:R2:=fun x y H Q=>∃ z i c,x=.str z∧y=.int i∧z.length≤sizeLine∧atI z.cps.toList i=some c∧Q (.str ⟨#[c]⟩) H
theorem aR:IxR X (za X.K):=by
  intro value slice pins s σ H x y v u Q I rx ry h hs;obtain ⟨p,xs,i,z,rfl,rfl,hq,he,q⟩:=h;cases rx;obtain ⟨t,rfl⟩:=ry;obtain ⟨its,r,pl,hz⟩:=I.list hq;obtain ⟨j,h1,h2,h3,h4,h5⟩:=on he;obtain ⟨w,ew,rw'⟩:=r.get h2;have hl:=r.length;have hn:=il;have fin:EP X pins σ Q w s:=⟨z,H,I,rw',q⟩
  by_cases h0:0≤i
  · have hj:i.toNat=j:=by
      rw [seqIndex_of h0 h5] at h1;exact aaR h1
    exact item_listR pl.isList h0 (by lia) (by rw [hj];simpa using ew) fin hs
  · have hj:(i+(its.toArray.size:Int)).toNat=j:=by
      rw [seqIndex_neg (by lia) h4] at h1;rw [aah,← hl];exact aaR h1
    exact subscriptTail_builtinR (x:=w) pl.isList.typeIs slot_list_getitem.lookup
      (wpAny_getItem_list_neg (Q:=fun r s'=>r=w∧EP X pins σ Q r s') pl.isList (by lia) (by rw [aah] <;> lia) (by lia) (by rw [hj];simpa using ew) ⟨rfl,fin⟩) hs
theorem aT:IxR X (xi X.K):=by
  intro value slice pins s σ H x y v u Q I rx ry h hs;obtain ⟨p,xs,i,z,rfl,rfl,hq,he,q⟩:=h;cases rx;obtain ⟨t,rfl⟩:=ry;obtain ⟨its,r,pl,hz⟩:=I.tuple hq;obtain ⟨j,h1,h2,h3,h4,h5⟩:=on he;obtain ⟨w,ew,rw'⟩:=r.get h2;have hl:=r.length;have hn:=il;have fin:EP X pins σ Q w s:=⟨z,H,I,rw',q⟩
  exact subscriptTail_builtinR (x:=w) pl.typeIs slot_tuple_getitem.lookup
    (getItem_tuple (j:=j) (Q:=fun r s'=>r=w∧EP X pins σ Q r s') pl (by lia) (by lia) (by rw [aah,← hl];exact h1) (by simpa using ew) ⟨rfl,fin⟩) hs
theorem xI:IxR X y_:=by
  intro value slice pins s σ H x y v u Q I rx ry h hs;obtain ⟨z,i,c,rfl,rfl,hz,he,q⟩:=h;obtain ⟨t,rfl⟩:=rx;obtain ⟨t',rfl⟩:=ry;obtain ⟨j,h1,h2,h3,h4,h5⟩:=on he;have hl:z.cps.toList.length=z.length:=by simp [Str.length]
  rw [hl] at h1 h4 h5;have hn:=il;exact tail_any (typeIs_str s z t) slot_str_getitem.lookup (getItem_str (c:=c) (by
    have e1:decide (i < -(2 ^ 63:Int))=false:=decide_eq_false (by lia);have e2:decide (i ≥ 2 ^ 63)=false:=decide_eq_false (by lia);rw [e1,e2,Bool.or_false]) (by rw [h1];simpa using h2) ⟨.str ⟨#[c]⟩,H,I.tok _,⟨_,rfl⟩,q⟩) hs
theorem qG (its:List Value) (n j:Nat) (u:Value):aaU (·.setIfInBounds j u) { cls:=.type "list",data:=.seq its.toArray n }={ cls:=.type "list",data:=.seq (its.set j u).toArray n }:=by
  simp [aaU]
theorem Inv.lst {pins:List (Addr × Obj)} {σ:St} {H:Hp} {s:Shared} {p:Addr} {xs:List V} (I:Inv X pins σ H s) (h:H p=some (.lst xs)) :
    ∃ (its:List Value) (n:Nat),Vals xs its∧s.heap.get? p=some { cls:=.type "list",data:=.seq its.toArray n }∧xs.length≤sizeLine:=by
  obtain ⟨z,its,n,r,e⟩:=I.hok p _ h;exact ⟨its,n,r,e,z⟩
theorem Inv.lstUpd {pins:List (Addr × Obj)} {σ:St} {H:Hp} {s:Shared} {p:Addr} {xs ys:List V} {its its':List Value} {n n':Nat} {f:Obj→Obj} (I:Inv X pins σ H s) (h:H p=some (.lst xs))
    (ho:s.heap.get? p=some { cls:=.type "list",data:=.seq its.toArray n }) (hf:f { cls:=.type "list",data:=.seq its.toArray n }={ cls:=.type "list",data:=.seq its'.toArray n' }) (r:Vals ys its') (hz:ys.length≤sizeLine) (t:Nat) :
    Inv X pins σ (upd H p (.lst ys)) { s with heap:=s.heap.update p f,toks:=t }:=by
  have e:(s.heap.update p f).get? p=some { cls:=.type "list",data:=.seq its'.toArray n' }:=by
    rw [Heap.get?_update_self f ho (by rw [hf] <;> rfl),hf]
  refine I.write (x:=p) (e:=p) (by rw [h];trivial) (.inl rfl) (fun b u hb q=>(Heap.get?_update_other _ _ (ab3 hb)).trans q) ⟨_,e⟩ ?_;exact ⟨hz,its',n',r,e⟩
def yh:V→V→V→Hp→(Hp→Prop)→Prop:=fun o i v H Q=>∃ p xs k j,o=.ref p∧i=.int k∧H p=some (.lst xs)∧ixN xs.length k=some j∧Q (upd H p (.lst (xs.set j v)))
theorem oz:yG X yh:=by
  intro pins s σ H o i v ov iv u Q I ro ri rv h;obtain ⟨p,xs,k,j,rfl,rfl,hp,hj,q⟩:=h;cases ro;obtain ⟨t,rfl⟩:=ri;obtain ⟨its,n,r,ho,hz⟩:=I.lst hp;obtain ⟨h1,h2,h3,h4⟩:=rG hj;have hl:=r.length;have hn:=il;have I':Inv X pins σ (upd H p (.lst (xs.set j v))) { s with heap:=s.heap.update p (aaU (·.setIfInBounds j u)) } :=
    I.lstUpd hp ho (qG its n j u) (r.set rv j) (by rw [List.length_set];exact hz) s.toks
  by_cases h0:0≤k
  · have hk:k.toNat=j:=by
      rw [seqIndex_of h0 h4] at h1;exact aaR h1
    exact PySem.W.ki_setAt ho h0 (by lia) (by rw [aah,← hl];exact h4) (by rw [hk];exact ⟨_,I',q⟩)
  · have hk:(k+(its.toArray.size:Int)).toNat=j:=by
      rw [seqIndex_neg (by lia) h3] at h1;rw [aah,← hl];exact aaR h1
    exact PySem.W.ki_setBack ho (by lia) (by rw [aah,← hl];exact h3) (by lia) (by rw [hk];exact ⟨_,I',q⟩)
theorem nA (lo hi:Option Int) (n:Nat):(sliceBounds lo hi none n).1=((HT.sIx n 0 lo:Nat):Int)∧(sliceBounds lo hi none n).2.1=((HT.sIx n n hi:Nat):Int)∧(sliceBounds lo hi none n).2.2=1:=by
  refine ⟨?_,?_,rfl⟩
  · cases lo with
    | none=>simp [sliceBounds,HT.sIx]
    | some i =>
      simp only [sliceBounds,HT.sIx,Option.getD_none,show (1:Int) > 0 by decide,if_true];by_cases h:i < 0
      · simp only [h,if_true] <;> lia
      · simp only [h,if_false] <;> lia
  · cases hi with
    | none=>simp [sliceBounds,HT.sIx]
    | some i =>
      simp only [sliceBounds,HT.sIx,Option.getD_none,show (1:Int) > 0 by decide,if_true];by_cases h:i < 0
      · simp only [h,if_true] <;> lia
      · simp only [h,if_false] <;> lia
theorem lB (its:List Value) (lo hi:Option Int):slicePick its.toArray lo hi none=((its.drop (HT.sIx its.length 0 lo)).take (HT.sIx its.length its.length hi - HT.sIx its.length 0 lo)).toArray:=by
  obtain ⟨h1,h2,h3⟩:=nA lo hi its.toArray.size;unfold slicePick;rw [h1,h2,h3];simp only [sliceRange_one,pick_run,aah] <;> rfl
def y3 (K:aaa):V→Option Int→Option Int→Hp→VK→Prop:=fun x lo hi H Q=>∃ a xs,x=.ref a∧SqL K H a xs∧∀ p,H p=none→Q (.ref p) (upd H p (.lst (ju xs lo hi)))
theorem gy:SlR X (y3 X.K):=by
  intro pins s σ H x v vl vu lo hi sl Q I rx hs pl pu h;obtain ⟨a,xs,rfl,hx,q⟩:=h;cases rx;obtain ⟨its,r,ht,hz⟩:=I.list hx;have hlen:=r.length;refine ⟨"list",_,slot_list_getitem.lookup,ht.isList.typeIs,?_⟩;refine wpAny_getItem_list_slice ht.isList hs pl pu .none (by simp) ?_ (by rw [aah] <;> lia);rw [lB,← hlen];refine ⟨.ref s.heap.objs.size,_,I.laid (t':=s.toks) (o:=.lst (ju xs lo hi)) (fun b ob q=>aad _ q) (aag _) ?_,rfl,q _ (I.hok.fresh (aag _))⟩;exact ⟨aaV (pO xs lo hi) hz,_,0,(r.drop (HT.sIx xs.length 0 lo)).take (HT.sIx xs.length xs.length hi - HT.sIx xs.length 0 lo),aaq _ rfl⟩
def gv:V→Bool
  | .non=>true
  | .bl _=>true
  | .int _=>true
  | .str _=>true
  | _=>false
def eqV:V→V→Bool
  | .non,.non=>true
  | .bl a,.bl b=>a == b
  | .bl a,.int b=>(if a then 1 else 0) == b
  | .int a,.bl b=>a == (if b then 1 else 0)
  | .int a,.int b=>a == b
  | .str a,.str b=>a == b
  | _,_=>false
theorem uW {A:Around} {s:Shared} {y x:V} {u v:Value} (ry:RelV y u) (rx:RelV x v) (fy:gv y=true) (fx:gv x=true):SeqAt.EqAt A s u v (eqV y x):=by
  cases y with
  | non =>
    cases ry;cases x with
    | non=>cases rx;exact SeqAt.EqAt.same _
    | bl b=>cases rx;exact SeqAt.EqAt.none_bool b
    | int b=>obtain ⟨t,rfl⟩:=rx;exact SeqAt.EqAt.none_int b t
    | str b=>obtain ⟨t,rfl⟩:=rx;exact SeqAt.EqAt.none_str b t
    | _=>exact absurd (show false=true from fx) aal
  | bl a =>
    cases ry;cases x with
    | non=>cases rx;exact SeqAt.EqAt.bool_none a
    | bl b=>cases rx;exact SeqAt.EqAt.bool_bool a b
    | int b=>obtain ⟨t,rfl⟩:=rx;exact SeqAt.EqAt.bool_int a b t
    | str b=>obtain ⟨t,rfl⟩:=rx;exact SeqAt.EqAt.bool_str a b t
    | _=>exact absurd (show false=true from fx) aal
  | int a =>
    obtain ⟨t',rfl⟩:=ry;cases x with
    | non=>cases rx;exact SeqAt.EqAt.int_none a t'
    | bl b=>cases rx;exact SeqAt.EqAt.int_bool a t' b
    | int b=>obtain ⟨t,rfl⟩:=rx;exact ach a t' b t
    | str b=>obtain ⟨t,rfl⟩:=rx;exact SeqAt.EqAt.int_str a t' b t
    | _=>exact absurd (show false=true from fx) aal
  | str a =>
    obtain ⟨t',rfl⟩:=ry;cases x with
    | non=>cases rx;exact SeqAt.EqAt.str_none a t'
    | bl b=>cases rx;exact SeqAt.EqAt.str_bool a t' b
    | int b=>obtain ⟨t,rfl⟩:=rx;exact SeqAt.EqAt.str_int a t' b t
    | str b=>obtain ⟨t,rfl⟩:=rx;exact SeqAt.EqAt.str_str a t' b t
    | _=>exact absurd (show false=true from fx) aal
  | _=>exact absurd (show false=true from fy) aal
def eqU (x:V) (u:Value):Bool:=match u with
  | .none=>eqV .non x
  | .bool b=>eqV (.bl b) x
  | .int i _=>eqV (.int i) x
  | .str z _=>eqV (.str z) x
  | _=>false
theorem uT {x y:V} {u:Value} (r:RelV y u) (f:gv y=true):eqU x u=eqV y x:=by
  cases y with
  | non=>cases r;rfl
  | bl b=>cases r;rfl
  | int i=>obtain ⟨t,rfl⟩:=r;rfl
  | str z=>obtain ⟨t,rfl⟩:=r;rfl
  | _=>exact absurd (show false=true from f) aal
theorem oo {x:V}:∀ {xs:List V} {us:List Value},Vals xs us→xs.all gv=true→us.any (eqU x)=xs.any fun y=>eqV y x
  | _,_,.nil,_=>rfl
  | y :: xs,u :: us,.cons r t,f=>by
    rw [List.all_cons,aa6] at f;rw [ace,ace,uT r f.1,oo t f.2]
theorem kI {A:Around} {s:Shared} {x:V} {v:Value} (rx:RelV x v) (fx:gv x=true):∀ {xs:List V} {us:List Value},Vals xs us→xs.all gv=true→∀ u∈us,SeqAt.EqAt A s u v (eqU x u)
  | _,_,.nil,_=>fun u hu=>by cases hu
  | y :: xs,u :: us,.cons r t,f=>fun u' hu=>by
    rw [List.all_cons,aa6] at f;rcases aam.mp hu with rfl|hu
    · rw [uT r f.1];exact uW r rx f.1 fx
    · exact kI rx fx t f.2 u' hu
def inV (x:V) (xs:List V):Bool:=xs.any fun y=>eqV y x
def rIn (K:aaa) (neg:Bool):R2:=fun x y H Q=>∃ p xs,y=.ref p∧(SqL K H p xs∨SqT K H p xs)∧gv x=true∧xs.all gv=true∧Q (.bl (if neg then !inV x xs else inV x xs)) H
theorem mB:OpR X (compareOp .In) (rIn X.K false):=by
  intro pins s σ H x y v u Q I rx ry h;obtain ⟨p,xs,rfl,hq,fx,fs,q⟩:=h;cases ry;rcases hq with hq|hq
  · obtain ⟨its,r,pl,hz⟩:=I.list hq;refine SeqAt.in_listAt (eqU x) pl.isList (fun w hw=>kI rx fx r fs w (by simpa using hw)) ⟨.bl _,H,I,rfl,?_⟩;rw [show its.toArray.any (eqU x)=its.any (eqU x) by simp,oo r fs];exact q
  · obtain ⟨its,r,pl,hz⟩:=I.tuple hq;refine SeqAt.in_tupleAt (eqU x) pl (fun w hw=>kI rx fx r fs w (by simpa using hw)) ⟨.bl _,H,I,rfl,?_⟩;rw [show its.toArray.any (eqU x)=its.any (eqU x) by simp,oo r fs];exact q
theorem aB:eW X (.builtin "len") (fun xs H Q=>∃ p ys,xs=[.ref p]∧(SqL X.K H p ys∨SqT X.K H p ys)∧Q (.int ys.length) H):=by
  intro pins s σ H xs us Q I r h;obtain ⟨p,ys,rfl,hq,q⟩:=h;obtain ⟨u,rfl,rx⟩:=jw r;cases rx;have hn:=il;rcases hq with hq|hq
  · obtain ⟨its,r',pl,hz⟩:=I.list hq;have hlen:=r'.length;exact Calls.call_len_list pl.isList (by simp only [aah] <;> lia) ⟨.int ys.length,H,I.tok _,⟨s.toks+1,by rw [aah,hlen]⟩,q⟩
  · obtain ⟨its,r',pl,hz⟩:=I.tuple hq;have hlen:=r'.length;exact len_tuple pl (by simp only [aah] <;> lia) ⟨.int ys.length,H,I.tok _,⟨s.toks+1,by rw [aah,hlen]⟩,q⟩
theorem iM:eW X (.builtin "len") (fun xs H Q=>∃ z,xs=[.str z]∧z.length≤sizeLine∧Q (.int z.length) H):=by
  intro pins s σ H xs us Q I r h;obtain ⟨z,rfl,hz,q⟩:=h;obtain ⟨u,rfl,t,rfl⟩:=jw r;have hn:=il;exact len_str (by lia) ⟨.int z.length,H,I.tok _,⟨_,rfl⟩,q⟩
def tyV (K:aaa) (T:String) (x:V) (H:Hp):Prop:=match x with
  | .str _=>T = "str"
  | .int _=>T = "int"
  | .ref p=>(T = "list"∧∃ xs,SqL K H p xs)∨(T = "tuple"∧∃ o,K.lookup p=some o∧o.cls=.type "tuple"∧o.dict=none) ∨
      (T = "dict"∧((∃ kvs,H p=some (.dK kvs))∨∃ kvs,H p=some (.dT kvs)))∨(T = "set"∧∃ S n,H p=some (.set S n))
  | _=>False
theorem tN {pins:List (Addr × Obj)} {σ:St} {H:Hp} {s:Shared} {T:String} {x:V} {v:Value} (I:Inv X pins σ H s) (r:RelV x v) (ty:tyV X.K T x H) :
    s.TypeIs v T∧∀ a,v=.ref a→∃ ob,s.heap.get? a=some ob∧ob.dict=none:=by
  cases x with
  | str z =>
    obtain ⟨t,rfl⟩:=r;cases (show T = "str" from ty);exact ⟨typeIs_str s z t,fun _ e=>nomatch e⟩
  | int i =>
    obtain ⟨t,rfl⟩:=r;cases (show T = "int" from ty);exact ⟨typeIs_int s i t,fun _ e=>nomatch e⟩
  | ref p =>
    cases r;rcases ty with ⟨rfl,xs,hq⟩|⟨rfl,o,hk,hc,hd⟩|⟨rfl,hk⟩|⟨rfl,S,n,hk⟩
    · obtain ⟨its,_,pl,_⟩:=I.list hq;refine ⟨pl.isList.typeIs,fun a e=>?_⟩;cases e;obtain ⟨o,n,e,c,hd,_⟩:=pl;exact ⟨o,e,hd⟩
    · refine ⟨⟨o,I.kIn p o hk,hc⟩,fun a e=>?_⟩;cases e;exact ⟨o,I.kIn _ o hk,hd⟩
    · have z:∃ o,s.heap.get? p=some o∧o.ExactDict:=by
        rcases hk with ⟨kvs,hk⟩|⟨kvs,hk⟩
        · obtain ⟨_,_,_,_,o,_,_,e,ex,_⟩:=I.hok p _ hk;exact ⟨o,e,ex⟩
        · obtain ⟨_,_,_,_,o,_,_,e,ex,_⟩:=I.hok p _ hk;exact ⟨o,e,ex⟩
      obtain ⟨o,e,ex⟩:=z;refine ⟨⟨o,e,ex.1⟩,fun a e2=>?_⟩;cases e2;exact ⟨o,e,ex.2.1⟩
    · obtain ⟨o,_,_,_,e,ex,_⟩:=I.hok p _ hk;refine ⟨⟨o,e,ex.1⟩,fun a e2=>?_⟩;cases e2;exact ⟨o,e,ex.2.1⟩
  | _=>exact abq ty
def yY (K:aaa) (T:String) (r:V→List V→Hp→VK→Prop) (to:TE):TE:=fun σ H Q=>to σ H fun x H1=>tyV K T x H1∧r x [] H1 Q
def tBM (K:aaa) (T:String) (r:V→List V→Hp→VK→Prop) (to:TE) (t:TA):TE:=fun σ H Q=>to σ H fun x H1=>tyV K T x H1∧t σ H1 fun xs H2=>r x xs H2 Q
variable {o e:Expr} {es:List Expr} {to:TE} {t:TA} {name:Str} {apos cpos:Pos} {T id:String} {r:V→List V→Hp→VK→Prop}
theorem xp (pa:PlainAttrs T) (slot:Slot T name id) (hty:typeOf (.builtin id)=pure (.type "method_descriptor")) (hm:MtR X id r) (ho:PE X o to)
    (hbase:attributeBase o name X.env (eval o X.env)=eval o X.env:=by rfl) (hline:(apos.endLine == cpos.line)=true:=by rfl):PE X (.Call (.Attribute o name apos) [] [] cpos) (yY X.K T r to):=by
  intro pins s σ H Q I h;refine wpAny_Call_method0_late hbase hline (thn (ho pins s σ H _ I h) fun v s1 ⟨x,H1,I1,r1,ty,q1⟩=>?_);obtain ⟨h1,h2⟩:=tN I1 r1 ty;exact ⟨T,id,pa,slot,hty,h1,h2,acj rfl (PySem.evalArgs_none (hm pins s1 σ H1 x [] v [] Q I1 r1 .nil q1))⟩
theorem mr (pa:PlainAttrs T) (slot:Slot T name id) (hty:typeOf (.builtin id)=pure (.type "method_descriptor")) (hm:MtR X id r) (ho:PE X o to) (ha:PA X (e :: es) t)
    (hbase:attributeBase o name X.env (eval o X.env)=eval o X.env:=by rfl)
    (hfew:((backTo cpos (starEach (e :: es) X.env)).all (fun x=>!x.1) && (backToKw cpos (keywordEach [] X.env)).all (fun x=>x.1.isSome)
      && decide ((e :: es).length+([]:List Keyword).length+(if ([]:List Keyword).isEmpty then 0 else 1) < 30))=true:=by rfl)
    (hline:(apos.endLine == cpos.line)=true:=by rfl) (hs:starEach (e :: es) X.env=(false,eval e X.env) :: starEach es X.env:=by rfl) (hplain:(backTo cpos (starEach es X.env)).any (·.1)=false:=by rfl) :
    PE X (.Call (.Attribute o name apos) (e :: es) [] cpos) (tBM X.K T r to t):=by
  intro pins s σ H Q I h;refine wpAny_Call_method_late hbase hfew hline rfl (thn (ho pins s σ H _ I h) fun v s1 ⟨x,H1,I1,r1,ty,q1⟩=>?_);obtain ⟨h1,h2⟩:=tN I1 r1 ty;refine ⟨T,id,pa,slot,hty,h1,h2,?_⟩;have hA:=ha cpos pins s1 σ H1 _ I1 q1;rw [hs] at hA ⊢;refine acj (by show (false || (backTo cpos (starEach es X.env)).any (·.1))=false;rw [hplain] <;> rfl) (Calls.evalArgs_plain ?_);exact thn hA fun us s2 ⟨vs,H2,I2,r2,q2⟩=>hm pins s2 σ H2 x vs v us Q I2 r1 r2 q2
end
open PySem PySem.Spec PyProof.Rows
def MtM (X:Cx) (id:String) (r:V→List V→Hp→VK→Prop):Prop :=
  ∀ (pins:List (Addr × Obj)) (s:Shared) (σ:St) (H:Hp) (x:V) (xs:List V) (v:Value) (us:List Value) (Q:VK),Inv X pins σ H s→RelV x v→Vals xs us→r x xs H Q →
    wpAny (model X.prog X.w) X.A (call (.builtin id) (v :: us)) (EP X pins σ Q) X.xe s
theorem Vals.one {x:V} {us:List Value} (h:Vals [x] us):∃ u,us=[u]∧RelV x u:=by
  cases h with
  | cons r t=>cases t;exact ⟨_,rfl,r⟩
theorem Vals.zero:∀ {us:List Value},Vals [] us→us=[]
  | _,.nil=>rfl
theorem Vals.dropLast {xs:List V} {us:List Value} (h:Vals xs us):Vals xs.dropLast us.dropLast:=by
  induction h with
  | nil=>exact .nil
  | cons r t ih =>
    cases t with
    | nil=>exact .nil
    | cons q t'=>exact .cons r ih
theorem Vals.reverse {xs:List V} {us:List Value} (h:Vals xs us):Vals xs.reverse us.reverse:=by
  induction h with
  | nil=>exact .nil
  | cons r t ih=>rw [acm,acm];exact Vals.append ih (.cons r .nil)
theorem Vals.rep {xs:List V} {us:List Value} (h:Vals xs us):∀ k:Nat,Vals (aao k xs).flatten (aao k us).flatten
  | 0=>.nil
  | k+1=>by
    rw [aba,aba,abr,abr];exact Vals.append h (Vals.rep h k)
theorem qN {α:Type} (l:List α):l.eraseIdx (l.length - 1)=l.dropLast:=by
  induction l with
  | nil=>rfl
  | cons a r ih =>
    cases r with
    | nil=>rfl
    | cons b r =>
      have e:(a :: b :: r).length - 1=((b :: r).length - 1)+1:=by
        have h1:(a :: b :: r).length=r.length+2:=rfl;have h2:(b :: r).length=r.length+1:=rfl;lia
      rw [e,List.eraseIdx_cons_succ,ih]
      all_goals rfl
theorem mK (its:List Value):∀ (k:Nat) (acc:List Value),
    List.foldl (fun x1 x2=>x1++x2) acc.toArray (aao k its.toArray)=(acc++(aao k its).flatten).toArray
  | 0,acc=>by simp
  | k+1,acc=>by
    have e:acc.toArray++its.toArray=(acc++its).toArray:=by simp
    have e2:(acc++its)++(aao k its).flatten=acc++(aao (k+1) its).flatten:=by
      rw [aba,abr,abC]
    rw [← e2,← mK its k (acc++its),← e,aba,List.foldl_cons]
section
variable {X:Cx} {pins:List (Addr × Obj)} {σ:St} {H:Hp} {s:Shared} {l b:Addr} {xs ys zs:List V}
theorem Inv.lset {its its':List Value} {n:Nat} {f:Array Value→Array Value} {t':Nat} (I:Inv X pins σ H s) (hH:H l=some (.lst xs))
    (e:s.heap.get? l=some { cls:=.type "list",data:=.seq its.toArray n }) (hf:f its.toArray=its'.toArray) (hv:Vals ys its') (hz:ys.length≤sizeLine) :
    Inv X pins σ (upd H l (.lst ys)) { s with heap:=s.heap.update l (aaU f),toks:=t' }:=by
  have q:=PySem.IsL.update e f;rw [hf] at q;refine I.write (x:=l) (e:=l) (by rw [hH];exact trivial) (.inl rfl) (fun b' u hb hu=>(Heap.get?_update_other s.heap (aaU f) (ab3 hb)).trans hu) ⟨_,q⟩ ?_;exact ⟨hz,its',_,hv,q⟩
theorem Inv.lnew {its:List Value} {t':Nat} (I:Inv X pins σ H s) (hv:Vals ys its) (hz:ys.length≤sizeLine) :
    Inv X pins σ (upd H s.heap.objs.size (.lst ys)) { s with heap:=s.heap.push { cls:=.type "list",data:=.seq its.toArray },toks:=t' } :=
  I.laid (fun _ _ q=>aad _ q) (aag _) ⟨hz,its,0,hv,aaq _ rfl⟩
theorem Inv.fresh (I:Inv X pins σ H s):H s.heap.objs.size=none:=I.hok.fresh (aag _)
theorem Inv.lstM (I:Inv X pins σ H s) (hH:H l=some (.lst xs)):xs.length≤sizeLine∧∃ (its:List Value) (n:Nat),Vals xs its∧xs.length=its.length∧s.heap.get? l=some { cls:=.type "list",data:=.seq its.toArray n }:=by
  obtain ⟨z,its,n,r,e⟩:=I.hok l _ hH;exact ⟨z,its,n,r,r.length,e⟩
theorem uq {n:Nat} (h:n≤sizeLine):ab4 n=false:=by
  unfold ab4;exact decide_eq_false (by lia)
end
section
variable {X:Cx}
def vK:V→List V→Hp→VK→Prop:=fun x vs H Q=>∃ l xs y,x=.ref l∧vs=[y]∧H l=some (.lst xs)∧xs.length < sizeLine∧Q .non (upd H l (.lst (xs++[y])))
theorem du:MtM X "list.append" vK:=by
  intro pins s σ H x vs v us Q I rx rv h;obtain ⟨l,xs,y,rfl,rfl,hH,hz,q⟩:=h;cases rx;obtain ⟨u,rfl,ru⟩:=rv.one;obtain ⟨z,its,n,r,hl,e⟩:=I.lstM hH;refine call_meets F.slot_list_append ⟨_,e,rfl⟩ F.entry_list_append (F.args_list_append_2 _ _) (PySem.list_append l its.toArray n u (by rw [aah];lia)) ⟨e,?_⟩;refine ⟨.non,_,I.lset (its':=its++[u]) hH e (by simp) (r.append (.cons ru .nil)) ?_,rfl,q⟩;rw [aap,aby];lia
def y8:V→List V→Hp→VK→Prop:=fun x vs H Q=>∃ l xs y,x=.ref l∧vs=[]∧H l=some (.lst xs)∧xs[xs.length - 1]?=some y∧Q y (upd H l (.lst xs.dropLast))
theorem xt:MtM X "list.pop" y8:=by
  intro pins s σ H x vs v us Q I rx rv h;obtain ⟨l,xs,y,rfl,rfl,hH,hy,q⟩:=h;cases rx;have hus:=rv.zero;subst hus;obtain ⟨z,its,n,r,hl,e⟩:=I.lstM hH;obtain ⟨u,hu,ru⟩:=r.get hy;have hy':its.toArray[its.toArray.size - 1]?=some u:=by
    show its.toArray[its.length - 1]?=some u;rw [← Array.getElem?_toList,← hl];exact hu
  refine call_meets F.slot_list_pop ⟨_,e,rfl⟩ F.entry_list_pop (F.args_list_pop_1 _) (MeetsSeq.list_pop_last l its.toArray n u hy' (by rw [aah];lia)) ⟨e,?_⟩;refine ⟨y,_,I.lset (its':=its.dropLast) hH e ?_ r.dropLast ?_,ru,q⟩
  · show its.toArray.eraseIdxIfInBounds (its.toArray.size - 1)=its.dropLast.toArray;rw [aah,List.eraseIdxIfInBounds_toArray,qN]
  · rw [List.length_dropLast];lia
def zb:R2:=fun x y H Q=>∃ l b xs zs,x=.ref l∧y=.ref b∧H l=some (.lst xs)∧H b=some (.lst zs)∧xs.length+zs.length≤sizeLine∧∀ p,H p=none→Q (.ref p) (upd H p (.lst (xs++zs)))
theorem cQ:OpR X (binaryOp .Add) zb:=by
  intro pins s σ H x y v u Q I rx ry h;obtain ⟨l,b,xs,zs,rfl,rfl,hH,hB,hz,q⟩:=h;cases rx;cases ry;obtain ⟨z,its,n,r,hl,e⟩:=I.lstM hH;obtain ⟨z2,its2,n2,r2,hl2,e2⟩:=I.lstM hB;refine PySem.P.add_list e e2 ?_ (by rw [aah,aah];lia);have ea:its.toArray++its2.toArray=(its++its2).toArray:=by simp
  rw [ea];exact ⟨.ref _,_,I.lnew (t':=s.toks) (r.append r2) (by rw [aap];lia),rfl,q _ I.fresh⟩
def y7:R2:=fun x y H Q=>∃ l k xs,x=.ref l∧y=.int k∧H l=some (.lst xs)∧-(2 ^ 63)≤k∧k < 2 ^ 63∧xs.length * k.toNat≤sizeLine ∧
  ∀ p,H p=none→Q (.ref p) (upd H p (.lst (aao k.toNat xs).flatten))
theorem v5 {α:Type} (xs:List α) (k:Nat):(aao k xs).flatten.length=k * xs.length:=by
  induction k with
  | zero=>simp
  | succ k ih=>rw [aba,abr,aap,ih,act,Nat.add_comm]
theorem qr:OpR X (binaryOp .Mult) y7:=by
  intro pins s σ H x y v u Q I rx ry h;obtain ⟨l,k,xs,rfl,rfl,hH,h1,h2,hz,q⟩:=h;cases rx;obtain ⟨t,rfl⟩:=ry;obtain ⟨z,its,n,r,hl,e⟩:=I.lstM hH;have hlen:its.toArray.size * k.toNat≤sizeLine:=by rw [aah,← hl];exact hz
  have hcap:¬ its.toArray.size * k.toNat > (2 ^ 63 - 1) / 8:=by
    have : (sizeLine:Nat)≤(2 ^ 63 - 1) / 8:=by decide
    lia
  have hfit:¬ (!Builtin.List.listFitsIndex k)=true:=by
    rw [fitsIndex_both h1 h2];exact aal
  have hlong:¬ ab4 (its.toArray.size * k.toNat)=true:=by
    rw [uq hlen];exact aal
  have hnew:List.foldl (fun x1 x2=>x1++x2) #[] (aao (if its.toArray.isEmpty=true then 0 else k.toNat) its.toArray)=(aao k.toNat its).flatten.toArray:=by
    have f0:∀ m:Nat,List.foldl (fun x1 x2=>x1++x2) #[] (aao m its.toArray)=(aao m its).flatten.toArray:=fun m=>by
      have:=mK its m [];rw [List.nil_append] at this;exact this
    rw [f0];cases its with
    | nil=>simp
    | cons a r'=>rw [if_neg (by simp)]
  refine wpAny_binaryOp_repeat_ref (T:="list") (U:="int") (by decide) ⟨_,e,rfl⟩ (fun s'=>typeIs_int s' k t) noFill_list_mul F.fills_int_mul F.slot_int_rmul repeat_list F.slot_int_index.lookup
    (call_meets F.slot_int_rmul (typeIs_int s k t) F.entry_int_rmul (F.args_int_rmul_2 _ _) (int___rmul___int_list k t l its.toArray n)
      ⟨e,rfl,⟨_,e,rfl⟩,call_meets F.slot_list_mul ⟨_,e,rfl⟩ F.entry_list_mul (F.args_list_mul_2 _ _) (AutoListH.list___mul___list_int_3 l its.toArray n k t hfit hcap hlong) ⟨e,?_⟩⟩)
  rw [hnew];exact ⟨.ref _,_,I.lnew (t':=s.toks) (r.rep k.toNat) (by rw [v5,Nat.mul_comm];exact hz),rfl,q _ I.fresh⟩
end
section
variable {prog:Program} {w:World} {A:Around} {E:Value→Shared→Prop} {s:Shared}
end
section
variable {X:Cx}
end
end L2
namespace Att
open PySem PySem.W PySem.Calls PyProof.Rows
theorem jU {P:Params} {h:Heap}:∀ (ns:List Int) (vs:List Value),WellAll P h vs (ns.map WData.int)→IntsAre vs ns:=by
  intro ns
  induction ns with
  | nil =>
    intro vs w;rw [List.map_nil] at w;cases w;exact .nil
  | cons n ns ih =>
    intro vs w;rw [aaO] at w;cases w with
    | cons a b =>
      cases a;exact .cons _ _ (ih _ b)
theorem si {l:OpenLaw} {n:Nat} (hn:l.most=some n) {P:Params} {h:Heap} {args:List WData} {vals:List Value}
    (hpre:l.row.toRowW.claim.pre args=true) (hwl:WellAll P h vals args) :
    ∃ a vs ns,vals=[Value.ref a]∧args=[WData.list (ns.map WData.int)]∧h.get? a=some { cls:=.type "list",data:=.seq vs.toArray }∧IntsAre vs ns∧ns.length≤n:=by
  have hsh:WShape.hasAll [] args [.list .int]=true:=(pre_splitW hpre).1;have hc:l.pre.holds [] { args:=args }=true:=(pre_splitW hpre).2;obtain ⟨d,r,rfl,h1,h2⟩:=hasAllW_cons hsh;obtain rfl:=hasAllW_nil h2;obtain ⟨xs,rfl,h3⟩:=hasW_list h1;obtain ⟨ns,rfl⟩:=items_int h3;have hlen:ns.length≤n:=by
    unfold OpenLaw.pre at hc;have h4:(WTm.not (.lt (.lit (.int (n:Int))) (.len (.arg 0)))).holds [] { args:=[.list (ns.map .int)] }=true:=by
      have h4:=(holds_andW hc).1;rw [hn] at h4;exact h4
    have h5:=condW_of h4 (w_not (w_lt w_lit (w_len_list (w_arg rfl))));rw [aaf] at h5;refine Nat.le_of_not_lt fun q=>?_;have q':(n:Int) < ((ns.length:Nat):Int):=by lia
    first
      | (rw [decide_eq_true q'] at h5;exact absurd h5 (by decide))
      | (simp at h5;lia)
  cases hwl with
  | cons w1 w2 =>
    cases w2;cases w1 with
    | list ho hall=>exact ⟨_,_,ns,rfl,rfl,ho,jU ns _ hall,hlen⟩
theorem sH (l:OpenLaw) (args:List WData):l.row.toRowW.claim.post args (.bool true) args=true :=
  postW_of (r:=l.row.toRowW) (X:=(true == true))
    (show WShape.has [] (.bool true) .bool=true by first|rfl|decide|simp [WShape.has,WShape.arms,WShape.armsAll])
    (show (WTm.eq .res (.lit (.bool true))).value [] { args:=args,res:=some (.bool true),after:=args }=some (.bool (true == true)) from w_eq_bool (w_res rfl) w_lit) rfl
theorem attach_call {l:OpenLaw} {n:Nat} {q:Program} {loose:List Str} {XP:(Str→Option Value)→Heap→Prop} {YP:World→Heap→Prop} {d:DefRec}
    (hn:l.most=some n) (hdf:d.params.defaults=[])
    (call:∀ (w:World) (s₀ s₁:Shared) (mg mb:Str→Option Value) (fa:Addr) (o:Obj) (pm cd doc:Value) (a:Addr) (vs:List Value) (ns:List Int),
      Ground q loose [] XP w s₀ mg mb s₁.heap→YP w s₁.heap →
      s₁.heap.get? fa=some o→o.data=.func (docDef d.name d.params d.body d.scope pm cd doc)→s₁.heap.CodeRec cd d.name→mg d.name=some (.ref fa) →
      s₁.heap.get? a=some { cls:=.type "list",data:=.seq vs.toArray }→IntsAre vs ns→ns.length≤n→s₁.gens=#[] →
      codeAny (model l.prog w) callerA (.call (.ref fa) ⟨[.ref a],[]⟩) (fun r s'=>r=.ok (.ret (.bool true))∧OldK s₁.heap s'.heap∧s'.os=s₁.os∧AllBare s'.gens) s₁) :
    WalkO q loose XP YP l.row.toRowW d [] (fun f vs=>PySem.call f vs):=by
  intro w s₀ s₁ mg mb G Y fa o pm cd doc dV kV ho hd hcd hD hmg hg args vals as hpre hlay hrd hwl hlo;obtain rfl:dV=.none:=Dflts.none hD hdf;obtain rfl:kV=.none:=Dflts.noKw hD;obtain ⟨a,vs,ns,rfl,rfl,hobj,hints,hlen⟩:=si hn hpre hwl;refine enter_call (codeAny_mono (call w s₀ s₁ mg mb fa o pm cd doc a vs ns G Y ho (fd_plain hd) hcd hmg hobj hints hlen hg) fun r s' hq=>?_);obtain ⟨rfl,h2,h3,h4⟩:=hq;exact ⟨.inl ⟨.bool true,.bool true,[],rfl,fun _=>rfl,.bool true,sH l _,fun _=>⟨List.Pairwise.nil,fun _ hm=>(nomatch hm)⟩⟩,h2,h3,h4⟩
section
variable {prog:Program} {w:World} {A:Around} {E:Value→Shared→Prop} {s:Shared} {K:Frag}
end
end Att
namespace L2
open PySem PySem.Spec PyProof.Rows
theorem l_:∀ {vs:List Value} {ns:List Int},IntsAre vs ns→Vals (ns.map V.int) vs
  | _,_,.nil=>.nil
  | _,_,.cons n t h=>.cons ⟨t,rfl⟩ (l_ h)
def zo (H:Hp):Prop:=∀ b,H b=none∨∃ o xs,H b=some (.frz o (.lst xs))
open PySem PySem.Spec PyProof.Rows
open PySem PySem.Spec PyProof.Rows
def bw (s:Stmt):Arguments:=match s with
  | .FunctionDef _ a _ _ _ _ _ _ _ _=>a
  | _=>{ posonlyargs:=[],args:=[],vararg:=none,kwonlyargs:=[],kw_defaults:=[],kwarg:=none,defaults:=[] }
def a9 (s:Stmt):List Stmt:=match s with
  | .FunctionDef _ _ b _ _ _ _ _ _ _=>b
  | _=>[]
def am (s:Stmt):Scope:=match s with
  | .FunctionDef _ _ _ _ _ _ sc _ _ _=>sc
  | _=>{ kind:=.function,names:=[],isGenerator:=false,isCoroutine:=false }
abbrev CX0:CXT:=fun _ _ _ _ _ _=>False
abbrev E0:XK:=fun _ _ _=>False
theorem wI {X:Cx}:qT CX0 X E0:=fun _ _ _ _ _ _ _ h=>h.elim
structure Fun (K:aaa) (x qual:Str) (st:Stmt) (f:Addr) (fd:FuncData):Prop where
  ex:∃ (oc:Value) (od:Option Addr) (kV doc pm:Value) (an:Option Addr) (cdv ct:Value) (osl:Array (Option Value)),
    fd=aaW x qual (bw st) (a9 st) (am st) .none kV doc pm an cdv ct∧K.lookup f=some ⟨oc,od,.func fd,osl⟩∧abf K cdv qual=true
  kp:aaZ K (.ref f)=true
section
variable {P:Program} {w:World} {K:aaa} {mg:Str→Option Value} {base:Heap}
theorem Fun.ok {x qual:Str} {st:Stmt} {f:Addr} {fd:FuncData} {N ps:List Str} {k:Nat} {sp:Sp} (F:Fun K x qual st f fd) (S:FnScope N ps (am st)) (len:∀ vs H Q E,sp vs H Q E→vs.length=ps.length)
    (hbody:∀ (cdv:Value) (A:Around) (outer:List Env) (s:Shared) (H:Hp) (vs:List V) (Q:VK) (E:XK),Room k (A.deeper (envOfC qual (am st) s.heap.objs.size f cdv))→sp vs H Q E →
      ∃ t,PSs (kW CX0 P w K mg base N qual (am st) f cdv A outer s H E).nox (a9 st) t∧t { nx:=fun _ H'=>Q .non H',rt:=Q } (start N vs) H):FnOk P w K mg base CX0 (k+1) f fd ps sp:=by
  obtain ⟨oc,od,kV,doc,pm,an,cdv,ct,osl,rfl,lk,hcd⟩:=F.ex;refine uS lk hcd S len fun A outer s H vs Q E hr hsp=>?_;obtain ⟨t,h,q⟩:=hbody cdv A outer s H vs Q E hr hsp;exact ⟨t,h.nox,q⟩
theorem Fun.binds {x qual:Str} {st:Stmt} {f:Addr} {fd:FuncData} {ps:List Str} (F:Fun K x qual st f fd)
    (h:∀ (kV doc pm:Value) (an:Option Addr) (cdv ct:Value) (us:List Value),us.length=ps.length→bindArgs (aaW x qual (bw st) (a9 st) (am st) .none kV doc pm an cdv ct) ⟨us,[]⟩=pure (ps.zip us)):Binds K fd ps []:=by
  obtain ⟨oc,od,kV,doc,pm,an,cdv,ct,osl,rfl,lk,hcd⟩:=F.ex;exact .all (h kV doc pm an cdv ct)
theorem uO {x qual:Str} {st:Stmt} {f:Addr} {oc:Value} {od an:Option Addr} {osl:Array (Option Value)} {kV doc pm cdv ct:Value} (l:K.lookup f=some ⟨oc,od,.func (aaW x qual (bw st) (a9 st) (am st) .none kV doc pm an cdv ct),osl⟩)
    (c:abf K cdv qual=true) (k:aaZ K (.ref f)=true):Fun K x qual st f (aaW x qual (bw st) (a9 st) (am st) .none kV doc pm an cdv ct):=⟨⟨oc,od,kV,doc,pm,an,cdv,ct,osl,rfl,l,c⟩,k⟩
end
theorem aJ {n:Nat} (h:n≤1000):n < sizeLine:=abA h (by decide)
section
variable {X:Cx}
theorem pv (i:Nat) {x:Str} {pos:Pos} (hN:X.N[i]?=some x:=by rfl) (hv:Vis X.env.scope x:=by first|exact Or.inl rfl|exact Or.inr (Or.inl rfl)|exact Or.inr (Or.inr rfl)) (hd:(x == ("__debug__":Str))=false:=by decide)
    (hcd:(x == ("__classdict__":Str))=false:=by decide):PE X (.Name x pos) (wW i):=xk hN hv hd hcd
end
theorem bi {A B:Prop} (h:B):if false=true then A else B:=by
  rw [if_neg aal];exact h
theorem bV {A B:Prop} (h:A):if true=true then A else B:=by
  rw [if_pos rfl];exact h
theorem dI {c A B:Prop} [Decidable c] (h1:c→A) (h2:¬ c→B):if c then A else B:=by
  by_cases h:c
  · rw [if_pos h];exact h1 h
  · rw [if_neg h];exact h2 h
def Same (H H':Hp):Prop:=∀ b o,H b=some o→H' b=some o
theorem Same.refl (H:Hp):Same H H:=fun _ _ h=>h
theorem Same.trans {H H1 H2:Hp} (a:Same H H1) (b:Same H1 H2):Same H H2:=fun c o h=>b c o (a c o h)
theorem Same.free {H H':Hp} (e:Same H H') {l:Addr} (h:H' l=Option.none):H l=Option.none:=by
  cases q:H l with
  | none=>rfl
  | some o =>
    rw [e l o q] at h;cases h
theorem Same.seq {K:aaa} {H H':Hp} {a:Addr} {xs:List V} (e:Same H H') (h:SqL K H a xs):SqL K H' a xs:=by
  rcases h with (h|⟨o,h⟩)|h
  · exact .inl (.inl (e _ _ h))
  · exact .inl (.inr ⟨o,e _ _ h⟩)
  · exact .inr h
open PySem PySem.Spec PyProof.Rows
section
variable {κ:Type} [DecidableEq κ]
def cE (kvs:List (κ × V)) (k:κ):Option V:=(kvs.find? fun kv=>decide (kv.1=k)).map (·.2)
def eE (kvs:List (κ × V)) (k:κ) (v:V):List (κ × V) :=
  if (kvs.any fun kv=>decide (kv.1=k))=true then kvs.map (fun kv=>if kv.1=k then (kv.1,v) else kv) else kvs++[(k,v)]
theorem ca {p:κ × V} {r:List (κ × V)} {k:κ} (e:p.1=k):cE (p :: r) k=some p.2:=by simp [cE,abu,e]
theorem cb {p:κ × V} {r:List (κ × V)} {k:κ} (e:¬ p.1=k):cE (p :: r) k=cE r k:=by simp [cE,abu,e]
theorem iq (k:κ):∀ kvs:List (κ × V),(kvs.any fun kv=>decide (kv.1=k))=(cE kvs k).isSome
  | []=>rfl
  | p :: r=>by
    rw [ace];by_cases e:p.1=k
    · simp only [ca e,decide_eq_true e,Bool.true_or,Option.isSome_some]
    · rw [cb e,decide_eq_false e,Bool.false_or];exact iq k r
theorem ou (k j:κ) (y:V):∀ kvs:List (κ × V),cE (kvs.map fun kv=>if kv.1=k then (kv.1,y) else kv) j=(cE kvs j).map fun x=>if j=k then y else x
  | []=>rfl
  | p :: r=>by
    have ih:=ou k j y r;rw [aaO];by_cases h:p.1=k
    · rw [if_pos h];by_cases e:p.1=j
      · rw [ca (p:=(p.1,y)) e,ca e,abQ,if_pos (e.symm.trans h)]
      · rw [cb (p:=(p.1,y)) e,cb e,ih]
    · rw [if_neg h];by_cases e:p.1=j
      · rw [ca (p:=p) e,ca e,abQ,if_neg (fun z=>h (e.trans z))]
      · rw [cb (p:=p) e,cb e,ih]
theorem me (k j:κ) (y:V):∀ kvs:List (κ × V),cE kvs k=none→cE (kvs++[(k,y)]) j=if j=k then some y else cE kvs j
  | [],_=>by
    by_cases e:k=j
    · rw [if_pos e.symm];exact ca (p:=(k,y)) e
    · rw [if_neg (fun z=>e z.symm)];exact cb (p:=(k,y)) e
  | p :: r,hn=>by
    rw [List.cons_append];have hk:¬ p.1=k:=fun z=>by rw [ca z] at hn;cases hn
    rw [cb hk] at hn;have ih:=me k j y r hn;by_cases e:p.1=j
    · rw [ca e,ca e,if_neg (fun z=>hk (e.trans z))]
    · rw [cb e,cb e,ih]
theorem j7 (kvs:List (κ × V)) (k j:κ) (y:V):cE (eE kvs k y) j=if j=k then some y else cE kvs j:=by
  unfold eE;by_cases a:(kvs.any fun kv=>decide (kv.1=k))=true
  · rw [if_pos a,ou];rw [iq] at a;by_cases e:j=k
    · obtain ⟨x,hx⟩:=abH.mp a;rw [if_pos e,e,hx,abQ,if_pos rfl]
    · rw [if_neg e];cases cE kvs j with
      | none=>rfl
      | some x=>rw [abQ,if_neg e]
  · rw [if_neg a];refine me k j y kvs ?_;rw [iq] at a;cases q:cE kvs k with
    | none=>rfl
    | some x=>rw [q] at a;exact (a rfl).elim
theorem cX (kvs:List (κ × V)) (k:κ) (v:V):(eE kvs k v).length≤kvs.length+1:=by
  unfold eE;split
  · rw [aaf];lia
  · rw [aap,aaS,abF];lia
theorem RelO.isSome_eq {o:Option V} {u:Option Value} (r:RelO o u):o.isSome=u.isSome:=by
  cases o with
  | none=>cases u with
    | none=>rfl
    | some _=>exact (show False from r).elim
  | some _=>cases u with
    | none=>exact (show False from r).elim
    | some _=>rfl
theorem KV.val {kvs:List (κ × V)} {vs:List (κ × Value)} (r:KV kvs vs) (k:κ):RelO (cE kvs k) (valueAt vs k):=by
  unfold KV at r
  induction r with
  | nil=>exact True.intro
  | @cons p q ps qs h t ih =>
    obtain ⟨h1,h2⟩:=h;by_cases e:p.1=k
    · have e':q.1=k:=h1.symm.trans e;have b:valueAt (q :: qs) k=some q.2:=by simp [valueAt,abu,e']
      rw [ca e,b];exact h2
    · have e':¬ q.1=k:=fun z=>e (h1.trans z);have b:valueAt (q :: qs) k=valueAt qs k:=by simp [valueAt,abu,e']
      rw [cb e,b];exact ih
theorem KV.any {kvs:List (κ × V)} {vs:List (κ × Value)} (r:KV kvs vs) (k:κ):(kvs.any fun kv=>decide (kv.1=k))=vs.any fun kv=>decide (kv.1=k):=by
  unfold KV at r
  induction r with
  | nil=>rfl
  | cons h t ih=>rw [ace,ace,ih,h.1]
theorem KV.repl {kvs:List (κ × V)} {vs:List (κ × Value)} (r:KV kvs vs) (k:κ) {y:V} {u:Value} (ry:RelV y u) :
    KV (kvs.map fun kv=>if kv.1=k then (kv.1,y) else kv) (vs.map fun kv=>if kv.1=k then (kv.1,u) else kv):=by
  unfold KV at r ⊢
  induction r with
  | nil=>exact .nil
  | @cons p q ps qs h t ih =>
    rw [aaO,aaO];refine .cons ?_ ih;obtain ⟨h1,h2⟩:=h;by_cases e:p.1=k
    · rw [if_pos e,if_pos (h1.symm.trans e)];exact ⟨h1,ry⟩
    · rw [if_neg e,if_neg (fun z=>e (h1.trans z))];exact ⟨h1,h2⟩
theorem KV.put {kvs:List (κ × V)} {vs:List (κ × Value)} (r:KV kvs vs) (k:κ) {y:V} {u:Value} (ry:RelV y u):KV (eE kvs k y) (stored vs k u):=by
  unfold eE stored;rw [r.any k];by_cases e:(vs.any fun kv=>decide (kv.1=k))=true
  · rw [if_pos e,if_pos e];exact r.repl k ry
  · rw [if_neg e,if_neg e];exact Paired.snoc r ⟨rfl,ry⟩
theorem KV.length {kvs:List (κ × V)} {vs:List (κ × Value)} (r:KV kvs vs):kvs.length=vs.length:=aa9 r
end
theorem rE {P:Program} {w:World} {k:Key} {u:Value} (r:RelV (kV k) u):(a5 P w).is k u=true:=by
  cases k with
  | inl i=>obtain ⟨t,e⟩:=(show ∃ t,u=Value.int i t from r);subst e;exact pA P w i t
  | inr x=>obtain ⟨t,e⟩:=(show ∃ t,u=Value.str x t from r);subst e;exact pz P w x t
theorem mH {P:Program} {w:World}:∀ {ks:List Key} {us:List Value},Vals (ks.map kV) us→ItemsAre (a5 P w) ks us
  | [],_,r=>by rw [List.map_nil] at r;cases r;exact .nil
  | k :: ks,_,r=>by
    rw [aaO] at r;cases r with
    | cons h t=>exact .cons (rE h) (mH t)
abbrev KT (H:Hp):List (List Key × V)→List (List Key × Addr × Value)→Prop:=Paired fun p q=>p.1=q.1∧H q.2.1=some (.tup (p.1.map kV))∧RelV p.2 q.2.2
theorem KT.val {H:Hp} {kvs:List (List Key × V)} {xs:List (List Key × Addr × Value)} (r:KT H kvs xs) (k:List Key):RelO (cE kvs k) ((atKey xs k).map (·.2)):=by
  induction r with
  | nil=>exact True.intro
  | @cons p q ps qs h t ih =>
    obtain ⟨h1,_,h2⟩:=h;by_cases e:p.1=k
    · have e':q.1=k:=h1.symm.trans e;have b:atKey (q :: qs) k=some q.2:=by simp [atKey,abu,e']
      rw [ca e,b];exact h2
    · have e':¬ q.1=k:=fun z=>e (h1.trans z);have b:atKey (q :: qs) k=atKey qs k:=by simp [atKey,abu,e']
      rw [cb e,b];exact ih
theorem KT.repl {H:Hp} {kvs:List (List Key × V)} {xs:List (List Key × Addr × Value)} (r:KT H kvs xs) (k:List Key) {y:V} {u:Value} (ry:RelV y u) :
    KT H (kvs.map fun kv=>if kv.1=k then (kv.1,y) else kv) (xs.map (putAt k u)):=by
  induction r with
  | nil=>exact .nil
  | @cons p q ps qs h t ih =>
    rw [aaO,aaO];refine .cons ?_ ih;obtain ⟨h1,h2,h3⟩:=h;unfold putAt;by_cases e:p.1=k
    · rw [if_pos e,if_pos (h1.symm.trans e)];exact ⟨h1,h2,ry⟩
    · rw [if_neg e,if_neg (fun z=>e (h1.trans z))];exact ⟨h1,h2,h3⟩
theorem KT.put {H:Hp} {kvs:List (List Key × V)} {xs:List (List Key × Addr × Value)} (r:KT H kvs xs) (k:List Key) {b:Addr} {y:V} {u:Value} (hb:H b=some (.tup (k.map kV))) (ry:RelV y u) :
    KT H (eE kvs k y) (storedH xs k b u):=by
  have e:(kvs.any fun kv=>decide (kv.1=k))=(atKey xs k).isSome:=by
    rw [iq,(r.val k).isSome_eq,Option.isSome_map]
  unfold eE storedH;rw [e];by_cases q:(atKey xs k).isSome=true
  · rw [if_pos q,if_pos q];exact r.repl k ry
  · rw [if_neg q,if_neg q];exact Paired.snoc r ⟨rfl,hb,ry⟩
theorem KT.keeps {H H':Hp} {kvs:List (List Key × V)} {xs:List (List Key × Addr × Value)} (r:KT H kvs xs) (ht:∀ b ys,H b=some (.tup ys)→H' b=some (.tup ys)):KT H' kvs xs :=
  Paired.mapP r fun _ _ z=>⟨z.1,ht _ _ z.2.1,z.2.2⟩
section
variable {P:Program} {w:World} {H:Hp} {h:Heap} {a:Addr}
theorem wH {u:HO} (ok:HOk P w H h) (e:Rd H a u):ObjOk P w H h a u:=e.ok ok
theorem uY {kvs:List (Key × V)} (ok:HOk P w H h) (e:Rd H a (.dK kvs)):kvs.length≤sizeLine∧(a == sysModules)=false∧∃ vs,KV kvs vs∧h.DictOf (a5 P w) a vs :=
  show ObjOk P w H h a (.dK kvs) from wH ok e
theorem uZ {kvs:List (Key × V)} (ok:HOk P w H h) (e:H a=some (.dK kvs)):kvs.length≤sizeLine∧(a == sysModules)=false∧∃ vs,KV kvs vs∧h.DictOf (a5 P w) a vs:=uY ok (.inl e)
theorem nY {ks:List Key} (ok:HOk P w H h) (e:H a=some (.tup (ks.map kV))):(tupleKind (a5 P w)).is h ks a:=by
  obtain ⟨_,its,r,o,h1,h2,n,h3⟩:=(show ObjOk P w H h a (.tup (ks.map kV)) from ok a _ e)
  exact ⟨o,its.toArray,n,h1,h2,h3,by simpa using mH r⟩
theorem uX {kvs:List (List Key × V)} (ok:HOk P w H h) (e:Rd H a (.dT kvs)):kvs.length≤sizeLine∧(a == sysModules)=false ∧
    ∃ xs,KT H kvs xs∧h.DictOfH (tupleKind (a5 P w)) a xs:=by
  obtain ⟨z,y,xs,r,o,es,ep,h1,h2,h3,h4,h5⟩:=(show ObjOk P w H h a (.dT kvs) from wH ok e)
  refine ⟨z,y,xs,r,o,es,ep,h1,h2,h3,h4,fun x hx=>?_,h5⟩;have all:∀ {l:List (List Key × V)} {m:List (List Key × Addr × Value)},KT H l m→∀ x∈m,(tupleKind (a5 P w)).is h x.1 x.2.1:=by
    intro l m q
    induction q with
    | nil=>intro x hx;exact nomatch hx
    | @cons p q ps qs hq t ih =>
      intro x hx;rcases aam.mp hx with e|hx
      · subst e;exact nY ok (by rw [← hq.1];exact hq.2.1)
      · exact ih x hx
  exact all r x hx
theorem wP {kvs:List (List Key × V)} (ok:HOk P w H h) (e:H a=some (.dT kvs)):kvs.length≤sizeLine∧(a == sysModules)=false ∧
    ∃ xs,KT H kvs xs∧h.DictOfH (tupleKind (a5 P w)) a xs:=uX ok (.inl e)
end
def DGet (H:Hp) (a:Addr) (y:V) (r:Option V):Prop :=
  (∃ kvs k,Rd H a (.dK kvs)∧y=kV k∧r=cE kvs k)∨∃ kvs k b,Rd H a (.dT kvs)∧y=.ref b∧H b=some (.tup (k.map kV))∧r=cE kvs k
def DPut (H:Hp) (a:Addr) (y v:V) (H':Hp):Prop :=
  (∃ kvs k,H a=some (.dK kvs)∧y=kV k∧kvs.length < sizeLine∧H'=upd H a (.dK (eE kvs k v))) ∨
  ∃ kvs k b,H a=some (.dT kvs)∧y=.ref b∧H b=some (.tup (k.map kV))∧kvs.length < sizeLine∧H'=upd H a (.dT (eE kvs k v))
theorem DGet.t {H:Hp} {a b:Addr} {kvs:List (List Key × V)} {k:List Key} (e:H a=some (.dT kvs)) (eb:H b=some (.tup (k.map kV))):DGet H a (.ref b) (cE kvs k):=.inr ⟨kvs,k,b,.inl e,rfl,eb,rfl⟩
theorem DPut.t {H:Hp} {a b:Addr} {kvs:List (List Key × V)} {k:List Key} {v:V} (e:H a=some (.dT kvs)) (eb:H b=some (.tup (k.map kV))) (hl:kvs.length < sizeLine) :
    DPut H a (.ref b) v (upd H a (.dT (eE kvs k v))):=.inr ⟨kvs,k,b,e,rfl,eb,hl,rfl⟩
section
variable {X:Cx} {pins:List (Addr × Obj)} {σ:St} {H:Hp} {s:Shared} {a:Addr} {y v:V} {u r:Value} {o:Option V} {A:Around} {E:Value→Shared→Prop}
theorem Inv.big (I:Inv X pins σ H s):sysModules < s.heap.objs.size:=by
  have h:mainGlobals < s.heap.objs.size:=(I.mod.glob.keeps I.bk).lt;exact ab8 (by decide) h
theorem tH {Q:Value→Shared→Prop} (hu:A.units+1 < cLine) (I:Inv X pins σ H s) (g:DGet H a y (some v)) (ry:RelV y u) (h:∀ w' s',Inv X pins σ H s'→RelV v w'→Q w' s') :
    wpAny (model X.prog X.w) A (getItem (.ref a) u) Q E s:=by
  rcases g with ⟨kvs,k,e,ey,l⟩|⟨kvs,k,b,e,ey,eb,l⟩
  · subst ey;obtain ⟨z,hd,vs,rel,dd⟩:=uY I.hok e;obtain ⟨w',hw,rw'⟩:=RelO.some_of (v:=v) (o:=valueAt vs k) (by rw [l];exact rel.val k);exact wpAny_getItem_of (rE ry) dd.mapOf hw (h w' _ (I.tok _) rw')
  · subst ey;cases (show u=Value.ref b from ry);obtain ⟨z,hd,xs,rel,dd⟩:=uX I.hok e;obtain ⟨w',hw,rw'⟩:=RelO.some_of (v:=v) (o:=(atKey xs k).map (·.2)) (by rw [l];exact rel.val k);obtain ⟨p,hp,hp2⟩:=abv.mp hw;refine wpAny_getItem_heap (tupleKind_room_in1 hu) (nY I.hok eb) dd hp ?_;rw [hp2];exact h w' _ (I.tok _) rw'
theorem jX {h':Heap} {t':Nat} {ob:HO} (I:Inv X pins σ H s) (mu:Mut (H a)) (hs:abI a s.heap h') (he:∃ q,h'.get? a=some q) (new:ObjOk X.prog X.w (upd H a ob) h' a ob) :
    Inv X pins σ (upd H a ob) { s with heap:=h',toks:=t' } :=
  I.write (x:=a) (e:=a) mu (.inl rfl) (fun b q hb z=>(hs.2 b hb).trans z) he new
theorem u_ {P:Program} {w:World} {H':Hp} {h':Heap} {kvs:List (Key × V)} {vs:List (Key × Value)} (z:kvs.length≤sizeLine) (hd:(a == sysModules)=false) (rel:KV kvs vs) (dd:h'.DictOf (a5 P w) a vs) :
    ObjOk P w H' h' a (.dK kvs):=⟨z,hd,vs,rel,dd⟩
theorem tG {H':Hp} {Q:Unit→Shared→Prop} (hu:A.units+1 < cLine) (I:Inv X pins σ H s) (g:DPut H a y v H') (ry:RelV y u) (rv:RelV v r) (h:∀ s',Inv X pins σ H' s'→Q () s') :
    wpAny (model X.prog X.w) A (setItem (.ref a) u r) Q E s:=by
  rcases g with ⟨kvs,k,e,ey,l,eH⟩|⟨kvs,k,b,e,ey,eb,l,eH⟩
  · subst ey eH;obtain ⟨z,hd,vs,rel,dd⟩:=uZ I.hok e;have hz:vs.length≤sizeLine:=by rw [← rel.length];exact z
    have hl:(eE kvs k v).length≤sizeLine:=by have:=cX kvs k v;lia
    refine wpAny_setItem_pairs (hsz:=hz) (rE ry) dd fun h' dd' hs=>h _ ?_;have he:∃ q,h'.get? a=some q:=let ⟨q,_,_,hq,_⟩:=dd';⟨q,hq⟩;exact jX I (by rw [e];exact True.intro) hs he (u_ hl hd (rel.put k rv) dd')
  · subst ey eH;cases (show u=Value.ref b from ry);obtain ⟨z,hd,xs,rel,dd⟩:=wP I.hok e;have hz:xs.length≤sizeLine:=by rw [← aa9 rel];exact z
    have hl:(eE kvs k v).length≤sizeLine:=by have:=cX kvs k v;lia
    refine wpAny_setItem_heap (hsz:=hz) (tupleKind_room_in1 hu) (nY I.hok eb) dd fun h' dd' hs=>h _ ?_;obtain ⟨q,es,ep,hq,h2,h3,h4,_,h5⟩:=dd';refine jX I (by rw [e];exact True.intro) hs ⟨q,hq⟩ ⟨hl,hd,_,(rel.put k eb rv).keeps fun c ys ec=>?_,q,es,ep,hq,h2,h3,h4,h5⟩;rw [aq (wK ec e (fun z=>nomatch z))];exact ec
end
section
variable {X:Cx} {pins:List (Addr × Obj)} {σ:St} {H:Hp} {s:Shared} {a:Addr} {kvs:List (Key × V)} {k:Key} {u:Value} {A:Around} {E:Value→Shared→Prop}
end
def yH (i:Expr):Prop:=∀ ov iv,subscripted i false ov iv=operate [ov,iv] (getItem ov iv)
theorem vH {prog:Program} {w:World} {A:Around} {E:Value→Shared→Prop} {s:Shared} {env:Env} {value slice:Expr} {pos:Pos} {T id:String} {Q:Value→Shared→Prop}
    (hl:typeLookup (.type T) "__getitem__" = pure (some (.builtin id))) (hs:yH slice)
    (h:wpAny (model prog w) A (eval value env) (fun o s₁=>wpAny (model prog w) A (eval slice env) (fun i s₂=>s₂.TypeIs o T∧wpAny (model prog w) A (getItem o i) Q E s₂) E s₁) E s) :
    wpAny (model prog w) A (eval (.Subscript value slice pos) env) Q E s:=by
  refine Subscript_ (wpAny_mono h (fun o s₁ h₁=>wpAny_mono h₁ (fun i s₂ h₂=>?_) fun _ _ x=>x) fun _ _ x=>x);obtain ⟨hT,h₂⟩:=h₂;unfold subscriptTail;refine wpAny_bind ?_;rw [getitemInPython_of_ne hT.not_modules];refine wpAny_bind (wpAny_specialOf hT hl ?_);have fin:wpAny (model prog w) A (subscripted slice false o i) (fun r s₃=>wpAny (model prog w) A (letTemporaryGo value o r >>= fun _=>pure r) Q E s₃) E s₂:=by
    rw [hs o i];exact wpAny_operating (wpAny_mono h₂ (fun r s₃ h₃=>wpAny_bind (wpAny_letTemporaryGo (wpAny_pure h₃))) fun _ _ x=>x)
  first
    | exact wpAny_pure (wpAny_bind fin)
    | exact wpAny_bind (wpAny_pure (wpAny_bind fin))
    | exact wpAny_bind fin
theorem pN {X:Cx} {pins:List (Addr × Obj)} {σ:St} {H:Hp} {s:Shared} {a:Addr} {y:V} {o:Option V} (I:Inv X pins σ H s) (g:DGet H a y o):s.TypeIs (.ref a) "dict":=by
  rcases g with ⟨kvs,k,e,_,_⟩|⟨kvs,k,b,e,_,_,_⟩
  · obtain ⟨_,_,vs,_,dd⟩:=uY I.hok e;exact dd.typeIs
  · obtain ⟨_,_,xs,_,dd⟩:=uX I.hok e;exact dd.typeIs
def ya (td ty:TE):TE:=fun σ H Q=>td σ H fun x H1=>ty σ H1 fun y H2=>∃ a v,x=.ref a∧DGet H2 a y (some v)∧Q v H2
def yg (td ty tv:TE):TS:=fun D σ H=>tv σ H fun v H1=>td σ H1 fun x H2=>ty σ H2 fun y H3=>∃ a H4,x=.ref a∧DPut H3 a y v H4∧D.nx σ H4
section
variable {X:Cx} {o i e value:Expr} {pos pos' tpos:Pos} {td ty tv:TE}
theorem dN (hu:X.A.units+1 < cLine) (ho:PE X o td) (hi:PE X i ty) (hs:yH i):PE X (.Subscript o i pos) (ya td ty):=by
  intro pins s σ H Q I h;refine vH PySem.F.slot_dict_getitem.lookup hs (thn (ho pins s σ H _ I h) fun u s1 ⟨x,H1,I1,rx,q1⟩=>thn (hi pins s1 σ H1 _ I1 q1) fun iv s2 ⟨y,H2,I2,ry,a,v,ex,g,q2⟩=>?_);subst ex;obtain rfl:u=Value.ref a:=rx;exact ⟨pN I2 g,tH hu I2 g ry fun w' s3 I3 rw'=>⟨v,H2,I3,rw',q2⟩⟩
theorem jW (hu:X.A.units+1 < cLine) (ho:PE X o td) (hi:PE X i ty) (hv:PE X value tv) (hs:swapsWith value (some (.Subscript o i pos')) pos.line X.env=pure false) :
    PS X (.Assign [.Subscript o i pos'] value pos) (yg td ty tv):=by
  intro pins s σ H D I h;refine wpAny_Assign_Subscript (thn (hv pins s σ H _ I h) fun r s1 ⟨v,H1,I1,rv,q1⟩=>thn (ho pins s1 σ H1 _ I1 q1) fun u s2 ⟨x,H2,I2,rx,q2⟩=>thn (hi pins s2 σ H2 _ I2 q2) fun iv s3 ⟨y,H3,I3,ry,a,H4,ex,g,q3⟩=>?_) hs;subst ex;obtain rfl:u=Value.ref a:=rx;exact tG hu I3 g ry rv fun s4 I4=>⟨σ,H4,I4,q3⟩
end
theorem va {P:Program} {w:World} {H:Hp} (h:Heap) (hb:sysModules < h.objs.size):ObjOk P w H (h.push { cls:=.type "dict",data:=.dict #[] }) h.objs.size (.dK []) :=
  ⟨aaN _,beq_eq_false_iff_ne.mpr (ab3 (aaz hb)),[],.nil,Heap.DictOf.new h⟩
theorem pK {P:Program} {w:World} {H:Hp} (h:Heap) (hb:sysModules < h.objs.size):ObjOk P w H (h.push { cls:=.type "dict",data:=.dict #[] }) h.objs.size (.dT []) :=
  ⟨aaN _,beq_eq_false_iff_ne.mpr (ab3 (aaz hb)),[],.nil,_,#[],0,aaq _ rfl,⟨rfl,rfl,rfl⟩,rfl,rfl,List.nodup_nil⟩
def wY:TE:=fun _ H Q=>∀ p,H p=none→Q (.ref p) (upd H p (.dT []))
section
variable {X:Cx} {pos:Pos}
theorem oT:PE X (.Dict [] [] pos) wY:=fun pins s σ H Q I h =>
  wpAny_Dict_empty ⟨.ref s.heap.objs.size,_,I.laid (a:=s.heap.objs.size) (o:=.dT []) (t':=s.toks) (fun _ _ q=>aad _ q) (aag _) (pK s.heap I.big),rfl,h _ (I.hok.fresh (aag _))⟩
end
structure M1 (X:Cx) (o:Expr) (m:Str) (apos:Pos) (e:Expr) (cpos:Pos):Prop where
  base:attributeBase o m X.env (eval o X.env)=eval o X.env
  few:((backTo cpos (starEach [e] X.env)).all (fun x=>!x.1) && (backToKw cpos (keywordEach [] X.env)).all (fun x=>x.1.isSome)
    && decide (([e]:List Expr).length+([]:List Keyword).length+(if ([]:List Keyword).isEmpty then 0 else 1) < 30))=true
  line:(apos.endLine == cpos.line)=true
  trees:backTo cpos (starEach [e] X.env)=[(false,eval e X.env)]
structure M2 (X:Cx) (o:Expr) (m:Str) (apos:Pos) (e f:Expr) (cpos:Pos):Prop where
  base:attributeBase o m X.env (eval o X.env)=eval o X.env
  few:((backTo cpos (starEach [e,f] X.env)).all (fun x=>!x.1) && (backToKw cpos (keywordEach [] X.env)).all (fun x=>x.1.isSome)
    && decide (([e,f]:List Expr).length+([]:List Keyword).length+(if ([]:List Keyword).isEmpty then 0 else 1) < 30))=true
  line:(apos.endLine == cpos.line)=true
  trees:backTo cpos (starEach [e,f] X.env)=[(false,eval e X.env),(false,eval f X.env)]
section
variable {X:Cx} {pins:List (Addr × Obj)} {σ:St} {H:Hp} {s:Shared} {a:Addr} {y d:V} {u r:Value} {o:Option V} {A:Around} {E:Value→Shared→Prop}
end
section
variable {X:Cx} {o e f:Expr} {apos cpos:Pos} {td ty tx:TE}
end
section
variable {X:Cx} {pins:List (Addr × Obj)} {σ:St} {H:Hp} {s:Shared} {a:Addr} {kvs:List (Key × V)} {A:Around} {E:Value→Shared→Prop}
end
section
variable {X:Cx} {pins:List (Addr × Obj)} {σ:St} {H:Hp} {s:Shared} {a:Addr} {y:V} {u:Value} {A:Around} {E:Value→Shared→Prop}
end
open PySem PySem.Spec PyProof.Rows
section
variable {X:Cx}
end
section
variable {κ:Type} [DecidableEq κ]
end
end L2
set_option maxHeartbeats 4000000
namespace L2
open PySem PySem.Spec PyProof.Rows
theorem Inv.adopt {X:Cx} {pins:List (Addr × Obj)} {σ:St} {H:Hp} {s:Shared} {a:Addr} {o:HO} (I:Inv X pins σ H s) (hn:H a=none) (hs:X.s₀.heap.objs.size≤a) (hL:a≠X.env.locals) (hC:∀ x c,X.env.cells.lookup x=some c→c≠a) (hp:∀ p∈X.pn++pins,p.1≠a)
    (new:ObjOk X.prog X.w (upd H a o) s.heap a o):Inv X pins σ (upd H a o) s:=by
  have ne:∀ b u,X.s₀.heap.get? b=some u→b≠a:=fun b u e=>aaz (aat (aar e) hs);refine ⟨I.ok,I.os,I.bare,⟨I.base.keep,I.base.slot,fun b u e n hx=>?_,I.base.there,fun b xs e=>?_,fun b u xs e=>?_,fun b ps e=>?_⟩,I.loc,I.cell,?_,fun x c e=>?_,fun p hq=>?_,fun b u e=>?_,I.len⟩
  · rw [aq (ne b u e)];exact I.base.free b u e n hx
  · have q:=I.base.tups b xs e;rw [aq (aF q hn)];exact q
  · have q:=I.base.frzs b u xs e;rw [aq (aF q hn)];exact q
  · obtain ⟨m,q⟩:=I.base.tbls b ps e;exact ⟨m,by rw [aq (aF q hn)];exact q⟩
  · rw [aq (ab3 hL)];exact I.free
  · rw [aq (hC x c e)];exact I.freeC x c e
  · obtain ⟨h1,h2,h3⟩:=I.pin p hq;exact ⟨h1,by rw [aq (hp p hq)];exact h2,h3⟩
  · by_cases hb:b=a
    · subst hb;rw [af] at e;cases e;exact new
    · rw [aq hb] at e;exact (I.hok b u e).stay (fun c v _ q=>q) (fun c q=>by rw [aq (aF q hn)];exact q) fun c xs q=>by rw [aq (aF q hn)];exact q
def CellsIn (E:Env):List (Str × Addr)→Prop
  | []=>True
  | p :: r=>E.cells.lookup p.1=some p.2∧CellsIn E r
theorem CellsIn.get {E:Env}:∀ {cl:List (Str × Addr)} {x:Str} {c:Addr},CellsIn E cl→cl.lookup x=some c→E.cells.lookup x=some c:=by
  intro cl x c h e;have hm:=abb e;clear e
  induction cl with
  | nil=>exact nomatch hm
  | cons p r ih =>
    rcases aam.mp hm with q|q
    · have:=h.1;rw [← q] at this;exact this
    · exact ih h.2 q
def CapOk (XE:Env) (sc:Scope) (XN:List Str):List Str→List (Option Nat)→Prop
  | [],[]=>True
  | _ :: n,none :: c=>CapOk XE sc XN n c
  | x :: n,some i :: c=>(XN[i]?=some x∧(XE.kindOf x=some .cell∨XE.kindOf x=some .free)∧(sc.names.lookup x=some .cell∨sc.names.lookup x=some .free))∧CapOk XE sc XN n c
  | _,_=>False
def yD (σ:St) (o:Option Nat):Option V:=match o with
  | none=>none
  | some i=>(σ[i]?).join
def b_ (cap:List (Option Nat)) (σ:St):St:=cap.map (yD σ)
theorem CapOk.len {XE:Env} {sc:Scope} {XN:List Str}:∀ {n:List Str} {c:List (Option Nat)},CapOk XE sc XN n c→c.length=n.length
  | [],[],_=>rfl
  | _ :: _,none :: _,h=>congrArg (·+1) (CapOk.len (n:=_) (c:=_) h)
  | _ :: _,some _ :: _,h=>congrArg (·+1) (CapOk.len h.2)
  | [],_ :: _,h=>(show False from h).elim
  | _ :: _,[],h=>(show False from h).elim
theorem CapOk.get {XE:Env} {sc:Scope} {XN:List Str} {σ:St} {n:List Str} {c:List (Option Nat)} {j:Nat} {x:Str} {v:V} (h:CapOk XE sc XN n c) (h1:n[j]?=some x) (e:(b_ c σ)[j]?=some (some v)) :
    ∃ i:Nat,XN[i]?=some x∧σ[i]?=some (some v)∧(XE.kindOf x=some .cell∨XE.kindOf x=some .free)∧(sc.names.lookup x=some .cell∨sc.names.lookup x=some .free):=by
  induction n generalizing c j with
  | nil=>cases h1
  | cons y n ih =>
    cases c with
    | nil=>exact h.elim
    | cons o c =>
      cases j with
      | zero =>
        cases h1;cases o with
        | none=>cases e
        | some i =>
          refine ⟨i,h.1.1,?_,h.1.2⟩;have e:some ((σ[i]?).join)=some (some v):=e;cases q:σ[i]? with
          | none=>rw [q] at e;cases e
          | some w=>rw [q] at e;injection e with e;exact congrArg some e
      | succ j =>
        cases o with
        | none=>exact ih (c:=c) (j:=j) h h1 e
        | some i=>exact ih (c:=c) (j:=j) h.2 h1 e
def dP (X:Cx) (E:Env) (fn:Str→Bool) (NY:List Str) (fp:List Addr) (s:Shared) (H:Hp):Cx where
  prog:=X.prog
  w:=X.w
  K:=X.K
  mg:=X.mg
  base:=X.base
  A:=X.A
  N:=NY
  s₀:=s
  H₀:=H
  env:=E
  outer:=X.stack
  stack:=X.stack
  ex:=fp
  fn:=fn
  calm:=X.calm
  pn:=[]
  xe:=fun _ _=>False
abbrev aL (X:Cx) (scope:Scope) (cl:List (Str × Addr)) (NY:List Str) (fp:List Addr) (s:Shared) (H:Hp) (C:Addr):Cx:=dP X (compEnvC scope cl C X.env) (fun _=>false) NY fp s H
def gL (X:Cx) (ifs:List Expr) (t:TT):Prop :=
  ∀ (pins:List (Addr × Obj)) (s:Shared) (σ:St) (H:Hp) (Q:Bool→Hp→Prop),Inv X pins σ H s→t σ H Q →
    wpAny (model X.prog X.w) X.A (forIn ifs true fun c r=>if r=true then do let ok ← isTrue c X.env (eval c X.env);pure (ForInStep.yield ok) else pure (ForInStep.yield r)) (TP X pins σ Q) X.xe s
theorem bt {X:Cx}:gL X [] (fun _ H Q=>Q true H):=fun _ _ _ H _ I h=>wpAny_tests_nil ⟨H,I,h⟩
theorem gc {X:Cx} {c:Expr} {t:TT} (h:PT X c t):gL X [c] t:=fun pins s σ H Q I q=>wpAny_tests_one (h pins s σ H Q I q)
theorem l8 {elt tg2 iter2:Expr} {ifs2:List Expr} {G:List Comprehension} {k:Nat} (hk:G[k]?=some ⟨tg2,iter2,ifs2,0⟩) (hk2:G[k+1]?=none) {scope:Scope} {pos:Pos} {it acc:Value} {env:Env} :
    compTurn (.ListComp elt G scope pos) k it acc env=(do
      standAt iter2.pos
      match ← pyNext it with
      | none=>pure (.done .next)
      | some v =>
        letOwnedTupleGo tg2 it v
        assign tg2 env v
        let mut ok:=true
        for c in ifs2 do
          if ok then ok ← isTrue c env (eval c env)
        if ok then
          (do let _ ← call (.builtin "list.append") [acc,← eval elt env])
        again (.compLoop (.ListComp elt G scope pos) k it acc env)):=by
  unfold compTurn;simp only [hk,hk2];rfl
theorem qP {prog:Program} {w:World} {A:Around} {R:Result→Shared→Prop} {s:Shared} {elt tg2 iter2:Expr} {ifs2:List Expr} {G:List Comprehension} {k:Nat} (hk:G[k]?=some ⟨tg2,iter2,ifs2,0⟩) (hk2:G[k+1]?=none) {scope:Scope} {pos:Pos} {it acc:Value} {env:Env} (J:Nat→Shared→Prop)
    (turn:∀ n s,J n s→wpAny (model prog w) A (pyNext it) (fun r s₁=>match r with
      | none=>R (.ok .next) s₁
      | some v=>wpAny (model prog w) A (letOwnedTupleGo tg2 it v) (fun _ s₁'=>wpAny (model prog w) A (assign tg2 env v) (fun _ s₂ =>
          wpAny (model prog w) A (forIn ifs2 true fun c r=>if r=true then do let ok ← isTrue c env (eval c env);pure (ForInStep.yield ok) else pure (ForInStep.yield r)) (fun ok s₃ =>
            if ok=true then wpAny (model prog w) A (eval elt env) (fun x s₄ =>
              wpAny (model prog w) A (call (.builtin "list.append") [acc,x]) (fun _ s₅=>∃ m,m < n∧J m s₅) (fun _ _=>False) s₄) (fun _ _=>False) s₃
            else ∃ m,m < n∧J m s₃) (fun _ _=>False) s₂) (fun _ _=>False) s₁') (fun _ _=>False) s₁) (fun _ _=>False) s)
    (n:Nat) (h:J n s) :
    codeAny (model prog w) A (.compLoop (.ListComp elt G scope pos) k it acc env) R s:=by
  refine codeAny_loop rfl J (fun n s hI=>?_) n h;show wpAny _ A ((compTurn (.ListComp elt G scope pos) k it acc env).onRaise (fun x=>do noteFrame x env;theTreesLotGoes x)) _ _ s;refine wpAny_noted ?_;rw [l8 hk hk2];refine wpAny_bind (wpAny_standAt (wpAny_bind (wpAny_mono (turn n s hI) (fun r s₁ h₁=>?_) fun _ _ h'=>h'.elim)));cases r with
  | none=>exact wpAny_pure h₁
  | some v =>
    refine wpAny_bind (wpAny_mono h₁ (fun _ s₁' h₁'=>?_) fun _ _ h'=>h'.elim);refine wpAny_bind (wpAny_mono h₁' (fun _ s₂ h₂=>wpAny_bind (wpAny_mono h₂ (fun ok s₃ h₃=>?_) fun _ _ h'=>h'.elim)) fun _ _ h'=>h'.elim);cases ok with
    | false=>exact wpAny_pure ⟨rfl,h₃⟩
    | true =>
      exact wpAny_bind (wpAny_bind (wpAny_mono h₃ (fun x s₄ h₄=>wpAny_bind (wpAny_mono h₄ (fun _ s₅ h₅=>wpAny_pure (wpAny_pure ⟨rfl,h₅⟩)) fun _ _ h'=>h'.elim)) fun _ _ h'=>h'.elim))
abbrev Lp (D:Addr) (its:List Value) (k:Nat):Addr × Obj:=(D,{ cls:=.type "list",data:=.seq its.toArray k })
section
variable {X:Cx} {pins:List (Addr × Obj)} {σ:St} {H2:Hp} {s2:Shared}
theorem Inv.cellLt (I2:Inv X pins σ H2 s2):∀ x c,X.env.cells.lookup x=some c→c < s2.heap.objs.size:=fun x c e=>by
  obtain ⟨v,q⟩:=I2.cell x c e;exact q.lt
theorem Inv.notStk (I2:Inv X pins σ H2 s2) {b:Addr} (hb:s2.heap.objs.size≤b):b∉frs X.stack:=fun hz=>by
  rcases aam.mp (I2.stkSub b hz) with z|z
  · have:=I2.lt;rw [← z] at this;exact absurd (aat this hb) (abm _)
  · exact I2.nofs hb z
theorem Inv.offC (I2:Inv X pins σ H2 s2) {C:Addr} (hC:s2.heap.objs.size≤C) {σ':St} {H:Hp} {s:Shared} {h':Heap} (I:Inv X pins σ' H s) (hn:H C=none) (he:∀ b o,b≠C→s.heap.get? b=some o→h'.get? b=some o):Inv X pins σ' H { s with heap:=h' } :=
  I.turned (t':=s.toks) (it:=C) he hn (aaT (aat I2.lt hC)) (.inr (aaV I2.sz hC)) (fun x c e z=>absurd (I2.cellLt x c e) (by rw [z];exact acz.mpr hC)) (fun p hp z=>absurd (aar (I2.pin p hp).1) (by rw [z];exact acz.mpr hC))
theorem Inv.takeD (I2:Inv X pins σ H2 s2) {D:Addr} (hD:s2.heap.objs.size≤D) {σ':St} {H:Hp} {s:Shared} {o:HO} (I:Inv X pins σ' H s) (hn:H D=none) (ok:ObjOk X.prog X.w (upd H D o) s.heap D o):Inv X pins σ' (upd H D o) s :=
  I.adopt hn (aaV I2.sz hD) (aaT (aat I2.lt hD)) (fun x c e=>aaz (aat (I2.cellLt x c e) hD)) (fun p hp=>aaz (aat (aar (I2.pin p hp).1) hD)) ok
variable {E:Env} {fn:Str→Bool} {NY:List Str} {fp:List Addr}
theorem Inv.outB (I2:Inv X pins σ H2 s2) (f2:∀ b∈fp,d9 X pins H2 b) {P:List (Addr × Obj)} {σ':St} {H3:Hp} {s4:Shared} (I4:Inv (dP X E fn NY fp s2 H2) P σ' H3 s4):Inv X pins σ H3 s4 :=
  I2.call' (ch:=fp) I4.os (show Un (frs X.stack) fp H2 H3 s2.heap s4.heap from I4.base) I4.hok I4.bare fun b hb=>⟨(f2 b hb).2.2.2.1,(f2 b hb).2.1,(f2 b hb).2.2.2.2.1,(f2 b hb).2.2.2.2.2⟩
structure BlkC (X:Cx) (s2:Shared) (h₁:Heap) (E:Env) (fn:Str→Bool):Prop where
  kind:E.scope.kind=.function
  glob:E.globals=X.env.globals
  blt:E.builtins=X.env.builtins
  loc:s2.heap.objs.size≤E.locals
  old:∀ b o,s2.heap.get? b=some o→h₁.get? b=some o
  ns:∃ m,h₁.Ns E.locals m
  cell:∀ x c,E.cells.lookup x=some c→(fn x=false∧X.env.cells.lookup x=some c)∨(fn x=true∧s2.heap.objs.size≤c∧c≠E.locals∧h₁.get? c=some { cls:=.type "cell",data:=.cell none }∧∀ y,E.cells.lookup y=some c→y=x)
  has:∀ x,E.kindOf x=some .cell∨E.kindOf x=some .free→∃ c,E.cells.lookup x=some c
theorem CapOk.noFn {fn:Str→Bool} {n:List Str} {c:List (Option Nat)} {j:Nat} {x:Str} {v:V} {σ:St} (h:((n.zip c).all fun p=>!fn p.1 || p.2 == none)=true) (h1:n[j]?=some x) (e:(b_ c σ)[j]?=some (some v)):fn x=false:=by
  rw [b_,aaL] at e;cases q:c[j]? with
  | none=>rw [q] at e;cases e
  | some o =>
    rw [q] at e;cases o with
    | none=>simp [yD] at e
    | some i =>
      have m:(x,some i)∈n.zip c:=aax (i:=j) (by rw [List.getElem?_zip_eq_some];exact ⟨h1,q⟩);have:=aa7.mp h _ m;simpa using this
variable {h₁:Heap}
theorem Inv.fps (I2:Inv X pins σ H2 s2) (f2:∀ b∈fp,d9 X pins H2 b) (fpl:∀ b∈fp,b < s2.heap.objs.size) (B:BlkC X s2 h₁ E fn) {P:List (Addr × Obj)} (hP:∀ p∈P,s2.heap.objs.size≤p.1) {H':Hp} (hn:∀ b∈fp,H' b=none):∀ b∈fp,d9 (dP X E fn NY fp s2 H2) P H' b:=fun b hb=>by
  refine ⟨hn b hb,aaz (aat (fpl b hb) B.loc),fun hz=>?_,.inl hb,fun x c e=>?_,fun p hp=>?_⟩
  · rcases aam.mp (I2.stkSub b hz) with z|z
    · exact (f2 b hb).2.1 z
    · exact (f2 b hb).2.2.1 z
  · rcases B.cell x c e with z|z
    · exact (f2 b hb).2.2.2.2.1 x c z.2
    · exact aaT (aat (fpl b hb) z.2.1)
  · exact aaT (aat (fpl b hb) (hP p hp))
theorem Inv.blkLoc (I2:Inv X pins σ H2 s2) (B:BlkC X s2 h₁ E fn) {cap:List (Option Nat)} (hcap:CapOk X.env E.scope X.N NY cap) (hx:((NY.zip cap).all fun p=>!fn p.1 || p.2 == none)=true) {h:Heap} (hk:∀ x c o,X.env.cells.lookup x=some c→s2.heap.get? c=some o→∃ o',h.get? c=some o'∧o'.data=o.data) {m:Str→Option Value} :
    ∀ (i:Nat) (x:Str) (v:V),NY[i]?=some x→(b_ cap σ)[i]?=some (some v)→∃ u,RelV v u∧yI E h m x u:=fun j x v e1 e2=>by
  obtain ⟨i,h1,h2,h3,h4⟩:=CapOk.get (σ:=σ) hcap e1 e2;have nf:=CapOk.noFn hx e1 e2;obtain ⟨m',hn,hl⟩:=I2.loc;have vis:Vis X.env.scope x:=by rcases h3 with z|z;exact .inr (.inl z);exact .inr (.inr z)
  obtain ⟨u,r,l⟩:=hl i x v h1 h2 vis;refine ⟨u,r,.inr ⟨h4,?_⟩⟩;rcases l with ⟨k,_⟩|⟨_,c,e,z⟩
  · rcases h3 with z|z <;> (rw [k] at z;cases z)
  · obtain ⟨c',e'⟩:=B.has x h4;rcases B.cell x c' e' with q|q
    · have e'':=q.2;rw [e] at e'';cases e'';obtain ⟨o,ho,hd⟩:=z;obtain ⟨o',h',d'⟩:=hk x c o e ho;exact ⟨c,e',o',h',d'.trans hd⟩
    · rw [nf] at q;exact absurd q.1 aal
theorem Inv.blk (I2:Inv X pins σ H2 s2) (f2:∀ b∈fp,d9 X pins H2 b) (fpl:∀ b∈fp,b < s2.heap.objs.size) (B:BlkC X s2 h₁ E fn) {cap:List (Option Nat)} (hcap:CapOk X.env E.scope X.N NY cap) (hx:((NY.zip cap).all fun p=>!fn p.1 || p.2 == none)=true)
    {P:List (Addr × Obj)} (hP:∀ p∈P,h₁.get? p.1=some p.2∧s2.heap.objs.size≤p.1∧p.1≠E.locals∧∀ v,p.2.data≠.cell v) {t':Nat}:Inv (dP X E fn NY fp s2 H2) P (b_ cap σ) H2 { s2 with heap:=h₁,toks:=t' }:=by
  refine ⟨⟨I2.ok.mod,B.kind,B.glob.trans I2.ok.glob,B.blt.trans I2.ok.blt,B.loc,fun x y c e1 e2=>?_,B.has,fun x c hf e=>?_,I2.ok.hd,I2.ok.frames,.inl rfl,fun b hb=>⟨aaz (aat (fpl b hb) B.loc),fun x c e z=>?_⟩,I2.bs,aaV I2.ok.bsz I2.sz,fun b o e hb=>?_,fun b hb hz=>?_,I2.stack,I2.stkFree⟩,
    rfl,I2.bare,Un.kept B.old,⟨B.ns.choose,B.ns.choose_spec,fun j x v e1 e2 _=>I2.blkLoc B hcap hx (fun x c o _ ho=>⟨o,B.old _ _ ho,rfl⟩) j x v e1 e2⟩,fun x c e=>?_,I2.hok.fresh B.loc,fun x c e=>?_,fun p hp=>?_,I2.hok.kept B.old,?_⟩
  · rcases B.cell x c e1 with z|z
    · rcases B.cell y c e2 with q|q
      · exact I2.ok.inj x y c z.2 q.2
      · exact absurd (I2.cellLt x c z.2) (acz.mpr q.2.1)
    · exact (z.2.2.2.2 y e2).symm
  · rcases B.cell x c e with z|z
    · have hf:fn x=true:=hf;rw [z.1] at hf;cases hf
    · exact z.2.1
  · rcases B.cell x c e with q|q
    · exact (f2 b hb).2.2.2.2.1 x c q.2 z
    · exact absurd (fpl b hb) (by rw [← z];exact acz.mpr q.2.1)
  · rcases (f2 b hb).2.2.2.1 with z|z
    · exact I2.ok.noex b o e z
    · exact absurd (aat (aar (I2.ok.bs b o e).1) z) (abm _)
  · rcases aam.mp (I2.stkSub b hz) with z|z
    · exact (f2 b hb).2.1 z
    · exact (f2 b hb).2.2.1 z
  · rcases B.cell x c e with q|q
    · obtain ⟨v,o,ho,hd⟩:=I2.cell x c q.2;exact ⟨v,o,B.old _ _ ho,hd⟩
    · exact ⟨none,_,q.2.2.2.1,rfl⟩
  · rcases B.cell x c e with q|q
    · exact I2.freeC x c q.2
    · exact I2.hok.fresh q.2.1
  · obtain ⟨h1,h2,h3,h4⟩:=hP p hp;exact ⟨h1,I2.hok.fresh h2,h3,I2.notStk h2,h4⟩
  · show (b_ cap σ).length=NY.length;unfold b_;rw [aaf];exact hcap.len
theorem Inv.recap (I2:Inv X pins σ H2 s2) (f2:∀ b∈fp,d9 X pins H2 b) (B:BlkC X s2 h₁ E fn) {cap:List (Option Nat)} (hcap:CapOk X.env E.scope X.N NY cap) (hx:((NY.zip cap).all fun p=>!fn p.1 || p.2 == none)=true) {pn:List (Addr × Obj)} {σ':St} {H':Hp} {s':Shared} (Z:Inv (dP X E fn NY fp s2 H2) pn σ' H' s'):Inv (dP X E fn NY fp s2 H2) pn (b_ cap σ) H' s':=by
  refine ⟨Z.ok,Z.os,Z.bare,Z.base,?_,Z.cell,Z.free,Z.freeC,Z.pin,Z.hok,?_⟩
  · obtain ⟨m,hn,_⟩:=Z.loc;refine ⟨m,hn,fun j x v e1 e2 _=>I2.blkLoc B hcap hx (fun x c o e ho=>?_) j x v e1 e2⟩;have nfp:c∉fp:=fun hz=>(f2 c hz).2.2.2.2.1 x c e rfl;obtain ⟨sl,q⟩:=Z.base.any (show s2.heap.get? c=some o from ho) (I2.freeC x c e) nfp;exact ⟨_,q,rfl⟩
  · show (b_ cap σ).length=NY.length;unfold b_;rw [aaf];exact hcap.len
theorem Inv.blkC (I2:Inv X pins σ H2 s2) {scope:Scope} {cl:List (Str × Addr)} (hci:CellsIn X.env cl) (hkind:scope.kind=.function) (hhas:((relabel scope X.env).names.all fun p=>(p.2 != .cell && p.2 != .free) || (cl.lookup p.1).isSome)=true) {C:Addr} (hC:s2.heap.objs.size≤C)
    (old:∀ b o,s2.heap.get? b=some o→h₁.get? b=some o) (hns:∃ m,h₁.Ns C m):BlkC X s2 h₁ (compEnvC scope cl C X.env) (fun _=>false):=by
  refine ⟨hkind,rfl,rfl,hC,old,hns,fun x c e=>.inl ⟨rfl,hci.get e⟩,fun x hx=>?_⟩;have hx':(relabel scope X.env).names.lookup x=some .cell∨(relabel scope X.env).names.lookup x=some .free:=hx;have key:∀ k,(relabel scope X.env).names.lookup x=some k→(k=.cell∨k=.free)→∃ c,cl.lookup x=some c:=fun k e hk=>by
    have q:=aa7.mp hhas (x,k) (abb e);have q':(cl.lookup x).isSome=true:=by
      rcases hk with rfl|rfl <;> simpa using q
    exact abH.mp q'
  rcases hx' with e|e
  · exact key _ e (.inl rfl)
  · exact key _ e (.inr rfl)
theorem cR {NY:List Str} {cap:List (Option Nat)}:((NY.zip cap).all fun p=>!(fun _:Str=>false) p.1 || p.2 == none)=true:=List.all_eq_true.mpr fun _ _=>rfl
theorem oq {scope:Scope} (h:(scope.names.all fun y=>y.2 != .cell)=true):∀ y∈scope.names,y.2≠.cell:=fun y hy=>by
  have q:=aa7.mp h y hy;simpa using q
theorem iO {scope:Scope} (h:(scope.names.all fun y=>y.2 != .local || scope.names.lookup y.1 == some .local)=true):∀ y∈scope.names,y.2=.local→scope.names.lookup y.1=some .local:=fun y hy e=>by
  have q:=aa7.mp h y hy;rw [e] at q;simpa using q
theorem Inv.lstDone (I2:Inv X pins σ H2 s2) (f2:∀ b∈fp,d9 X pins H2 b) {D C:Addr} (hD:s2.heap.objs.size≤D) (hC:s2.heap.objs.size≤C) (eC:E.locals=C) {P:List (Addr × Obj)} {σ':St} {H3:Hp} {s4:Shared} {ys:List V} {its:List Value} {k:Nat} (I4:Inv (dP X E fn NY fp s2 H2) (Lp D its k :: P) σ' H3 s4) (rv:Vals ys its) (hz:ys.length≤sizeLine) :
    Inv X pins σ (upd H3 D (.lst ys)) s4∧H3 D=none∧upd H3 D (.lst ys) C=none∧∃ m,s4.heap.Ns C m:=by
  subst eC;have pD:=I4.pin (Lp D its k) (aab _ aai);obtain ⟨m,hnC,_⟩:=id I4.loc;refine ⟨I2.takeD hD (I2.outB f2 I4) pD.2.1 ⟨hz,its,k,rv,pD.1⟩,pD.2.1,?_,m,hnC⟩;have z:D≠E.locals:=pD.2.2.1;rw [aq (ab3 z)];exact I4.free
theorem Inv.lstEnd (I2:Inv X pins σ H2 s2) (f2:∀ b∈fp,d9 X pins H2 b) {D C:Addr} (hD:s2.heap.objs.size≤D) (hC:s2.heap.objs.size≤C) (eC:E.locals=C) {P:List (Addr × Obj)} {σ':St} {H3:Hp} {s4:Shared} {ys:List V} {its:List Value} {k:Nat} (I4:Inv (dP X E fn NY fp s2 H2) (Lp D its k :: P) σ' H3 s4) (rv:Vals ys its) (hz:ys.length≤sizeLine)
    {Q:VK} (qn:∀ p,H3 p=none→Q (.ref p) (upd H3 p (.lst ys))):compPost (model X.prog X.w) X.A X.xe none (EP X pins σ Q) (.ref D) C (.ok .next) s4:=by
  obtain ⟨I5,hD3,hC3,m,hn⟩:=I2.lstDone f2 hD hC eC I4 rv hz;exact ⟨m,hn,fun h' hsb=>⟨.ref D,_,I2.offC hC I5 hC3 fun b o hb e=>hsb.extBut b o hb e,rfl,qn D hD3⟩⟩
end
theorem rL {Y:Cx} {τ:Type} {val:τ→St} {nx:St→τ} (hc:Y.calm=true) (hxe:Y.xe=fun _ _=>False) (hrs:∀ {pn:List (Addr × Obj)} {σ':St} {H':Hp} {s':Shared},Inv Y pn σ' H' s'→Inv Y pn (val (nx σ')) H' s')
    {D:Addr} (hDx:D∈Y.ex∨Y.s₀.heap.objs.size≤D) (hDc:∀ x c,Y.env.cells.lookup x=some c→c≠D) (hDp:∀ p∈Y.pn,p.1≠D)
    {elt tg iter:Expr} {ifs:List Expr} {te:TE} {g:TG} {tt:TT} {G:List Comprehension} {scope:Scope} {pos:Pos} {k:Nat} (hbe:PE Y elt te) (hk:G[k]?=some ⟨tg,iter,ifs,0⟩) (hk2:G[k+1]?=none) (htg:PG Y tg g) (hfs:gL Y ifs tt)
    {P:List (Addr × Obj)} (hP:∀ p∈P,p.1≠D) {it:Addr} {fp:List Addr} {tn:Nat→Heap→Prop} {J:It} (T:Turn Y.prog Y.w Y.K tg J fp it tn) (neD:∀ b∈fp,D≠b) (fpY:∀ {H':Hp} {n:Nat} {its:List Value},(∀ b∈fp,H' b=none)→∀ b∈fp,d9 Y (Lp D its n :: P) H' b)
    {R:Result→Shared→Prop} {Fin:List V→τ→Hp→Prop} (hR:∀ ys its k t H s,Inv Y (Lp D its k :: P) (val t) H s→Vals ys its→ys.length≤sizeLine→Fin ys t H→R (.ok .next) s)
    {W:Nat→Nat→List V→τ→Hp→Prop} (turn:∀ i m ys t H,W i m ys t H→(J.stop i H∧Fin ys t H) ∨
      (J.go i H∧ys.length < sizeLine∧∀ x H',J.yld i H x H'→g x (val t) H' fun σ3 H5=>tt σ3 H5 fun b H6=>if b=true then te σ3 H6 fun v H7=>∃ m',m' < m∧W (i+1) m' (ys++[v]) (nx σ3) H7 else ∃ m',m' < m∧W (i+1) m' ys (nx σ3) H6))
    {m0 kk:Nat} {ys:List V} {its:List Value} {t:τ} {H:Hp} {s:Shared} (I:Inv Y (Lp D its kk :: P) (val t) H s) (rv:Vals ys its) (hz:ys.length≤sizeLine) (st:tn 0 s.heap) (fr:∀ b∈fp,H b=none) (w0:W 0 m0 ys t H) :
    codeAny (model Y.prog Y.w) Y.A (.compLoop (.ListComp elt G scope pos) k (.ref it) (.ref D) Y.env) R s:=by
  have xe:∀ e s,Y.xe e s→False:=fun e s z=>by rw [hxe] at z;exact z
  refine qP hk hk2 (fun n s'=>∃ i ys its k t H',Inv Y (Lp D its k :: P) (val t) H' s'∧Vals ys its∧ys.length≤sizeLine∧tn i s'.heap∧(∀ b∈fp,H' b=none)∧W i n ys t H') ?_ m0 ⟨0,ys,its,kk,t,H,I,rv,hz,st,fr,w0⟩;rintro n s3 ⟨i,ys3,its3,k3,t3,H3,I3,rv3,hz3,st3,fr3,w3⟩;rcases turn i n ys3 t3 H3 w3 with ⟨stop,qn⟩|⟨go,hlt,step⟩
  · refine wpAny_mono (T.done Y rfl rfl rfl hc i _ s3 _ H3 (fun _ _=>False) I3 (fpY fr3) st3 stop) (fun r s4 ⟨hr,I4⟩=>?_) fun _ _ z=>z;subst hr;exact hR ys3 its3 k3 t3 H3 s4 I4 rv3 hz3 qn
  · refine wpAny_mono (T.item Y rfl rfl rfl hc i _ s3 _ H3 (fun _ _=>False) I3 (fpY fr3) st3 go) (fun r s4 ⟨u,hr,h4⟩=>?_) fun _ _ z=>z;subst hr;refine wpAny_mono h4 (fun _ s5 ⟨x,H5,I5,r5,y5,st5,fr5⟩=>?_) fun _ _ z=>z;have I5':=I5.pinned (fpY fr5) (T.obj _ _ st5);refine wpAny_mono (htg _ s5 _ H5 x u _ I5' r5 (step x H5 y5)) (fun _ s6 ⟨σ6,H6,I6,q6⟩=>?_) fun e s z=>(xe e s z).elim;refine wpAny_mono (hfs _ s6 σ6 H6 _ I6 q6) (fun ok s7 ⟨H7,I7,q7⟩=>?_) fun e s z=>(xe e s z).elim;have again:∀ {ys':List V} {its':List Value} {k':Nat} {σ':St} {H':Hp} {s':Shared},Inv Y (Lp D its' k' :: (P++cO fp s5.heap)) σ' H' s'→Vals ys' its'→ys'.length≤sizeLine→(∃ m',m' < n∧W (i+1) m' ys' (nx σ') H') →
        ∃ m,m < n∧∃ i ys its k t H',Inv Y (Lp D its k :: P) (val t) H' s'∧Vals ys its∧ys.length≤sizeLine∧tn i s'.heap∧(∀ b∈fp,H' b=none)∧W i m ys t H':=fun {ys' its' k' σ' H' s'} Z rv' hz' hw=>by
      obtain ⟨m',hm,w'⟩:=hw;have pn:∀ {b:Addr} {o:Obj},b∈fp→s5.heap.get? b=some o→_:=fun {b o} hb e=>Z.pin (b,o) (aab _ (aae _ (aab _ (cT hb e))));refine ⟨m',hm,i+1,ys',its',k',nx σ',H',hrs (Inv.unpinned (pl:=cO fp s5.heap) Z),rv',hz',T.keep _ _ _ st5 fun b hb o e=>(pn hb e).1,fun b hb=>?_,w'⟩;obtain ⟨o,e,d⟩:=T.obj _ _ st5 b hb;exact (pn hb e).2.1
    cases ok with
    | false =>
      rw [if_neg aal] at q7 ⊢;exact again I7 rv3 hz3 q7
    | true =>
      rw [if_pos rfl] at q7 ⊢;refine wpAny_mono (hbe _ s7 σ6 H7 _ I7 q7) (fun xv s15 ⟨v,H15,I15,r15,q15⟩=>?_) fun e s z=>(xe e s z).elim;have pD:=I15.pin (Lp D its3 k3) (aab _ aai);have hlen:=rv3.length;refine append_at pD.1 (fun h16 hs16 hD16=>?_) (by rw [aah];lia);have I16:Inv Y (P++cO fp s5.heap) σ6 H15 s15:=I15.pins_of fun p hp=>I15.pin p (aab _ (aae _ hp));have I17:Inv Y (P++cO fp s5.heap) σ6 H15 { s15 with heap:=h16 }:=I16.turned (t':=s15.toks) (it:=D) (fun b o hb e=>hs16.extBut b o hb e) pD.2.1 pD.2.2.1 hDx hDc fun p hp=>by
        rcases aan.mp hp with z|z
        · exact hDp p z
        · rcases aan.mp z with z|z
          · exact hP p z
          · exact ab3 (neD _ (jp z).1)
      have I18:Inv Y (Lp D (its3++[xv]) (k3+1) :: (P++cO fp s5.heap)) σ6 H15 { s15 with heap:=h16 }:=I17.pins_of fun p hp=>by
        rcases aam.mp hp with z|z
        · rw [z];refine ⟨?_,pD.2.1,pD.2.2.1,pD.2.2.2.1,fun v z=>by cases z⟩;rw [List.push_toArray] at hD16;exact hD16
        · exact I17.pin p (aab _ z)
      exact again I18 (rv3.append (.cons r15 .nil)) (by rw [aap,aby];exact hlt) q15
theorem Turn.lt {P:Program} {w:World} {K:aaa} {tg:Expr} {J:It} {fp:List Addr} {it:Addr} {tn:Nat→Heap→Prop} (T:Turn P w K tg J fp it tn) {h:Heap} {i:Nat} (st:tn i h):∀ b∈fp,b < h.objs.size:=fun b hb=>by
  obtain ⟨o,e,_⟩:=T.obj _ _ st b hb;exact aar e
theorem BlkC.neD {X:Cx} {s2:Shared} {h₁:Heap} {E:Env} {fn:Str→Bool} (B:BlkC X s2 h₁ E fn) (hc:∀ x c,X.env.cells.lookup x=some c→c < s2.heap.objs.size) {D:Addr} (hD:s2.heap.objs.size≤D) {o:Obj} (h:h₁.get? D=some o) (ho:∀ v,o.data≠.cell v):∀ x c,E.cells.lookup x=some c→c≠D:=fun x c e z=>by
  rcases B.cell x c e with q|q
  · exact absurd (hc x c q.2) (by rw [z];exact acz.mpr hD)
  · have:=q.2.2.2.1;rw [z,h] at this;cases this;exact ho _ rfl
theorem Inv.newC {X:Cx} {pins:List (Addr × Obj)} {σ:St} {H2:Hp} {s2:Shared} {h₁:Heap} (I2:Inv X pins σ H2 s2) {scope:Scope} {cl:List (Str × Addr)} (hci:CellsIn X.env cl) (hkind:scope.kind=.function) (hhas:((relabel scope X.env).names.all fun p=>(p.2 != .cell && p.2 != .free) || (cl.lookup p.1).isSome)=true) {o:Obj}
    {m:Str→Option Value} (hns:h₁.Ns (s2.heap.push o).objs.size m) (ext:∀ b u,b≠(s2.heap.push o).objs.size→(s2.heap.push o).get? b=some u→h₁.get? b=some u) (hof:o.isFreed=false:=by rfl) :
    s2.heap.objs.size < (s2.heap.push o).objs.size∧BlkC X s2 h₁ (compEnvC scope cl (s2.heap.push o).objs.size X.env) (fun _=>false)∧h₁.get? s2.heap.objs.size=some o:=by
  have hC:s2.heap.objs.size < (s2.heap.push o).objs.size:=by rw [abN];exact abM _
  exact ⟨hC,I2.blkC hci hkind hhas (abg hC) (fun b u e=>ext b u (aaz (ab8 (aar e) hC)) (aad _ e)) ⟨m,hns⟩,ext _ _ (aaz hC) (aaq _ hof)⟩
theorem Inv.goLast {X:Cx} {pins:List (Addr × Obj)} {σ:St} {H2:Hp} {s2:Shared} {h₁:Heap} {E:Env} {fn:Str→Bool} {NY:List Str} {fp:List Addr} (I2:Inv X pins σ H2 s2) (f2:∀ b∈fp,d9 X pins H2 b) (fpl:∀ b∈fp,b < s2.heap.objs.size) (B:BlkC X s2 h₁ E fn) {cap:List (Option Nat)} (hcap:CapOk X.env E.scope X.N NY cap)
    (hx:((NY.zip cap).all fun p=>!fn p.1 || p.2 == none)=true) (hc:X.calm=true) {C:Addr} (hC:s2.heap.objs.size < C) (eC:E.locals=C) (hD:h₁.get? s2.heap.objs.size=some { cls:=.type "list",dict:=none,data:=.seq ([]:List Value).toArray })
    {tg elt iter:Expr} {ifs:List Expr} {g:TG} {tt:TT} {te:TE} {J:It} {it:Addr} {tn:Nat→Heap→Prop} (T:Turn X.prog X.w X.K tg J fp it tn) (st:tn 0 h₁) (hbe:PE (dP X E fn NY fp s2 H2) elt te) (hbg:PG (dP X E fn NY fp s2 H2) tg g) (hbt:gL (dP X E fn NY fp s2 H2) ifs tt)
    {G:List Comprehension} (hk:G[0]?=some ⟨tg,iter,ifs,0⟩) (hk2:G[1]?=none) {scope:Scope} {pos:Pos} {t':Nat} {W:Nat→Nat→List V→Hp→Prop} {Fin:List V→Hp→Prop}
    (turn:∀ i m ys H,W i m ys H→(J.stop i H∧Fin ys H)∨(J.go i H∧ys.length < sizeLine∧∀ x H',J.yld i H x H'→g x (b_ cap σ) H' fun σ2 H2=>tt σ2 H2 fun b H3=>if b=true then te σ2 H3 fun v H4=>∃ m',m' < m∧W (i+1) m' (ys++[v]) H4 else ∃ m',m' < m∧W (i+1) m' ys H3))
    {m0:Nat} (w0:W 0 m0 [] H2) {R:Result→Shared→Prop} (hR:∀ ys its k H s,Inv (dP X E fn NY fp s2 H2) [Lp s2.heap.objs.size its k] (b_ cap σ) H s→Vals ys its→ys.length≤sizeLine→Fin ys H→R (.ok .next) s) :
    codeAny (model X.prog X.w) X.A (.compLoop (.ListComp elt G scope pos) 0 (.ref it) (.ref s2.heap.objs.size) E) R { s2 with heap:=h₁,toks:=t' }:=by
  subst eC;exact rL (τ:=Unit) (val:=fun _=>b_ cap σ) (nx:=fun _=>()) (Y:=dP X E fn NY fp s2 H2) hc rfl (fun Z=>I2.recap f2 B hcap hx Z) (.inr (aag _)) (B.neD I2.cellLt (aag _) hD fun v z=>by cases z) (fun p hp=>by cases hp) hbe hk hk2 hbg hbt (P:=[]) (fun p hp=>by cases hp) T
    (fun b hb=>aaT (fpl b hb)) (fun hn=>I2.fps f2 fpl B (fun p hp=>by rw [aaj.mp hp];exact aag _) hn) (Fin:=fun ys _ H=>Fin ys H) (fun ys its k _ H s=>hR ys its k H s)
    (W:=fun i m ys _ H=>W i m ys H) (fun i m ys _ H=>turn i m ys H) (t:=()) (I2.blk f2 fpl B hcap hx (fun p hp=>by rw [aaj.mp hp];exact ⟨hD,aag _,aaz hC,fun v z=>by cases z⟩)) .nil (aaN _) st (fun b hb=>(f2 b hb).1) w0
abbrev xW (cap:List (Option Nat)) (g:TG) (tt:TT) (te:TE) (σ:St) (Q:VK) (J:It) (H1:Hp):Prop:=∃ W:Nat→Nat→List V→Hp→Prop,(∃ m,W 0 m [] H1)∧∀ i m ys H,W i m ys H →
  (J.stop i H∧∀ p,H p=none→Q (.ref p) (upd H p (.lst ys))) ∨
  (J.go i H∧ys.length < sizeLine∧∀ x H',J.yld i H x H'→g x (b_ cap σ) H' fun σ2 H2=>tt σ2 H2 fun b H3=>if b=true then te σ2 H3 fun v H4=>∃ m',m' < m∧W (i+1) m' (ys++[v]) H4 else ∃ m',m' < m∧W (i+1) m' ys H3)
def tLc (cap:List (Option Nat)) (wi:TI) (g:TG) (tt:TT) (te:TE):TE:=fun σ H Q=>wi σ H (xW cap g tt te σ Q)
section
variable {X:Cx}
theorem gf {elt tg iter:Expr} {ifs:List Expr} {scope:Scope} {pos:Pos} {cl:List (Str × Addr)} {NY:List Str} {cap:List (Option Nat)} {wi:TI} {g:TG} {tt:TT} {te:TE} (hc:X.calm=true) (hi:PI X tg iter wi)
    (hclos:closureFor scope X.env=pure cl) (hci:CellsIn X.env cl) (hcap:CapOk X.env (relabel scope X.env) X.N NY cap)
    (hb:∀ fp s H C,PG (aL X scope cl NY fp s H C) tg g∧gL (aL X scope cl NY fp s H C) ifs tt∧PE (aL X scope cl NY fp s H C) elt te)
    (hkind:scope.kind=.function:=by rfl) (hnc:(scope.names.all fun y=>y.2 != .cell)=true:=by rfl)
    (hnames:(scope.names.all fun y=>y.2 != .local || scope.names.lookup y.1 == some .local)=true:=by rfl)
    (hhas:((relabel scope X.env).names.all fun p=>(p.2 != .cell && p.2 != .free) || (cl.lookup p.1).isSome)=true:=by rfl)
    (hs:∀ x,foldedSetIterable iter X.env x=pure x:=by intro _;rfl) :
    PE X (.ListComp elt [⟨tg,iter,ifs,0⟩] scope pos) (tLc cap wi g tt te):=by
  intro pins s σ H Q I h;rw [eval_ListComp];refine wpAny_comprehension_free (use:=none) rfl hs hclos hkind (iO hnames) (wpAny_mono (hi pins s σ H _ I h) (fun v s1 h1=>wpAny_mono h1 (fun itv s2 h2=>?_) fun _ _ e=>e) fun _ _ e=>e);obtain ⟨it,fp,tn,J,H2,e,I2,T,st2,f2,W,⟨m0,w0⟩,turn⟩:=h2;subst e;refine wpAny_newObj_type (wpAny_newFunctionEnv (oq hnc) (by intro y hy;simp at hy) (fun h₁ hns₁ hsb₁=>?_) hkind);dsimp only at hns₁ hsb₁ ⊢;obtain ⟨hC,B,hD⟩:=I2.newC hci hkind hhas hns₁ fun b o hb e=>hsb₁.extBut b o hb (aad _ e);generalize (s2.heap.push { cls:=.type "list",dict:=none,data:=.seq ([]:List Value).toArray }).objs.size=C at hC B ⊢;obtain ⟨hbg,hbt,hbe⟩:=hb fp s2 H2 C;have stW:=T.keep _ _ h₁ st2 fun b _ o e=>B.old b o e;have loop:=I2.goLast f2 (T.lt st2) B hcap cR hc hC rfl hD T stW hbe hbg hbt (G:=[⟨tg,iter,ifs,0⟩]) rfl rfl (scope:=scope) (pos:=pos) (iter:=iter) (t':=s2.toks+([]:List (Str × Value)).length) turn w0 (R:=compPost (model X.prog X.w) X.A X.xe none (EP X pins σ Q) (.ref s2.heap.objs.size) C) fun ys its k H s I4 rv hz fin=>I2.lstEnd f2 (aag _) (abg hC) rfl I4 rv hz fin;exact codeAny_compStart_list loop (T.self _ 0 _ _ _ stW loop)
end
open PySem PySem.Spec PyProof.Rows
section
variable {X:Cx}
theorem bN {n:String}:eW X (.builtin "isinstance") (fun xs H Q=>∃ x t b,xs=[x,.ty n]∧TyOf X.K H x t∧PySem.W.kitOne X.K t (.type n)=some b∧Q (.bl b) H):=by
  intro pins s σ H xs us Q I r h;obtain ⟨x,t,b,rfl,ty,e,q⟩:=h;obtain ⟨u,w',rfl,rx,rt⟩:=tL r;cases rt;exact tz I rx ty e fun tk=>⟨.bl b,H,I.tok _,rfl,q⟩
theorem oV:OpR X (binaryOp .FloorDiv) (rI (fun _ j=>0 < j∧j < 2 ^ 64) fun i j=>.int (i / j)):=opI fun i j _ _ _ _ _ hc q=>by
  have h1:(0:Int) < j:=hc.1;have h2:j < 2 ^ 64:=hc.2;refine floordiv_int (by lia) (by rw [Int.fdiv_eq_ediv_of_nonneg i (by lia)];exact q) (.inl (PyProof.noPylong_of_log2 ?_));have h3:j.natAbs < 2 ^ 64:=by lia
  have h4:j.natAbs≠0:=by lia
  have h5:j.natAbs.log2 < 64:=(Nat.log2_lt h4).mpr h3;lia
def Cal (P:Program) (w:World) (K:aaa) (mg:Str→Option Value) (base:Heap) (x:Str) (k:Nat) (ps:List Str) (sp:Sp):Prop :=
  ∃ f fd,FnOk P w K mg base CX0 k f fd ps sp∧Binds K fd ps []∧aaZ K (.ref f)=true∧mg x=some (.ref f)
theorem aj {x:Str} {k k':Nat} {ps:List Str} {sp:Sp} {e:Expr} {es:List Expr} {t:TA} {p pos:Pos} (C:Cal X.prog X.w X.K X.mg X.base x k ps sp) (hr:Room k' X.A) (hk:k≤k') (hg:Gl X x) (ha:PA X (e :: es) t)
    (hdb:(x == ("__debug__":Str))=false:=by decide) (he:starEach (e :: es) X.env=(false,eval e X.env) :: starEach es X.env:=by rfl) (hpl:(backTo pos (starEach es X.env)).any (·.1)=false:=by rfl) :
    PE X (.Call (.Name x p) (e :: es) [] pos) (tR sp [] E0 t):=by
  obtain ⟨f,fd,F,b,kp,m⟩:=C;exact rq F (hr.mono hk) hg m kp b .nil wI ha hdb he hpl
end
theorem Same.new {H:Hp} {p:Addr} (h:H p=none) (o:HO):Same H (upd H p o):=fun b u q=>by rw [aq (aF q h)];exact q
def But (w:Addr) (H H':Hp):Prop:=∀ b o,b≠w→H b=some o→H' b=some o
theorem But.refl {w:Addr} {H:Hp}:But w H H:=fun _ _ _ h=>h
theorem But.trans {w:Addr} {H H1 H2:Hp} (a:But w H H1) (b:But w H1 H2):But w H H2:=fun c o n h=>b c o n (a c o n h)
theorem But.of {w:Addr} {H H':Hp} (a:Same H H'):But w H H':=fun c o _ h=>a c o h
theorem But.new {w:Addr} {H:Hp} {p:Addr} (h:H p=none) (o:HO):But w H (upd H p o):=But.of (Same.new h o)
theorem But.put {w:Addr} {H:Hp} {o:HO}:But w H (upd H w o):=fun b u n q=>by rw [aq n];exact q
end L2
namespace Srt
open PySem PySem.W PyProof.Rows
def run {α:Type} (lt:Nat→Nat→Bool):KasT α→α
  | .ret a=>a
  | .ask i j k=>run lt (k (lt i j))
theorem eD {α β:Type} (lt:Nat→Nat→Bool) (f:α→KasT β):∀ t:KasT α,run lt (t.bind f)=run lt (f (run lt t))
  | .ret _=>rfl
  | .ask i j k=>eD lt f (k (lt i j))
section
variable (key:Nat→Int)
abbrev lt:Nat→Nat→Bool:=fun i j=>decide (key i < key j)
def kp (p:Array Nat) (x:Nat):Int:=key (p.getD x 0)
def Up (p:Array Nat) (m:Nat):Prop:=∀ i j,i < j→j < m→kp key p i < kp key p j
def wD (p:Array Nat) (m:Nat):Prop:=∀ i j,i < j→j < m→kp key p j < kp key p i
def jJ (p:Array Nat) (n:Nat):Prop:=∀ i j,i < n→j < n→kp key p i=kp key p j→i=j
variable {key}
theorem qS (p:Array Nat):∀ (f n:Nat),1≤n→jJ key p (n+f)→Up key p n →
    n≤run (lt key) (kas_asc p f n)∧run (lt key) (kas_asc p f n)≤n+f∧Up key p (run (lt key) (kas_asc p f n))∧(run (lt key) (kas_asc p f n) < n+f→kp key p (run (lt key) (kas_asc p f n)) < kp key p (run (lt key) (kas_asc p f n) - 1))
  | 0,n,h1,ap,up=>⟨aag _,aag _,up,fun h=>absurd h (abm _)⟩
  | f+1,n,h1,ap,up=>by
    show _≤run (lt key) (if lt key (p.getD n 0) (p.getD (n - 1) 0)=true then KasT.ret n else kas_asc p f (n+1))∧_;by_cases c:lt key (p.getD n 0) (p.getD (n - 1) 0)=true
    · have e:run (lt key) (kas_asc p (f+1) n)=n:=by
        show run (lt key) (if lt key (p.getD n 0) (p.getD (n - 1) 0)=true then KasT.ret n else kas_asc p f (n+1))=n;rw [if_pos c];rfl
      rw [if_pos c];show n≤n∧run (lt key) (kas_asc p (f+1) n)≤_∧Up key p (run (lt key) (kas_asc p (f+1) n))∧_;rw [e];exact ⟨aag _,by lia,up,fun _=>of_decide_eq_true c⟩
    · have e:run (lt key) (kas_asc p (f+1) n)=run (lt key) (kas_asc p f (n+1)):=by
        show run (lt key) (if lt key (p.getD n 0) (p.getD (n - 1) 0)=true then KasT.ret n else kas_asc p f (n+1))=_;rw [if_neg c]
      have c':¬ kp key p n < kp key p (n - 1):=fun z=>c (decide_eq_true z);have ne:kp key p n≠kp key p (n - 1):=fun z=>by
        have:=ap n (n - 1) (by lia) (by lia) z;lia
      have up':Up key p (n+1):=fun i j hij hj=>by
        by_cases hjn:j < n
        · exact up i j hij hjn
        · have : j=n:=by lia
          subst this;by_cases hi:i=j - 1
          · subst hi;lia
          · have:=up i (j - 1) (by lia) (by lia);lia
      have ih:=qS p f (n+1) (by lia) (by rw [show n+1+f=n+(f+1) by lia];exact ap) up';rw [if_neg c];show n≤_∧run (lt key) (kas_asc p (f+1) n)≤_∧Up key p (run (lt key) (kas_asc p (f+1) n))∧_;rw [e];refine ⟨by lia,by lia,ih.2.2.1,fun h=>ih.2.2.2 (by lia)⟩
theorem rO (p:Array Nat):∀ (f n:Nat),2≤n→jJ key p (n+f)→wD key p n →
    ∃ m,run (lt key) (kas_desc f p n 0)=(p,m,0)∧n≤m∧m≤n+f∧wD key p m
  | 0,n,h1,ap,dn=>⟨n,rfl,aag _,aag _,dn⟩
  | f+1,n,h1,ap,dn=>by
    by_cases c:lt key (p.getD n 0) (p.getD (n - 1) 0)=true
    · have e:run (lt key) (kas_desc (f+1) p n 0)=run (lt key) (kas_desc f p (n+1) 0):=by
        show run (lt key) (if lt key (p.getD n 0) (p.getD (n - 1) 0)=true then (if 0 > 0 then _ else kas_desc f p (n+1) 0) else _)=_;rw [if_pos c,if_neg (by decide)]
      have c':kp key p n < kp key p (n - 1):=of_decide_eq_true c;have dn':wD key p (n+1):=fun i j hij hj=>by
        by_cases hjn:j < n
        · exact dn i j hij hjn
        · have : j=n:=by lia
          subst this;by_cases hi:i=j - 1
          · subst hi;exact c'
          · have:=dn i (j - 1) (by lia) (by lia);lia
      obtain ⟨m,e1,h2,h3,h4⟩:=rO p f (n+1) (by lia) (by rw [show n+1+f=n+(f+1) by lia];exact ap) dn';exact ⟨m,e.trans e1,by lia,by lia,h4⟩
    · have c':¬ kp key p n < kp key p (n - 1):=fun z=>c (decide_eq_true z);have ne:kp key p n≠kp key p (n - 1):=fun z=>by
        have:=ap n (n - 1) (by lia) (by lia) z;lia
      have d:lt key (p.getD (n - 1) 0) (p.getD n 0)=true:=decide_eq_true (show kp key p (n - 1) < kp key p n by lia);refine ⟨n,?_,aag _,by lia,dn⟩;show run (lt key) (if lt key (p.getD n 0) (p.getD (n - 1) 0)=true then _ else KasT.ask (p.getD (n - 1) 0) (p.getD n 0) fun d=>if d=true then KasT.ret (p,n,0) else kas_desc f p (n+1) (0+1))=_;rw [if_neg c];show run (lt key) (if lt key (p.getD (n - 1) 0) (p.getD n 0)=true then KasT.ret (p,n,0) else kas_desc f p (n+1) (0+1))=_;rw [if_pos d];rfl
theorem nX {p:Array Nat} {n x:Nat} (hn:n≤p.size):kp key (kas_rev p 0 n) x=if x < n then kp key p (n - 1 - x) else kp key p x:=by
  have e:=getElem?_mirror_all (i:=0) hn x;have g:∀ (a b:Array Nat) (i j:Nat),a[i]?=b[j]?→a.getD i 0=b.getD j 0:=fun a b i j h=>by
    rw [aaE,aaE,h]
  by_cases h:x < n
  · rw [if_pos h];rw [if_pos ⟨aaN _,h⟩] at e;unfold kp kas_rev;rw [g _ _ _ _ e,show 0+n - 1 - x=n - 1 - x by lia]
  · rw [if_neg h];rw [if_neg (fun z=>h z.2)] at e;unfold kp kas_rev;rw [g _ _ _ _ e]
theorem vg {p:Array Nat} {n:Nat} (h1:1≤n) (hs:p.size=n) (ap:jJ key p n) :
    ∃ m p',run (lt key) (kas_count n p)=(m,p')∧1≤m∧m≤n∧p'.Perm p∧Up key p' m:=by
  have a:=qS (key:=key) p (n - 1) 1 (aag _) (by rw [show 1+(n - 1)=n by lia];exact ap) (fun i j hij hj=>by lia);have e:run (lt key) (kas_count n p)=run (lt key) (if (run (lt key) (kas_asc p (n - 1) 1) == n)=true then KasT.ret (run (lt key) (kas_asc p (n - 1) 1),p) else if run (lt key) (kas_asc p (n - 1) 1) > 1 then
      KasT.ask (p.getD 0 0) (p.getD (run (lt key) (kas_asc p (n - 1) 1) - 1) 0) fun c=>if c=true then KasT.ret (run (lt key) (kas_asc p (n - 1) 1),p) else kas_descPart (run (lt key) (kas_asc p (n - 1) 1)) n (kas_rev p 0 (run (lt key) (kas_asc p (n - 1) 1)))
      else kas_descPart (run (lt key) (kas_asc p (n - 1) 1)) n p):=eD _ _ _
  rw [e];generalize run (lt key) (kas_asc p (n - 1) 1)=r at a;obtain ⟨a1,a2,a3,a4⟩:=a;by_cases c1:(r == n)=true
  · rw [if_pos c1];have : r=n:=eq_of_beq c1;exact ⟨r,p,rfl,a1,by lia,Array.Perm.refl _,a3⟩
  rw [if_neg c1];have rn:r≠n:=fun z=>c1 (by rw [z];exact beq_self_eq_true n);by_cases c2:r > 1
  · rw [if_pos c2];have d:lt key (p.getD 0 0) (p.getD (r - 1) 0)=true:=decide_eq_true (show kp key p 0 < kp key p (r - 1) from a3 0 (r - 1) (by lia) (by lia));refine ⟨r,p,?_,a1,by lia,Array.Perm.refl _,a3⟩;show run (lt key) (if lt key (p.getD 0 0) (p.getD (r - 1) 0)=true then KasT.ret (r,p) else _)=_;rw [if_pos d];rfl
  · rw [if_neg c2];have r1:r=1:=by lia
    subst r1;have d0:=a4 (by lia);have dn:wD key p 2:=fun i j hij hj=>by
      have : i=0:=by lia
      have : j=1:=by lia
      subst i;subst j;exact d0
    obtain ⟨m,e1,h2,h3,h4⟩:=rO (key:=key) p (n - 2) 2 (aag _) (by rw [show 2+(n - 2)=n by lia];exact ap) dn;have hm:m≤p.size:=by lia
    have up:Up key (kas_rev p 0 m) m:=fun i j hij hj=>by
      rw [nX hm,nX hm,if_pos (by lia),if_pos hj];exact h4 _ _ (by lia) (by lia)
    have ap':jJ key (kas_rev p 0 m) (m+(n - m)):=fun i j hi hj z=>by
      rw [nX hm,nX hm] at z;by_cases ci:i < m
      · rw [if_pos ci] at z;by_cases cj:j < m
        · rw [if_pos cj] at z;have:=ap _ _ (by lia) (by lia) z;lia
        · rw [if_neg cj] at z;have:=ap _ _ (by lia) (by lia) z;lia
      · rw [if_neg ci] at z;by_cases cj:j < m
        · rw [if_pos cj] at z;have:=ap _ _ (by lia) (by lia) z;lia
        · rw [if_neg cj] at z;exact ap _ _ (by lia) (by lia) z
    have b:=qS (key:=key) (kas_rev p 0 m) (n - m) m (by lia) ap' up;refine ⟨run (lt key) (kas_asc (kas_rev p 0 m) (n - m) m),kas_rev p 0 m,?_,by lia,by lia,mirror_perm _ _ _ _,b.2.2.1⟩;show run (lt key) ((kas_desc (n - (1+1)) p (1+1) 0).bind _)=_;rw [eD,e1];show run (lt key) (if 0 > 0 then _ else kas_tail3 m n p)=_;rw [if_neg (by decide)];show run (lt key) ((kas_asc (kas_rev p 0 m) (n - m) m).bind _)=_;rw [eD];rfl
theorem kz {p:Array Nat} {k:Nat} (up:Up key p k) (ap:∀ i,i < k→kp key p i≠kp key p k):∀ (f l r:Nat),l≤r→r≤k→r≤l+f→(∀ i,i < l→kp key p i < kp key p k)→(∀ i,r≤i→i < k→kp key p k < kp key p i) →
    run (lt key) (kas_place p k f l r)≤k∧(∀ i,i < run (lt key) (kas_place p k f l r)→kp key p i < kp key p k)∧(∀ i,run (lt key) (kas_place p k f l r)≤i→i < k→kp key p k < kp key p i)
  | 0,l,r,h1,h2,h3,h4,h5=>by
    have : l=r:=by lia
    subst this;exact ⟨h2,h4,h5⟩
  | f+1,l,r,h1,h2,h3,h4,h5=>by
    show run (lt key) (if l ≥ r then KasT.ret l else KasT.ask (p.getD k 0) (p.getD ((l+r) / 2) 0) fun c=>if c=true then kas_place p k f l ((l+r) / 2) else kas_place p k f ((l+r) / 2+1) r)≤k∧(∀ i,i < run (lt key) (kas_place p k (f+1) l r)→_)∧(∀ i,run (lt key) (kas_place p k (f+1) l r)≤i→_)
    by_cases c:l ≥ r
    · have : l=r:=by lia
      subst this;have e:run (lt key) (kas_place p k (f+1) l l)=l:=by
        show run (lt key) (if l ≥ l then KasT.ret l else _)=l;rw [if_pos c];rfl
      rw [if_pos c,e];exact ⟨h2,h4,h5⟩
    · have e:run (lt key) (kas_place p k (f+1) l r)=run (lt key) (if lt key (p.getD k 0) (p.getD ((l+r) / 2) 0)=true then kas_place p k f l ((l+r) / 2) else kas_place p k f ((l+r) / 2+1) r):=by
        show run (lt key) (if l ≥ r then KasT.ret l else KasT.ask (p.getD k 0) (p.getD ((l+r) / 2) 0) fun c=>if c=true then kas_place p k f l ((l+r) / 2) else kas_place p k f ((l+r) / 2+1) r)=_;rw [if_neg c];rfl
      have e':run (lt key) (if l ≥ r then KasT.ret l else KasT.ask (p.getD k 0) (p.getD ((l+r) / 2) 0) fun c=>if c=true then kas_place p k f l ((l+r) / 2) else kas_place p k f ((l+r) / 2+1) r)=run (lt key) (kas_place p k (f+1) l r):=rfl;rw [e',e];by_cases d:lt key (p.getD k 0) (p.getD ((l+r) / 2) 0)=true
      · rw [if_pos d];have d':kp key p k < kp key p ((l+r) / 2):=of_decide_eq_true d;refine kz up ap f l ((l+r) / 2) (by lia) (by lia) (by lia) h4 fun i hi hk=>?_;by_cases hi':i=(l+r) / 2
        · subst hi';exact d'
        · have:=up ((l+r) / 2) i (by lia) hk;lia
      · rw [if_neg d];have d':¬ kp key p k < kp key p ((l+r) / 2):=fun z=>d (decide_eq_true z);have ne:=ap ((l+r) / 2) (by lia);refine kz up ap f ((l+r) / 2+1) r (by lia) h2 (by lia) (fun i hi=>?_) h5;by_cases hi':i=(l+r) / 2
        · subst hi';lia
        · have:=up i ((l+r) / 2) (by lia) (by lia);lia
theorem tj {p:Array Nat} {k d x:Nat} (hk:k < p.size) (hd:d≤k):kp key (bubble p k d) x=if x=k - d then kp key p k else if k - d < x∧x≤k then kp key p (x - 1) else kp key p x:=by
  have e:=getElem?_bubble hk d hd x;have g:∀ (a b:Array Nat) (i j:Nat),a[i]?=b[j]?→a.getD i 0=b.getD j 0:=fun a b i j h=>by
    rw [aaE,aaE,h]
  unfold kp;by_cases h1:x=k - d
  · rw [if_pos h1] at e ⊢;rw [g _ _ _ _ e]
  · rw [if_neg h1] at e ⊢;by_cases h2:k - d < x∧x≤k
    · rw [if_pos h2] at e ⊢;rw [g _ _ _ _ e]
    · rw [if_neg h2] at e ⊢;rw [g _ _ _ _ e]
theorem vo {n:Nat}:∀ (f:Nat) (p:Array Nat) (k:Nat),p.size=n→k+f=n→jJ key p n→Up key p k→(run (lt key) (kas_bin f p k)).Perm p∧Up key (run (lt key) (kas_bin f p k)) n
  | 0,p,k,hs,hk,ap,up=>⟨Array.Perm.refl _,by (have : k=n:=by lia);subst this;exact up⟩
  | f+1,p,k,hs,hk,ap,up=>by
    have e:run (lt key) (kas_bin (f+1) p k)=run (lt key) (kas_bin f (bubble p k (k - run (lt key) (kas_place p k k 0 k))) (k+1)):=eD _ _ _;have pl:=kz (key:=key) (p:=p) (k:=k) up (fun i hi z=>by have:=ap i k (by lia) (by lia) z;lia) k 0 k (aaN _) (aag _) (by lia) (fun i hi=>absurd hi (Nat.not_lt_zero _)) (fun i h1 h2=>by lia);rw [e];generalize run (lt key) (kas_place p k k 0 k)=l at pl;obtain ⟨l1,l2,l3⟩:=pl;have hkp:k < p.size:=by lia
    have kb:∀ x,kp key (bubble p k (k - l)) x=if x=l then kp key p k else if l < x∧x≤k then kp key p (x - 1) else kp key p x:=fun x=>by
      have:=tj (key:=key) (x:=x) hkp (Nat.sub_le k l);rw [show k - (k - l)=l by lia] at this;exact this
    have up':Up key (bubble p k (k - l)) (k+1):=fun i j hij hj=>by
      rw [kb i,kb j];by_cases i1:i=l
      · rw [if_pos i1,if_neg (by lia),if_pos ⟨by lia,by lia⟩];exact l3 _ (by lia) (by lia)
      · rw [if_neg i1];by_cases i2:l < i∧i≤k
        · rw [if_pos i2,if_neg (by lia),if_pos ⟨by lia,by lia⟩];exact up _ _ (by lia) (by lia)
        · rw [if_neg i2];by_cases j1:j=l
          · rw [if_pos j1];exact l2 _ (by lia)
          · rw [if_neg j1];by_cases j2:l < j∧j≤k
            · rw [if_pos j2];have a1:=l2 i (by lia);have a2:=l3 (j - 1) (by lia) (by lia);lia
            · rw [if_neg j2];exact up _ _ (by lia) (by lia)
    have ap':jJ key (bubble p k (k - l)) n:=fun i j hi hj z=>by
      rw [kb i,kb j] at z;by_cases i1:i=l
      · rw [if_pos i1] at z;by_cases j1:j=l
        · lia
        · rw [if_neg j1] at z;by_cases j2:l < j∧j≤k
          · rw [if_pos j2] at z;have:=ap _ _ (by lia) (by lia) z;lia
          · rw [if_neg j2] at z;have:=ap _ _ (by lia) (by lia) z;lia
      · rw [if_neg i1] at z;by_cases i2:l < i∧i≤k
        · rw [if_pos i2] at z;by_cases j1:j=l
          · rw [if_pos j1] at z;have:=ap _ _ (by lia) (by lia) z;lia
          · rw [if_neg j1] at z;by_cases j2:l < j∧j≤k
            · rw [if_pos j2] at z;have:=ap _ _ (by lia) (by lia) z;lia
            · rw [if_neg j2] at z;have:=ap _ _ (by lia) (by lia) z;lia
        · rw [if_neg i2] at z;by_cases j1:j=l
          · rw [if_pos j1] at z;have:=ap _ _ (by lia) (by lia) z;lia
          · rw [if_neg j1] at z;by_cases j2:l < j∧j≤k
            · rw [if_pos j2] at z;have:=ap _ _ (by lia) (by lia) z;lia
            · rw [if_neg j2] at z;exact ap _ _ (by lia) (by lia) z
    have ih:=vo f (bubble p k (k - l)) (k+1) (by rw [bubble_size];exact hs) (by lia) ap' up';exact ⟨ih.1.trans (bubble_perm _ _ _),ih.2⟩
theorem sort_ok {n:Nat} (h1:1≤n) (inj:∀ i j,i < n→j < n→key i=key j→i=j) :
    (run (lt key) (kas_sort n)).Perm (ab7 (aaI n))∧Up key (run (lt key) (kas_sort n)) n:=by
  have g:∀ i,i < n→(ab7 (aaI n)).getD i 0=i:=fun i hi=>by
    rw [aaE];simp [hi]
  have ap:jJ key (ab7 (aaI n)) n:=fun i j hi hj z=>by
    unfold kp at z;rw [g i hi,g j hj] at z;exact inj i j hi hj z
  obtain ⟨m,p',e1,m1,m2,pp,up⟩:=vg (key:=key) h1 (by simp) ap;have e:run (lt key) (kas_sort n)=run (lt key) (if m < n then kas_bin (n - max m 1) p' (max m 1) else KasT.ret p'):=by
    show run (lt key) ((kas_count n (ab7 (aaI n))).bind _)=_;rw [eD,e1]
  rw [e];by_cases c:m < n
  · rw [if_pos c,show max m 1=m by lia];have hsz:p'.size=n:=by rw [pp.size_eq];simp
    have ap':jJ key p' n:=fun i j hi hj z=>by
      have gi:p'.getD i 0=p'[i]'(by lia):=by rw [aaE];simp [hsz,hi]
      have gj:p'.getD j 0=p'[j]'(by lia):=by rw [aaE];simp [hsz,hj]
      have mi:p'[i]'(by lia)∈ab7 (aaI n):=pp.mem_iff.mp (Array.getElem_mem _);have mj:p'[j]'(by lia)∈ab7 (aaI n):=pp.mem_iff.mp (Array.getElem_mem _);have li:p'[i]'(by lia) < n:=by simpa using mi
      have lj:p'[j]'(by lia) < n:=by simpa using mj
      unfold kp at z;rw [gi,gj] at z;have q:=inj _ _ li lj z;have nd:p'.toList.Nodup:=by
        have : (aaI n).Nodup:=List.nodup_range;exact (pp.toList.nodup_iff).mpr (by simpa using this)
      have hi':i < p'.toList.length:=by simpa [hsz] using hi
      have hj':j < p'.toList.length:=by simpa [hsz] using hj
      exact (List.getElem_inj nd (h₀:=hi') (h₁:=hj')).mp (by simpa using q)
    have b:=vo (key:=key) (n:=n) (n - m) p' m hsz (by lia) ap' up;exact ⟨b.1.trans pp,b.2⟩
  · rw [if_neg c];have : m=n:=by lia
    subst this;exact ⟨pp,up⟩
end
end Srt
namespace Srt
open PySem PySem.W PyProof.Rows
def Safe {α:Type} (n:Nat):KasT α→(α→Prop)→Prop
  | .ret a,Q=>Q a
  | .ask i j k,Q=>i < n∧j < n∧∀ b,Safe n (k b) Q
theorem Safe.bind {α β:Type} {n:Nat} {f:α→KasT β} {Q:α→Prop} {R:β→Prop}:∀ {t:KasT α},Safe n t Q→(∀ a,Q a→Safe n (f a) R)→Safe n (t.bind f) R
  | .ret a,h,k=>k a h
  | .ask i j g,h,k=>⟨h.1,h.2.1,fun b=>Safe.bind (h.2.2 b) k⟩
theorem wp_safe {α:Type} {n:Nat} {cmp:Nat→Nat→(Bool→Shared→Prop)→Shared→Prop} {lt:Nat→Nat→Bool} {s:Shared} {R:α→Prop} (h:∀ i j (C:Bool→Shared→Prop),i < n→j < n→C (lt i j) s→cmp i j C s):∀ (t:KasT α) (Q:α→Shared→Prop),Safe n t R→Q (run lt t) s→t.kasWp cmp Q s
  | .ret _,_,_,q=>q
  | .ask i j k,Q,z,q=>h i j _ z.1 z.2.1 (wp_safe h (k (lt i j)) Q (z.2.2 _) q)
def Ent (n:Nat) (p:Array Nat):Prop:=∀ x,p.getD x 0 < n
theorem Ent.of_perm {n:Nat} {p q:Array Nat} (hn:0 < n) (h:q.Perm p) (e:Ent n p):Ent n q:=fun x=>by
  rw [aaE];by_cases hx:x < q.size
  · have m:q[x]∈p:=h.mem_iff.mp (Array.getElem_mem hx);obtain ⟨i,hi,ei⟩:=Array.mem_iff_getElem.mp m;have:=e i;rw [aaE] at this;simp only [abW hi,Option.getD_some] at this;simp only [abW hx,Option.getD_some];rw [← ei];exact this
  · simp [hx,hn]
theorem ko {n:Nat} {p:Array Nat} (e:Ent n p):∀ (f m:Nat),Safe n (kas_asc p f m) (fun _=>True)
  | 0,_=>trivial
  | f+1,m=>⟨e _,e _,fun b=>by
    cases b with
    | true=>exact trivial
    | false=>exact ko e f (m+1)⟩
theorem gA {n:Nat} (hn:0 < n):∀ (f:Nat) (p:Array Nat) (m q:Nat),Ent n p→Safe n (kas_desc f p m q) (fun r=>Ent n r.1)
  | 0,p,m,q,e=>e
  | f+1,p,m,q,e=>⟨e _,e _,fun b=>by
    cases b with
    | true =>
      show Safe n (if q > 0 then _ else _) _;split
      · exact gA hn f _ _ _ (Ent.of_perm hn (mirror_perm _ _ _ _) e)
      · exact gA hn f _ _ _ e
    | false=>exact ⟨e _,e _,fun d=>by
        cases d with
        | true=>exact e
        | false=>exact gA hn f _ _ _ e⟩⟩
theorem kn {n:Nat} (hn:0 < n) {p:Array Nat} (e:Ent n p) (a b:Nat):Safe n (kas_tail3 a b p) (fun r=>Ent n r.2) :=
  Safe.bind (ko (Ent.of_perm hn (mirror_perm _ _ _ _) e) _ _) fun _ _=>Ent.of_perm hn (mirror_perm _ _ _ _) e
theorem gQ {n:Nat} (hn:0 < n) {p:Array Nat} (e:Ent n p) (a b:Nat):Safe n (kas_descPart a b p) (fun r=>Ent n r.2) :=
  Safe.bind (gA hn _ _ _ _ e) fun r er=>by
    show Safe n (if r.2.2 > 0 then _ else _) _;split
    · exact kn hn (Ent.of_perm hn (mirror_perm _ _ _ _) er) _ _
    · exact kn hn er _ _
theorem qo {n:Nat} (hn:0 < n) {p:Array Nat} (e:Ent n p) (b:Nat):Safe n (kas_count b p) (fun r=>Ent n r.2) :=
  Safe.bind (ko e _ _) fun r _=>by
    show Safe n (if (r == b)=true then _ else _) _;split
    · exact e
    · split
      · exact ⟨e _,e _,fun c=>by
          cases c with
          | true=>exact e
          | false=>exact gQ hn (Ent.of_perm hn (mirror_perm _ _ _ _) e) _ _⟩
      · exact gQ hn e _ _
theorem hW {n:Nat} {p:Array Nat} (e:Ent n p) (k:Nat):∀ (f l r:Nat),Safe n (kas_place p k f l r) (fun _=>True)
  | 0,_,_=>trivial
  | f+1,l,r=>by
    show Safe n (if l ≥ r then _ else _) _;split
    · exact trivial
    · exact ⟨e _,e _,fun c=>by
        cases c with
        | true=>exact hW e k f _ _
        | false=>exact hW e k f _ _⟩
theorem oK {n:Nat} (hn:0 < n):∀ (f:Nat) (p:Array Nat) (k:Nat),Ent n p→Safe n (kas_bin f p k) (fun _=>True)
  | 0,_,_,_=>trivial
  | f+1,p,k,e=>Safe.bind (hW e k _ _ _) fun l _=>oK hn f _ _ (Ent.of_perm hn (bubble_perm _ _ _) e)
theorem safe_sort {n:Nat} (hn:0 < n):Safe n (kas_sort n) (fun _=>True):=by
  have e:Ent n (ab7 (aaI n)):=fun x=>by
    rw [aaE];by_cases h:x < n
    · simp [h]
    · simp [h,hn]
  exact Safe.bind (qo hn e n) fun r er=>by
    show Safe n (if r.1 < n then _ else _) _;split
    · exact oK hn _ _ _ er
    · exact trivial
section
variable {prog:Program} {w:World} {A:Around} {E:Value→Shared→Prop} {s:Shared}
theorem qf {a:Addr} {vs:List Value} {n:Nat} {P:PySem.Fin→Shared→Prop} (hoL:s.heap.get? a=some (seqObj "list" vs.toArray n)) (h2:vs.length < 2)
    (h:P (.done (.ret .none)) { s with heap:=sortedHeap s.heap a vs ((pairsOf vs).map (·.2)) }):wpAny (model prog w) A (Builtin.«list.sort» ⟨[.ref a],[]⟩) P E s:=by
  have hz:vs.length≤sizeLine:=by rw [sizeLine_eq];lia
  have ha:a < s.heap.objs.size:=aar hoL;rw [list_sort_plain];refine wpAny_bind (listItems_at hoL rfl (wpAny_bind (listUpdate_at hoL rfl ?_ (by rw [aah];exact hz) (aaN _))));obtain ⟨e1,ho1⟩:∃ e1,(s.heap.update a (aaU fun _=>(#[]:Array Value))).get? a=some (seqObj "list" #[] e1):=⟨_,get?_update_seq hoL fun _=>#[]⟩
  refine wpAny_bind (seqEpoch_at ho1 rfl (wpAny_bind (wpAny_newTuple (wpAny_bind (wpAny_newList (wpAny_holding ?_) (aaN _))) hz)));have ho6:(((s.heap.update a (aaU fun _=>(#[]:Array Value))).push (seqObj "tuple" vs.toArray 0)).push (seqObj "list" #[] 0)).get? a=some (seqObj "list" #[] e1):=by
    rw [Heap.get?_push_ne _ _ _ (by rw [size_push',Heap.size_update];exact aaz (abG ha)),Heap.get?_push_ne _ _ _ (by rw [Heap.size_update];exact aaz ha)];exact ho1
  show wpAny (model prog w) A _ P E { s with heap:=(((s.heap.update a (aaU fun _=>#[])).push (seqObj "tuple" vs.toArray 0)).push (seqObj "list" #[] 0)) };dsimp only;have hs2:vs.toArray.size < 2:=by rw [aah];exact h2
  rw [if_pos hs2,if_pos hs2];refine wpAny_bind (wpAny_pure ?_);rw [StateT.run_pure];refine wpAny_bind (wpAny_pure ?_);dsimp only;refine wpAny_bind (seqEpoch_at ho6 rfl (wpAny_bind (listUpdate_at ho6 rfl ?_ (aaN _) (by rw [Array.size_map];show (pairsOf vs).size≤_;rw [pairsOf_size];lia))));simp only [bne_self_eq_false,ab9,if_false];exact wpAny_pure h
theorem sorted_small {l:Addr} {vs:List Value} {Q:Value→Shared→Prop} (hl:s.heap.IsList l vs.toArray) (h2:vs.length < 2)
    (h:Q (.ref (s.heap.objs.size+1)) { s with heap:=sortedAll s.heap vs ((pairsOf vs).map (·.2)) }):wpAny (model prog w) A (call (.builtin "sorted") [.ref l]) Q E s:=by
  have hz:vs.length≤sizeLine:=by rw [sizeLine_eq];lia
  apply Calls.call_function_entry kind_sorted plain_sorted entry_sorted (args_sorted1 _);unfold Builtin.«sorted»;refine wpAny_bind (m:=checkCount "sorted" 1 1 _) (wpAny_pure (wpAny_bind (collect_list hl (wpAny_bind (wpAny_newList ?_ hz)) hz)));have e0:((s.heap.push (seqObj "list" #[] 0)).update s.heap.objs.size (aaU (·++vs.toArray))).objs.size=s.heap.objs.size+1:=by rw [Heap.size_update,size_push']
  have hoL:(((s.heap.push (seqObj "list" #[] 0)).update s.heap.objs.size (aaU (·++vs.toArray))).push (seqObj "list" vs.toArray 0)).get? (s.heap.objs.size+1)=some (seqObj "list" vs.toArray 0):=by rw [← e0];exact aaq _ rfl
  show wpAny _ _ _ _ _ { s with heap:=(((s.heap.push (seqObj "list" #[] 0)).update s.heap.objs.size (aaU (·++vs.toArray))).push (seqObj "list" vs.toArray 0)) };rw [e0];refine wpAny_bind (wpAny_holding (wpAny_call_entry slot_list_sort ⟨_,hoL,rfl⟩ entry_list_sort (qf hoL h2 ⟨_,rfl,wpAny_pure ⟨_,rfl,h⟩⟩) (args_list_sort _)))
end
end Srt
set_option maxHeartbeats 2000000
namespace L2
open PySem PySem.Spec PyProof.Rows
inductive EqR (K:aaa) (H:Hp):Nat→V→V→Bool→Prop
  | flat {n:Nat} {x y:V} (fx:gv x=true) (fy:gv y=true):EqR K H n x y (eqV x y)
  | lens {n:Nat} {a b:Addr} {xs ys:List V} (ha:SqL K H a xs) (hb:SqL K H b ys) (hl:xs.length≠ys.length):EqR K H (n+1) (.ref a) (.ref b) false
  | lst {n:Nat} {a b:Addr} {xs ys:List V} {e:Nat→Bool} (ha:SqL K H a xs) (hb:SqL K H b ys) (hl:xs.length=ys.length) (h:∀ (j:Nat) x y,xs[j]?=some x→ys[j]?=some y→EqR K H n x y (e j)):EqR K H (n+1) (.ref a) (.ref b) ((aaI xs.length).all e)
  | tup {n:Nat} {a b:Addr} {xs ys:List V} {e:Nat→Bool} (ha:SqT K H a xs) (hb:SqT K H b ys) (h:∀ (j:Nat) x y,xs[j]?=some x→ys[j]?=some y→EqR K H n x y (e j)) :
      EqR K H (n+1) (.ref a) (.ref b) ((aaI (min xs.length ys.length)).all e && xs.length == ys.length)
theorem pJ {x:V} (f:gv x=true):eqV x x=true:=by
  cases x <;> first|rfl|(simp [eqV];done)|exact absurd (show false=true from f) aal
section
variable {X:Cx} {pins:List (Addr × Obj)} {σ:St} {H:Hp} {s:Shared}
theorem EqR.self (I:Inv X pins σ H s) {n:Nat} {x y:V} {b:Bool} (h:EqR X.K H n x y b):x=y→b=true:=by
  induction h with
  | flat fx fy=>intro e;subst e;exact pJ fx
  | lens ha hb hl =>
    intro e;injection e with e;subst e
    exact absurd (by rw [I.list_inj ha hb]) hl
  | @lst n a b xs ys e ha hb hl h ih =>
    intro q;injection q with q;subst q
    obtain rfl:=I.list_inj ha hb;rw [aa7];intro j hj;have hj':j < xs.length:=aaB.mp hj;exact ih j _ _ (aac hj') (aac hj') rfl
  | @tup n a b xs ys e ha hb h ih =>
    intro q;injection q with q;subst q
    obtain rfl:=I.tuple_inj ha hb;rw [aa6,aa7];refine ⟨fun j hj=>?_,beq_self_eq_true _⟩;have hj':j < xs.length:=by have:=aaB.mp hj;lia
    exact ih j _ _ (aac hj') (aac hj') rfl
theorem dt {xs:List V} {its:List Value} (r:Vals xs its) {j:Nat} (h:j < its.toArray.size):∃ x,xs[j]?=some x∧RelV x its.toArray[j]:=by
  have hl:=r.length;have h':j < xs.length:=by rw [hl];simpa using h
  obtain ⟨u,hu,ru⟩:=r.get (aac h');refine ⟨_,aac h',?_⟩;have e:its.toArray[j]=u:=by
    have : its[j]?=some u:=hu;rw [aac (by simpa using h)] at this;simpa using aaR this
  rw [e];exact ru
theorem EqR.at (I:Inv X pins σ H s) {n:Nat} {x y:V} {b:Bool} (h:EqR X.K H n x y b):∀ {A:Around} {u v:Value},RelV x u→RelV y v→A.units+n < cLine→SeqAt.EqAt A s u v b:=by
  induction h with
  | flat fx fy=>intro A u v rx ry hu;exact uW rx ry fx fy
  | @lens n a b xs ys ha hb hl =>
    intro A u v rx ry hu;cases rx;cases ry;obtain ⟨its,r,pl,_⟩:=I.list ha;obtain ⟨its2,r2,pl2,_⟩:=I.list hb;have ne:a≠b:=fun e=>by subst e;exact hl (by rw [I.list_inj ha hb])
    refine .of_refs ne (.lists_lengths pl.isList pl2.isList ?_ (by lia));rw [aah,aah,← r.length,← r2.length];exact bne_iff_ne.mpr hl
  | @lst n a b xs ys e ha hb hl h ih =>
    intro A u v rx ry hu;by_cases q:a=b
    · have:=(EqR.lst ha hb hl h).self I (by rw [q]);cases rx;cases ry;rw [this];subst q;exact SeqAt.EqAt.same _
    · cases rx;cases ry;obtain ⟨its,r,pl,_⟩:=I.list ha;obtain ⟨its2,r2,pl2,_⟩:=I.list hb;have e1:its.toArray.size=xs.length:=by rw [aah,r.length]
      rw [← e1];refine .of_refs q (.lists pl.isList pl2.isList (by rw [aah,aah,← r.length,← r2.length];exact hl) (by lia) fun j h1 h2=>?_);obtain ⟨x,hx,rx⟩:=dt r h1;obtain ⟨y,hy,ry⟩:=dt r2 h2;exact ih j x y hx hy rx ry (by show A.units+1+n < cLine;lia)
  | @tup n a b xs ys e ha hb h ih =>
    intro A u v rx ry hu;by_cases q:a=b
    · have:=(EqR.tup ha hb h).self I (by rw [q]);cases rx;cases ry;rw [this];subst q;exact SeqAt.EqAt.same _
    · cases rx;cases ry;obtain ⟨its,r,pl,_⟩:=I.tuple ha;obtain ⟨its2,r2,pl2,_⟩:=I.tuple hb;have e1:its.toArray.size=xs.length:=by rw [aah,r.length]
      have e2:its2.toArray.size=ys.length:=by rw [aah,r2.length]
      rw [← e1,← e2];refine .of_refs q (.tuples pl pl2 (by lia) fun j h1 h2=>?_);obtain ⟨x,hx,rx⟩:=dt r h1;obtain ⟨y,hy,ry⟩:=dt r2 h2;exact ih j x y hx hy rx ry (by show A.units+1+n < cLine;lia)
def yk (K:aaa) (neg:Bool):R2:=fun x y H Q=>∃ n a b xs ys,n≤60∧x=.ref a∧y=.ref b∧SqL K H a xs∧SqL K H b ys ∧
  ((xs.length≠ys.length∧Q (.bl neg) H)∨∃ e:Nat→Bool,xs.length=ys.length∧(∀ (j:Nat) x y,xs[j]?=some x→ys[j]?=some y→EqR K H n x y (e j))∧Q (.bl (if neg then !(aaI xs.length).all e else (aaI xs.length).all e)) H)
theorem qu (hu:X.A.units+64 < cLine):OpR X (compareOp .NotEq) (yk X.K true):=by
  intro pins s σ H x y v u Q I rx ry h;obtain ⟨n,a,b,xs,ys,hn,rfl,rfl,ha,hb,h⟩:=h;cases rx;cases ry;obtain ⟨its,r,pl,_⟩:=I.list ha;obtain ⟨its2,r2,pl2,_⟩:=I.list hb;have e1:its.toArray.size=xs.length:=by rw [aah,r.length]
  have e2:its2.toArray.size=ys.length:=by rw [aah,r2.length]
  rcases h with ⟨hl,q⟩|⟨e,hl,he,q⟩
  · exact SeqAt.RcNeAt.lists_lengths pl.isList pl2.isList (by rw [e1,e2];exact bne_iff_ne.mpr hl) (by lia) _ _ _ _ ⟨.bl true,H,I,rfl,q⟩
  · refine SeqAt.RcNeAt.lists (e:=e) pl.isList pl2.isList (by rw [e1,e2];exact hl) (by lia) (fun j h1 h2=>?_) _ _ _ _ ?_
    · obtain ⟨x,hx,rx⟩:=dt r h1;obtain ⟨y,hy,ry⟩:=dt r2 h2;exact (he j x y hx hy).at I rx ry (by show X.A.units+1+n < cLine;lia)
    · rw [e1];exact ⟨.bl _,H,I,rfl,q⟩
end
abbrev PairIn (H:Hp) (p:Int × Int) (v:V):Prop:=∃ a,v=.ref a∧H a=some (.tup [.int p.1,.int p.2])
abbrev PairsIn (H:Hp):List (Int × Int)→List V→Prop:=Paired (PairIn H)
def fA (p:Int × Int):Int:=p.1 * 1000+p.2
def vz (ps:List (Int × Int)):Prop:=(∀ p∈ps,0≤p.2∧p.2 < 1000)∧ps.Nodup
theorem vM {p q:Int × Int} (h1:0≤p.2∧p.2 < 1000) (h2:0≤q.2∧q.2 < 1000):(if p.1=q.1 then decide (p.2 < q.2) else decide (p.1 < q.1))=decide (fA p < fA q):=by
  unfold fA;split
  · rename_i e;rw [e];by_cases c:p.2 < q.2
    · rw [decide_eq_true c,decide_eq_true (by lia)]
    · rw [decide_eq_false c,decide_eq_false (by lia)]
  · rename_i e;by_cases c:p.1 < q.1
    · rw [decide_eq_true c,decide_eq_true (by lia)]
    · rw [decide_eq_false c,decide_eq_false (by lia)]
theorem oQ {p q:Int × Int} (h1:0≤p.2∧p.2 < 1000) (h2:0≤q.2∧q.2 < 1000) (e:fA p=fA q):p=q:=by
  unfold fA at e;have a:p.1=q.1:=by lia
  have b:p.2=q.2:=by lia
  exact Prod.ext a b
theorem Inv.adopt2 {X:Cx} {pins:List (Addr × Obj)} {σ:St} {H:Hp} {s:Shared} {a:Addr} {o:HO} (I:Inv X pins σ H s) (hn:H a=none) (hx:∀ u,X.s₀.heap.get? a≠some u) (hL:a≠X.env.locals) (hC:∀ x c,X.env.cells.lookup x=some c→c≠a) (hp:∀ p∈X.pn++pins,p.1≠a)
    (new:ObjOk X.prog X.w (upd H a o) s.heap a o):Inv X pins σ (upd H a o) s:=by
  have ne:∀ b u,X.s₀.heap.get? b=some u→b≠a:=fun b u e z=>hx u (by rw [← z];exact e);refine ⟨I.ok,I.os,I.bare,⟨I.base.keep,I.base.slot,fun b u e n hx=>?_,I.base.there,fun b xs e=>?_,fun b u xs e=>?_,fun b ps e=>?_⟩,I.loc,I.cell,?_,fun x c e=>?_,fun p hq=>?_,fun b u e=>?_,I.len⟩
  · rw [aq (ne b u e)];exact I.base.free b u e n hx
  · have q:=I.base.tups b xs e;rw [aq (aF q hn)];exact q
  · have q:=I.base.frzs b u xs e;rw [aq (aF q hn)];exact q
  · obtain ⟨m,q⟩:=I.base.tbls b ps e;exact ⟨m,by rw [aq (aF q hn)];exact q⟩
  · rw [aq (ab3 hL)];exact I.free
  · rw [aq (hC x c e)];exact I.freeC x c e
  · obtain ⟨h1,h2,h3⟩:=I.pin p hq;exact ⟨h1,by rw [aq (hp p hq)];exact h2,h3⟩
  · by_cases hb:b=a
    · subst hb;rw [af] at e;cases e;exact new
    · rw [aq hb] at e;exact (I.hok b u e).stay (fun c v _ q=>q) (fun c q=>by rw [aq (aF q hn)];exact q) fun c xs q=>by rw [aq (aF q hn)];exact q
open PySem PySem.Spec PyProof.Rows
theorem ObjOk.get {P:Program} {w:World} {H:Hp} {h:Heap} {a:Addr} {o:HO} (x:ObjOk P w H h a o):∃ u,h.get? a=some u:=by
  cases o with
  | lst xs=>obtain ⟨_,_,_,_,e⟩:=x;exact ⟨_,e⟩
  | tup xs=>obtain ⟨_,_,_,o,e,_⟩:=x;exact ⟨_,e⟩
  | dK kvs=>obtain ⟨_,_,_,_,o,_,_,e,_⟩:=x;exact ⟨_,e⟩
  | dT kvs=>obtain ⟨_,_,_,_,o,_,_,e,_⟩:=x;exact ⟨_,e⟩
  | set S n=>obtain ⟨o,_,_,_,e,_⟩:=x;exact ⟨_,e⟩
  | ins C dx fs=>obtain ⟨_,_,_,e,_⟩:=x;exact ⟨_,e⟩
  | own y=>obtain ⟨_,e⟩:=x;exact ⟨_,e⟩
  | xd fs=>obtain ⟨_,⟨_,_,_,e,_⟩,_⟩:=x;exact ⟨_,e⟩
  | rng lo hi=>obtain ⟨_,_,_,e⟩:=x;exact ⟨_,e⟩
  | frz ob u=>obtain ⟨e,_⟩:=x;exact ⟨_,e⟩
  | tbl ps=>exact ⟨_,(show h.get? a=some _ from x)⟩
  | met f y=>exact ⟨_,(show h.get? a=some _ from x)⟩
  | ext φ=>obtain ⟨_,⟨_,e⟩,_⟩:=x;exact ⟨_,e⟩
theorem kT {α:Type} (xs:List α) (d:α):(aaI xs.length).map (fun i=>xs.getD i d)=xs:=by
  apply List.ext_getElem
  · simp
  · intro i h1 h2;simp [h2]
theorem iQ {vs:List V} {its:List Value} (r:Vals vs its) {i:Nat} (h:i < vs.length):RelV (vs.getD i .non) (its.getD i .none):=by
  obtain ⟨u,hu,ru⟩:=r.get (aac h);have e1:vs.getD i .non=vs[i]:=by simp [h]
  have e2:its.getD i .none=u:=by rw [aau,hu];rfl
  rw [e1,e2];exact ru
theorem fE {H:Hp}:∀ {ps:List (Int × Int)} {vs:List V} {i:Nat},PairsIn H ps vs→i < vs.length→PairIn H (ps.getD i (0,0)) (vs.getD i .non)
  | _,_,_,.nil,h=>absurd h (Nat.not_lt_zero _)
  | _,_,0,.cons a _,_=>by simpa using a
  | _,_,i+1,.cons _ b,h=>by simpa using fE (i:=i) b (by simpa using h)
theorem ik {α β:Type} {F:α→β→Prop} {f:Nat→α} {g:Nat→β}:∀ {l:List Nat},(∀ i∈l,F (f i) (g i))→Paired F (l.map f) (l.map g)
  | [],_=>.nil
  | i :: l,h=>.cons (h i aai) (ik fun j hj=>h j (aae _ hj))
section
variable {X:Cx}
theorem mM {H:Hp} {h':Heap} (tk:∀ a (p:Int × Int),H a=some (.tup [.int p.1,.int p.2])→∃ o k t1 t2,h'.get? a=some o∧o.cls=.type "tuple"∧o.data=.seq #[.int p.1 t1,.int p.2 t2] k) :
    ∀ {ps:List (Int × Int)} {vs:List V} {its:List Value},PairsIn H ps vs→Vals vs its→∃ fs,PySem.W.KatTups h' its fs∧fs.length=its.length∧∀ v∈fs,∃ i t,v=Value.int i t
  | _,_,_,.nil,.nil=>⟨[],.nil,rfl,(fun _ h=>nomatch h)⟩
  | _,_,_,.cons a b,.cons r t=>by
    obtain ⟨fs,h1,h2,h3⟩:=mM tk b t;obtain ⟨ad,e,ha⟩:=a;subst e;cases r;obtain ⟨o,k,t1,t2,g1,g2,g3⟩:=tk ad _ ha;refine ⟨.int _ t1 :: fs,.cons g1 g2 g3 rfl h1,congrArg (·+1) h2,fun v hv=>?_⟩;rcases aam.mp hv with rfl|hv
    · exact ⟨_,_,rfl⟩
    · exact h3 v hv
theorem vP {prog:Program} {w:World} {A:Around} {s:Shared} {a b:Addr} {oa ob:Obj} {ka kb:Nat} {p q:Int × Int} {t1 t2 u1 u2:Tok} {C:Bool→Shared→Prop} (h1:s.heap.get? a=some oa) (d1:oa.data=.seq #[.int p.1 t1,.int p.2 t2] ka)
    (h2:s.heap.get? b=some ob) (d2:ob.data=.seq #[.int q.1 u1,.int q.2 u2] kb) (hp:0≤p.2∧p.2 < 1000) (hq:0≤q.2∧q.2 < 1000) (h:C (decide (fA p < fA q)) s) :
    wpAny (model prog w) A (keyLt' (tuples' true) (.ref a) (.ref b)) C (fun _ _=>False) s:=by
  rw [← vM hp hq] at h;refine PySem.W.kat_lt h1 d1 h2 d2 ?_;show PySem.W.KatLex prog w A true (decide (2 < 2)) C [(.int p.1 t1,.int q.1 u1),(.int p.2 t2,.int q.2 u2)] 0 s;refine PySem.W.kat_cons (ach p.1 t1 q.1 u1 prog w _ _ ?_);by_cases c:p.1=q.1
  · rw [if_pos c] at h;have e:(p.1 == q.1)=true:=beq_iff_eq.mpr c;rw [e];refine PySem.W.kat_yes (PySem.W.kat_cons (ach p.2 t2 q.2 u2 prog w _ _ ?_));by_cases c2:p.2=q.2
    · have e2:(p.2 == q.2)=true:=beq_iff_eq.mpr c2;rw [e2];refine PySem.W.kat_yes (PySem.W.kat_nil ?_);rw [decide_eq_false (show ¬ p.2 < q.2 by lia)] at h;exact h
    · have e2:(p.2 == q.2)=false:=beq_eq_false_iff_ne.mpr c2;rw [e2];refine PySem.W.kat_no (PySem.W.kat_one _ _ (lt_int ?_));exact h
  · rw [if_neg c] at h;have e:(p.1 == q.1)=false:=beq_eq_false_iff_ne.mpr c;rw [e];refine PySem.W.kat_no ?_;exact oneLt_int h
theorem iL (hx:X.ex=[]):eW X (.builtin "sorted") (fun xs H Q=>∃ p vs ps,xs=[.ref p]∧H p=some (.lst vs)∧PairsIn H ps vs∧ps.length < 64∧vz ps ∧
    ∀ q qs vs',H q=none→qs.Perm ps→(qs.map fA).Pairwise (· < ·)→PairsIn H qs vs'→Q (.ref q) (upd H q (.lst vs'))):=by
  intro pins s σ H xs us Q I r h;obtain ⟨p,vs,ps,rfl,hH,hp,h64,fine,q⟩:=h;obtain ⟨u,rfl,ru⟩:=jw r;cases ru;obtain ⟨z,its,n,rv,hl,e⟩:=I.lstM hH;have hlen:ps.length=vs.length:=aa9 hp;by_cases h2:its.length < 2
  · refine Srt.sorted_small (vs:=its) ⟨_,e,rfl,_,rfl⟩ h2 ?_;have eo:(pairsOf its).map (·.2)=its.toArray:=by
      match its,h2 with
      | [],_=>simp [pairsOf]
      | [v],_=>simp [pairsOf]
    rw [eo];obtain ⟨c,hc⟩:=sortedAll_at s.heap its its.toArray;have I1:=I.laid (a:=s.heap.objs.size+1) (o:=.lst vs) (t':=s.toks) (fun b o q=>sortedAll_old (vs:=its) (out:=its.toArray) q) (acn _) ⟨z,its,c,rv,hc⟩;refine ⟨.ref _,_,I1,rfl,q _ ps vs (I.hok.fresh (acn _)) (List.Perm.refl _) ?_ hp⟩
    match ps,hlen with
    | [],_=>exact List.Pairwise.nil
    | [a],_=>exact List.pairwise_singleton _ _
    | a :: b :: r,hlen=>simp at hlen;lia
  · obtain ⟨m,F⟩:=I.fr;refine PySem.W.kat_sorted F (news:=gJ X.base s.heap X.env.locals) uu ⟨_,e,rfl,_,rfl⟩ (by lia) (by lia) ?_;intro D e1 h' F' N' hD;have nD:=N' (D,_) aai;have keptG:∀ {g:Heap} {o1:Obj},Fr X.base X.env.locals g m→News X.base X.env.locals g ((D,o1) :: gJ X.base s.heap X.env.locals)→∀ b o,b≠X.env.locals→s.heap.get? b=some o→g.get? b=some o:=fun {g o1} Fg Ng b o hb q=>by
      cases w:X.base.get? b with
      | some u =>
        have:=F.keep b u w;rw [q] at this;cases this;exact Fg.keep b _ w
      | none=>exact (Ng (b,o) (aae _ (jE hb w q))).1
    have fresh:s.heap.get? D=none:=by
      cases g:s.heap.get? D with
      | none=>rfl
      | some o=>exact absurd (hD (D,o) (jE nD.2.1 nD.2.2 g)) (abm _)
    have neL:∀ b o,H b=some o→b≠X.env.locals:=fun b o e z=>by rw [z,I.free] at e;cases e
    have tk:∀ a (p:Int × Int),H a=some (.tup [.int p.1,.int p.2])→∃ o k t1 t2,h'.get? a=some o∧o.cls=.type "tuple"∧o.data=.seq #[.int p.1 t1,.int p.2 t2] k:=fun a p ha=>by
      obtain ⟨_,its',r',o,g1,g2,k,g3⟩:=I.hok a _ ha;obtain ⟨u1,u2,rfl,⟨t1,rfl⟩,⟨t2,rfl⟩⟩:=tL r';exact ⟨o,k,t1,t2,keptG F' N' a o (neL a _ ha) g1,g2,g3⟩
    obtain ⟨fs,t1,t2,t3⟩:=mM tk hp rv;refine PySem.W.kat_kind (s:={ s with heap:=h' }) (T:=.type "int") t1 (by lia) (fun v hv=>by obtain ⟨i,t,rfl⟩:=t3 v hv;exact PySem.W.Looks.of_pure rfl) (by decide) ?_;have nv:its.length=vs.length:=hl.symm;have kin:∀ i,i < its.length→0≤(ps.getD i (0,0)).2∧(ps.getD i (0,0)).2 < 1000:=fun i hi=>by
      have hi':i < ps.length:=by lia
      have e:ps.getD i (0,0)=ps[i]:=by simp [hi']
      rw [e];exact fine.1 _ (aa8 hi')
    refine Srt.wp_safe (n:=its.length) (lt:=Srt.lt fun i=>fA (ps.getD i (0,0))) (fun i j C hi hj hC=>?_) _ _ (Srt.safe_sort (by lia)) ?_
    · obtain ⟨a1,ea1,ha1⟩:=fE (i:=i) hp (by lia);obtain ⟨a2,ea2,ha2⟩:=fE (i:=j) hp (by lia);have r1:=iQ rv (i:=i) (by lia);have r2:=iQ rv (i:=j) (by lia);rw [ea1] at r1;rw [ea2] at r2;obtain ⟨o1,k1,x1,y1,g1,_,d1⟩:=tk a1 _ ha1;obtain ⟨o2,k2,x2,y2,g2,_,d2⟩:=tk a2 _ ha2;show wpAny _ _ (keyLt' (tuples' true) (its.getD i .none) (its.getD j .none)) C (fun _ _=>False) { s with heap:=h' };rw [show its.getD i .none=.ref a1 from r1,show its.getD j .none=.ref a2 from r2];exact vP (s:={ s with heap:=h' }) g1 d1 g2 d2 (kin i hi) (kin j hj) hC
    · have so:=Srt.sort_ok (n:=its.length) (key:=fun i=>fA (ps.getD i (0,0))) (by lia) fun i j hi hj ek=>by
        have pe:=oQ (kin i hi) (kin j hj) ek;have hi':i < ps.length:=by lia
        have hj':j < ps.length:=by lia
        have e1:ps.getD i (0,0)=ps[i]:=by simp [hi']
        have e2:ps.getD j (0,0)=ps[j]:=by simp [hj']
        rw [e1,e2] at pe;exact (List.getElem_inj fine.2).mp pe
      generalize Srt.run (Srt.lt fun i=>fA (ps.getD i (0,0))) (PySem.W.kas_sort its.length)=pm at so;obtain ⟨so1,so2⟩:=so;have so1':pm.toList.Perm (aaI its.length):=by simpa using so1.toList
      have ml:pm.toList.length=its.length:=by rw [so1'.length_eq];simp
      have mem:∀ i∈pm.toList,i < its.length:=fun i hi=>aaB.mp (so1'.mem_iff.mp hi);refine PySem.W.KasFin.intro F' N' (PySem.W.UpdF.head fun p hp=>aaz (hD p hp)) fun h'' c F'' N''=>?_;have kp:=keptG F'' N'';have gD:=(N'' (D,_) aai).1;have I1:Inv X pins σ H { s with heap:=h'' }:=by
        refine I.step (g':=s.gens) (d':=s.drawn) (t':=s.toks) (ch:=[]) (fun _ z=>nomatch z) (fun b o hb _ _ e _=>kp b o hb e) (fun b o hb _ _ e _=>⟨o.slots,kp b o hb e⟩) (fun _ _ _ _ n=>n) (fun b o _ e=>?_) (fun _ _ e=>e) (fun _ _ _ e=>e) (fun b ps e=>⟨#[],by rw [e];simp⟩) (fun m' hm=>?_) (fun b u e=>?_) I.bare
        · by_cases hb:b=X.env.locals
          · obtain ⟨o',_,_,g,_⟩:=F''.ns;exact ⟨o',by rw [hb];exact g⟩
          · exact ⟨o,kp b o hb e⟩
        · have : m'=m:=by
            obtain ⟨o1,es1,ep1,g1,d1,_,f1⟩:=hm;obtain ⟨o2,es2,ep2,g2,d2,_,f2⟩:=F.ns;rw [g1] at g2;cases g2;rw [d1] at d2;cases d2;funext x;rw [← f1 x,← f2 x]
          rw [this];exact F''.ns
        · refine (I.hok b u e).stay (fun c' v hc q=>kp c' v ?_ q) (fun _ q=>q) fun _ _ q=>q;rcases hc with rfl|hc
          · exact neL _ _ e
          · exact neL _ _ hc
      have hnD:H D=none:=by
        cases g:H D with
        | none=>rfl
        | some o =>
          obtain ⟨u,hu⟩:=(I.hok D o g).get;rw [fresh] at hu;cases hu
      have vv:Vals (pm.toList.map fun i=>vs.getD i .non) (pm.toList.map fun i=>its.getD i .none):=ik fun i hi=>iQ rv (by have:=mem i hi;lia);have I2:=I1.adopt2 (o:=.lst (pm.toList.map fun i=>vs.getD i .non)) hnD (fun u hu=>by
          obtain ⟨o',q⟩:=I.base.there D u hu (by rw [hx];simp);rw [fresh] at q;cases q) nD.2.1 (fun x c e z=>by
          obtain ⟨v,o,ho,_⟩:=I.cell x c e;rw [z,fresh] at ho;cases ho) (fun p hp z=>by
          have:=(I.pin p hp).1;rw [z,fresh] at this;cases this) ⟨(by rw [aaf,ml];lia),_,c,vv,gD⟩
      refine ⟨.ref D,_,I2,rfl,q D (pm.toList.map fun i=>ps.getD i (0,0)) _ hnD ?_ ?_ (ik fun i hi=>fE hp (by have:=mem i hi;lia))⟩
      · have:=so1'.map fun i=>ps.getD i (0,0);rw [show its.length=ps.length by lia,kT] at this;exact this
      · rw [List.map_map,List.pairwise_iff_getElem];intro i j hi hj hij;rw [aaf] at hi hj;have:=so2 i j hij (by lia);unfold Srt.kp at this;have gi:pm.getD i 0=pm.toList[i]:=by rw [aaE];simp at hi;simp [hi]
        have gj:pm.getD j 0=pm.toList[j]:=by rw [aaE];simp at hj;simp [hj]
        rw [gi,gj] at this;simpa using this
end
open PySem PySem.Spec PyProof.Rows
theorem uH {c A B:Prop} [Decidable c] (hc:c) (h:A):if decide c=true then A else B:=by
  rw [if_pos (decide_eq_true hc)];exact h
theorem rH {c A B:Prop} [Decidable c] (hc:¬ c) (h:B):if decide c=true then A else B:=by
  rw [if_neg (fun e=>hc (of_decide_eq_true e))];exact h
section
variable {X:Cx} {K:aaa}
theorem fI (hK:X.K=K):IxR X (xi K):=by subst hK;exact aT
theorem fB {es:List Expr} {k:Nat} {pos:Pos} {t:TGs} {n:Nat} (hK:X.K=K) (hc:X.calm=true) (h:PGs X es t)
    (hn:(assignEach es X.env).length=n:=by rfl) (hst:(assignEach es X.env).findIdx? (·.1)=none:=by rfl):PG X (.Tuple es k pos) (yz K n t):=by subst hK;exact cz hc h hn hst
theorem ua {tg l:Expr} {tl:TE} (hK:X.K=K) (hl:PE X l tl):PI X tg l (wM K tl):=by subst hK;exact bO hl
theorem rp {tg l:Expr} {tl:TE} (hK:X.K=K) (hl:PE X l tl):PI X tg l (yw K tl):=by subst hK;exact t_ hl
end
def Nxt (n i:Nat) (P:Prop):Prop:=∃ m',m' < n - i∧m'=n - (i+1)∧i+1≤n∧P
theorem uC {lo:Int} {n:Nat} {cap:List (Option Nat)} {g:TG} {tt:TT} {te:TE} {σ:St} {H:Hp} {Q:VK} (Pv:Nat→List V→Hp→Prop) (h0:Pv 0 [] H) (hl:∀ i ys H,i≤n→Pv i ys H→ys.length < sizeLine)
    (hs:∀ i ys H,i < n→Pv i ys H→(∀ {P:Prop},P→Nxt n i P)→g (.int (lo+i)) (b_ cap σ) H fun σ2 H2=>tt σ2 H2 fun b H3=>if b=true then te σ2 H3 fun v H4=>Nxt n i (Pv (i+1) (ys++[v]) H4) else Nxt n i (Pv (i+1) ys H3)) (hd:∀ ys H,Pv n ys H→∀ p,H p=none→Q (.ref p) (upd H p (.lst ys))) :
    xW cap g tt te σ Q (Itr lo n) H:=by
  refine ⟨fun i m ys H=>m=n - i∧i≤n∧Pv i ys H,⟨n,by simp,aaN _,h0⟩,?_⟩;rintro i m ys H ⟨rfl,hi,p⟩;have q:=hl i ys H hi p;by_cases hlt:i < n
  · refine .inr ⟨hlt,q,fun x H' y=>?_⟩;obtain ⟨e,y⟩:=y;subst e y;exact hs i ys _ hlt p fun h=>⟨_,by lia,rfl,hlt,h⟩
  · have e:i=n:=by lia
    subst e;exact .inl ⟨aag _,hd ys H p⟩
theorem bu {H:Hp} {ps:List (Int × Int)} {vs:List V} (p:PairsIn H ps vs):∀ {j:Nat} {x:V},vs[j]?=some x→∃ p,ps[j]?=some p∧PairIn H p x:=by
  induction p with
  | nil=>intro j x h;cases h
  | cons a b ih =>
    intro j x h;cases j with
    | zero=>cases h;exact ⟨_,rfl,a⟩
    | succ j=>exact ih (j:=j) h
theorem sO {a b c:List (Int × Int)} (ha:a.Perm c) (hb:b.Perm c) (fc:vz c) (pa:(a.map fA).Pairwise (· < ·)) (pb:(b.map fA).Pairwise (· < ·)):a=b:=by
  have hab:=ha.trans hb.symm;have e:a.map fA=b.map fA:=PySem.W.ksm_same (hab.map fA) (pa.imp fun h=>abJ h) (pb.imp fun h=>abJ h);have fa:∀ p∈a,0≤p.2∧p.2 < 1000:=fun p hp=>fc.1 p (ha.mem_iff.mp hp);have fb:∀ p∈b,0≤p.2∧p.2 < 1000:=fun p hp=>fc.1 p (hb.mem_iff.mp hp);clear hab pa pb ha hb
  induction a generalizing b with
  | nil=>cases b with
    | nil=>rfl
    | cons _ _=>simp at e
  | cons x r ih=>cases b with
    | nil=>simp at e
    | cons y t =>
      rw [aaO,aaO] at e;injection e with e1 e2
      rw [oQ (fa x aai) (fb y aai) e1,ih e2 (fun p hp=>fa p (aae _ hp)) (fun p hp=>fb p (aae _ hp))]
open PySem PySem.Spec PyProof.Rows
def yt:Key→PyData
  | .inl i=>.int i
  | .inr x=>.str x
mutual
def Dat (H:Hp):PyData→V→Prop
  | .none,v=>v=.non
  | .bool b,v=>v=.bl b
  | .int i,v=>v=.int i
  | .str x,v=>v=.str x
  | .list ds,v=>∃ a xs,v=.ref a∧H a=some (.lst xs)∧DatAll H ds xs
  | .tuple ds,v=>∃ a xs,v=.ref a∧H a=some (.tup xs)∧DatAll H ds xs
  | .dict kvs,v=>∃ a ks,v=.ref a∧H a=some (.dK ks)∧DatKv H kvs ks
def DatAll (H:Hp):List PyData→List V→Prop
  | [],vs=>vs=[]
  | d :: ds,vs=>∃ v r,vs=v :: r∧Dat H d v∧DatAll H ds r
def DatKv (H:Hp):List (PyData × PyData)→List (Key × V)→Prop
  | [],ks=>ks=[]
  | (k,d) :: r,ks=>∃ q v t,ks=(q,v) :: t∧k=yt q∧Dat H d v∧DatKv H r t
end
def off (w:Addr) (H:Hp):Hp:=fun b=>if b=w then none else H b
theorem gm {w b:Addr} {H:Hp} (h:b≠w):off w H b=H b:=if_neg h
theorem off_le {w:Addr} {H:Hp}:Same (off w H) H:=fun b o h=>by
  unfold off at h;by_cases c:b=w
  · rw [if_pos c] at h;cases h
  · rw [if_neg c] at h;exact h
theorem iI {w:Addr} {H H':Hp} (g:But w H H'):Same (off w H) (off w H'):=fun b o h=>by
  by_cases c:b=w
  · unfold off at h;rw [if_pos c] at h;cases h
  · rw [gm c] at h ⊢;exact g b o c h
section
variable {X:Cx} {pins:List (Addr × Obj)} {σ:St} {H:Hp} {s:Shared}
theorem Inv.nosys (I:Inv X pins σ H s) {a:Addr} {o:HO} (h:H a=some o):a≠sysModules:=fun e=>by
  obtain ⟨mm,ob,es,ep,g,_⟩:=I.mod.sysm;have:=(I.bs _ _ g).2;rw [← e,h] at this;cases this
theorem tm {P:Program} {w:World} {h:Heap} {q:Key} {v:Value} (e:(a5 P w).is q v=true):Reads h v (yt q) []:=by
  rw [qF] at e;rcases a_ e with ⟨i,t,rfl,rfl⟩|⟨x,t,rfl,rfl⟩
  · exact .int i t
  · exact .str x t
mutual
theorem Dat.reads (I:Inv X pins σ H s):∀ (d:PyData) (v:V) (u:Value),Dat H d v→RelV v u→∃ as,Reads s.heap u d as∧sysModules∉as
  | .none,v,u,h,r=>by
    simp only [Dat] at h;subst h;cases r;exact ⟨_,.none,by simp⟩
  | .bool b,v,u,h,r=>by
    simp only [Dat] at h;subst h;cases r;exact ⟨_,.bool b,by simp⟩
  | .int i,v,u,h,r=>by
    simp only [Dat] at h;subst h;obtain ⟨t,rfl⟩:=r;exact ⟨_,.int i t,by simp⟩
  | .str x,v,u,h,r=>by
    simp only [Dat] at h;subst h;obtain ⟨t,rfl⟩:=r;exact ⟨_,.str x t,by simp⟩
  | .list ds,v,u,h,r=>by
    simp only [Dat] at h;obtain ⟨a,xs,rfl,hr,hd⟩:=h;cases r;obtain ⟨its,rv,⟨o,n,e1,e2,_,e3⟩,_⟩:=I.list (SqL.of hr);obtain ⟨as,ra,na⟩:=DatAll.reads I ds xs its hd rv;have ho:=hr;refine ⟨_,.list e1 e2 e3 (by simpa using ra),fun z=>?_⟩;rcases aam.mp z with z|z
    · exact I.nosys ho z.symm
    · exact na z
  | .tuple ds,v,u,h,r=>by
    simp only [Dat] at h;obtain ⟨a,xs,rfl,hr,hd⟩:=h;cases r;obtain ⟨its,rv,⟨o,e1,e2,n,e3⟩,_⟩:=I.tuple (SqT.of hr);obtain ⟨as,ra,na⟩:=DatAll.reads I ds xs its hd rv;exact ⟨_,.tuple e1 e2 e3 (by simpa using ra),na⟩
  | .dict kvs,v,u,h,r=>by
    simp only [Dat] at h;obtain ⟨a,ks,rfl,hr,hd⟩:=h;cases r;obtain ⟨_,_,vs,rel,o,es,ep,e1,ex,e3,_,pr,_⟩:=uZ I.hok hr;obtain ⟨as,bs,ra,rb,na,nb⟩:=DatKv.reads I kvs ks vs es.toList hd rel pr;have ho:=hr;refine ⟨_,.dict e1 ex.1 e3 ra rb,fun z=>?_⟩;rcases aan.mp z with z|z
    · rcases aam.mp z with z|z
      · exact I.nosys ho z.symm
      · exact na z
    · exact nb z
theorem DatAll.reads (I:Inv X pins σ H s):∀ (ds:List PyData) (vs:List V) (us:List Value),DatAll H ds vs→Vals vs us→∃ as,ReadsAll s.heap us ds as∧sysModules∉as
  | [],vs,us,h,r=>by
    simp only [DatAll] at h;subst h;cases r;exact ⟨_,.nil,by simp⟩
  | d :: ds,vs,us,h,r=>by
    simp only [DatAll] at h;obtain ⟨v,t,rfl,h1,h2⟩:=h;cases r with
    | cons r1 r2 =>
      obtain ⟨as,ra,na⟩:=Dat.reads I d v _ h1 r1;obtain ⟨bs,rb,nb⟩:=DatAll.reads I ds t _ h2 r2;exact ⟨_,.cons ra rb,fun z=>(aan.mp z).elim na nb⟩
theorem DatKv.reads (I:Inv X pins σ H s):∀ (kvs:List (PyData × PyData)) (ks:List (Key × V)) (vs:List (Key × Value)) (es:List DictEntry),DatKv H kvs ks→KV ks vs→Pairs (a5 X.prog X.w) es vs →
    ∃ as bs,ReadsAll s.heap (es.map (·.key)) (kvs.map (·.1)) as∧ReadsAll s.heap (es.map (·.val)) (kvs.map (·.2)) bs∧sysModules∉as∧sysModules∉bs
  | [],ks,vs,es,h,r,p=>by
    simp only [DatKv] at h;subst h;cases r;cases p;exact ⟨_,_,.nil,.nil,by simp,by simp⟩
  | (k,d) :: kr,ks,vs,es,h,r,p=>by
    simp only [DatKv] at h;obtain ⟨q,v,t,rfl,rfl,h1,h2⟩:=h;cases r with
    | cons r1 r2 =>
      cases p with
      | cons p1 p2 p3 =>
        obtain ⟨rk,rv⟩:=r1;obtain ⟨as,bs,ra,rb,na,nb⟩:=DatKv.reads I kr t _ _ h2 r2 p3;obtain ⟨cs,rc,nc⟩:=Dat.reads I d v _ h1 rv;have rk':q=_:=rk;subst rk';have kd:=tm (h:=s.heap) p1;refine ⟨[]++as,cs++bs,.cons kd ra,.cons (by dsimp only;rw [p2];exact rc) rb,by simpa using na,fun z=>(aan.mp z).elim nc nb⟩
end
end
open PySem PySem.Spec PyProof.Rows
section
variable {X:Cx}
def yl (neg:Bool):R2:=fun x y H Q=>∃ d e,Dat H d x∧Dat H e y∧d.canLay0=true∧e.canLay0=true∧d.depth≤60∧Q (.bl (if neg then !PyData.eqv d e else PyData.eqv d e)) H
theorem qw (hu:X.A.units+64 < cLine):OpR X (compareOp .Eq) (yl false):=by
  intro pins s σ H x y v u Q I rx ry h;obtain ⟨d,e,hd,he,cd,ce,dp,q⟩:=h;obtain ⟨as,ra,_⟩:=Dat.reads I d x _ hd rx;obtain ⟨bs,rb,_⟩:=Dat.reads I e y _ he ry;exact PySem.SeqAt.compareEq_reads ra rb cd ce (by lia) ⟨.bl _,H,I,rfl,q⟩
theorem qv (hu:X.A.units+64 < cLine):OpR X (compareOp .NotEq) (yl true):=by
  intro pins s σ H x y v u Q I rx ry h;obtain ⟨d,e,hd,he,cd,ce,dp,q⟩:=h;obtain ⟨as,ra,_⟩:=Dat.reads I d x _ hd rx;obtain ⟨bs,rb,_⟩:=Dat.reads I e y _ he ry;exact PySem.SeqAt.compareNe_reads ra rb cd ce (by lia) ⟨.bl _,H,I,rfl,q⟩
theorem rZ {i:Int} (h:i.natAbs < 2 ^ 4000):Builtin.Int.intBits i≤2 ^ 20:=by
  have : Builtin.Int.intBits i≤4000:=by
    unfold Builtin.Int.intBits;by_cases c:i=0
    · simp [c]
    · rw [if_neg (by simpa using c)];have h4:i.natAbs≠0:=fun z=>c (Int.natAbs_eq_zero.mp z);exact (Nat.log2_lt h4).mpr h
  have e:(4000:Nat)≤2 ^ 20:=by decide
  lia
theorem iF:OpR X (binaryOp .Mult) (rI (fun i j=>i.natAbs < 2 ^ 4000∧j.natAbs < 2 ^ 4000) fun i j=>.int (i * j)):=opI fun _ _ _ _ _ _ _ hc q=>mul_int q (IntMulOk.of_bits (rZ hc.1) (rZ hc.2))
theorem ue {e k:Expr} {te tk:TE} {p2 pos:Pos} (he:PE X e te) (hk:PE X k tk):PE X (.Subscript e (.Slice none none (some k) p2) pos)
    (fun σ H Q=>te σ H fun x H1=>tk σ H1 fun y H2=>y=.int (-1)∧∃ a xs,x=.ref a∧SqL X.K H2 a xs∧∀ p,H2 p=none→Q (.ref p) (upd H2 p (.lst xs.reverse))):=by
  intro pins s σ H Q I h;refine Subscript_ (thn (he pins s σ H _ I h) fun v s1 ⟨x,H1,I1,r1,q1⟩=>?_);refine wpAny_Slice ?_;rw [evalPart_none];refine wpAny_pure (wpAny_pure ?_);rw [evalPart_some];refine thn (hk pins s1 σ H1 _ I1 q1) fun vk s3 ⟨y,H3,I3,r3,q3⟩=>?_;obtain ⟨rfl,a,xs,rfl,hx,q⟩:=q3;obtain ⟨t,rfl⟩:=r3;cases r1;have I4:Inv X pins σ H3 { s3 with heap:=s3.heap.push { cls:=.type "slice",data:=.fields #[.none,.none,.int (-1) t] } }:=I3.kept (t':=s3.toks) fun b ob q=>aad _ q;obtain ⟨its,r,ht,hz⟩:=I4.list hx;have hlen:=r.length;refine tail_any (ops:=[.ref a,.ref s3.heap.objs.size]) (s:={ s3 with heap:=s3.heap.push { cls:=.type "slice",data:=.fields #[.none,.none,.int (-1) t] } }) ht.isList.typeIs slot_list_getitem.lookup ?_ (by with_unfolding_all rfl);refine wpAny_getItem_list_slice ht.isList (Heap.IsSliceOf.new ..) .none .none (.int (-1) t) (by decide) ?_ (by rw [aah];lia);rw [PySem.W.krv_pick];refine ⟨.ref _,_,I4.laid (t':=s3.toks) (o:=.lst xs.reverse) (fun b ob q=>aad _ q) (aag _) ?_,rfl,q _ (I4.hok.fresh (aag _))⟩;exact ⟨by rw [ab1];exact hz,_,0,r.reverse,aaq _ rfl⟩
end
open PySem PySem.Spec PyProof.Rows
theorem Inv.turnedL {X:Cx} {pins:List (Addr × Obj)} {σ:St} {H:Hp} {s:Shared} {h':Heap} {t':Nat} {fp:List Addr} (I:Inv X pins σ H s) (k:∀ b o,b∉fp→s.heap.get? b=some o→h'.get? b=some o) (hf:∀ b∈fp,d9 X pins H b):Inv X pins σ H { s with heap:=h',toks:=t' }:=by
  have nit:∀ b u,H b=some u→b∉fp:=fun b u e z=>by rw [(hf b z).1] at e;cases e
  refine I.step (g':=s.gens) (d':=s.drawn) (ch:=fp) (fun b hb=>⟨(hf b hb).2.2.2.1,(hf b hb).2.1,(hf b hb).2.2.2.2.1,(hf b hb).2.2.2.2.2⟩) (fun b o _ _ hc e _=>k b o hc e) (fun b o _ _ hc e _=>⟨o.slots,k b o hc e⟩) (fun _ _ _ _ n=>n)
    (fun b o hc e=>⟨o,k b o hc e⟩) (fun _ _ e=>e) (fun _ _ _ e=>e) (fun b ps e=>⟨#[],by rw [e];simp⟩) (fun m hm=>?_) (fun b u e=>?_) I.bare
  · obtain ⟨o,es,ep,ho,r⟩:=hm;exact ⟨o,es,ep,k _ o (fun z=>(hf _ z).2.1 rfl) ho,r⟩
  · refine (I.hok b u e).stay (fun c v hc q=>k c v ?_ q) (fun _ q=>q) fun _ _ q=>q;rcases hc with z|z
    · rw [z];exact nit b u e
    · exact nit c _ z
open PySem PySem.Spec PyProof.Rows
section
variable {prog:Program} {w:World} {κ:Type} [DecidableEq κ] {knd:HeapKind prog w κ} {A:Around} {E:Value→Shared→Prop} {s:Shared}
end
open PySem PySem.Spec PyProof.Rows
section
variable {prog:Program} {w:World} {κ:Type} [DecidableEq κ] {knd:HeapKind prog w κ} {A:Around} {E:Value→Shared→Prop} {s:Shared}
inductive HitsH (A:Around) (s:Shared) (kb:List (κ × Addr × Value)):List (κ × Addr × Value)→Bool→Prop
  | nil:HitsH A s kb [] true
  | miss {k:κ} {a:Addr} {v:Value} {r:List (κ × Addr × Value)}:atKey kb k=none→HitsH A s kb ((k,a,v) :: r) false
  | hit {k:κ} {a c:Addr} {v y:Value} {r:List (κ × Addr × Value)} {e b:Bool}:atKey kb k=some (c,y)→SeqAt.EqAt A s v y e→HitsH A s kb r b→HitsH A s kb ((k,a,v) :: r) (e && b)
end
open PySem PySem.Spec PyProof.Rows
inductive HitsV (K:aaa) (H:Hp) (n:Nat) (kb:List (List Key × V)):List (List Key × V)→Bool→Prop
  | nil:HitsV K H n kb [] true
  | miss {k:List Key} {v:V} {r:List (List Key × V)}:cE kb k=none→HitsV K H n kb ((k,v) :: r) false
  | hit {k:List Key} {v y:V} {r:List (List Key × V)} {e b:Bool}:cE kb k=some y→EqR K H n v y e→HitsV K H n kb r b→HitsV K H n kb ((k,v) :: r) (e && b)
open PySem PySem.Spec PyProof.Rows
section
variable {prog:Program} {w:World} {κ:Type} [DecidableEq κ] {knd:HeapKind prog w κ} {A:Around} {E:Value→Shared→Prop}
variable {s:Shared}
end
open PySem PySem.Spec PyProof.Rows
theorem Inv.retype {X:Cx} {pins:List (Addr × Obj)} {σ:St} {H:Hp} {s:Shared} {a:Addr} {u u':HO} (I:Inv X pins σ H s) (e:H a=some u) (n1:∀ xs,u≠.tup xs) (n2:∀ ps,u≠.tbl ps) (n3:∀ y,u≠.own y) (hf:∀ o v,X.H₀ a≠some (.frz o v))
    (new:ObjOk X.prog X.w H s.heap a u'):Inv X pins σ (upd H a u') s:=by
  have nt:∀ c xs,H c=some (.tup xs)→c≠a:=fun c xs q z=>by rw [z,e] at q;injection q with q;exact n1 _ q
  have no:∀ c y,H c=some (.own y)→c≠a:=fun c y q z=>by rw [z,e] at q;injection q with q;exact n3 _ q
  have nn:∀ c,H c=none→c≠a:=fun c q z=>by rw [z,e] at q;cases q
  refine ⟨I.ok,I.os,I.bare,⟨I.base.keep,I.base.slot,fun b ob q n hx=>?_,I.base.there,fun b xs q=>?_,fun b ob xs q=>?_,fun b ps q=>?_⟩,I.loc,I.cell,?_,fun x c q=>?_,fun p hp=>?_,fun b v q=>?_,I.len⟩
  · have z:=I.base.free b ob q n hx;rw [aq (nn b z)];exact z
  · have z:=I.base.tups b xs q;rw [aq (nt b xs z)];exact z
  · have z:=I.base.frzs b ob xs q;have nb:b≠a:=fun y=>hf ob xs (by rw [← y];exact q);rw [aq nb];exact z
  · obtain ⟨m,z⟩:=I.base.tbls b ps q;have nb:b≠a:=fun y=>by rw [y,e] at z;injection z with z;exact n2 _ z
    exact ⟨m,by rw [aq nb];exact z⟩
  · rw [aq (nn _ I.free)];exact I.free
  · rw [aq (nn _ (I.freeC x c q))];exact I.freeC x c q
  · obtain ⟨h1,h2,h3⟩:=I.pin p hp;exact ⟨h1,by rw [aq (nn _ h2)];exact h2,h3⟩
  · by_cases hb:b=a
    · subst hb;rw [af] at q;cases q;exact new.stay (fun c v _ q=>q) (fun c q=>by rw [aq (no c _ q)];exact q) fun c xs q=>by rw [aq (nt c xs q)];exact q
    · rw [aq hb] at q;exact (I.hok b v q).stay (fun c v _ q=>q) (fun c q=>by rw [aq (no c _ q)];exact q) fun c xs q=>by rw [aq (nt c xs q)];exact q
section
variable {prog:Program} {w:World} {A:Around} {E:Value→Shared→Prop} {s:Shared}
end
theorem Paired.nth {α β:Type} {R:α→β→Prop} {l:List α} {m:List β} (p:Paired R l m):∀ (i:Nat) (x:α) (y:β),l[i]?=some x→m[i]?=some y→R x y:=by
  induction p with
  | nil=>intro i x y h;cases h
  | cons r t ih =>
    intro i x y h h';cases i with
    | zero=>cases h;cases h';exact r
    | succ i=>exact ih i x y h h'
theorem uP {P:Program} {w:World} {H:Hp} {h:Heap} {d:Addr} {o:Obj} {es:Array DictEntry} {ep:Nat} {kvs:List (List Key × V)} (ok:HOk P w H h) (e:H d=some (.frz o (.dT kvs))) (hd:o.data=.dict es ep) :
    h.get? d=some o∧o.ExactDict∧(d == sysModules)=false∧es.size=kvs.length∧∃ xs,KT H kvs xs∧es.toList=xs.map (entryOfKey (tupleKind (a5 P w))):=by
  obtain ⟨ho,z,hs,xs,rel,o2,es2,ep2,ho2,c,dat,l,nd⟩:=(show ObjOk P w H h d (.frz o (.dT kvs)) from ok d _ e)
  rw [ho] at ho2;cases ho2;rw [hd] at dat;cases dat;exact ⟨ho,c,hs,by rw [size_of_entries l,← aa9 rel],xs,rel,l⟩
end L2
namespace L2
open PySem PySem.Spec PyProof.Rows PySem.W
section
variable {prog:Program} {w:World} {A:Around} {E:Value→Shared→Prop} {s:Shared}
end
end L2
namespace L2
theorem u1 {a:Nat} (h:a+64 < PySem.cLine):a+1 < PySem.cLine:=by lia
open PySem PySem.Spec PyProof.Rows
section
variable {prog:Program} {w:World} {A:Around} {E:Value→Shared→Prop} {s:Shared}
end
open PySem PySem.Spec PyProof.Rows
open PySem PySem.Spec PyProof.Rows
def Its (z:Str):It :=
  ⟨fun i _=>i < z.cps.size,fun i H x H'=>H'=H∧∃ c,z.cps[i]?=some c∧x=.str ⟨#[c]⟩,fun i _=>z.cps.size≤i⟩
theorem tO {P:Program} {w:World} {K:aaa} {tg:Expr} (it:Addr) (z:Str) (t:Tok):Turn P w K tg (Its z) [it] it (fun i h=>h.IsStrIter it "str_ascii_iterator" z t i) where
  mem:=by simp
  obj:=fun i h st b hb=>by
    have e:b=it:=by simpa using hb
    subst e;obtain ⟨o,e,c,d⟩:=st;exact ⟨o,e,fun v z=>by rw [d] at z;cases z⟩
  keep:=fun i h h' st k=>by
    obtain ⟨o,e,r⟩:=st;exact ⟨o,k it (by simp) o e,r⟩
  item:=by
    intro X hP hw hK hc i pins s σ H E I hf st hg;subst hP hw hK;have hg:i < z.cps.size:=hg;obtain ⟨f0,f1,f2,f3,f4,f5⟩:=hf it (by simp);have hx:z.cps[i]?=some z.cps[i]:=by simp [hg]
    refine wpAny_pyNext_ascii_item st (c:=z.cps[i]) hx fun h' st' sb=>?_;have I1:Inv X pins σ H { s with heap:=h',toks:=s.toks+1 }:=I.turned (t':=s.toks+1) (fun b o hb e=>(sb.2 b hb).trans e) f0 f1 f3 f4 f5;obtain ⟨o,e,c,d⟩:=id st';exact ⟨_,rfl,rK (s:={ s with heap:=h',toks:=s.toks+1 }) e c d (by decide) ⟨.str ⟨#[z.cps[i]]⟩,H,I1,⟨_,rfl⟩,⟨rfl,_,hx,rfl⟩,st',fun b hb=>(hf b hb).1⟩⟩
  done:=by
    intro X hP hw hK hc i pins s σ H E I hf st hg;subst hP hw hK;have hg:z.cps.size≤i:=hg;obtain ⟨f0,f1,f2,f3,f4,f5⟩:=hf it (by simp);exact wpAny_pyNext_ascii_end (I.ok.hd hc) st (by simp [hg]) fun h' eb=>⟨rfl,I.turned (t':=s.toks) (fun b o hb e=>eb b o hb e) f0 f1 f3 f4 f5⟩
  self:=fun _ _ _ _ _ st h=>wpAny_pyIter_striter_ascii st h
def zf (tl:TE):TI:=fun σ H R=>tl σ H fun x H1=>∃ z,x=.str z∧z.cps.all (· < 128)=true∧R (Its z) H1
theorem xj {X:Cx} {tg l:Expr} {tl:TE} (hl:PE X l tl):PI X tg l (zf tl):=by
  intro pins s σ H R I h;refine thn (hl pins s σ H _ I h) fun v s1 ⟨x,H1,I1,r1,q1⟩=>?_;obtain ⟨z,e,ha,q⟩:=q1;subst e;obtain ⟨t,rfl⟩:=r1;refine wpAny_pyIter_ascii ha ?_;refine ⟨s1.heap.objs.size,[s1.heap.objs.size],_,_,H1,rfl,I1.kept (t':=s1.toks) fun b o e=>aad _ e,tO _ z t,⟨_,aaq _ rfl,rfl,rfl⟩,fun b hb=>?_,q⟩;have e:b=s1.heap.objs.size:=by simpa using hb
  subst e;exact I1.fpOk (aag _) (I1.hok.fresh (aag _))
theorem wd {z:Str} {g:TG} {tb:TS} {D:Ends} {σ:St} {H:Hp} (Pv:Nat→St→Hp→Prop) (h0:Pv 0 σ H)
    (hs:∀ i c σ H,z.cps[i]?=some c→Pv i σ H→g (.str ⟨#[c]⟩) σ H fun σ2 H2=>tb { D with nx:=Pv (i+1),ct:=Pv (i+1),bk:=D.nx } σ2 H2) (hd:∀ σ H,Pv z.cps.size σ H→D.nx σ H) :
    ∃ W:Nat→Nat→St→Hp→Prop,(∃ m,W 0 m σ H)∧∀ i m σ H,W i m σ H →
      ((Its z).stop i H∧D.nx σ H)∨((Its z).go i H∧∃ N:St→Hp→Prop,(∀ σ' H',N σ' H'→∃ m',m' < m∧W (i+1) m' σ' H')∧∀ x H',(Its z).yld i H x H'→g x σ H' fun σ2 H2=>tb { D with nx:=N,ct:=N,bk:=D.nx } σ2 H2):=by
  refine ⟨fun i m σ H=>m=z.cps.size - i∧i≤z.cps.size∧Pv i σ H,⟨z.cps.size,by simp,aaN _,h0⟩,?_⟩;rintro i m σ H ⟨rfl,hi,p⟩;by_cases hlt:i < z.cps.size
  · refine .inr ⟨hlt,Pv (i+1),fun σ' H' p'=>⟨z.cps.size - (i+1),by lia,rfl,hlt,p'⟩,fun x H' y=>?_⟩;obtain ⟨e,c,y,ex⟩:=y;subst e ex;exact hs i c σ _ y p
  · have e:i=z.cps.size:=by lia
    subst e;exact .inl ⟨aag _,hd σ H p⟩
def yX (t u:TS):TS:=fun D σ H=>∃ J:St→Hp→Prop,t { D with nx:=J } σ H∧∀ σ' H',J σ' H'→u D σ' H'
theorem rh {X:Cx} {st:Stmt} {dY:List Stmt} {t u:TS} (h1:PS X st t) (h2:PSs X dY u):PSs X (st :: dY) (yX t u):=by
  intro pins s σ H D I h;obtain ⟨J,h,hJ⟩:=h;refine wpAny_execs_cons (thn (h1 pins s σ H { D with nx:=J } I h) fun f s1 q=>?_);cases f with
  | next =>
    obtain ⟨σ',H',I',q⟩:=q;exact h2 pins s1 σ' H' D I' (hJ σ' H' q)
  | ret v=>exact q
  | brk=>exact q
  | cont=>exact q
end L2
namespace PySem
open Sem (wp)
namespace F
end F
section
variable {prog:Program} {w:World} {A:Around} {E:Value→Shared→Prop} {h:Heap} {g:Array GenState} {d:Drawn} {t:Nat} {os:OsState} {a:Addr} {vs:Array Value}
end
end PySem
namespace L2
open PySem PySem.Spec PyProof.Rows
section
variable {prog:Program} {w:World} {A:Around} {E:Value→Shared→Prop} {s:Shared}
end
theorem Paired.app {α β:Type} {R:α→β→Prop} {a c:List α} {b d:List β} (h:Paired R a b) (k:Paired R c d):Paired R (a++c) (b++d):=by
  induction h with
  | nil=>exact k
  | cons x _ ih=>exact .cons x ih
open PySem PySem.Spec PyProof.Rows
theorem k_ {X:Cx} (hc:X.calm=true):eW X (.builtin "all") (fun xs H Q=>∃ (p:Addr) (bs:List Bool),xs=[.ref p]∧SqL X.K H p (bs.map V.bl)∧Q (.bl (bs.all id)) H):=by
  intro pins s σ H xs us Q I r h;obtain ⟨p,bs,rfl,hq,q⟩:=h;obtain ⟨u,rfl,rx⟩:=jw r;cases rx;obtain ⟨its,r',pl,hz⟩:=I.list hq;have hlen:=r'.length;rw [aaf] at hlen;have hps:p < s.heap.objs.size:=by obtain ⟨o,n,ho,_⟩:=pl;exact aar ho
  refine call_all_walk (wpAny_pyIter_list pl.isList ?_);refine ⟨s.heap.objs.size,_,_,_,_,_,fun i=>bs.getD i true,rfl,acp (A:=X.A.in1) (I.ok.hd hc) s.heap.objs.size p (aaz hps) its.toArray,⟨⟨_,aaq _ rfl,rfl,rfl⟩,pl.isList.at fun o x=>aad _ x⟩,?_,?_⟩
  · intro i v s' Q' E' hP hQ';have hv:its.toArray[i]?=some v:=hP;have hv2:its[i]?=some v:=by simpa using hv
    have hi:i < bs.length:=by
      have:=(aak.mp hv2).1;lia
    have hb:(bs.map V.bl)[i]?=some (.bl bs[i]):=by rw [aaL,aac hi];rfl
    obtain ⟨u,hu,ru⟩:=r'.get hb;rw [hv2] at hu;cases hu;cases ru;have e:bs.getD i true=bs[i]:=by rw [aau,aac hi];rfl
    have hQ2:Q' (bs.getD i true) s':=hQ';rw [e] at hQ2;exact wpAny_pure hQ2
  · intro h' tk k;have I2:Inv X pins σ H { s with heap:=h',toks:=tk }:=by
      refine I.turnedL (fp:=[s.heap.objs.size]) (t':=tk) (fun b o hb x=>k b o (by simpa using hb) (aad _ x)) fun b hb=>?_;have e:b=s.heap.objs.size:=by simpa using hb
      subst e;exact I.fpOk (aag _) (I.hok.fresh (aag _))
    have e:(aaI its.toArray.size).all (fun i=>bs.getD i true)=bs.all id:=by
      have e1:its.toArray.size=bs.length:=by simp;lia
      rw [e1];apply Bool.eq_iff_iff.mpr;rw [aa7,aa7];constructor
      · intro hh b hb;obtain ⟨i,hi,e⟩:=aa0 hb;have:=hh i (aaB.mpr hi);rw [aau,aac hi] at this;rw [← e];exact this
      · intro hh i hi;have hi:=aaB.mp hi;rw [aau,aac hi];exact hh _ (aa8 hi)
    rw [e];exact ⟨.bl (bs.all id),H,I2,rfl,q⟩
open PySem PySem.Spec PyProof.Rows
open PySem PySem.Spec PyProof.Rows
theorem oh {elt tg iter tg2 iter2:Expr} {ifs ifs2:List Expr} {G:List Comprehension} {k:Nat} (hk:G[k]?=some ⟨tg,iter,ifs,0⟩) (hk2:G[k+1]?=some ⟨tg2,iter2,ifs2,0⟩) {scope:Scope} {pos:Pos} {it acc:Value} {env:Env} :
    compTurn (.ListComp elt G scope pos) k it acc env=(do
      standAt iter.pos
      match ← pyNext it with
      | none=>pure (.done .next)
      | some v =>
        letOwnedTupleGo tg it v
        assign tg env v
        let mut ok:=true
        for c in ifs do
          if ok then ok ← isTrue c env (eval c env)
        if ok then do
          let x ← eval iter2 env
          standAt iter2.pos
          let x ← foldedSetIterable iter2 env x
          let i ← holding [x] (pyIter x)
          let _ ← runOwn (.compStart (.ListComp elt G scope pos) (k+1) i acc env) env
          again (.compLoop (.ListComp elt G scope pos) k it acc env)
        else again (.compLoop (.ListComp elt G scope pos) k it acc env)):=by
  unfold compTurn;simp only [hk,hk2];rfl
theorem qQ {prog:Program} {w:World} {A:Around} {R:Result→Shared→Prop} {s:Shared} {elt tg iter tg2 iter2:Expr} {ifs ifs2:List Expr} {G:List Comprehension} {k:Nat} (hk:G[k]?=some ⟨tg,iter,ifs,0⟩) (hk2:G[k+1]?=some ⟨tg2,iter2,ifs2,0⟩) {scope:Scope} {pos:Pos} {it acc:Value} {env:Env} (J:Nat→Shared→Prop) (hs2:∀ x,foldedSetIterable iter2 env x=pure x)
    (turn:∀ n s,J n s→wpAny (model prog w) A (pyNext it) (fun r s₁=>match r with
      | none=>R (.ok .next) s₁
      | some v=>wpAny (model prog w) A (letOwnedTupleGo tg it v) (fun _ s₁'=>wpAny (model prog w) A (assign tg env v) (fun _ s₂ =>
          wpAny (model prog w) A (forIn ifs true fun c r=>if r=true then do let ok ← isTrue c env (eval c env);pure (ForInStep.yield ok) else pure (ForInStep.yield r)) (fun ok s₃ =>
            if ok=true then wpAny (model prog w) A (eval iter2 env) (fun x s₄=>wpAny (model prog w) A (pyIter x) (fun it2 s₅ =>
              codeAny (model prog w) A (.compStart (.ListComp elt G scope pos) (k+1) it2 acc env) (fun r s₆=>match r with|.ok _=>∃ m,m < n∧J m s₆|.error _=>False) s₅) (fun _ _=>False) s₄) (fun _ _=>False) s₃
            else ∃ m,m < n∧J m s₃) (fun _ _=>False) s₂) (fun _ _=>False) s₁') (fun _ _=>False) s₁) (fun _ _=>False) s)
    (n:Nat) (h:J n s) :
    codeAny (model prog w) A (.compLoop (.ListComp elt G scope pos) k it acc env) R s:=by
  refine codeAny_loop rfl J (fun n s hI=>?_) n h;show wpAny _ A ((compTurn (.ListComp elt G scope pos) k it acc env).onRaise (fun x=>do noteFrame x env;theTreesLotGoes x)) _ _ s;refine wpAny_noted ?_;rw [oh hk hk2];refine wpAny_bind (wpAny_standAt (wpAny_bind (wpAny_mono (turn n s hI) (fun r s₁ h₁=>?_) fun _ _ h'=>h'.elim)));cases r with
  | none=>exact wpAny_pure h₁
  | some v =>
    refine wpAny_bind (wpAny_mono h₁ (fun _ s₁' h₁'=>?_) fun _ _ h'=>h'.elim);refine wpAny_bind (wpAny_mono h₁' (fun _ s₂ h₂=>wpAny_bind (wpAny_mono h₂ (fun ok s₃ h₃=>?_) fun _ _ h'=>h'.elim)) fun _ _ h'=>h'.elim);cases ok with
    | false=>exact wpAny_pure ⟨rfl,h₃⟩
    | true =>
      refine wpAny_bind (wpAny_mono h₃ (fun x s₄ h₄=>?_) fun _ _ h'=>h'.elim);refine wpAny_bind (wpAny_standAt (wpAny_bind (wpAny_of_eq (hs2 x) (wpAny_bind (wpAny_holding (wpAny_mono h₄ (fun it2 s₅ h₅=>?_) fun _ _ h'=>h'.elim))))));refine wpAny_bind (wpAny_runOwn (codeAny_mono h₅ fun r s₆ h₆=>?_));cases r with
      | ok f=>exact wpAny_pure ⟨rfl,h₆⟩
      | error e=>exact h₆.elim
theorem kY {prog:Program} {w:World} {A:Around} {R:Result→Shared→Prop} {s:Shared} {elt tg2 iter2:Expr} {ifs2:List Expr} {G:List Comprehension} {k:Nat} (hk:G[k]?=some ⟨tg2,iter2,ifs2,0⟩) {scope:Scope} {pos:Pos} {it acc:Value} {env:Env}
    (h0:codeAny (model prog w) A (.compLoop (.ListComp elt G scope pos) k it acc env) R s)
    (h:wpAny (model prog w) A (pyIter it) (fun it' s'=>codeAny (model prog w) A (.compLoop (.ListComp elt G scope pos) k it' acc env) R s')
      (notedBy (model prog w) A env fun x s'=>R (.error x) s') s) :
    codeAny (model prog w) A (.compStart (.ListComp elt G scope pos) k it acc env) R s:=by
  refine codeAny_of_tree ?_;show wpAny _ _ ((compStart (.ListComp elt G scope pos) k it acc env).onRaise (fun x=>do noteFrame x env;standAt theWindowsPlace)) _ _ s;refine wpAny_notedAt ?_;unfold compStart;rw [show (clausesOf (.ListComp elt G scope pos))[k]?=some ⟨tg2,iter2,ifs2,0⟩ from hk];show wpAny _ _ (ask >>= _) _ _ s;refine wpAny_bind (wpAny_askSetting (wpAny_ite ?_));split
  · first
      | exact wpAny_bind (wpAny_pure (wpAny_pure (And.intro rfl h0)))
      | exact wpAny_pure (And.intro rfl h0)
  · first
      | exact wpAny_bind (wpAny_rule (wpAny_bind (wpAny_standAt (wpAny_bind (wpAny_mono h (fun it' s' h'=>wpAny_pure (And.intro rfl h')) fun _ _ x=>x)))))
      | (refine wpAny_bind (wpAny_rule ?_);show wpAny _ _ (standAt iter2.pos >>= _) _ _ s;exact wpAny_bind (wpAny_standAt (wpAny_bind (wpAny_mono h (fun it' s' h'=>wpAny_pure (And.intro rfl h')) fun _ _ x=>x))))
structure PCl (Y:Cx) (c:Comprehension) (r:TI × TG × TT):Prop where
  as:c.is_async=0
  it:PI Y c.target c.iter r.1
  tg:PG Y c.target r.2.1
  fs:gL Y c.ifs r.2.2
  st:∀ E x,foldedSetIterable c.iter E x=pure x
abbrev ot (g2:TG) (tt2:TT) (te:TE) (ys:List V) (σ2:St) (Fin:List V→St→Hp→Prop) (J2:It) (H4:Hp):Prop:=∃ W2:Nat→Nat→List V→St→Hp→Prop,(∃ m,W2 0 m ys σ2 H4)∧∀ i m ys σ H,W2 i m ys σ H →
  (J2.stop i H∧Fin ys σ H) ∨
  (J2.go i H∧ys.length < sizeLine∧∀ x H',J2.yld i H x H'→g2 x σ H' fun σ3 H5=>tt2 σ3 H5 fun b H6=>if b=true then te σ3 H6 fun v H7=>∃ m',m' < m∧W2 (i+1) m' (ys++[v]) σ3 H7 else ∃ m',m' < m∧W2 (i+1) m' ys σ3 H6)
abbrev LcT:List (TI × TG × TT)→TG→TT→TE→List V→St→(List V→St→Hp→Prop)→It→Hp→Prop
  | [],g,tt,te,ys,σ,Fn,J,H=>ot g tt te ys σ Fn J H
  | r :: rs,g,tt,te,ys,σ2,Fn,J2,H4=>∃ W2:Nat→Nat→List V→St→Hp→Prop,(∃ m,W2 0 m ys σ2 H4)∧∀ i m ys σ H,W2 i m ys σ H →
    (J2.stop i H∧Fn ys σ H) ∨
    (J2.go i H∧∀ x H',J2.yld i H x H'→g x σ H' fun σ3 H5=>tt σ3 H5 fun b H6=>if b=true then r.1 σ3 H6 (LcT rs r.2.1 r.2.2 te ys σ3 fun ys' σ' H7=>∃ m',m' < m∧W2 (i+1) m' ys' σ' H7) else ∃ m',m' < m∧W2 (i+1) m' ys σ3 H6)
def xX (Y:Cx) (D:Addr) (P:List (Addr × Obj)) (Fin:List V→St→Hp→Prop) (s:Shared):Prop:=∃ ys its k σ H,Inv Y (Lp D its k :: P) σ H s∧Vals ys its∧ys.length≤sizeLine∧Fin ys σ H
def wT (Y:Cx) (D:Addr) (elt:Expr) (te:TE) (G:List Comprehension) (scope:Scope) (pos:Pos) (rs:List (TI × TG × TT)) (c:Comprehension) (r:TI × TG × TT) (k:Nat):Prop :=
    ∀ (P:List (Addr × Obj)),(∀ p∈P,p.1≠D)→∀ {σ:St} {H:Hp} {s:Shared} {ys:List V} {its:List Value} {kk:Nat} {Fin:List V→St→Hp→Prop},Inv Y (Lp D its kk :: P) σ H s→Vals ys its→ys.length≤sizeLine →
      r.1 σ H (LcT rs r.2.1 r.2.2 te ys σ Fin) →
      wpAny (model Y.prog Y.w) Y.A (eval c.iter Y.env) (fun x s₄=>wpAny (model Y.prog Y.w) Y.A (pyIter x) (fun it2 s₅ =>
        codeAny (model Y.prog Y.w) Y.A (.compStart (.ListComp elt G scope pos) k it2 (.ref D) Y.env) (fun r s₆=>match r with|.ok _=>xX Y D P Fin s₆|.error _=>False) s₅) (fun _ _=>False) s₄) (fun _ _=>False) s
theorem uM {Y:Cx} {τ:Type} {val:τ→St} {nx:St→τ} (hc:Y.calm=true) (hxe:Y.xe=fun _ _=>False) (hrs:∀ {pn:List (Addr × Obj)} {σ':St} {H':Hp} {s':Shared},Inv Y pn σ' H' s'→Inv Y pn (val (nx σ')) H' s')
    {D:Addr} (hDx:D∈Y.ex∨Y.s₀.heap.objs.size≤D) (hDc:∀ x c,Y.env.cells.lookup x=some c→c≠D) (hDp:∀ p∈Y.pn,p.1≠D)
    {elt tg iter tg2 iter2:Expr} {ifs ifs2:List Expr} {te:TE} {g:TG} {tt:TT} {G:List Comprehension} {scope:Scope} {pos:Pos} {k:Nat} {r2:TI × TG × TT} {rs:List (TI × TG × TT)} (hk:G[k]?=some ⟨tg,iter,ifs,0⟩) (hk2:G[k+1]?=some ⟨tg2,iter2,ifs2,0⟩) (hst:∀ x,foldedSetIterable iter2 Y.env x=pure x) (htg:PG Y tg g) (hfs:gL Y ifs tt)
    {P:List (Addr × Obj)} (hP:∀ p∈P,p.1≠D) (inn:wT Y D elt te G scope pos rs ⟨tg2,iter2,ifs2,0⟩ r2 (k+1)) {it:Addr} {fp:List Addr} {tn:Nat→Heap→Prop} {J:It} (T:Turn Y.prog Y.w Y.K tg J fp it tn) (neD:∀ b∈fp,D≠b) (fpY:∀ {H':Hp} {n:Nat} {its:List Value},(∀ b∈fp,H' b=none)→∀ b∈fp,d9 Y (Lp D its n :: P) H' b)
    {R:Result→Shared→Prop} {Fin:List V→τ→Hp→Prop} (hR:∀ ys its k t H s,Inv Y (Lp D its k :: P) (val t) H s→Vals ys its→ys.length≤sizeLine→Fin ys t H→R (.ok .next) s)
    {W:Nat→Nat→List V→τ→Hp→Prop} (turn:∀ i m ys t H,W i m ys t H→(J.stop i H∧Fin ys t H) ∨
      (J.go i H∧∀ x H',J.yld i H x H'→g x (val t) H' fun σ3 H5=>tt σ3 H5 fun b H6=>if b=true then r2.1 σ3 H6 (LcT rs r2.2.1 r2.2.2 te ys σ3 fun ys' σ' H7=>∃ m',m' < m∧W (i+1) m' ys' (nx σ') H7) else ∃ m',m' < m∧W (i+1) m' ys (nx σ3) H6))
    {m0 kk:Nat} {ys:List V} {its:List Value} {t:τ} {H:Hp} {s:Shared} (I:Inv Y (Lp D its kk :: P) (val t) H s) (rv:Vals ys its) (hz:ys.length≤sizeLine) (st:tn 0 s.heap) (fr:∀ b∈fp,H b=none) (w0:W 0 m0 ys t H) :
    codeAny (model Y.prog Y.w) Y.A (.compLoop (.ListComp elt G scope pos) k (.ref it) (.ref D) Y.env) R s:=by
  have xe:∀ e s,Y.xe e s→False:=fun e s z=>by rw [hxe] at z;exact z
  refine qQ hk hk2 (fun n s'=>∃ i ys its k t H',Inv Y (Lp D its k :: P) (val t) H' s'∧Vals ys its∧ys.length≤sizeLine∧tn i s'.heap∧(∀ b∈fp,H' b=none)∧W i n ys t H') hst ?_ m0 ⟨0,ys,its,kk,t,H,I,rv,hz,st,fr,w0⟩;rintro n s3 ⟨i,ys3,its3,k3,t3,H3,I3,rv3,hz3,st3,fr3,w3⟩;rcases turn i n ys3 t3 H3 w3 with ⟨stop,qn⟩|⟨go,step⟩
  · refine wpAny_mono (T.done Y rfl rfl rfl hc i _ s3 _ H3 (fun _ _=>False) I3 (fpY fr3) st3 stop) (fun r s4 ⟨hr,I4⟩=>?_) fun _ _ z=>z;subst hr;exact hR ys3 its3 k3 t3 H3 s4 I4 rv3 hz3 qn
  · refine wpAny_mono (T.item Y rfl rfl rfl hc i _ s3 _ H3 (fun _ _=>False) I3 (fpY fr3) st3 go) (fun r s4 ⟨u,hr,h4⟩=>?_) fun _ _ z=>z;subst hr;refine wpAny_mono h4 (fun _ s5 ⟨x,H5,I5,r5,y5,st5,fr5⟩=>?_) fun _ _ z=>z;have I5':=I5.pinned (fpY fr5) (T.obj _ _ st5);refine wpAny_mono (htg _ s5 _ H5 x u _ I5' r5 (step x H5 y5)) (fun _ s6 ⟨σ6,H6,I6,q6⟩=>?_) fun e s z=>(xe e s z).elim;refine wpAny_mono (hfs _ s6 σ6 H6 _ I6 q6) (fun ok s7 ⟨H7,I7,q7⟩=>?_) fun e s z=>(xe e s z).elim;have again:∀ {ys':List V} {its':List Value} {k':Nat} {σ':St} {H':Hp} {s':Shared},Inv Y (Lp D its' k' :: (P++cO fp s5.heap)) σ' H' s'→Vals ys' its'→ys'.length≤sizeLine→(∃ m',m' < n∧W (i+1) m' ys' (nx σ') H') →
        ∃ m,m < n∧∃ i ys its k t H',Inv Y (Lp D its k :: P) (val t) H' s'∧Vals ys its∧ys.length≤sizeLine∧tn i s'.heap∧(∀ b∈fp,H' b=none)∧W i m ys t H':=fun {ys' its' k' σ' H' s'} Z rv' hz' hw=>by
      obtain ⟨m',hm,w'⟩:=hw;have pn:∀ {b:Addr} {o:Obj},b∈fp→s5.heap.get? b=some o→_:=fun {b o} hb e=>Z.pin (b,o) (aab _ (aae _ (aab _ (cT hb e))));refine ⟨m',hm,i+1,ys',its',k',nx σ',H',hrs (Inv.unpinned (pl:=cO fp s5.heap) Z),rv',hz',T.keep _ _ _ st5 fun b hb o e=>(pn hb e).1,fun b hb=>?_,w'⟩;obtain ⟨o,e,d⟩:=T.obj _ _ st5 b hb;exact (pn hb e).2.1
    cases ok with
    | false =>
      rw [if_neg aal] at q7 ⊢;exact again I7 rv3 hz3 q7
    | true =>
      rw [if_pos rfl] at q7 ⊢;refine wpAny_mono (inn (P++cO fp s5.heap) (fun p hp=>?_) I7 rv3 hz3 q7) (fun x s8 h8=>wpAny_mono h8 (fun it2 s9 h9=>codeAny_mono h9 fun r s10 h10=>?_) fun _ _ z=>z) fun _ _ z=>z
      · rcases aan.mp hp with z|z
        · exact hP p z
        · exact ab3 (neD _ (jp z).1)
      · cases r with
        | error e=>exact h10.elim
        | ok f =>
          obtain ⟨ys',its',k',σ',H',Z,rv',hz',w'⟩:=h10;exact again Z rv' hz' w'
theorem uJ {Y:Cx} (hc:Y.calm=true) (hxe:Y.xe=fun _ _=>False) {D:Addr} (hDx:D∈Y.ex∨Y.s₀.heap.objs.size≤D) (hDc:∀ x c,Y.env.cells.lookup x=some c→c≠D) (hDp:∀ p∈Y.pn,p.1≠D)
    {elt:Expr} {te:TE} {G:List Comprehension} {scope:Scope} {pos:Pos} (hbe:PE Y elt te) :
    ∀ (rs:List (TI × TG × TT)) (c:Comprehension) (r:TI × TG × TT) (k:Nat),G[k]?=some c→PCl Y c r→Paired (PCl Y) (G.drop (k+1)) rs →
    wT Y D elt te G scope pos rs c r k:=by
  intro rs;have xe:∀ e s,Y.xe e s→False:=fun e s z=>by rw [hxe] at z;exact z
  have fpx:∀ {fp:List Addr} {P:List (Addr × Obj)} {its:List Value} {kk:Nat} {H2:Hp},(∀ b∈fp,d9 Y (Lp D its kk :: P) H2 b)→(∀ b∈fp,D≠b)∧∀ {H':Hp} {n:Nat} {its':List Value},(∀ b∈fp,H' b=none)→∀ b∈fp,d9 Y (Lp D its' n :: P) H' b:=fun {fp P its kk H2} f2=>by
    have neD:∀ b∈fp,D≠b:=fun b hb=>(f2 b hb).2.2.2.2.2 (Lp D its kk) (aab _ aai);refine ⟨neD,fun {H' n its'} hn b hb=>⟨hn b hb,(f2 b hb).2.1,(f2 b hb).2.2.1,(f2 b hb).2.2.2.1,(f2 b hb).2.2.2.2.1,fun p hp=>?_⟩⟩;rcases aan.mp hp with z|z
    · exact (f2 b hb).2.2.2.2.2 p (aaw _ z)
    · rcases aam.mp z with z|z
      · rw [z];exact neD b hb
      · exact (f2 b hb).2.2.2.2.2 p (aab _ (aae _ z))
  induction rs with
  | nil =>
    intro c r k hk hcl hG P hP σ H s ys its kk Fin I rv hz h;have hk2:G[k+1]?=none:=by
      have l:=aa9 hG;rw [aaY] at l;exact List.getElem?_eq_none (by simp at l;lia)
    obtain ⟨tg,iter,ifs,as⟩:=c;have as0:as=0:=hcl.as;subst as0;refine wpAny_mono (hcl.it _ s σ H _ I h) (fun v s1 h1=>wpAny_mono h1 (fun itv s2 h2=>?_) fun e s z=>(xe e s z).elim) fun e s z=>(xe e s z).elim;obtain ⟨it,fp,tn,J,H2,e,I2,T,st2,f2,W,⟨m0,w0⟩,turn⟩:=h2;subst e;have loop:=rL (τ:=St) (val:=fun z=>z) (nx:=fun z=>z) hc hxe (fun Z=>Z) hDx hDc hDp (scope:=scope) (pos:=pos) hbe hk hk2 hcl.tg hcl.fs hP T (fpx f2).1 (fpx f2).2 (R:=fun r s₆=>match r with|.ok _=>xX Y D P Fin s₆|.error _=>False) (fun ys its k t H s I4 rv hz fin=>⟨ys,its,k,t,H,I4,rv,hz,fin⟩) turn I2 rv hz st2 (fun b hb=>(f2 b hb).1) w0;exact kY hk loop (T.self _ 0 _ _ _ st2 loop)
  | cons r2 rs ih =>
    intro c r k hk hcl hG P hP σ H s ys its kk Fin I rv hz h;obtain ⟨c2,hk2,hcl2,hG2⟩:∃ c2,G[k+1]?=some c2∧PCl Y c2 r2∧Paired (PCl Y) (G.drop (k+1+1)) rs:=by
      cases e:G.drop (k+1) with
      | nil=>rw [e] at hG;cases hG
      | cons c2 l =>
        rw [e] at hG;have e1:G[k+1]?=some c2:=by
          have:=congrArg (·[0]?) e;simpa using this
        have e2:G.drop (k+1+1)=l:=by rw [← List.drop_drop,e];rfl
        cases hG with
        | cons a b=>exact ⟨c2,e1,a,by rw [e2];exact b⟩
    obtain ⟨tg,iter,ifs,as⟩:=c;have as0:as=0:=hcl.as;subst as0;obtain ⟨tg2,iter2,ifs2,as2⟩:=c2;have as20:as2=0:=hcl2.as;subst as20;refine wpAny_mono (hcl.it _ s σ H _ I h) (fun v s1 h1=>wpAny_mono h1 (fun itv s2 h2=>?_) fun e s z=>(xe e s z).elim) fun e s z=>(xe e s z).elim;obtain ⟨it,fp,tn,J,H2,e,I2,T,st2,f2,W,⟨m0,w0⟩,turn⟩:=h2;subst e;have loop:=uM (τ:=St) (val:=fun z=>z) (nx:=fun z=>z) hc hxe (fun Z=>Z) hDx hDc hDp (scope:=scope) (pos:=pos) hk hk2 (hcl2.st _) hcl.tg hcl.fs hP (ih _ r2 (k+1) hk2 hcl2 hG2) T (fpx f2).1 (fpx f2).2 (R:=fun r s₆=>match r with|.ok _=>xX Y D P Fin s₆|.error _=>False) (fun ys its k t H s I4 rv hz fin=>⟨ys,its,k,t,H,I4,rv,hz,fin⟩) turn I2 rv hz st2 (fun b hb=>(f2 b hb).1) w0;exact kY hk loop (T.self _ 0 _ _ _ st2 loop)
abbrev vy (cap:List (Option Nat)) (g:TG) (tt:TT) (r2:TI × TG × TT) (rs:List (TI × TG × TT)) (te:TE) (σ:St) (Q:VK) (J:It) (H1:Hp):Prop:=∃ W:Nat→Nat→List V→Hp→Prop,(∃ m,W 0 m [] H1)∧∀ i m ys H,W i m ys H →
  (J.stop i H∧∀ p,H p=none→Q (.ref p) (upd H p (.lst ys))) ∨
  (J.go i H∧∀ x H',J.yld i H x H'→g x (b_ cap σ) H' fun σ2 H2=>tt σ2 H2 fun b H3=>if b=true then r2.1 σ2 H3 (LcT rs r2.2.1 r2.2.2 te ys σ2 fun ys' _ H4=>∃ m',m' < m∧W (i+1) m' ys' H4) else ∃ m',m' < m∧W (i+1) m' ys H3)
def yS (cap:List (Option Nat)) (wi:TI) (g:TG) (tt:TT) (r2:TI × TG × TT) (rs:List (TI × TG × TT)) (te:TE):TE:=fun σ H Q=>wi σ H (vy cap g tt r2 rs te σ Q)
section
variable {X:Cx}
theorem ug {elt tg iter:Expr} {ifs:List Expr} {G:List Comprehension} {r2:TI × TG × TT} {rs:List (TI × TG × TT)} {scope:Scope} {pos:Pos} {cl:List (Str × Addr)} {NY:List Str} {cap:List (Option Nat)} {wi:TI} {g:TG} {tt:TT} {te:TE} (hc:X.calm=true) (hi:PI X tg iter wi)
    (hclos:closureFor scope X.env=pure cl) (hci:CellsIn X.env cl) (hcap:CapOk X.env (relabel scope X.env) X.N NY cap)
    (hb:∀ fp s H C,PG (aL X scope cl NY fp s H C) tg g∧gL (aL X scope cl NY fp s H C) ifs tt∧Paired (PCl (aL X scope cl NY fp s H C)) G (r2 :: rs)∧PE (aL X scope cl NY fp s H C) elt te)
    (hkind:scope.kind=.function:=by rfl) (hnc:(scope.names.all fun y=>y.2 != .cell)=true:=by rfl)
    (hnames:(scope.names.all fun y=>y.2 != .local || scope.names.lookup y.1 == some .local)=true:=by rfl)
    (hhas:((relabel scope X.env).names.all fun p=>(p.2 != .cell && p.2 != .free) || (cl.lookup p.1).isSome)=true:=by rfl)
    (hs:∀ x,foldedSetIterable iter X.env x=pure x:=by intro _;rfl) :
    PE X (.ListComp elt (⟨tg,iter,ifs,0⟩ :: G) scope pos) (yS cap wi g tt r2 rs te):=by
  intro pins s σ H Q I h;rw [eval_ListComp];refine wpAny_comprehension_free (use:=none) rfl hs hclos hkind (iO hnames) (wpAny_mono (hi pins s σ H _ I h) (fun v s1 h1=>wpAny_mono h1 (fun itv s2 h2=>?_) fun _ _ e=>e) fun _ _ e=>e);obtain ⟨it,fp,tn,J,H2,e,I2,T,st2,f2,W,⟨m0,w0⟩,turn⟩:=h2;subst e;refine wpAny_newObj_type (wpAny_newFunctionEnv (oq hnc) (by intro y hy;simp at hy) (fun h₁ hns₁ hsb₁=>?_) hkind);dsimp only at hns₁ hsb₁ ⊢;obtain ⟨hC,B,hD⟩:=I2.newC hci hkind hhas hns₁ fun b o hb e=>hsb₁.extBut b o hb (aad _ e);generalize (s2.heap.push { cls:=.type "list",dict:=none,data:=.seq ([]:List Value).toArray }).objs.size=C at hC B ⊢;obtain ⟨hbg,hbt,hbG,hbe⟩:=hb fp s2 H2 C;obtain ⟨c2,G',eG,hcl2,hG'⟩:∃ c2 G',G=c2 :: G'∧PCl (aL X scope cl NY fp s2 H2 C) c2 r2∧Paired (PCl (aL X scope cl NY fp s2 H2 C)) G' rs:=by
    cases hbG with
    | cons a b=>exact ⟨_,_,rfl,a,b⟩
  obtain ⟨tg2,iter2,ifs2,as2⟩:=c2;have as20:as2=0:=hcl2.as;subst as20;have stW:=T.keep _ _ h₁ st2 fun b _ o e=>B.old b o e;have fpl:=T.lt st2;have hDc:=B.neD I2.cellLt (aag _) hD fun v z=>by cases z
  have loop:=uM (τ:=Unit) (val:=fun _=>b_ cap σ) (nx:=fun _=>()) (Y:=aL X scope cl NY fp s2 H2 C) hc rfl (fun Z=>I2.recap f2 B hcap cR Z) (.inr (aag _)) hDc (fun p hp=>by cases hp) (elt:=elt) (te:=te) (G:=⟨tg,iter,ifs,0⟩ :: G) (scope:=scope) (pos:=pos) (k:=0) rfl (show (⟨tg,iter,ifs,0⟩ :: G:List Comprehension)[1]?=some ⟨tg2,iter2,ifs2,0⟩ by rw [eG];rfl) (hcl2.st _) hbg hbt (P:=[]) (fun p hp=>by cases hp)
    (uJ (Y:=aL X scope cl NY fp s2 H2 C) hc rfl (.inr (aag _)) hDc (fun p hp=>by cases hp) hbe rs _ r2 1 (by rw [eG];rfl) hcl2 (by rw [eG];exact hG')) T
    (fun b hb=>aaT (fpl b hb)) (fun hn=>I2.fps f2 fpl B (fun p hp=>by rw [aaj.mp hp];exact aag _) hn) (R:=compPost (model X.prog X.w) X.A X.xe none (EP X pins σ Q) (.ref s2.heap.objs.size) C) (fun ys its k _ H s I4 rv hz fin=>I2.lstEnd f2 (aag _) (abg hC) rfl I4 rv hz fin)
    (W:=fun i m ys _ H=>W i m ys H) (fun i m ys _ H=>turn i m ys H) (t:=()) (I2.blk f2 fpl B hcap cR (fun p hp=>by rw [aaj.mp hp];exact ⟨hD,aag _,aaz hC,fun v z=>by cases z⟩) (t':=s2.toks+([]:List (Str × Value)).length)) .nil (aaN _) stW (fun b hb=>(f2 b hb).1) w0
  exact codeAny_compStart_list loop (T.self _ 0 _ _ _ stW loop)
end
abbrev wQ (g2:TG) (tt2:TT) (te:TE) (ys:List V) (σ2:St) (Fin:List V→Hp→Prop) (J2:It) (H4:Hp):Prop:=ot g2 tt2 te ys σ2 (fun ys _ H=>Fin ys H) J2 H4
abbrev wS (cap:List (Option Nat)) (g:TG) (tt:TT) (wi2:TI) (g2:TG) (tt2:TT) (te:TE) (σ:St) (Q:VK) (J:It) (H1:Hp):Prop:=vy cap g tt (wi2,g2,tt2) [] te σ Q J H1
def yU (cap:List (Option Nat)) (wi:TI) (g:TG) (tt:TT) (wi2:TI) (g2:TG) (tt2:TT) (te:TE):TE:=fun σ H Q=>wi σ H (wS cap g tt wi2 g2 tt2 te σ Q)
abbrev vw (g2:TG) (tt2:TT) (wi3:TI) (g3:TG) (tt3:TT) (te:TE) (ys:List V) (σ2:St) (Fin:List V→Hp→Prop) (J2:It) (H4:Hp):Prop:=LcT [(wi3,g3,tt3)] g2 tt2 te ys σ2 (fun ys _ H=>Fin ys H) J2 H4
abbrev wR (cap:List (Option Nat)) (g:TG) (tt:TT) (wi2:TI) (g2:TG) (tt2:TT) (wi3:TI) (g3:TG) (tt3:TT) (te:TE) (σ:St) (Q:VK) (J:It) (H1:Hp):Prop:=vy cap g tt (wi2,g2,tt2) [(wi3,g3,tt3)] te σ Q J H1
def yT (cap:List (Option Nat)) (wi:TI) (g:TG) (tt:TT) (wi2:TI) (g2:TG) (tt2:TT) (wi3:TI) (g3:TG) (tt3:TT) (te:TE):TE:=fun σ H Q=>wi σ H (wR cap g tt wi2 g2 tt2 wi3 g3 tt3 te σ Q)
section
variable {X:Cx}
theorem xo {elt tg iter tg2 iter2:Expr} {ifs ifs2:List Expr} {scope:Scope} {pos:Pos} {cl:List (Str × Addr)} {NY:List Str} {cap:List (Option Nat)} {wi wi2:TI} {g g2:TG} {tt tt2:TT} {te:TE} (hc:X.calm=true) (hi:PI X tg iter wi)
    (hclos:closureFor scope X.env=pure cl) (hci:CellsIn X.env cl) (hcap:CapOk X.env (relabel scope X.env) X.N NY cap)
    (hb:∀ fp s H C,PG (aL X scope cl NY fp s H C) tg g∧gL (aL X scope cl NY fp s H C) ifs tt∧PI (aL X scope cl NY fp s H C) tg2 iter2 wi2∧PG (aL X scope cl NY fp s H C) tg2 g2∧gL (aL X scope cl NY fp s H C) ifs2 tt2∧PE (aL X scope cl NY fp s H C) elt te)
    (hkind:scope.kind=.function:=by rfl) (hnc:(scope.names.all fun y=>y.2 != .cell)=true:=by rfl)
    (hnames:(scope.names.all fun y=>y.2 != .local || scope.names.lookup y.1 == some .local)=true:=by rfl)
    (hhas:((relabel scope X.env).names.all fun p=>(p.2 != .cell && p.2 != .free) || (cl.lookup p.1).isSome)=true:=by rfl)
    (hs:∀ x,foldedSetIterable iter X.env x=pure x:=by intro _;rfl) (hs2:∀ E x,foldedSetIterable iter2 E x=pure x:=by intro _ _;rfl) :
    PE X (.ListComp elt [⟨tg,iter,ifs,0⟩,⟨tg2,iter2,ifs2,0⟩] scope pos) (yU cap wi g tt wi2 g2 tt2 te) :=
  ug (r2:=(wi2,g2,tt2)) (rs:=[]) hc hi hclos hci hcap (fun fp s H C=>by obtain ⟨hbg,hbt,i2,t2,f2,hbe⟩:=hb fp s H C;exact ⟨hbg,hbt,(.cons ⟨rfl,i2,t2,f2,hs2⟩ .nil),hbe⟩) hkind hnc hnames hhas hs
theorem xn {elt tg iter tg2 iter2 tg3 iter3:Expr} {ifs ifs2 ifs3:List Expr} {scope:Scope} {pos:Pos} {cl:List (Str × Addr)} {NY:List Str} {cap:List (Option Nat)} {wi wi2 wi3:TI} {g g2 g3:TG} {tt tt2 tt3:TT} {te:TE} (hc:X.calm=true) (hi:PI X tg iter wi)
    (hclos:closureFor scope X.env=pure cl) (hci:CellsIn X.env cl) (hcap:CapOk X.env (relabel scope X.env) X.N NY cap)
    (hb:∀ fp s H C,PG (aL X scope cl NY fp s H C) tg g∧gL (aL X scope cl NY fp s H C) ifs tt∧PI (aL X scope cl NY fp s H C) tg2 iter2 wi2∧PG (aL X scope cl NY fp s H C) tg2 g2∧gL (aL X scope cl NY fp s H C) ifs2 tt2∧PI (aL X scope cl NY fp s H C) tg3 iter3 wi3∧PG (aL X scope cl NY fp s H C) tg3 g3∧gL (aL X scope cl NY fp s H C) ifs3 tt3∧PE (aL X scope cl NY fp s H C) elt te)
    (hkind:scope.kind=.function:=by rfl) (hnc:(scope.names.all fun y=>y.2 != .cell)=true:=by rfl)
    (hnames:(scope.names.all fun y=>y.2 != .local || scope.names.lookup y.1 == some .local)=true:=by rfl)
    (hhas:((relabel scope X.env).names.all fun p=>(p.2 != .cell && p.2 != .free) || (cl.lookup p.1).isSome)=true:=by rfl)
    (hs:∀ x,foldedSetIterable iter X.env x=pure x:=by intro _;rfl) (hs2:∀ E x,foldedSetIterable iter2 E x=pure x:=by intro _ _;rfl) (hs3:∀ E x,foldedSetIterable iter3 E x=pure x:=by intro _ _;rfl) :
    PE X (.ListComp elt [⟨tg,iter,ifs,0⟩,⟨tg2,iter2,ifs2,0⟩,⟨tg3,iter3,ifs3,0⟩] scope pos) (yT cap wi g tt wi2 g2 tt2 wi3 g3 tt3 te) :=
  ug (r2:=(wi2,g2,tt2)) (rs:=[(wi3,g3,tt3)]) hc hi hclos hci hcap (fun fp s H C=>by obtain ⟨hbg,hbt,i2,t2,f2,i3,t3,f3,hbe⟩:=hb fp s H C;exact ⟨hbg,hbt,(.cons ⟨rfl,i2,t2,f2,hs2⟩ (.cons ⟨rfl,i3,t3,f3,hs3⟩ .nil)),hbe⟩) hkind hnc hnames hhas hs
end
open PySem PySem.Spec PyProof.Rows
section
variable {M:Model} {A:Around} {E:Value→Shared→Prop} {s:Shared}
structure Lft (l:List Env) (e:Addr) (x:List Addr) (h h':Heap):Prop where
  keep:∀ b o,b∉l.filterMap (·.frame)→b≠e→b∉x→h.get? b=some o→h'.get? b=some o
  slot:∀ b o,b∈l.filterMap (·.frame)→h.get? b=some o→∃ sl,h'.get? b=some { o with slots:=sl }
end
section
variable {P:Program} {w:World} {K:aaa} {mg:Str→Option Value} {base:Heap} {N:List Str} {qual:Str} {scope:Scope} {f:Addr} {cd:Value} {A:Around} {outer:List Env} {s0:Shared} {H0:Hp} {E:XK}
end
structure EC (K:aaa) (C:Addr):Prop where
  ex:∃ nm q N bs bm hdct sn sub ab col dd k0 k1 k2 k3 k5 B newId initId bmB mN,ExcBaseFacts B newId initId bmB∧bm.contains (.type "BaseException")=true∧mN ("__init__":Str)=none ∧
    ∀ h,K.In h→h.get? C=some (excClassObj nm q C N bs bm hdct sn sub ab col dd k0 k1 k2 k3 k5 newId)∧h.Ns N mN∧OwnTail h bmB bm
section
variable {X:Cx} {pins0 pins:List (Addr × Obj)} {Cat:St→Addr→Hp→Prop} {σ:St} {H:Hp} {s:Shared}
end
section
variable {M:Model} {A:Around} {E:Value→Shared→Prop} {s:Shared}
end
structure Und (K:aaa) (C P:Addr):Prop where
  ex:∃ nm q N bs bm hdct sn sub ab col dd k0 k1 k2 k3 k5 newId nm' q' N' bs' bm' hdct' sn' sub' ab' col' dd' k0' k1' k2' k3' k5' newId',(Value.ref C :: bm).contains (.ref P)=true∧bm'.contains (.type "BaseException")=true ∧
    ∀ h,K.In h→h.get? C=some (excClassObj nm q C N bs bm hdct sn sub ab col dd k0 k1 k2 k3 k5 newId)∧h.get? P=some (excClassObj nm' q' P N' bs' bm' hdct' sn' sub' ab' col' dd' k0' k1' k2' k3' k5' newId')
section
variable {X:Cx} {pins:List (Addr × Obj)} {σ:St} {H:Hp} {s:Shared}
end
section
variable {M:Model} {A:Around} {E:Value→Shared→Prop} {s:Shared}
end
section
variable {X:Cx} {pins:List (Addr × Obj)} {σ:St} {H:Hp} {s:Shared}
end
open PySem PySem.Spec PyProof.Rows
structure Lkp (M:Model) (h:Heap) (C:Addr):Prop where
  ga:acx M h (typeLookup (.ref C) "__getattribute__") (some (.builtin "BaseException.__getattribute__"))
  no:acx M h (typeLookup (.ref C) "__getattr__") none
  cls:acx M h (typeLookup (.ref C) "__class__") (some (.builtin "object.__class__"))
  be:acx M h (isSubtype (.ref C) (.type "BaseException")) true
  obj:acx M h (isSubtype (.ref C) (.type (".".intercalate ("object.__class__".cutAt '.').dropLast))) true
section
variable {prog:Program} {w:World} {A:Around} {E:Value→Shared→Prop} {h:Heap} {g:Array GenState} {d:Drawn} {t:Nat} {os:OsState} {a C:Addr} {o:Obj}
end
structure ExC (K:aaa) (C:Addr):Prop where
  lk:∀ (M:Model) (h:Heap),K.In h→Lkp M h C
  cl:(PySem.W.clsIn K C).isSome=true
  sl:∃ B,Slot B "__getattribute__" "BaseException.__getattribute__"
open PySem PySem.Spec PyProof.Rows
theorem j5:∀ {ns:List Int} {its:List Value},Vals (ns.map V.int) its→∃ ts:List (Int × Tok),its=ts.map (fun p=>Value.int p.1 p.2)∧ts.map (·.1)=ns
  | [],_,.nil=>⟨[],rfl,rfl⟩
  | i :: r,_,.cons h t=>by
    obtain ⟨k,rfl⟩:=(show ∃ k,_=Value.int i k from h)
    obtain ⟨ts,e1,e2⟩:=j5 t;exact ⟨(i,k) :: ts,by rw [e1];rfl,by rw [aaO,e2]⟩
theorem pS {X:Cx} (hc:X.calm=true):eW X (.builtin "sum") (fun xs H Q=>∃ (p:Addr) (ns:List Int),xs=[.ref p]∧SqL X.K H p (ns.map V.int)∧Q (.int ns.sum) H):=by
  intro pins s σ H xs us Q I r h;obtain ⟨p,ns,rfl,hq,q⟩:=h;obtain ⟨u,rfl,rx⟩:=jw r;cases rx;obtain ⟨its,r',pl,hz⟩:=I.list hq;obtain ⟨ts,e1,e2⟩:=j5 r';subst e1;have el:(ts.map (fun p=>Value.int p.1 p.2)).toArray=intItems ts.toArray:=by unfold intItems;simp
  refine sum_intListG (xs:=ts.toArray) (I.ok.hd hc) (by rw [← el];exact pl.isList) fun h' tk t' hk=>?_;have e:preSum (numAt ts.toArray) ts.toArray.size=ns.sum:=by
    rw [preSum_eq,abh (by simp),← e2]
  rw [e];exact ⟨.int ns.sum,H,I.kept (t':=tk) hk,⟨t',rfl⟩,q⟩
open PySem PySem.Spec PyProof.Rows
open PySem PySem.Spec PyProof.Rows
section
variable {K:aaa} {C Pa N N':Addr} {nm nm' q q':Str} {bs bs' sub sub':List Value} {hdct hdct':Bool} {sn sn':List Str} {ab ab':Bool} {col col':Option Bool} {dd dd':Option Addr} {k0 k1 k2 k3 k5 k0' k1' k2' k3' k5' oc oc':Option Value}
  {c1 c2:Value} {od od':Option Addr} {es es':Array DictEntry} {n n':Nat} {sl sl':Array (Option Value)}
end
end L2
namespace L2
open PySem
open PySem PySem.Spec PyProof.Rows
open PySem PySem.Spec PyProof.Rows
section
variable {X:Cx}
theorem Inv.useEnd {pins:List (Addr × Obj)} {σ:St} {H2 H3:Hp} {s2 s4:Shared} {C Dd:Addr} {i₀:Nat} {x:Str} {px:Pos} (I2:Inv X pins σ H2 s2) (hC:s2.heap.objs.size≤C) (hN:X.N.Nodup) (hiN:X.N[i₀]?=some x) (hx:Loc X.env.scope x) (hf:X.fn x=true∨X.env.scope.names.lookup x=some .local)
    (I7:Inv X pins σ H3 s4) (cC:H3 C=none) (hnC:∃ m,s4.heap.Ns C m) {Nx:St→Hp→Prop} (qn:Nx (σ.set i₀ (some (.ref Dd))) H3) :
    compPost (model X.prog X.w) X.A X.xe (some (assign (.Name x px) X.env)) (fun _ s'=>∃ σ' H',Inv X pins σ' H' s'∧Nx σ' H') (.ref Dd) C (.ok .next) s4:=by
  obtain ⟨m,oC,es,ep,hoC,hdC,rC⟩:=hnC;have nL:C≠X.env.locals:=aaT (aat I2.lt hC);have I8:Inv X ((C,oC) :: pins) σ H3 s4:=I7.pins_of fun p hp=>by
    rcases aam.mp hp with z|z
    · rw [z];exact ⟨hoC,cC,nL,fun hz=>I2.nofs hC hz,fun v z=>by rw [hdC] at z;cases z⟩
    · exact I7.pin p (aab _ z)
  show wpAny _ X.A (assign (.Name x px) X.env (.ref Dd)) _ _ s4;refine wpAny_assign_Name (iu (v:=.ref Dd) I8 hN hiN hx rfl (fun s5 I9=>?_) hf);have pC:=I9.pin (C,oC) (aab _ aai);exact ⟨m,⟨oC,es,ep,pC.1,hdC,rC⟩,fun h' hsb=>⟨_,_,I2.offC hC (I9.pins_of fun p hp=>I9.pin p (aab _ (aae _ hp))) cC fun b o hb e=>hsb.extBut b o hb e,qn⟩⟩
theorem rj {i₀:Nat} {x:Str} {px spos:Pos} {elt tg iter:Expr} {ifs:List Expr} {scope:Scope} {pos:Pos} {cl:List (Str × Addr)} {NY:List Str} {cap:List (Option Nat)} {wi:TI} {g:TG} {tt:TT} {te:TE} (hN:X.N.Nodup) (hiN:X.N[i₀]?=some x) (hx:Loc X.env.scope x) (hc:X.calm=true) (hi:PI X tg iter wi)
    (hclos:closureFor scope X.env=pure cl) (hci:CellsIn X.env cl) (hcap:CapOk X.env (relabel scope X.env) X.N NY cap)
    (hb:∀ fp s H C,PG (aL X scope cl NY fp s H C) tg g∧gL (aL X scope cl NY fp s H C) ifs tt∧PE (aL X scope cl NY fp s H C) elt te)
    (hkind:scope.kind=.function:=by rfl) (hnc:(scope.names.all fun y=>y.2 != .cell)=true:=by rfl)
    (hnames:(scope.names.all fun y=>y.2 != .local || scope.names.lookup y.1 == some .local)=true:=by rfl)
    (hhas:((relabel scope X.env).names.all fun p=>(p.2 != .cell && p.2 != .free) || (cl.lookup p.1).isSome)=true:=by rfl)
    (hs:∀ x,foldedSetIterable iter X.env x=pure x:=by intro _;rfl) (hsw:swapsWith (.ListComp elt [⟨tg,iter,ifs,0⟩] scope pos) (some (.Name x px)) spos.line X.env=pure true:=by rfl)
    (hf:X.fn x=true∨X.env.scope.names.lookup x=some .local:=by first|exact .inl rfl|exact .inr rfl|assumption) :
    PS X (.Assign [.Name x px] (.ListComp elt [⟨tg,iter,ifs,0⟩] scope pos) spos) (wZ (tLc cap wi g tt te) (uN i₀)):=by
  intro pins s σ H D I h;rw [exec_Assign_Name_used _ _ _ _ hsw];refine wpAny_bind (wpAny_standAt (wpAny_bind ?_));show wpAny _ X.A (do let _ ← comprehension (.ListComp elt [⟨tg,iter,ifs,0⟩] scope pos) scope X.env _ (newList []) false (eval iter X.env) (some (assign (.Name x px) X.env))) _ _ s;refine wpAny_bind (wpAny_mono (wpAny_comprehension_free (use:=some (assign (.Name x px) X.env)) (Q:=fun _ s'=>∃ σ' H',Inv X pins σ' H' s'∧D.nx σ' H') rfl hs hclos hkind (iO hnames) (wpAny_mono (hi pins s σ H _ I h) (fun v s1 h1=>wpAny_mono h1 (fun itv s2 h2=>?_) fun _ _ e=>e) fun _ _ e=>e)) (fun _ s' hq=>wpAny_pure (wpAny_pure hq)) fun _ _ e=>e);obtain ⟨it,fp,tn,J,H2,e,I2,T,st2,f2,W,⟨m0,w0⟩,turn⟩:=h2;subst e;refine wpAny_newObj_type (wpAny_newFunctionEnv (oq hnc) (by intro y hy;simp at hy) (fun h₁ hns₁ hsb₁=>?_) hkind);dsimp only at hns₁ hsb₁ ⊢;obtain ⟨hC,B,hD⟩:=I2.newC hci hkind hhas hns₁ fun b o hb e=>hsb₁.extBut b o hb (aad _ e);generalize (s2.heap.push { cls:=.type "list",dict:=none,data:=.seq ([]:List Value).toArray }).objs.size=C at hC B ⊢;obtain ⟨hbg,hbt,hbe⟩:=hb fp s2 H2 C;have stW:=T.keep _ _ h₁ st2 fun b _ o e=>B.old b o e;have loop:=I2.goLast f2 (T.lt st2) B hcap cR hc hC rfl hD T stW hbe hbg hbt (G:=[⟨tg,iter,ifs,0⟩]) rfl rfl (scope:=scope) (pos:=pos) (iter:=iter) (t':=s2.toks+([]:List (Str × Value)).length) turn w0 (R:=compPost (model X.prog X.w) X.A X.xe (some (assign (.Name x px) X.env)) (fun _ s'=>∃ σ' H',Inv X pins σ' H' s'∧D.nx σ' H') (.ref s2.heap.objs.size) C) fun ys its k H s I4 rv hz fin=>by
    obtain ⟨I5,hD3,hC3,hn⟩:=I2.lstDone f2 (aag _) (abg hC) rfl I4 rv hz;exact I2.useEnd (abg hC) hN hiN hx hf I5 hC3 hn (fin _ hD3)
  exact codeAny_compStart_list loop (T.self _ 0 _ _ _ stW loop)
end
open PySem PySem.Spec PyProof.Rows
section
variable {X:Cx}
end
open PySem PySem.Spec PyProof.Rows
section
variable {prog:Program} {w:World} {A:Around} {E:Value→Shared→Prop} {s:Shared} {I:Addr} {fp wr:List Addr} {G:Array GenState→Array GenState→Prop} {n:Nat} {P:Nat→Value→Prop} {St:Nat→Shared→Prop}
end
end L2
set_option maxHeartbeats 1000000
namespace L2
open PySem PySem.Spec PyProof.Rows
section
variable {X:Cx} {pos:Pos} {t u:TS}
end
open PySem PySem.Spec PyProof.Rows
theorem xN {X:Cx} {pins:List (Addr × Obj)} {σ:St} {H:Hp} {s:Shared} {a:Addr} {y v:V} {u r:Value} {A:Around} {E:Value→Shared→Prop} {H':Hp} {Q:Unit→Shared→Prop} (hu:A.units+1 < cLine) (I:Inv X pins σ H s) (g:DPut H a y v H') (ry:RelV y u) (rv:RelV v r) (h:∀ s',Inv X pins σ H' s'→Q () s') :
    wpAny (model X.prog X.w) A (dictSet a u r) Q E s:=by
  rcases g with ⟨kvs,k,e,ey,l,eH⟩|⟨kvs,k,b,e,ey,eb,l,eH⟩
  · subst ey eH;obtain ⟨z,hd,vs,rel,dd⟩:=uZ I.hok e;have hz:vs.length≤sizeLine:=by rw [← rel.length];exact z
    have hl:(eE kvs k v).length≤sizeLine:=by have:=cX kvs k v;lia
    refine wpAny_dictSet_pairs (hsz:=hz) (rE ry) dd fun h' dd' hs=>h _ ?_;have he:∃ q,h'.get? a=some q:=let ⟨q,_,_,hq,_⟩:=dd';⟨q,hq⟩;exact jX I (by rw [e];exact True.intro) hs he (u_ hl hd (rel.put k rv) dd')
  · subst ey eH;cases (show u=Value.ref b from ry);obtain ⟨z,hd,xs,rel,dd⟩:=wP I.hok e;have hz:xs.length≤sizeLine:=by rw [← aa9 rel];exact z
    have hl:(eE kvs k v).length≤sizeLine:=by have:=cX kvs k v;lia
    have hr:(tupleKind (a5 X.prog X.w)).room A:=by show A.units < cLine;lia
    refine wpAny_dictSet_heap (hsz:=hz) hr (nY I.hok eb) dd fun h' dd' hs=>h _ ?_;obtain ⟨q,es,ep,hq,h2,h3,h4,_,h5⟩:=dd';refine jX I (by rw [e];exact True.intro) hs ⟨q,hq⟩ ⟨hl,hd,_,(rel.put k eb rv).keeps fun c ys ec=>?_,q,es,ep,hq,h2,h3,h4,h5⟩;rw [aq (wK ec e (fun z=>nomatch z))];exact ec
theorem qR {prog:Program} {w:World} {A:Around} {R:Result→Shared→Prop} {s:Shared} {kx vx target iter:Expr} {ifs:List Expr} {scope:Scope} {pos:Pos} {it:Value} {D:Addr} {env:Env} (J:Nat→Shared→Prop)
    (turn:∀ n s,J n s→wpAny (model prog w) A (pyNext it) (fun r s₁=>match r with
      | none=>R (.ok .next) s₁
      | some v=>wpAny (model prog w) A (letOwnedTupleGo target it v) (fun _ s₁'=>wpAny (model prog w) A (assign target env v) (fun _ s₂ =>
          wpAny (model prog w) A (forIn ifs true fun c r=>if r=true then do let ok ← isTrue c env (eval c env);pure (ForInStep.yield ok) else pure (ForInStep.yield r)) (fun ok s₃ =>
            if ok=true then wpAny (model prog w) A (eval kx env) (fun kv s₄=>wpAny (model prog w) A (eval vx env) (fun vv s₅ =>
              wpAny (model prog w) A (dictSet D kv vv) (fun _ s₆=>∃ m,m < n∧J m s₆) (fun _ _=>False) s₅) (fun _ _=>False) s₄) (fun _ _=>False) s₃
            else ∃ m,m < n∧J m s₃) (fun _ _=>False) s₂) (fun _ _=>False) s₁') (fun _ _=>False) s₁) (fun _ _=>False) s)
    (n:Nat) (h:J n s) :
    codeAny (model prog w) A (.compLoop (.DictComp kx vx [⟨target,iter,ifs,0⟩] scope pos) 0 it (.ref D) env) R s:=by
  refine codeAny_loop rfl J (fun n s hI=>?_) n h;show wpAny _ A ((compTurn (.DictComp kx vx [⟨target,iter,ifs,0⟩] scope pos) 0 it (.ref D) env).onRaise (fun x=>do noteFrame x env;theTreesLotGoes x)) _ _ s;refine wpAny_noted ?_;rw [compTurn_dict];refine wpAny_bind (wpAny_standAt (wpAny_bind (wpAny_mono (turn n s hI) (fun r s₁ h₁=>?_) fun _ _ h'=>h'.elim)));cases r with
  | none=>exact wpAny_pure h₁
  | some v =>
    refine wpAny_bind (wpAny_mono h₁ (fun _ s₁' h₁'=>?_) fun _ _ h'=>h'.elim);refine wpAny_bind (wpAny_mono h₁' (fun _ s₂ h₂=>wpAny_bind (wpAny_mono h₂ (fun ok s₃ h₃=>?_) fun _ _ h'=>h'.elim)) fun _ _ h'=>h'.elim);cases ok with
    | false=>exact wpAny_pure ⟨rfl,h₃⟩
    | true =>
      exact wpAny_bind (wpAny_bind (wpAny_mono h₃ (fun kv s₄ h₄=>wpAny_bind (wpAny_holding (wpAny_mono h₄ (fun vv s₅ h₅=>wpAny_bind (wpAny_standAt (wpAny_holding (wpAny_mono h₅ (fun _ s₆ h₆=>wpAny_pure ⟨rfl,h₆⟩) fun _ _ h'=>h'.elim)))) fun _ _ h'=>h'.elim))) fun _ _ h'=>h'.elim))
abbrev yJ (cap:List (Option Nat)) (g:TG) (tt:TT) (tk tv:TE) (ob:HO) (σ:St) (Q:VK) (J:It) (H1:Hp):Prop:=∃ W:Addr→Nat→Nat→Hp→Prop,(∀ p,H1 p=none→∃ m,W p 0 m (upd H1 p ob))∧∀ p i m H,H1 p=none→W p i m H →
  (J.stop i H∧Q (.ref p) H) ∨
  (J.go i H∧∀ x H',J.yld i H x H'→g x (b_ cap σ) H' fun σ2 H2=>tt σ2 H2 fun b H3=>if b=true then tk σ2 H3 fun k H4=>tv σ2 H4 fun v H5=>∃ H6,DPut H5 p k v H6∧∃ m',m' < m∧W p (i+1) m' H6 else ∃ m',m' < m∧W p (i+1) m' H3)
def tDc (cap:List (Option Nat)) (wi:TI) (g:TG) (tt:TT) (tk tv:TE) (ob:HO):TE:=fun σ H Q=>wi σ H (yJ cap g tt tk tv ob σ Q)
section
variable {X:Cx}
end
open PySem PySem.Spec PyProof.Rows
section
variable {X:Cx}
end
end L2
namespace PySem
open Builtin Builtin.Str Builtin.Int
section
variable {prog:Program} {w:World} {A:Around} {E:Value→Shared→Prop} {s:Shared} {x:Str} {t:Tok} {Q:Value→Shared→Prop}
  {I:Addr} {fp wr:List Addr} {G:Array GenState→Array GenState→Prop} {n:Nat} {P:Nat→Value→Prop} {St:Nat→Shared→Prop}
end
end PySem
namespace L2
open PySem PySem.Spec PyProof.Rows
section
variable {X:Cx}
end
open PySem PySem.Spec PyProof.Rows
section
variable {X:Cx}
end
open PySem PySem.Spec PyProof.Rows
section
variable {X:Cx} {pins:List (Addr × Obj)} {σ:St} {H:Hp} {s:Shared} {A:Around} {Q:Value→Shared→Prop} {E:Value→Shared→Prop} {b:Bool}
end
section
variable {X:Cx} {a b c d:Expr} {ta tb tc td:TE} {pos:Pos}
def vG (r r' r'':R2) (ta tb tc td:TE):TE:=fun σ H Q=>ta σ H fun x H1=>tb σ H1 fun y H2=>r x y H2 fun z H3=>∃ k,z=.bl k ∧
  (if k=true then tc σ H3 fun w' H4=>r' y w' H4 fun z' H5=>∃ k',z'=.bl k'∧(if k'=true then td σ H5 fun w'' H6=>r'' w' w'' H6 Q else Q (.bl false) H5) else Q (.bl false) H3)
theorem jf {op op' op'':CmpOp} {r r' r'':R2} (ho:OpR X (compareOp op) r) (ho':OpR X (compareOp op') r') (ho'':OpR X (compareOp op'') r'') (ha:PE X a ta) (hb:PE X b tb) (hc:PE X c tc) (hd:PE X d td)
    (hm:lastMarks [op,op',op''] [b,c,d]=false:=by with_unfolding_all rfl):PE X (.Compare a [op,op',op''] [b,c,d] pos) (vG r r' r'' ta tb tc td):=by
  intro pins s σ H Q I h;refine Compare_chain (thn (ha pins s σ H _ I h) fun v s1 ⟨x,H1,I1,r1,q1⟩=>chain_link (thn (hb pins s1 σ H1 _ I1 q1) fun u s2 ⟨y,H2,I2,r2,q2⟩ =>
    thn (ho pins s2 σ H2 x y v u _ I2 r1 r2 q2) fun d s3 ⟨z,H3,I3,r3,k,e,q3⟩=>?_)) hm
  subst e;cases r3;refine wpAny_truthy_bool ?_;cases k with
  | false=>exact ite_ff ⟨.bl false,H3,I3,rfl,q3⟩
  | true =>
    refine ite_tt (chain_link (thn (hc pins s3 σ H3 _ I3 q3) fun w' s4 ⟨z',H4,I4,r4,q4⟩=>thn (ho' pins s4 σ H4 y z' u w' _ I4 r2 r4 q4) fun d' s5 ⟨z2,H5,I5,r5,k2,e2,q5⟩=>?_));subst e2;cases r5;refine wpAny_truthy_bool ?_;cases k2 with
    | false=>exact ite_ff ⟨.bl false,H5,I5,rfl,q5⟩
    | true=>exact ite_tt (chain_last (thn (hd pins s5 σ H5 _ I5 q5) fun w'' s6 ⟨z3,H6,I6,r6,q6⟩=>ho'' pins s6 σ H6 z' z3 w' w'' Q I6 r4 r6 q6))
end
section
variable {X:Cx}
theorem yn {ob:HO} {kx vx tg iter:Expr} {ifs:List Expr} {scope:Scope} {pos:Pos} {cl:List (Str × Addr)} {NY:List Str} {cap:List (Option Nat)} {wi:TI} {g:TG} {tt:TT} {tk tv:TE} (hob:ob=.dK []∨ob=.dT []) (hu:X.A.units+1 < cLine) (hc:X.calm=true) (hi:PI X tg iter wi)
    (hclos:closureFor scope X.env=pure cl) (hci:CellsIn X.env cl) (hcap:CapOk X.env (relabel scope X.env) X.N NY cap)
    (hb:∀ fp s H C,PG (aL X scope cl NY fp s H C) tg g∧gL (aL X scope cl NY fp s H C) ifs tt∧PE (aL X scope cl NY fp s H C) kx tk∧PE (aL X scope cl NY fp s H C) vx tv)
    (hkind:scope.kind=.function:=by rfl) (hnc:(scope.names.all fun y=>y.2 != .cell)=true:=by rfl)
    (hnames:(scope.names.all fun y=>y.2 != .local || scope.names.lookup y.1 == some .local)=true:=by rfl)
    (hhas:((relabel scope X.env).names.all fun p=>(p.2 != .cell && p.2 != .free) || (cl.lookup p.1).isSome)=true:=by rfl)
    (hs:∀ x,foldedSetIterable iter X.env x=pure x:=by intro _;rfl) :
    PE X (.DictComp kx vx [⟨tg,iter,ifs,0⟩] scope pos) (tDc cap wi g tt tk tv ob):=by
  intro pins s σ H Q I h;rw [arm_eval_DictComp];refine wpAny_comprehension_free (use:=none) rfl hs hclos hkind (iO hnames) (wpAny_mono (hi pins s σ H _ I h) (fun v s1 h1=>wpAny_mono h1 (fun itv s2o h2=>?_) fun _ _ e=>e) fun _ _ e=>e);obtain ⟨it,fp,tn,J,H2o,e,I2o,T,st2o,f2o,W,w00,turn⟩:=h2;subst e;have freshO:H2o s2o.heap.objs.size=none:=I2o.hok.fresh (aag _);obtain ⟨m0,w0⟩:=w00 _ freshO;have obk:ObjOk X.prog X.w (upd H2o s2o.heap.objs.size ob) (s2o.heap.push { cls:=.type "dict",data:=.dict #[] }) s2o.heap.objs.size ob:=by
    rcases hob with rfl|rfl
    · exact va s2o.heap I2o.big
    · exact pK s2o.heap I2o.big
  have I2:=I2o.laid (a:=s2o.heap.objs.size) (o:=ob) (h':=s2o.heap.push { cls:=.type "dict",data:=.dict #[] }) (t':=s2o.toks) (fun _ _ q=>aad _ q) (aag _) obk;have st2:tn 0 (s2o.heap.push { cls:=.type "dict",data:=.dict #[] }):=T.keep _ _ _ st2o fun b _ o e=>aad _ e;have f2:∀ b∈fp,d9 X pins (upd H2o s2o.heap.objs.size ob) b:=fun b hb=>by
    obtain ⟨h1,h2⟩:=f2o b hb;refine ⟨?_,h2⟩;rw [aq (fun z=>?_)]
    · exact h1
    · obtain ⟨o,e,_⟩:=T.obj _ _ st2o b hb;exact absurd (aar e) (by rw [z];exact abm _)
  refine wpAny_newObj_type ?_;have hsz0:(s2o.heap.push { cls:=.type "dict",data:=.dict #[] }).objs.size=s2o.heap.objs.size+1:=abN _ _;generalize hs2:({ s2o with heap:=s2o.heap.push { cls:=.type "dict",data:=.dict #[] } }:Shared)=s2 at I2 st2 ⊢;generalize hHH:upd H2o s2o.heap.objs.size ob=H2 at I2 f2 w0;have hDs:s2.heap.objs.size=s2o.heap.objs.size+1:=by rw [← hs2];exact hsz0
  have st2:tn 0 s2.heap:=by rw [← hs2];exact st2
  generalize hDD:s2o.heap.objs.size=DD at freshO w0 hDs ⊢;refine wpAny_newFunctionEnv (oq hnc) (by intro y hy;simp at hy) (fun h₁ hns₁ hsb₁=>?_) hkind
  try dsimp only at hns₁ hsb₁ ⊢
  have B:=I2.blkC hci hkind hhas (aag _) (fun b o e=>hsb₁.extBut b o (aaz (aar e)) (aad _ e)) ⟨_,hns₁⟩;have fpl:=T.lt st2;obtain ⟨hbg,hbt,hbk,hbv⟩:=hb fp s2 H2 s2.heap.objs.size;have fpYs:∀ {H':Hp},(∀ b∈fp,H' b=none)→∀ b∈fp,d9 (aL X scope cl NY fp s2 H2 s2.heap.objs.size) [] H' b:=fun hn=>I2.fps f2 fpl B (fun p hp=>by cases hp) hn;have IY0:=I2.blk f2 fpl B hcap cR (P:=[]) (fun p hp=>by cases hp) (t':=s2.toks+([]:List (Str × Value)).length);have hcY:(aL X scope cl NY fp s2 H2 s2.heap.objs.size).calm=true:=hc;have stW:tn 0 h₁:=T.keep _ _ _ st2 fun b _ o e=>B.old b o e;have loop:∀ s₃:Shared,s₃={ s2 with heap:=h₁,toks:=s2.toks+([]:List (Str × Value)).length } →
      codeAny (model X.prog X.w) X.A (.compLoop (.DictComp kx vx [⟨tg,iter,ifs,0⟩] scope pos) 0 (.ref it) (.ref DD) (compEnvC scope cl s2.heap.objs.size X.env))
        (compPost (model X.prog X.w) X.A X.xe none (EP X pins σ Q) (.ref DD) s2.heap.objs.size) s₃:=by
    rintro s₃ rfl;refine qR (fun n s'=>∃ i H',Inv (aL X scope cl NY fp s2 H2 s2.heap.objs.size) [] (b_ cap σ) H' s'∧tn i s'.heap∧(∀ b∈fp,H' b=none)∧W DD i n H') ?_ m0
      ⟨0,H2,IY0,stW,fun b hb=>(f2 b hb).1,w0⟩
    rintro n s3 ⟨i,H3,I3,st3,fr3,w3⟩;rcases turn DD i n H3 freshO w3 with ⟨stop,qn⟩|⟨go,step⟩
    · refine wpAny_mono (T.done (aL X scope cl NY fp s2 H2 s2.heap.objs.size) rfl rfl rfl hcY i _ s3 _ H3 (fun _ _=>False) I3 (fpYs fr3) st3 stop) (fun r s4 ⟨hr,I4⟩=>?_) fun _ _ z=>z;subst hr;obtain ⟨m,hnC,_⟩:=id I4.loc;exact ⟨m,hnC,fun h' hsb=>⟨.ref DD,H3,I2.offC (aag _) (I2.outB f2 I4) I4.free fun b o hb e=>hsb.extBut b o hb e,rfl,qn⟩⟩
    · refine wpAny_mono (T.item (aL X scope cl NY fp s2 H2 s2.heap.objs.size) rfl rfl rfl hcY i _ s3 _ H3 (fun _ _=>False) I3 (fpYs fr3) st3 go) (fun r s4 ⟨u,hr,h4⟩=>?_) fun _ _ z=>z;subst hr;refine wpAny_mono h4 (fun _ s5 ⟨x,H5,I5,r5,y5,st5,fr5⟩=>?_) fun _ _ z=>z;have I5':=I5.pinned (fpYs fr5) (T.obj _ _ st5);refine wpAny_mono (hbg _ s5 _ H5 x u _ I5' r5 (step x H5 y5)) (fun _ s6 ⟨σ6,H6,I6,q6⟩=>?_) fun _ _ z=>z;refine wpAny_mono (hbt _ s6 σ6 H6 _ I6 q6) (fun ok s7 ⟨H7,I7,q7⟩=>?_) fun _ _ z=>z;have again:∀ {σ':St} {H':Hp} {s':Shared},Inv (aL X scope cl NY fp s2 H2 s2.heap.objs.size) ([]++cO fp s5.heap) σ' H' s' →
          (∃ m',m' < n∧W DD (i+1) m' H')→∃ m,m < n∧∃ i H',Inv (aL X scope cl NY fp s2 H2 s2.heap.objs.size) [] (b_ cap σ) H' s'∧tn i s'.heap∧(∀ b∈fp,H' b=none)∧W DD i m H':=fun {σ' H' s'} Z hw=>by
        obtain ⟨m',hm,w'⟩:=hw;refine ⟨m',hm,i+1,H',I2.recap f2 B hcap cR Z.unpinned,T.keep _ _ _ st5 fun b hb o e=>(Z.pin (b,o) (aab _ (aab _ (cT hb e)))).1,fun b hb=>?_,w'⟩;obtain ⟨o,e,d⟩:=T.obj _ _ st5 b hb;exact (Z.pin (b,o) (aab _ (aab _ (cT hb e)))).2.1
      cases ok with
      | false =>
        rw [if_neg aal] at q7 ⊢;exact again I7 q7
      | true =>
        rw [if_pos rfl] at q7 ⊢;refine wpAny_mono (hbk _ s7 σ6 H7 _ I7 q7) (fun kv s8 ⟨k,H8,I8,r8,q8⟩=>?_) fun _ _ z=>z;refine wpAny_mono (hbv _ s8 σ6 H8 _ I8 q8) (fun vv s9 ⟨v,H9,I9,r9,H10,put,q9⟩=>?_) fun _ _ z=>z;exact xN (X:=aL X scope cl NY fp s2 H2 s2.heap.objs.size) (A:=X.A) hu I9 put r8 r9 fun s10 I10=>again I10 q9
  exact codeAny_compStart_dict (loop _ rfl) (T.self _ 0 _ _ _ stW (loop _ rfl))
end
open PySem PySem.Spec PyProof.Rows
section
variable {X:Cx} {o e:Expr} {es:List Expr} {to:TE} {t:TA} {name:Str} {apos cpos:Pos} {T id:String} {r:V→List V→Hp→VK→Prop} {K:aaa}
end
open PySem PySem.Spec PyProof.Rows
structure Trn (J:It) (n:Nat) (Kp:Hp→Prop) (item:Nat→V→Hp→Hp→Prop):Prop where
  go:∀ i H,i < n→Kp H→J.go i H
  stop:∀ H,Kp H→J.stop n H
  yld:∀ i H x H',i < n→Kp H→J.yld i H x H'→item i x H H'
theorem Trn.list {K:aaa} {a:Addr} {xs:List V}:Trn (Itl K a) xs.length (fun H=>SqL K H a xs) (fun i x H H'=>H'=H∧xs[i]?=some x) :=
  ⟨fun i H hi q=>⟨xs,xs[i],q,by simp [hi]⟩,fun H q=>⟨xs,q,aag _⟩,fun i H x H' hi q y=>⟨y.1,y.2 xs q⟩⟩
theorem Trn.tup {K:aaa} {a:Addr} {xs:List V}:Trn (Itt K a) xs.length (fun H=>SqT K H a xs) (fun i x H H'=>H'=H∧xs[i]?=some x) :=
  ⟨fun i H hi q=>⟨xs,xs[i],q,by simp [hi]⟩,fun H q=>⟨xs,q,aag _⟩,fun i H x H' hi q y=>⟨y.1,y.2 xs q⟩⟩
theorem Trn.range {lo:Int} {n:Nat}:Trn (Itr lo n) n (fun _=>True) (fun i x H H'=>H'=H∧x=.int (lo+i)) :=
  ⟨fun i H hi _=>hi,fun H _=>aag _,fun i H x H' hi _ y=>y⟩
theorem eV {J:It} {n:Nat} {Kp:Hp→Prop} {item:Nat→V→Hp→Hp→Prop} (T:Trn J n Kp item) {cap:List (Option Nat)} {g:TG} {tt:TT} {te:TE} {σ:St} {H:Hp} {Q:VK} (Pv:Nat→List V→Hp→Prop) (h0:Pv 0 [] H) (hk:∀ i ys H,i≤n→Pv i ys H→Kp H∧ys.length < sizeLine)
    (hs:∀ i x ys H H',i < n→item i x H H'→Pv i ys H→∀ Nx:List V→Hp→Prop,(∀ ys' H2,Pv (i+1) ys' H2→Nx ys' H2)→g x (b_ cap σ) H' fun σ2 H2=>tt σ2 H2 fun b H3=>if b=true then te σ2 H3 fun v H4=>Nx (ys++[v]) H4 else Nx ys H3)
    (hd:∀ ys H,Pv n ys H→∀ p,H p=none→Q (.ref p) (upd H p (.lst ys))):xW cap g tt te σ Q J H:=by
  refine ⟨fun i m ys H=>m=n - i∧i≤n∧Pv i ys H,⟨n,by simp,aaN _,h0⟩,?_⟩;rintro i m ys H ⟨rfl,hi,p⟩;by_cases hlt:i < n
  · refine .inr ⟨T.go i H hlt (hk i ys H hi p).1,(hk i ys H hi p).2,fun x H' y=>?_⟩;exact hs i x ys H H' hlt (T.yld i H x H' hlt (hk i ys H hi p).1 y) p (fun ys' H4=>∃ m',m' < n - i∧m'=n - (i+1)∧i+1≤n∧Pv (i+1) ys' H4) fun ys' H2 h=>⟨_,by lia,rfl,hlt,h⟩
  · have e:i=n:=by lia
    subst e;exact .inl ⟨T.stop H (hk _ ys H hi p).1,hd ys H p⟩
theorem xz {J:It} {n:Nat} {Kp:Hp→Prop} {item:Nat→V→Hp→Hp→Prop} (T:Trn J n Kp item) {cap:List (Option Nat)} {g:TG} {tt:TT} {wi2:TI} {g2:TG} {tt2:TT} {te:TE} {σ:St} {H:Hp} {Q:VK} (Pv:Nat→List V→Hp→Prop) (h0:Pv 0 [] H) (hk:∀ i ys H,i≤n→Pv i ys H→Kp H)
    (hs:∀ i x ys H H',i < n→item i x H H'→Pv i ys H→∀ Nx:List V→Hp→Prop,(∀ ys' H2,Pv (i+1) ys' H2→Nx ys' H2)→g x (b_ cap σ) H' fun σ2 H2=>tt σ2 H2 fun b H3=>if b=true then wi2 σ2 H3 (wQ g2 tt2 te ys σ2 Nx) else Nx ys H3)
    (hd:∀ ys H,Pv n ys H→∀ p,H p=none→Q (.ref p) (upd H p (.lst ys))):wS cap g tt wi2 g2 tt2 te σ Q J H:=by
  refine ⟨fun i m ys H=>m=n - i∧i≤n∧Pv i ys H,⟨n,by simp,aaN _,h0⟩,?_⟩;rintro i m ys H ⟨rfl,hi,p⟩;by_cases hlt:i < n
  · refine .inr ⟨T.go i H hlt (hk i ys H hi p),fun x H' y=>?_⟩;exact hs i x ys H H' hlt (T.yld i H x H' hlt (hk i ys H hi p) y) p (fun ys' H4=>∃ m',m' < n - i∧m'=n - (i+1)∧i+1≤n∧Pv (i+1) ys' H4) fun ys' H2 h=>⟨_,by lia,rfl,hlt,h⟩
  · have e:i=n:=by lia
    subst e;exact .inl ⟨T.stop H (hk _ ys H hi p),hd ys H p⟩
theorem xu {J:It} {n:Nat} {Kp:Hp→Prop} {item:Nat→V→Hp→Hp→Prop} (T:Trn J n Kp item) {g2:TG} {tt2:TT} {te:TE} {ys:List V} {σ:St} {H:Hp} {Fin:List V→Hp→Prop} (Pv:Nat→List V→St→Hp→Prop) (h0:Pv 0 ys σ H) (hk:∀ i ys σ H,i≤n→Pv i ys σ H→Kp H∧ys.length < sizeLine)
    (hs:∀ i x ys σ H H',i < n→item i x H H'→Pv i ys σ H→∀ Nx:List V→St→Hp→Prop,(∀ ys' σ' H2,Pv (i+1) ys' σ' H2→Nx ys' σ' H2)→g2 x σ H' fun σ3 H5=>tt2 σ3 H5 fun b H6=>if b=true then te σ3 H6 fun v H7=>Nx (ys++[v]) σ3 H7 else Nx ys σ3 H6)
    (hd:∀ ys σ H,Pv n ys σ H→Fin ys H):wQ g2 tt2 te ys σ Fin J H:=by
  refine ⟨fun i m ys σ H=>m=n - i∧i≤n∧Pv i ys σ H,⟨n,by simp,aaN _,h0⟩,?_⟩;rintro i m ys σ H ⟨rfl,hi,p⟩;by_cases hlt:i < n
  · refine .inr ⟨T.go i H hlt (hk i ys σ H hi p).1,(hk i ys σ H hi p).2,fun x H' y=>?_⟩;exact hs i x ys σ H H' hlt (T.yld i H x H' hlt (hk i ys σ H hi p).1 y) p (fun ys' σ' H4=>∃ m',m' < n - i∧m'=n - (i+1)∧i+1≤n∧Pv (i+1) ys' σ' H4) fun ys' σ' H2 h=>⟨_,by lia,rfl,hlt,h⟩
  · have e:i=n:=by lia
    subst e;exact .inl ⟨T.stop H (hk _ ys σ H hi p).1,hd ys σ H p⟩
theorem yB {J:It} {n:Nat} {Kp:Hp→Prop} {item:Nat→V→Hp→Hp→Prop} (T:Trn J n Kp item) {cap:List (Option Nat)} {g:TG} {tt:TT} {tk tv:TE} {ob:HO} {σ:St} {H:Hp} {Q:VK} (Pv:Addr→Nat→Hp→Prop) (h0:∀ p,H p=none→Pv p 0 (upd H p ob)) (hk:∀ p i H,i≤n→Pv p i H→Kp H)
    (hs:∀ p i x H1 H',H p=none→i < n→item i x H1 H'→Pv p i H1→∀ Nx:Hp→Prop,(∀ H2,Pv p (i+1) H2→Nx H2)→g x (b_ cap σ) H' fun σ2 H2=>tt σ2 H2 fun b H3=>if b=true then tk σ2 H3 fun k H4=>tv σ2 H4 fun v H5=>∃ H6,DPut H5 p k v H6∧Nx H6 else Nx H3)
    (hd:∀ p H1,H p=none→Pv p n H1→Q (.ref p) H1):yJ cap g tt tk tv ob σ Q J H:=by
  refine ⟨fun p i m H1=>m=n - i∧i≤n∧Pv p i H1,fun p hp=>⟨n,by simp,aaN _,h0 p hp⟩,?_⟩;rintro p i m H1 hp ⟨rfl,hi,q⟩;by_cases hlt:i < n
  · refine .inr ⟨T.go i H1 hlt (hk p i H1 hi q),fun x H' y=>?_⟩;exact hs p i x H1 H' hp hlt (T.yld i H1 x H' hlt (hk p i H1 hi q) y) q (fun H4=>∃ m',m' < n - i∧m'=n - (i+1)∧i+1≤n∧Pv p (i+1) H4) fun H2 h=>⟨_,by lia,rfl,hlt,h⟩
  · have e:i=n:=by lia
    subst e;exact .inl ⟨T.stop H1 (hk p _ H1 hi q),hd p H1 hp q⟩
open PySem PySem.Spec PyProof.Rows
theorem vn {X:Cx} (hc:X.calm=true):eW X (.builtin "any") (fun xs H Q=>∃ (p:Addr) (bs:List Bool),xs=[.ref p]∧SqL X.K H p (bs.map V.bl)∧Q (.bl (bs.any id)) H):=by
  intro pins s σ H xs us Q I r h;obtain ⟨p,bs,rfl,hq,q⟩:=h;obtain ⟨u,rfl,rx⟩:=jw r;cases rx;obtain ⟨its,r',pl,hz⟩:=I.list hq;have hlen:=r'.length;rw [aaf] at hlen;have hps:p < s.heap.objs.size:=by obtain ⟨o,n,ho,_⟩:=pl;exact aar ho
  refine call_any_walk (wpAny_pyIter_list pl.isList ?_);refine ⟨s.heap.objs.size,_,_,_,_,_,fun i=>bs.getD i false,rfl,acp (A:=X.A.in1) (I.ok.hd hc) s.heap.objs.size p (aaz hps) its.toArray,⟨⟨_,aaq _ rfl,rfl,rfl⟩,pl.isList.at fun o x=>aad _ x⟩,?_,?_⟩
  · intro i v s' Q' E' hP hQ';have hv:its.toArray[i]?=some v:=hP;have hv2:its[i]?=some v:=by simpa using hv
    have hi:i < bs.length:=by
      have:=(aak.mp hv2).1;lia
    have hb:(bs.map V.bl)[i]?=some (.bl bs[i]):=by rw [aaL,aac hi];rfl
    obtain ⟨u,hu,ru⟩:=r'.get hb;rw [hv2] at hu;cases hu;cases ru;have e:bs.getD i false=bs[i]:=by rw [aau,aac hi];rfl
    have hQ2:Q' (bs.getD i false) s':=hQ';rw [e] at hQ2;exact wpAny_pure hQ2
  · intro h' tk k;have I2:Inv X pins σ H { s with heap:=h',toks:=tk }:=by
      refine I.turnedL (fp:=[s.heap.objs.size]) (t':=tk) (fun b o hb x=>k b o (by simpa using hb) (aad _ x)) fun b hb=>?_;have e:b=s.heap.objs.size:=by simpa using hb
      subst e;exact I.fpOk (aag _) (I.hok.fresh (aag _))
    have e:(aaI its.toArray.size).any (fun i=>bs.getD i false)=bs.any id:=by
      have e1:its.toArray.size=bs.length:=by simp;lia
      rw [e1];apply Bool.eq_iff_iff.mpr;rw [List.any_eq_true,List.any_eq_true];constructor
      · rintro ⟨i,hi,hh⟩;have hi:=aaB.mp hi;rw [aau,aac hi] at hh;exact ⟨_,aa8 hi,hh⟩
      · rintro ⟨b,hb,hh⟩;obtain ⟨i,hi,e⟩:=aa0 hb;refine ⟨i,aaB.mpr hi,?_⟩;rw [aau,aac hi];rw [← e] at hh;exact hh
    rw [e];exact ⟨.bl (bs.any id),H,I2,rfl,q⟩
theorem tK {X:Cx} {K:aaa} (hK:X.K=K) (hc:X.calm=true):eW X (.builtin "any") (fun xs H Q=>∃ (p:Addr) (bs:List Bool),xs=[.ref p]∧SqL K H p (bs.map V.bl)∧Q (.bl (bs.any id)) H):=by subst hK;exact vn hc
theorem EqR.pair {K:aaa} {H:Hp} {n:Nat} {p q:Int × Int} {x y:V} (hx:PairIn H p x) (hy:PairIn H q y):EqR K H (n+1) x y (decide (p=q)):=by
  obtain ⟨a,rfl,ha⟩:=hx;obtain ⟨b,rfl,hb⟩:=hy;have:=EqR.tup (K:=K) (n:=n) (e:=fun j=>if j=0 then p.1 == q.1 else p.2 == q.2) (SqT.of ha) (SqT.of hb) fun j x y hx hy=>by
    match j,hx,hy with
    | 0,hx,hy=>simp at hx hy;subst hx hy;exact EqR.flat (K:=K) (H:=H) (n:=n) (x:=.int p.1) (y:=.int q.1) rfl rfl
    | 1,hx,hy=>simp at hx hy;subst hx hy;exact EqR.flat (K:=K) (H:=H) (n:=n) (x:=.int p.2) (y:=.int q.2) rfl rfl
    | j+2,hx,hy=>simp at hx
  have e:((aaI (min [V.int p.1,V.int p.2].length [V.int q.1,V.int q.2].length)).all (fun j=>if j=0 then p.1 == q.1 else p.2 == q.2) && [V.int p.1,V.int p.2].length == [V.int q.1,V.int q.2].length)=decide (p=q):=by
    obtain ⟨a1,a2⟩:=p;obtain ⟨b1,b2⟩:=q;have : aaI (min [V.int a1,V.int a2].length [V.int b1,V.int b2].length)=[0,1]:=rfl;rw [this,aa3];simp
  rw [e] at this;exact this
theorem jh {X:Cx} {pins:List (Addr × Obj)} {σ:St} {H:Hp} {s:Shared} (I:Inv X pins σ H s) {p:Int × Int}:∀ {ps:List (Int × Int)} {us:List V} {its:List Value},PairsIn H ps us→Vals us its →
    ∃ f:Value→Bool,(∀ y∈its,∃ q v,PairIn H q v∧RelV v y∧f y=decide (q=p))∧its.any f=decide (p∈ps):=by
  classical
  intro ps us its h r;refine ⟨fun y=>decide (∃ a,y=Value.ref a∧H a=some (.tup [.int p.1,.int p.2])),?_,?_⟩
  · induction h generalizing its with
    | nil=>cases r;intro y hy;cases hy
    | @cons q v ps us hq _ ih =>
      cases r with
      | cons rv rt =>
        intro y hy;rcases aam.mp hy with rfl|hy
        · refine ⟨q,v,hq,rv,?_⟩;obtain ⟨a,rfl,ha⟩:=hq;cases rv;by_cases c:q=p
          · subst c;rw [decide_eq_true rfl];exact decide_eq_true ⟨a,rfl,ha⟩
          · rw [decide_eq_false c];refine decide_eq_false ?_;rintro ⟨b,e,hb⟩;cases e;rw [ha] at hb;apply c;obtain ⟨q1,q2⟩:=q;obtain ⟨p1,p2⟩:=p;simp at hb;rw [hb.1,hb.2]
        · exact ih rt y hy
  · induction h generalizing its with
    | nil=>cases r;simp
    | @cons q v ps us hq _ ih =>
      cases r with
      | cons rv rt =>
        rw [ace,ih rt];obtain ⟨a,rfl,ha⟩:=hq;cases rv;by_cases c:q=p
        · subst c;have e0:decide (∃ b,Value.ref a=Value.ref b∧H b=some (.tup [.int q.1,.int q.2]))=true:=decide_eq_true ⟨a,rfl,ha⟩;show (decide (∃ b,Value.ref a=Value.ref b∧H b=some (.tup [.int q.1,.int q.2])) || _)=_;rw [e0];simp
        · refine (fun (e0:decide (∃ b,Value.ref a=Value.ref b∧H b=some (HO.tup [.int p.1,.int p.2]))=false)=>?_) ?_
          · show (decide (∃ b,Value.ref a=Value.ref b∧H b=some (.tup [.int p.1,.int p.2])) || _)=_;rw [e0,Bool.false_or,aa3,decide_eq_true_eq,decide_eq_true_eq,aam];exact ⟨.inr,fun h=>h.elim (fun e=>absurd e.symm c) id⟩
          · refine decide_eq_false ?_;rintro ⟨b,e,hb⟩;cases e;rw [ha] at hb;apply c;obtain ⟨q1,q2⟩:=q;obtain ⟨p1,p2⟩:=p;simp at hb;rw [hb.1,hb.2]
def yj (K:aaa) (neg:Bool):R2:=fun x y H Q=>∃ (p:Int × Int) (l:Addr) (us:List V) (ps:List (Int × Int)),PairIn H p x∧y=.ref l∧SqL K H l us∧PairsIn H ps us∧Q (.bl (if neg then !decide (p∈ps) else decide (p∈ps))) H
theorem kC {X:Cx} {K:aaa} (hK:X.K=K) (hu:X.A.units+64 < cLine):OpR X (compareOp .In) (yj K false):=by
  subst hK;intro pins s σ H x y v u Q I rx ry h;obtain ⟨p,l,us,ps,hp,rfl,hq,hps,q⟩:=h;cases ry;obtain ⟨its,r,pl,hz⟩:=I.list hq;obtain ⟨f,hf,ha⟩:=jh (p:=p) I hps r;refine SeqAt.in_listAt f pl.isList (fun w hw=>?_) ⟨.bl _,H,I,rfl,?_⟩
  · obtain ⟨q',v',h1,h2,h3⟩:=hf w (by simpa using hw);rw [h3];exact (EqR.pair (K:=X.K) (n:=0) h1 hp).at I h2 rx (by show X.A.units+1+(0+1) < cLine;lia)
  · rw [show its.toArray.any f=its.any f by simp,ha];exact q
theorem my {X:Cx} {K:aaa} (hK:X.K=K) (hu:X.A.units+64 < cLine):OpR X (compareOp .NotIn) (yj K true):=by
  subst hK;intro pins s σ H x y v u Q I rx ry h;obtain ⟨p,l,us,ps,hp,rfl,hq,hps,q⟩:=h;cases ry;obtain ⟨its,r,pl,hz⟩:=I.list hq;obtain ⟨f,hf,ha⟩:=jh (p:=p) I hps r;refine SeqAt.notIn_listAt f pl.isList (fun w hw=>?_) ⟨.bl _,H,I,rfl,?_⟩
  · obtain ⟨q',v',h1,h2,h3⟩:=hf w (by simpa using hw);rw [h3];exact (EqR.pair (K:=X.K) (n:=0) h1 hp).at I h2 rx (by show X.A.units+1+(0+1) < cLine;lia)
  · rw [show its.toArray.any f=its.any f by simp,ha];exact q
theorem sy {X:Cx} {K:aaa} {a:Expr} {ta:TE} (hK:X.K=K) (ha:PE X a ta) (he:∀ whole,isTrue a X.env whole=(do let v ← whole;standAt a.pos;holding [v] (truthy v))) :
    PT X a (fun σ H Q=>ta σ H fun x H'=>∃ k,wu K x H' k∧Q k H'):=by subst hK;exact dG ha he
open PySem PySem.Spec PyProof.Rows
abbrev og (X:Cx) (scope:Scope) (x₁:Str) (cl:List (Str × Addr)) (NY:List Str) (fp:List Addr) (s:Shared) (H:Hp) (C:Addr):Cx:=dP X (compEnvC scope ((x₁,C+1) :: cl) C X.env) (fun y=>y == x₁) NY fp s H
theorem vW {M:Model} {A:Around} {E:Value→Shared→Prop} {s:Shared} {scope:Scope} {globals:Addr} {closure:List (Str × Addr)} {qual:Str} {env0:Env} {x₁:Str} {Q:Env→Shared→Prop}
    (hcf:∀ n acc,cellsFrom n scope.names acc=(x₁,n) :: acc) (hpc:∀ h:Heap,pushCells h scope.names=h.push { cls:=.type "cell",data:=.cell none })
    (h:Q (newEnv scope s.heap.objs.size globals ((x₁,s.heap.objs.size+1) :: closure) qual none .none (some env0) builtinsNs) { s with heap:=(s.heap.push { cls:=.type "dict",data:=.dict #[] }).push { cls:=.type "cell",data:=.cell none } }) :
    wpAny M A (newFunctionEnv scope globals closure [] qual none .none (some env0)) Q E s:=by
  simp only [newFunctionEnv,Option.isSome_some,if_true];refine wpAny_bind (wpAny_alloc ?_);refine wpAny_bind (wpAny_layCells _ (fun name kind cells=>by cases hkc:kind == NameKind.cell <;> simp [hkc]) _ _ _ _ ?_);rw [hcf,hpc,show ({ s with heap:=s.heap.push { cls:=.type "dict",data:=.dict #[] } }:Shared).heap.objs.size=s.heap.objs.size+1 from abN ..];refine wpAny_bind ?_;rw [List.forIn_nil];exact wpAny_pure (wpAny_pure h)
section
variable {X:Cx}
theorem Inv.newCC {pins:List (Addr × Obj)} {σ:St} {H2:Hp} {s2:Shared} (I2:Inv X pins σ H2 s2) {scope:Scope} {x₁:Str} {cl:List (Str × Addr)} (hci:CellsIn X.env cl) (hkind:scope.kind=.function) (hhas:((relabel scope X.env).names.all fun p=>(p.2 != .cell && p.2 != .free) || (cl.lookup p.1).isSome || p.1 == x₁)=true) {o:Obj} (hof:o.isFreed=false) :
    s2.heap.objs.size < (s2.heap.push o).objs.size∧BlkC X s2 (((s2.heap.push o).push { cls:=.type "dict",data:=.dict #[] }).push { cls:=.type "cell",data:=.cell none }) (compEnvC scope ((x₁,(s2.heap.push o).objs.size+1) :: cl) (s2.heap.push o).objs.size X.env) (fun y=>y == x₁)∧(((s2.heap.push o).push { cls:=.type "dict",data:=.dict #[] }).push { cls:=.type "cell",data:=.cell none }).get? s2.heap.objs.size=some o:=by
  have hC:s2.heap.objs.size < (s2.heap.push o).objs.size:=by rw [abN];exact abM _
  generalize hG:s2.heap.push o=G2 at hC;have hcell:((G2.push { cls:=.type "dict",data:=.dict #[] }).push { cls:=.type "cell",data:=.cell none }).get? (G2.objs.size+1)=some { cls:=.type "cell",data:=.cell none }:=by
    have:=aaq (G2.push { cls:=.type "dict",data:=.dict #[] }) (o:={ cls:=.type "cell",data:=.cell none }) rfl;rw [abN] at this;exact this
  have hold:∀ b u,G2.get? b=some u→((G2.push { cls:=.type "dict",data:=.dict #[] }).push { cls:=.type "cell",data:=.cell none }).get? b=some u:=fun b o e=>aad _ (aad _ e);have look:∀ x c,((x₁,G2.objs.size+1) :: cl).lookup x=some c→(x=x₁∧c=G2.objs.size+1)∨(x≠x₁∧X.env.cells.lookup x=some c):=fun x c e=>by
    rw [List.lookup_cons] at e;cases q:x == x₁ with
    | true=>rw [q] at e;cases e;exact .inl ⟨by simpa using q,rfl⟩
    | false=>rw [q] at e;exact .inr ⟨by simpa using q,hci.get e⟩
  refine ⟨hC,⟨hkind,rfl,rfl,abg hC,fun b u e=>hold b u (hG ▸ aad _ e),⟨_,(Heap.Ns.new G2 (.type "dict")).push _⟩,fun x c e=>?_,fun x hx=>?_⟩,hold _ _ (hG ▸ aaq _ hof)⟩
  · rcases look x c e with ⟨rfl,rfl⟩|⟨q,z⟩
    · refine .inr ⟨by simp,aco (abg hC),Nat.succ_ne_self _,hcell,fun y e2=>?_⟩;rcases look y _ e2 with q|q
      · exact q.1
      · exact absurd (ab8 (ab8 (I2.cellLt _ _ q.2) hC) (abM _)) (abm _)
    · exact .inl ⟨by simpa using q,z⟩
  · have hx':(relabel scope X.env).names.lookup x=some .cell∨(relabel scope X.env).names.lookup x=some .free:=hx;have key:∀ k,(relabel scope X.env).names.lookup x=some k→(k=.cell∨k=.free)→∃ c,((x₁,G2.objs.size+1) :: cl).lookup x=some c:=fun k e hk=>by
      have q:=aa7.mp hhas (x,k) (abb e);rw [List.lookup_cons];cases z:x == x₁ with
      | true=>exact ⟨_,rfl⟩
      | false =>
        have q':(cl.lookup x).isSome=true:=by
          rcases hk with rfl|rfl <;> simpa [z] using q
        exact abH.mp q'
    rcases hx' with e|e
    · exact key _ e (.inl rfl)
    · exact key _ e (.inr rfl)
theorem ut {x₁:Str} {NY:List Str} {cap:List (Option Nat)} (h:((NY.zip cap).all fun p=>p.1 != x₁ || p.2 == none)=true):((NY.zip cap).all fun p=>!(fun y=>y == x₁) p.1 || p.2 == none)=true:=h
theorem xm {x₁:Str} {elt tg iter:Expr} {ifs:List Expr} {scope:Scope} {pos:Pos} {cl:List (Str × Addr)} {NY:List Str} {cap:List (Option Nat)} {wi:TI} {g:TG} {tt:TT} {te:TE} (hc:X.calm=true) (hi:PI X tg iter wi)
    (hclos:closureFor scope X.env=pure cl) (hci:CellsIn X.env cl) (hcap:CapOk X.env (relabel scope X.env) X.N NY cap)
    (hb:∀ fp s H C,PG (og X scope x₁ cl NY fp s H C) tg g∧gL (og X scope x₁ cl NY fp s H C) ifs tt∧PE (og X scope x₁ cl NY fp s H C) elt te)
    (hcf:∀ n acc,cellsFrom n scope.names acc=(x₁,n) :: acc:=by intro _ _;rfl) (hpc:∀ h:Heap,pushCells h scope.names=h.push { cls:=.type "cell",data:=.cell none }:=by intro _;rfl) (hx1:((NY.zip cap).all fun p=>p.1 != x₁ || p.2 == none)=true:=by rfl)
    (hkind:scope.kind=.function:=by rfl)
    (hnames:(scope.names.all fun y=>y.2 != .local || scope.names.lookup y.1 == some .local)=true:=by rfl)
    (hhas:((relabel scope X.env).names.all fun p=>(p.2 != .cell && p.2 != .free) || (cl.lookup p.1).isSome || p.1 == x₁)=true:=by rfl)
    (hs:∀ x,foldedSetIterable iter X.env x=pure x:=by intro _;rfl) :
    PE X (.ListComp elt [⟨tg,iter,ifs,0⟩] scope pos) (tLc cap wi g tt te):=by
  intro pins s σ H Q I h;rw [eval_ListComp];refine wpAny_comprehension_free (use:=none) rfl hs hclos hkind (iO hnames) (wpAny_mono (hi pins s σ H _ I h) (fun v s1 h1=>wpAny_mono h1 (fun itv s2 h2=>?_) fun _ _ e=>e) fun _ _ e=>e);obtain ⟨it,fp,tn,J,H2,e,I2,T,st2,f2,W,⟨m0,w0⟩,turn⟩:=h2;subst e;refine wpAny_newObj_type (vW hcf hpc ?_);dsimp only;obtain ⟨hC,B,hD⟩:=I2.newCC (x₁:=x₁) hci hkind hhas (o:={ cls:=.type "list",dict:=none,data:=.seq ([]:List Value).toArray }) rfl;generalize ((s2.heap.push { cls:=.type "list",dict:=none,data:=.seq ([]:List Value).toArray }).push { cls:=.type "dict",data:=.dict #[] }).push { cls:=.type "cell",data:=.cell none }=h₁ at B hD ⊢;generalize (s2.heap.push { cls:=.type "list",dict:=none,data:=.seq ([]:List Value).toArray }).objs.size=C at hC B ⊢;obtain ⟨hbg,hbt,hbe⟩:=hb fp s2 H2 C;have stW:=T.keep _ _ h₁ st2 fun b _ o e=>B.old b o e;have loop:=I2.goLast f2 (T.lt st2) B hcap (ut hx1) hc hC rfl hD T stW hbe hbg hbt (G:=[⟨tg,iter,ifs,0⟩]) rfl rfl (scope:=scope) (pos:=pos) (iter:=iter) (t':=s2.toks) turn w0 (R:=compPost (model X.prog X.w) X.A X.xe none (EP X pins σ Q) (.ref s2.heap.objs.size) C) fun ys its k H s I4 rv hz fin=>I2.lstEnd f2 (aag _) (abg hC) rfl I4 rv hz fin;exact codeAny_compStart_list loop (T.self _ 0 _ _ _ stW loop)
end
open PySem PySem.Spec PyProof.Rows
section
variable {X:Cx} {a b c d e:Expr} {ta tb tc td te:TE} {pos:Pos}
end
theorem neE {K:aaa} {H:Hp} {Q:V→Hp→Prop} {a b:Addr} {xs:List V} (ha:SqL K H a xs) (hb:SqL K H b []) (h:Q (.bl (!decide (xs=[]))) H):yk K true (.ref a) (.ref b) H Q:=by
  refine ⟨0,a,b,xs,[],by decide,rfl,rfl,ha,hb,?_⟩;by_cases c:xs=[]
  · subst c;exact .inr ⟨fun _=>true,rfl,fun j x y h=>by simp at h,h⟩
  · rw [decide_eq_false c] at h;exact .inl ⟨fun e=>c (abK.mp e),h⟩
end L2
namespace L2
open PySem PySem.Spec PyProof.Rows PySem.W
def cdO (c:Addr) (qual:Str):HO:=.ext fun h=>h.CodeRec (.ref c) qual
structure LTab (P:Addr) (qual:Str) (H:Hp) (ps:Array Value):Prop where
  tab:H P=some (.tbl ps)
  tri:TriplesOk ps.toList
  cds:∀ pos cv,codeAmong pos ps.toList=some cv→∃ c',cv=.ref c'∧H c'=some (cdO c' qual)
theorem l9 {pos:Pos} {a b:Int} {c cv:Value} (l:List Value) (h:TriplesOk l) (hn:codeAmong pos (l++[rawInt a,rawInt b,c])=some cv):codeAmong pos l=some cv∨cv=c:=by
  fun_induction TriplesOk l with
  | case1 =>
    simp only [List.nil_append,codeAmong,rawInt] at hn;split at hn
    · exact .inr (aaR hn).symm
    · cases hn
  | case2 a' t b' u x dY ih =>
    simp only [List.cons_append,codeAmong] at hn ⊢;split at hn
    · rename_i hc;rw [if_pos hc];exact .inl hn
    · rename_i hc;rw [if_neg hc];exact ih h hn
  | case3 l h1 h2=>exact h.elim
theorem xP {P:Program} {w:World} {H:Hp} {h:Heap} {c:Addr} {qual:Str} (r:h.CodeRec (.ref c) qual):ObjOk P w H h c (cdO c qual):=by
  refine ⟨r,?_,fun h1 h2 p k=>?_⟩
  · obtain ⟨c',o,vs,t,e,ho,_⟩:=r;cases e;exact ⟨o,ho⟩
  · obtain ⟨c',o,vs,t,e,ho,r⟩:=p;cases e;exact ⟨c,o,vs,t,rfl,k o ho,r⟩
section
variable {X:Cx} {pins:List (Addr × Obj)} {σ:St} {H:Hp} {s:Shared}
theorem Inv.tbl (I:Inv X pins σ H s) {P:Addr} {ps:Array Value} (h:H P=some (.tbl ps)):s.heap.get? P=some (tabObj ps):=I.hok P _ h
abbrev fG (X:Cx) (params:Arguments) (body:Expr) (scope:Scope) (c':Addr) (ctv:Value):Obj :=
  kla_obj "<lambda>" (X.env.qual ++ "<lambda>") params body scope [] ((X.mg "__name__").getD .none) c' ctv
theorem uD (I:Inv X pins σ H s) {params:Arguments} {body:Expr} {scope:Scope} {pos:Pos} {c P:Addr} {ps:Array Value} (hdef:defaultsOf params X.env=([],[])) (hcl:closureFor scope X.env=pure [])
    (hcode:X.env.code=.ref c) (C:CodeHd X.base c P) (hB:X.base.BuiltinsAt X.mg P) (T:LTab P (X.env.qual ++ "<lambda>") H ps) {Q:Value→Shared→Prop}
    (h:∀ f c' ctv H' s',Inv X (pins++[(f,fG X params body scope c' ctv)]) σ H' s'→(∃ ps',LTab P (X.env.qual ++ "<lambda>") H' ps')→H' c'=some (cdO c' (X.env.qual ++ "<lambda>"))→But P H H'→Q (.ref f) s') :
    wpAny (model X.prog X.w) X.A (eval (.Lambda params body scope pos) X.env) Q X.xe s:=by
  refine kla_eval hdef ?_;have hP:=I.tbl T.tab;have hns:s.heap.Ns mainGlobals X.mg:=I.mod.glob.keeps I.bk;have C':CodeHd s.heap c P:=C.keeps I.bk;have pinned:∀ {H':Hp} {h':Heap} {tk:Tok} {c':Addr} {ctv:Value},Inv X pins σ H' { s with heap:=h'.push (fG X params body scope c' ctv),toks:=tk }→s.heap.objs.size≤h'.objs.size→HOk X.prog X.w H' h' →
      Inv X (pins++[(h'.objs.size,fG X params body scope c' ctv)]) σ H' { s with heap:=h'.push (fG X params body scope c' ctv),toks:=tk }:=fun {H' h' tk c' ctv} J hs hk=>by
    refine J.pins_of fun p hp=>?_;rcases aan.mp hp with hp|hp
    · exact J.pin p (aab _ hp)
    · rw [aaj.mp hp];refine ⟨aaq _ rfl,hk.fresh (aag _),aaT (aat I.lt hs),I.nofs hs,fun v z=>by cases z⟩
  cases hA:codeAmong pos ps.toList with
  | none =>
    have hgP:mainGlobals≠P:=fun e=>by
      obtain ⟨o,es,ep,e0,d0,_⟩:=hns;rw [e,hP] at e0;cases e0;cases d0
    refine kla_makeFunction hcl I.ok.glob hns hcode C' hP T.tri hA hgP (hB.keeps I.bk) fun c' ctv h' tk hx hge hlt hrec hP'=>?_;have hsz:s.heap.objs.size≤h'.objs.size:=aaV hge (abg hlt);have nc:H c'=none:=I.hok.fresh hge;have ncP:c'≠P:=fun e=>by rw [e,T.tab] at nc;cases nc
    have keepB:∀ b o,b≠P→s.heap.get? b=some o→h'.get? b=some o:=fun b o hb e=>hx b o hb e;have eP:upd (upd H P (.tbl (ps++#[rawInt pos.line,rawInt pos.col,.ref c']))) c' (cdO c' (X.env.qual ++ "<lambda>")) P=some (.tbl (ps++#[rawInt pos.line,rawInt pos.col,.ref c'])):=by
      rw [aq ncP.symm,af]
    have eO:∀ b,b≠P→b≠c'→upd (upd H P (.tbl (ps++#[rawInt pos.line,rawInt pos.col,.ref c']))) c' (cdO c' (X.env.qual ++ "<lambda>")) b=H b:=fun b h1 h2=>by
      rw [aq h2,aq h1]
    have eS:∀ b o,b≠P→H b=some o→upd (upd H P (.tbl (ps++#[rawInt pos.line,rawInt pos.col,.ref c']))) c' (cdO c' (X.env.qual ++ "<lambda>")) b=some o:=fun b o h1 h2=>by
      rw [eO b h1 (aF h2 nc)];exact h2
    have eC:upd (upd H P (.tbl (ps++#[rawInt pos.line,rawInt pos.col,.ref c']))) c' (cdO c' (X.env.qual ++ "<lambda>")) c'=some (cdO c' (X.env.qual ++ "<lambda>")):=af;generalize upd (upd H P (.tbl (ps++#[rawInt pos.line,rawInt pos.col,.ref c']))) c' (cdO c' (X.env.qual ++ "<lambda>"))=H2 at eP eO eS eC;have ok:HOk X.prog X.w H2 h':=fun b o e=>by
      by_cases hb:b=P
      · subst hb;rw [eP] at e;cases e;exact hP'
      by_cases hb2:b=c'
      · subst hb2;rw [eC] at e;cases e;exact xP hrec
      rw [eO b hb hb2] at e;refine (I.hok b o e).stay (fun d v hd q=>keepB d v ?_ q) (fun d q=>eS d _ (fun z=>by rw [z,T.tab] at q;cases q) q) fun d xs q=>eS d _ (fun z=>by rw [z,T.tab] at q;cases q) q;rintro rfl;rcases hd with z|z
      · exact hb z.symm
      · rw [T.tab] at z;cases z
    have J:Inv X pins σ H2 { s with heap:=h'.push (fG X params body scope c' ctv),toks:=tk }:=by
      refine I.un (h':=h'.push (fG X params body scope c' ctv)) ⟨fun b o q n _ _=>?_,fun b o q n _ _=>?_,fun b o q n _=>?_,fun b o q _=>?_,fun b xs q=>?_,fun b o xs q=>?_,fun b qs q=>?_⟩ (ok.kept fun b u e=>aad _ e)
      · exact aad _ (keepB b o (fun z=>by rw [z,T.tab] at n;cases n) q)
      · exact ⟨o.slots,aad _ (keepB b o (fun z=>by rw [z,T.tab] at n;cases n) q)⟩
      · rw [eO b (fun z=>by rw [z,T.tab] at n;cases n) (aaz (aat (aar q) hge))];exact n
      · by_cases hb:b=P
        · subst hb;exact ⟨_,aad _ hP'⟩
        · exact ⟨o,aad _ (keepB b o hb q)⟩
      · exact eS b _ (fun z=>by rw [z,T.tab] at q;cases q) q
      · exact eS b _ (fun z=>by rw [z,T.tab] at q;cases q) q
      · by_cases hb:b=P
        · subst hb;rw [T.tab] at q;cases q;exact ⟨_,eP⟩
        · exact ⟨#[],by rw [eS b _ hb q];simp⟩
    refine h _ c' ctv H2 _ (pinned J hsz ok) ⟨_,eP,?_,fun pos' cv hc=>?_⟩ eC (fun b o hb e=>eS b o hb e)
    · rw [Array.toList_append];exact TriplesOk_snoc _ _ _ _ T.tri
    · rw [Array.toList_append] at hc;rcases l9 _ T.tri hc with z|z
      · obtain ⟨d,e1,e2⟩:=T.cds pos' cv z;exact ⟨d,e1,eS d _ (fun y=>by rw [y,T.tab] at e2;cases e2) e2⟩
      · exact ⟨c',z,eC⟩
  | some cv =>
    obtain ⟨c',rfl,ec⟩:=T.cds pos cv hA;refine kla_makeFunctionHit hcl I.ok.glob hns hcode C' hP T.tri hA (hB.keeps I.bk) fun ctv h' tk hk hsz=>?_;have J:Inv X pins σ H { s with heap:=h'.push (fG X params body scope c' ctv),toks:=tk }:=I.kept fun b u e=>aad _ (hk b u e);exact h _ c' ctv H _ (pinned J hsz (I.hok.kept hk)) ⟨ps,T⟩ ec (fun b o _ e=>e)
end
section
variable {CX:CXT} {P:Program} {w:World} {K:aaa} {mg:Str→Option Value} {base:Heap} {k:Nat}
theorem uE {A:Around} {outer:List Env} {s:Shared} {H:Hp} {f c':Addr} {ctv pm:Value} {name qual:Str} {params:Arguments} {body:Expr} {scope:Scope} {N ps:List Str} {args:Args} {us:List Value} {vs:List V} {Q:VK} {E:XK}
    (ho:s.heap.get? f=some (kla_obj name qual params body scope [] pm c' ctv)) (hcd:s.heap.CodeRec (.ref c') qual) (S:FnScope N ps scope) (hr:Room (k+1) A) (e0:Env0 P w K mg base A outer s H)
    (hb:bindArgs (kla_fn name qual params body scope [] pm (.ref c') ctv) args=pure (ps.zip us)) (r:Vals vs us) (hl:vs.length=ps.length)
    (hbody:∃ t,PE (kW CX P w K mg base N qual scope f (.ref c') A outer s H E) body t∧t (start N vs) H Q):codeAny (model P w) A (.call (.ref f) args) (CR CX outer P w H s Q E) s:=by
  have lim:s.heap.NoLimit:=e0.mod.nolimit.keeps fun b o e=>(e0.bs b o e).1;have hkind:∀ y∈ps.zip us,scope.names.lookup y.1=some .local∨(scope.names.lookup y.1=some .cell∧((cellsFrom (s.heap.objs.size+1) scope.names []).lookup y.1).isSome=true):=fun ⟨n,v⟩ hy=>by
    rcases S.par n (List.of_mem_zip hy).1 with q|q
    · exact .inl q
    · exact .inr ⟨q,ack _ _ _ (.inl q)⟩
  refine kla_callFunE hr.depth ho rfl S.co S.gen rfl hcd ?_;refine wpAny_of_eq hb ?_;refine wpAny_newFunctionEnv_cells S.kind hkind fun env he s1 x=>?_;subst he;refine ⟨lim.keeps x.toInCall.keep,kla_codeExpr ?_⟩;obtain ⟨t,ht,hq⟩:=hbody;have I:Inv (kW CX P w K mg base N qual scope f (.ref c') A outer s H E) [] (start N vs) H s1:=mI S hr.hd e0 hl r x;refine wpAny_mono (ht [] s1 (start N vs) H _ I hq) (fun u s' hs=>?_) fun e s' hs=>hs;obtain ⟨v,H',J,rv,q⟩:=hs;exact ⟨v,H',J.os,J.bare,J.base,J.hok,rv,q⟩
end
def aG (kf:Nat→List Int):Nat→Nat
  | 0=>0
  | j+1=>if HT.lexLt (kf (j+1)) (kf (aG kf j))=true then j+1 else aG kf j
theorem ld (kf:Nat→List Int):∀ j,aG kf j≤j
  | 0=>aag _
  | j+1=>by
    unfold aG;split
    · exact aag _
    · exact aco (ld kf j)
section
variable {X:Cx} {pins pl:List (Addr × Obj)} {σ:St} {H:Hp} {s:Shared}
theorem Inv.turn1 {a:Addr} {o o':Obj} {h':Heap} {tk:Nat} (I:Inv X (pins++(a,o) :: pl) σ H s) (k:∀ b ob,b≠a→s.heap.get? b=some ob→h'.get? b=some ob) (e:h'.get? a=some o') (d:∀ v,o'.data≠.cell v)
    (h0:X.s₀.heap.objs.size≤a) (hp:∀ p∈X.pn++pins,p.1≠a) (hpl:∀ p∈pl,p.1≠a):Inv X (pins++(a,o') :: pl) σ H { s with heap:=h',toks:=tk }:=by
  obtain ⟨pe,pn,pL,pf,pd⟩:=I.pin (a,o) (aab _ (aab _ aai));have J:Inv X (pins++pl) σ H s:=I.pins_of fun p hp=>I.pin p (aab _ (by
    rcases aan.mp hp with z|z
    · exact aaw _ z
    · exact aab _ (aae _ z)))
  have hc:∀ x c,X.env.cells.lookup x=some c→c≠a:=fun x c z y=>by
    obtain ⟨v,oc,ho,hd⟩:=I.cell x c z;rw [y,pe] at ho;cases ho;exact pd v hd
  have h3:∀ p∈X.pn++(pins++pl),p.1≠a:=fun p z=>by
    rcases aan.mp z with z|z
    · exact hp p (aaw _ z)
    · rcases aan.mp z with z|z
      · exact hp p (aab _ z)
      · exact hpl p z
  have T:Inv X (pins++pl) σ H { s with heap:=h',toks:=tk }:=J.turned k pn pL (.inr h0) hc h3;refine T.pins_of fun p z=>?_;rcases aan.mp z with z|z
  · exact T.pin p (aab _ (aaw _ z))
  · rcases aam.mp z with rfl|z
    · exact ⟨e,pn,pL,pf,d⟩
    · exact T.pin p (aab _ (aab _ z))
theorem Inv.turn0 {a:Addr} {o:Obj} {h':Heap} {tk:Nat} (I:Inv X (pins++(a,o) :: pl) σ H s) (k:∀ b ob,b≠a→s.heap.get? b=some ob→h'.get? b=some ob)
    (h0:X.s₀.heap.objs.size≤a) (hp:∀ p∈X.pn++pins,p.1≠a) (hpl:∀ p∈pl,p.1≠a):Inv X (pins++pl) σ H { s with heap:=h',toks:=tk }:=by
  obtain ⟨pe,pn,pL,pf,pd⟩:=I.pin (a,o) (aab _ (aab _ aai));have J:Inv X (pins++pl) σ H s:=I.pins_of fun p hp=>I.pin p (aab _ (by
    rcases aan.mp hp with z|z
    · exact aaw _ z
    · exact aab _ (aae _ z)))
  have hc:∀ x c,X.env.cells.lookup x=some c→c≠a:=fun x c z y=>by
    obtain ⟨v,oc,ho,hd⟩:=I.cell x c z;rw [y,pe] at ho;cases ho;exact pd v hd
  have h3:∀ p∈X.pn++(pins++pl),p.1≠a:=fun p z=>by
    rcases aan.mp z with z|z
    · exact hp p (aaw _ z)
    · rcases aan.mp z with z|z
      · exact hp p (aab _ z)
      · exact hpl p z
  exact J.turned k pn pL (.inr h0) hc h3
theorem Inv.swap {a b:Addr × Obj} (I:Inv X (pins++[a,b]) σ H s):Inv X (pins++[b,a]) σ H s:=I.pins_of fun p z=>I.pin p (aab _ (by
  rcases aan.mp z with z|z
  · exact aaw _ z
  · exact aab _ (by simp at z ⊢;exact z.symm)))
theorem Inv.at {a:Addr} {o:Obj} (I:Inv X (pins++pl) σ H s) (h:(a,o)∈pl):s.heap.get? a=some o:=(I.pin (a,o) (aab _ (aab _ h))).1
theorem sW {l q Ia S:Addr} {xs:List V} {kf:Nat→List Int} {Kv:Nat→V→Hp→Prop} {G:Hp→Prop} {Q:VK} (hh:X.A.handled=none) (hlI:l≠Ia) (hSI:S≠Ia)
    (hI0:X.s₀.heap.objs.size≤Ia) (hS0:X.s₀.heap.objs.size≤S) (hpI:∀ p∈X.pn++pins,p.1≠Ia) (hpS:∀ p∈X.pn++pins,p.1≠S) (hl:∀ H,G H→SqL X.K H l xs) (mono:∀ i k H H',Kv i k H→Same H H'→Kv i k H')
    (turn:∀ i x u pl H s,xs[i]?=some x→RelV x u→G H→Inv X (pins++pl) σ H s→wpAny (model X.prog X.w) X.A.in1 (call (.ref q) [u]) (EP X (pins++pl) σ fun k H'=>Kv i k H'∧G H'∧Same H H') (fun _ _=>False) s)
    (cmp:∀ i j k k' u u' pl H s (Q:Value→Shared→Prop),Kv i k H→Kv j k' H→RelV k u→RelV k' u'→Inv X (pins++pl) σ H s→Q (.bool (HT.lexLt (kf i) (kf j))) s→wpAny (model X.prog X.w) X.A.in1 (richCompare .Lt u u') Q (fun _ _=>False) s)
    (hQ:∀ x H,xs[aG kf (xs.length - 1)]?=some x→G H→Q x H) :
    ∀ (r j:Nat) (H:Hp) (s:Shared) (vb kb:Value) (xb kv:V) (c:Nat) (oI:Obj),xs.length - (j+1)=r→j+1≤xs.length→Inv X (pins++[(S,seqObj "list" #[vb,kb] c),(Ia,oI)]) σ H s→s.heap.IsListIter Ia l (j+1) →
      xs[aG kf j]?=some xb→RelV xb vb→RelV kv kb→Kv (aG kf j) kv H→G H →
      codeAny (model X.prog X.w) X.A (.builtin "min.loop" ⟨[.ref Ia,.ref q,.ref S],[]⟩) (fun r s'=>match r with|.ok (.ret v)=>EP X pins σ Q v s'|.ok _=>False|.error e=>X.xe e s') s:=by
  have hname:(toString "min" ++ toString ".loop":String) = "min.loop":=by decide
  have unpin:∀ {pl H s},Inv X (pins++pl) σ H s→Inv X pins σ H s:=fun I=>I.pins_of fun p z=>I.pin p (aab _ (aaw _ z));intro r
  induction r with
  | zero =>
    intro j H s vb kb xb kv c oI hr hj I hit hxb rvb rkb hk g;have hin:j+1=xs.length:=by lia
    have nS:=I.at (pl:=[(S,seqObj "list" #[vb,kb] c),(Ia,oI)]) (.head _);obtain ⟨its,rl,pL,_⟩:=I.list (hl H g);have W:=acp (prog:=X.prog) (w:=X.w) (A:=X.A.in1) hh Ia l hlI its.toArray;have hsz:its.toArray.size=xs.length:=by rw [aah,rl.length]
    refine codeAny_builtin abi ?_;rw [abp aaH _];show wpAny _ X.A.in1 (seqItems? (.ref S) >>= _) _ _ _;refine wpAny_bind (wpAny_seqItems nS rfl ?_);show wpAny _ X.A.in1 (tryCatch (pyNext (.ref Ia)) _ >>= _) _ _ _;refine wpAny_bind (wpAny_tryCatch (W.done _ _ _ ⟨by rw [hsz,← hin];exact hit,pL.isList⟩ fun h' tk' hk'=>?_));have hk1:∀ b o,b≠Ia→s.heap.get? b=some o→h'.get? b=some o:=fun b o hb e=>hk' b o (by simpa using hb) e;have I1:Inv X (pins++[(S,seqObj "list" #[vb,kb] c)]) σ H { s with heap:=h',toks:=tk' }:=I.swap.turn0 hk1 hI0 hpI (fun p hp=>by rw [aaj.mp hp];exact hSI);have hS':=I1.at (pl:=[(S,seqObj "list" #[vb,kb] c)]) (.head _);have s1:=abj h' S (aaU fun _=>(#[]:Array Value));show wpAny _ X.A.in1 (updateSeq S (fun _=>#[]) >>= _) _ _ _;refine wpAny_bind ?_;refine wpAny_updateSeq hS' rfl (wpAny_bind (wpAny_letGo (wpAny_pure ?_)));have I2:=I1.turn0 (pl:=[]) (h':=h'.update S (aaU fun _=>(#[]:Array Value))) (tk:=tk') (fun b ob hb e=>(s1.2 b hb).trans e) hS0 hpS (fun p hp=>by simp at hp);rw [abD] at I2;refine ⟨xb,H,I2,rvb,hQ xb H ?_ g⟩;rw [show xs.length - 1=j by lia];exact hxb
  | succ r ih =>
    intro j H s vb kb xb kv c oI hr hj I hit hxb rvb rkb hk g;have hlt:j+1 < xs.length:=by lia
    have nS:=I.at (pl:=[(S,seqObj "list" #[vb,kb] c),(Ia,oI)]) (.head _);obtain ⟨its,rl,pL,_⟩:=I.list (hl H g);have W:=acp (prog:=X.prog) (w:=X.w) (A:=X.A.in1) hh Ia l hlI its.toArray;have hsz:its.toArray.size=xs.length:=by rw [aah,rl.length]
    refine codeAny_builtin abi ?_;rw [abp aaH _];show wpAny _ X.A.in1 (seqItems? (.ref S) >>= _) _ _ _;refine wpAny_bind (wpAny_seqItems nS rfl ?_);show wpAny _ X.A.in1 (tryCatch (pyNext (.ref Ia)) _ >>= _) _ _ _;refine wpAny_bind (wpAny_tryCatch (W.item (j+1) _ _ _ (by rw [hsz];exact hlt) ⟨hit,pL.isList⟩ fun v h' tk' hP hst' hk'=>?_));have hk1:∀ b o,b≠Ia→s.heap.get? b=some o→h'.get? b=some o:=fun b o hb e=>hk' b o (by simpa using hb) e;have hv:its[j+1]?=some v:=by simpa using hP
    obtain ⟨x,hx,rx⟩:∃ x,xs[j+1]?=some x∧RelV x v:=by
      have hxx:xs[j+1]?=some xs[j+1]:=aac hlt;obtain ⟨u,hu,ru⟩:=rl.get hxx;rw [hv] at hu;cases hu;exact ⟨_,hxx,ru⟩
    obtain ⟨oI',hoI',hoc,hod⟩:=id hst'.1;have I1:Inv X (pins++[(S,seqObj "list" #[vb,kb] c),(Ia,oI')]) σ H { s with heap:=h',toks:=tk' } :=
      (I.swap.turn1 hk1 hoI' (fun v z=>by rw [hod] at z;cases z) hI0 hpI (fun p hp=>by rw [aaj.mp hp];exact hSI)).swap
    show wpAny _ X.A.in1 (tryCatch (holding [v] (call (.ref q) [v])) _ >>= _) _ _ _;refine wpAny_bind (wpAny_tryCatch (wpAny_holding (wpAny_mono (turn (j+1) x v _ H _ hx rx g I1) (fun kx s2 he=>?_) fun _ _ hF=>hF.elim)));obtain ⟨kx',H2,I2,rk2,hk2,g2,S2⟩:=he;have hkb:=mono _ _ _ _ hk S2;have nS2:=I2.at (pl:=[(S,seqObj "list" #[vb,kb] c),(Ia,oI')]) (.head _);have nI2:=I2.at (pl:=[(S,seqObj "list" #[vb,kb] c),(Ia,oI')]) (.tail _ (.head _));have hit2:s2.heap.IsListIter Ia l (j+1+1):=⟨oI',nI2,hoc,hod⟩
    show wpAny _ X.A.in1 (tryCatch (holding [v,kx] (richCompare .Lt kx kb >>= _)) _ >>= _) _ _ _;refine wpAny_bind (wpAny_tryCatch (wpAny_holding (wpAny_bind (wpAny_mono (cmp (j+1) (aG kf j) kx' kv kx kb _ H2 s2 (fun z s'=>z=.bool (HT.lexLt (kf (j+1)) (kf (aG kf j)))∧s'=s2) hk2 hkb rk2 rkb I2 ⟨rfl,rfl⟩) (fun z s3 hz=>?_) fun _ _ hF=>hF.elim))));obtain ⟨rfl,rfl⟩:=hz;refine wpAny_bind (wpAny_holding (wpAny_truthy_bool ?_));refine wpAny_bind (wpAny_letGo (wpAny_pure ?_));by_cases hb':HT.lexLt (kf (j+1)) (kf (aG kf j))=true
    · have s1:=abj s3.heap S (aaU fun _=>#[v,kx]);obtain ⟨c2,hc2⟩:∃ c2,(s3.heap.update S (aaU fun _=>#[v,kx])).get? S=some (seqObj "list" #[v,kx] c2):=⟨_,get?_update_seq nS2 fun _=>#[v,kx]⟩
      simp only [hb',if_true];refine wpAny_bind ?_;refine wpAny_updateSeq nS2 rfl (wpAny_bind (wpAny_letGo ?_));rw [hname];have eb:aG kf (j+1)=j+1:=by conv=>lhs;unfold aG;rw [if_pos hb']
      have I3:Inv X (pins++[(S,seqObj "list" #[v,kx] c2),(Ia,oI')]) σ H2 { s3 with heap:=s3.heap.update S (aaU fun _=>#[v,kx]),toks:=s3.toks } :=
        I2.turn1 (fun b ob hb e=>(s1.2 b hb).trans e) hc2 (fun v z=>by cases z) hS0 hpS (fun p hp=>by rw [aaj.mp hp];exact hSI.symm)
      refine wpAny_pure ⟨plainId_quiet aaH _,ih (j+1) H2 _ v kx x kx' c2 oI' (by lia) hlt I3 ⟨oI',(s1.2 Ia hSI.symm).trans nI2,hoc,hod⟩ (by rw [eb];exact hx) rx rk2 (by rw [eb];exact hk2) g2⟩
    · simp only [hb',ab9,if_false];refine wpAny_bind (wpAny_letGo ?_);rw [hname];have eb:aG kf (j+1)=aG kf j:=by conv=>lhs;unfold aG;rw [if_neg hb']
      refine wpAny_pure ⟨plainId_quiet aaH _,ih (j+1) H2 _ vb kb xb kv c oI' (by lia) hlt I2 hit2 (by rw [eb];exact hxb) rvb rkb (by rw [eb];exact hkb) g2⟩
theorem zc {l q:Addr} {xs:List V} {kf:Nat→List Int} {Kv:Nat→V→Hp→Prop} {G:Hp→Prop} {Q:VK} (hh:X.A.handled=none) (I:Inv X pins σ H s) (hne:0 < xs.length) (g:G H)
    (hl:∀ H,G H→SqL X.K H l xs) (mono:∀ i k H H',Kv i k H→Same H H'→Kv i k H')
    (turn:∀ i x u pl H s,xs[i]?=some x→RelV x u→G H→Inv X (pins++pl) σ H s→wpAny (model X.prog X.w) X.A.in1 (call (.ref q) [u]) (EP X (pins++pl) σ fun k H'=>Kv i k H'∧G H'∧Same H H') (fun _ _=>False) s)
    (cmp:∀ i j k k' u u' pl H s (Q:Value→Shared→Prop),Kv i k H→Kv j k' H→RelV k u→RelV k' u'→Inv X (pins++pl) σ H s→Q (.bool (HT.lexLt (kf i) (kf j))) s→wpAny (model X.prog X.w) X.A.in1 (richCompare .Lt u u') Q (fun _ _=>False) s)
    (hQ:∀ x H,xs[aG kf (xs.length - 1)]?=some x→G H→Q x H) :
    wpAny (model X.prog X.w) X.A (call (.builtin "min") [.ref l] [(Str.ofString "key",.ref q)]) (EP X pins σ Q) X.xe s:=by
  have hname:(toString "min" ++ toString ".loop":String) = "min.loop":=by decide
  obtain ⟨its,rl,pL,_⟩:=I.list (hl H g);have hls:=pL.isList;obtain ⟨ol,hol,_⟩:=id hls;have hll:l < s.heap.objs.size:=aar hol;refine kmk_tree PySem.F.kind_min PySem.F.plain_min PySem.F.entry_min (kmk_min_key _ _) ?_;show wpAny _ X.A.in1 (abt "min" ["key","default"] 0 ⟨[],[(Str.ofString "key",.ref q)]⟩ >>= _) _ _ s;refine wpAny_bind (wpAny_of_eq (show abt "min" ["key","default"] 0 ⟨[],[(Str.ofString "key",.ref q)]⟩=pure [some (.ref q),none] from rfl) ?_);refine wpAny_bind (wpAny_pure ?_);refine wpAny_bind (wpAny_pyIter_list hls ?_);refine wpAny_bind (wpAny_newList ?_ (aaN _));rw [hname];have hS:(s.heap.push { cls:=.type "list_iterator",data:=.fields #[.ref l,.int 0 0] }).objs.size=s.heap.objs.size+1:=size_push' ..;have hlI:l≠s.heap.objs.size:=aaz hll;have hSI:(s.heap.push { cls:=.type "list_iterator",data:=.fields #[.ref l,.int 0 0] }).objs.size≠s.heap.objs.size:=by rw [hS];exact aaT (abM _)
  have gI:((s.heap.push { cls:=.type "list_iterator",data:=.fields #[.ref l,.int 0 0] }).push (seqObj "list" #[] 0)).get? s.heap.objs.size=some { cls:=.type "list_iterator",data:=.fields #[.ref l,.int 0 0] } :=
    aad _ (aaq _ rfl)
  have gS:((s.heap.push { cls:=.type "list_iterator",data:=.fields #[.ref l,.int 0 0] }).push (seqObj "list" #[] 0)).get? (s.heap.push { cls:=.type "list_iterator",data:=.fields #[.ref l,.int 0 0] }).objs.size=some (seqObj "list" #[] 0):=aaq _ rfl;have kk:∀ b u,s.heap.get? b=some u→((s.heap.push { cls:=.type "list_iterator",data:=.fields #[.ref l,.int 0 0] }).push (seqObj "list" #[] 0)).get? b=some u:=fun b u e=>aad _ (aad _ e);have hI0:X.s₀.heap.objs.size≤s.heap.objs.size:=I.sz;have hS0:X.s₀.heap.objs.size≤(s.heap.push { cls:=.type "list_iterator",data:=.fields #[.ref l,.int 0 0] }).objs.size:=by rw [hS];exact aco I.sz
  have hpI:∀ p∈X.pn++pins,p.1≠s.heap.objs.size:=fun p hp=>aaz (aar (I.pin p hp).1);have hpS:∀ p∈X.pn++pins,p.1≠(s.heap.push { cls:=.type "list_iterator",data:=.fields #[.ref l,.int 0 0] }).objs.size:=fun p hp=>by rw [hS];exact aaz (abG (aar (I.pin p hp).1))
  have I0:Inv X (pins++[((s.heap.push { cls:=.type "list_iterator",data:=.fields #[.ref l,.int 0 0] }).objs.size,seqObj "list" #[] 0),(s.heap.objs.size,{ cls:=.type "list_iterator",data:=.fields #[.ref l,.int 0 0] })]) σ H
      { s with heap:=(s.heap.push { cls:=.type "list_iterator",data:=.fields #[.ref l,.int 0 0] }).push (seqObj "list" #[] 0),toks:=s.toks }:=by
    refine (I.kept (t':=s.toks) kk).pins_of fun p hp=>?_;rcases aan.mp hp with hp|hp
    · exact (I.kept (t':=s.toks) kk).pin p (aab _ hp)
    · rcases aam.mp hp with rfl|hp
      · refine ⟨gS,I.hok.fresh (by rw [hS];exact acn _),?_,I.nofs (by rw [hS];exact acn _),fun v z=>by cases z⟩;rw [hS];exact aaT (abG I.lt)
      · rw [aaj.mp hp];exact ⟨gI,I.hok.fresh (aag _),aaT I.lt,I.nofs (aag _),fun v z=>by cases z⟩
  refine wpAny_pure ⟨plainId_quiet aaH _,?_⟩;have W:=acp (prog:=X.prog) (w:=X.w) (A:=X.A.in1) hh s.heap.objs.size l hlI its.toArray;have hsz:its.toArray.size=xs.length:=by rw [aah,rl.length]
  refine codeAny_builtin abi ?_;rw [abp aaH _];show wpAny _ X.A.in1 (seqItems? (.ref _) >>= _) _ _ _;refine wpAny_bind (wpAny_seqItems gS rfl ?_);show wpAny _ X.A.in1 (tryCatch (pyNext (.ref s.heap.objs.size)) _ >>= _) _ _ _;refine wpAny_bind (wpAny_tryCatch (W.item 0 _ _ _ (by rw [hsz];exact hne) ⟨⟨_,gI,rfl,rfl⟩,hls.at fun o e=>kk _ o e⟩ fun v h' tk' hP hst' hk'=>?_));have hv:its[0]?=some v:=by simpa using hP
  obtain ⟨x,hx,rx⟩:∃ x,xs[0]?=some x∧RelV x v:=by
    have hxx:xs[0]?=some xs[0]:=aac hne;obtain ⟨u,hu,ru⟩:=rl.get hxx;rw [hv] at hu;cases hu;exact ⟨_,hxx,ru⟩
  obtain ⟨oI',hoI',hoc,hod⟩:=id hst'.1;have I1:=(I0.swap.turn1 (h':=h') (tk:=tk') (fun b ob hb e=>hk' b ob (by simpa using hb) e) hoI' (fun v z=>by rw [hod] at z;cases z) hI0 hpI (fun p hp=>by rw [aaj.mp hp];exact hSI)).swap;show wpAny _ X.A.in1 (tryCatch (holding [v] (call (.ref q) [v])) _ >>= _) _ _ _;refine wpAny_bind (wpAny_tryCatch (wpAny_holding (wpAny_mono (turn 0 x v _ H _ hx rx g I1) (fun kx s2 he=>?_) fun _ _ hF=>hF.elim)));obtain ⟨kx',H2,I2,rk2,hk2,g2,S2⟩:=he;generalize (s.heap.push { cls:=.type "list_iterator",data:=.fields #[.ref l,.int 0 0] }).objs.size=S at hSI hS0 hpS I2 ⊢;generalize s.heap.objs.size=Ia at hlI hSI hI0 hpI I2 hst' ⊢;have nS2:=I2.at (pl:=[(S,seqObj "list" #[] 0),(Ia,oI')]) (.head _);have nI2:=I2.at (pl:=[(S,seqObj "list" #[] 0),(Ia,oI')]) (.tail _ (.head _));have s1:=abj s2.heap S (aaU fun _=>#[v,kx]);obtain ⟨c2,hc2⟩:∃ c2,(s2.heap.update S (aaU fun _=>#[v,kx])).get? S=some (seqObj "list" #[v,kx] c2):=⟨_,get?_update_seq nS2 fun _=>#[v,kx]⟩
  show wpAny _ X.A.in1 (updateSeq S (fun _=>#[v,kx]) >>= _) _ _ _;refine wpAny_bind ?_;refine wpAny_updateSeq nS2 rfl ?_;rw [hname];have I3:Inv X (pins++[(S,seqObj "list" #[v,kx] c2),(Ia,oI')]) σ H2 { s2 with heap:=s2.heap.update S (aaU fun _=>#[v,kx]),toks:=s2.toks } :=
    I2.turn1 (fun b ob hb e=>(s1.2 b hb).trans e) hc2 (fun v z=>by cases z) hS0 hpS (fun p hp=>by rw [aaj.mp hp];exact hSI.symm)
  refine wpAny_pure ⟨plainId_quiet aaH _,?_⟩;exact sW hh hlI hSI hI0 hS0 hpI hpS hl mono turn cmp hQ _ 0 H2 _ v kx x kx' c2 oI' rfl hne I3 ⟨oI',(s1.2 Ia hSI.symm).trans nI2,hoc,hod⟩ hx rx rk2 hk2 g2
end
theorem xx (a b:Int):HT.lexLt [a] [b]=decide (a < b):=by
  show (if a=b then HT.lexLt [] [] else decide (a < b))=_;by_cases h:a=b
  · rw [if_pos h,HT.lexLt_nil_nil,decide_eq_false (by lia)]
  · rw [if_neg h]
def KeyIn (kd:Bool) (ks:List Int) (k:V) (H:Hp):Prop:=if kd=true then ∃ a,k=.ref a∧H a=some (.tup (ks.map V.int)) else ∃ n,ks=[n]∧k=.int n
theorem KeyIn.mono {kd:Bool} {ks:List Int} {k:V} {H H':Hp} (h:KeyIn kd ks k H) (g:Same H H'):KeyIn kd ks k H':=by
  unfold KeyIn at h ⊢;split at h
  · obtain ⟨a,e,ha⟩:=h;rename_i c;rw [if_pos c];exact ⟨a,e,g _ _ ha⟩
  · rename_i c;rw [if_neg c];exact h
theorem PairsIn.tups {H H':Hp} (t:∀ b xs,H b=some (.tup xs)→H' b=some (.tup xs)):∀ {ps:List (Int × Int)} {vs:List V},PairsIn H ps vs→PairsIn H' ps vs
  | _,_,.nil=>.nil
  | _,_,.cons ⟨a,e,h⟩ r=>.cons ⟨a,e,t _ _ h⟩ (PairsIn.tups t r)
def bS (key:Int × Int→List Int) (ps:List (Int × Int)) (i:Nat):List Int:=match ps[i]? with|some p=>key p|none=>[]
def x9 (P:Addr) (qual:Str) (key:Int × Int→List Int) (ta:TA):TE:=fun σ H Q=>ta σ H fun vs H1=>∃ l us ps,vs=[.ref l]∧H1 l=some (.lst us)∧PairsIn H1 ps us∧0 < us.length∧(∃ tp,LTab P qual H1 tp) ∧
  ∀ x H',us[aG (bS key ps) (us.length - 1)]?=some x→But P H1 H'→(∃ tp,LTab P qual H' tp)→Q x H'
section
variable {X:Cx}
theorem mk {e:Expr} {ta:TA} {tb:TE} {params:Arguments} {body:Expr} {scope:Scope} {lpos kpos p pos:Pos} {c P:Addr} {y:Str} {kd:Bool} {key:Int × Int→List Int} (hr:Room 2 X.A) (hg:Gl X "min") (hm:X.mg "min" = none) (hv:bootBuiltins "min" = some (.builtin "min")) (pa:PA X [e] ta)
    (hdef:defaultsOf params X.env=([],[])) (hcl:closureFor scope X.env=pure []) (hcode:X.env.code=.ref c) (C:CodeHd X.base c P) (hB:X.base.BuiltinsAt X.mg P) (S:FnScope [y] [y] scope)
    (hbind:∀ pm c' ctv u,bindArgs (kla_fn "<lambda>" (X.env.qual ++ "<lambda>") params body scope [] pm (.ref c') ctv) ⟨[u],[]⟩=pure [(y,u)])
    (hbody:∀ f c' s H E,PE (kW CX0 X.prog X.w X.K X.mg X.base [y] (X.env.qual ++ "<lambda>") scope f (.ref c') X.A.in1 X.stack s H E) body tb)
    (hkey:∀ p x H Q,PairIn H p x→(∀ k H',KeyIn kd (key p) k H'→Same H H'→Q k H')→tb [some x] H Q)
    (he:backTo pos (starEach [e] X.env)=(false,eval e X.env) :: backTo pos (starEach [] X.env):=by rfl)
    (hplain:(backTo pos (starEach [e] X.env)).any (·.1)=false:=by rfl) :
    PE X (.Call (.Name "min" p) [e] [⟨some "key",.Lambda params body scope lpos,kpos⟩] pos) (x9 P (X.env.qual ++ "<lambda>") key ta):=by
  intro pins s σ H Q I h;refine wpAny_Call_Name_kw (jq I hg hm hv ?_);refine callWith_kw (thn (pa pos pins s σ H _ I h) fun us0 s1 hz=>?_) he hplain;obtain ⟨vs,H1,I1,r1,l,us,ps,rfl,el,hps,hne,⟨tp,T⟩,q⟩:=hz;obtain ⟨u1,rfl,ru⟩:∃ u,us0=[u]∧RelV (.ref l) u:=by
    cases r1 with
    | cons a b=>cases b;exact ⟨_,rfl,a⟩
  cases ru;refine kws_cons (uD I1 hdef hcl hcode C hB T fun f c' ctv H2 s2 I2 T2 ec B2=>?_);refine kws_nil ?_;have nlP:l≠P:=fun z=>by rw [z,T.tab] at el;cases el
  have len:=hps.length;refine wpAny_mono (zc (xs:=us) (kf:=bS key ps) (Kv:=fun i k H=>∃ p,ps[i]?=some p∧KeyIn kd (key p) k H) (G:=fun H=>Same H2 H) (Q:=Q) hr.hd I2 hne (Same.refl _) (fun H g=>SqL.of (g _ _ (B2 _ _ nlP el))) (fun i k H H' h g=>by
      obtain ⟨p,e,h⟩:=h;exact ⟨p,e,h.mono g⟩) (fun i x u pl H3 s3 hx rx g I3=>?_) (fun i j k k' u u' pl H3 s3 Q' hk hk' rk rk' I3 hq=>?_) (fun x H3 hx g=>?_)) (fun v s3 hs=>?_) fun e s' hs=>hs
  · obtain ⟨p,hpi,hpx⟩:=bu (PairsIn.tups (fun b xs z=>g _ _ (B2 _ _ (fun y=>by rw [y,T.tab] at z;cases z) z)) hps) hx;have ho:s3.heap.get? f=some (fG X params body scope c' ctv):=(I3.pin (f,fG X params body scope c' ctv) (aab _ (aaw _ (aab _ (by simp))))).1;have hcd:s3.heap.CodeRec (.ref c') (X.env.qual ++ "<lambda>"):=(I3.hok c' _ (g _ _ ec)).1;refine wpAny_call (codeAny_mono (uE (k:=0) (CX:=CX0) (E:=E0) (Q:=fun k H'=>(∃ p,ps[i]?=some p∧KeyIn kd (key p) k H')∧Same H2 H'∧Same H3 H') (vs:=[x]) ho hcd S hr.in1 I3.env0.in1 (us:=[u]) (hbind _ _ _ _) (.cons rx .nil) rfl ⟨tb,hbody _ _ _ _ _,?_⟩) fun r s' hq=>?_)
    · exact hkey p x H3 _ hpx fun k H' hk hs=>⟨⟨p,hpi,hk⟩,g.trans hs,hs⟩
    · cases r with
      | error e=>exact abq hq
      | ok fl =>
        cases fl with
        | ret u=>exact I3.after hq
        | next=>exact abq hq
        | brk=>exact abq hq
        | cont=>exact abq hq
  · obtain ⟨p,hp,hk⟩:=hk;obtain ⟨p',hp',hk'⟩:=hk';have e1:bS key ps i=key p:=by unfold bS;rw [hp]
    have e2:bS key ps j=key p':=by unfold bS;rw [hp']
    rw [e1,e2] at hq;cases kd with
    | true =>
      obtain ⟨a,rfl,ea⟩:∃ a,k=.ref a∧H3 a=some (.tup ((key p).map V.int)):=hk;obtain ⟨a',rfl,ea'⟩:∃ a,k'=.ref a∧H3 a=some (.tup ((key p').map V.int)):=hk';cases rk;cases rk';obtain ⟨its,r1,p1,_⟩:=I3.tuple (SqT.of ea);obtain ⟨its2,r2,p2,_⟩:=I3.tuple (SqT.of ea');exact HT.lt_tupInts p1 p2 (fJ r1) (fJ r2) hr.in1.units0 hq
    | false =>
      obtain ⟨n,en,rfl⟩:∃ n,key p=[n]∧k=.int n:=hk;obtain ⟨n',en',rfl⟩:∃ n,key p'=[n]∧k'=.int n:=hk';rw [en,en',xx] at hq;obtain ⟨t,rfl⟩:∃ t,u=.int n t:=rk;obtain ⟨t',rfl⟩:∃ t,u'=.int n' t:=rk';exact CmpOf.ints_lt (prog:=X.prog) (w:=X.w) (A:=X.A.in1) (P:=fun i v=>∃ t,v=.int (if i=0 then n else n') t) (fun i=>if i=0 then n else n') (fun i v h=>h) 0 1 _ _ _ _ _ ⟨t,rfl⟩ ⟨t',rfl⟩ hq
  · obtain ⟨tp2,T2⟩:=T2;refine q x H3 hx (fun b o hb e=>g _ _ (B2 b o hb e)) ⟨tp2,g _ _ T2.tab,T2.tri,fun pos' cv hc=>?_⟩;obtain ⟨d,e1,e2⟩:=T2.cds pos' cv hc;exact ⟨d,e1,g _ _ e2⟩
  · obtain ⟨x,H3,I3,rx,hq⟩:=hs;exact ⟨x,H3,I3.unpinned,rx,hq⟩
end
end L2
namespace L2
open PySem PySem.Spec PyProof.Rows PySem.W
section
variable {X:Cx} {pins pl:List (Addr × Obj)} {σ:St} {H:Hp} {s:Shared}
theorem sX {l Ia S:Addr} {xs:List V} {kf:Nat→List Int} {H:Hp} {Q:VK} (hh:X.A.handled=none) (hlI:l≠Ia) (hSI:S≠Ia)
    (hI0:X.s₀.heap.objs.size≤Ia) (hS0:X.s₀.heap.objs.size≤S) (hpI:∀ p∈X.pn++pins,p.1≠Ia) (hpS:∀ p∈X.pn++pins,p.1≠S) (hl:SqL X.K H l xs)
    (cmp:∀ i j k k' u u' pl s (Q:Value→Shared→Prop),xs[i]?=some k→xs[j]?=some k'→RelV k u→RelV k' u'→Inv X (pins++pl) σ H s→Q (.bool (HT.lexLt (kf i) (kf j))) s→wpAny (model X.prog X.w) X.A.in1 (richCompare .Lt u u') Q (fun _ _=>False) s)
    (hQ:∀ x,xs[aG kf (xs.length - 1)]?=some x→Q x H) :
    ∀ (r j:Nat) (s:Shared) (vb:Value) (xb:V) (c:Nat) (oI:Obj),xs.length - (j+1)=r→j+1≤xs.length→Inv X (pins++[(S,seqObj "list" #[vb,vb] c),(Ia,oI)]) σ H s→s.heap.IsListIter Ia l (j+1) →
      xs[aG kf j]?=some xb→RelV xb vb →
      codeAny (model X.prog X.w) X.A (.builtin "min.loop" ⟨[.ref Ia,.none,.ref S],[]⟩) (fun r s'=>match r with|.ok (.ret v)=>EP X pins σ Q v s'|.ok _=>False|.error e=>X.xe e s') s:=by
  have hname:(toString "min" ++ toString ".loop":String) = "min.loop":=by decide
  have unpin:∀ {pl H s},Inv X (pins++pl) σ H s→Inv X pins σ H s:=fun I=>I.pins_of fun p z=>I.pin p (aab _ (aaw _ z));intro r
  induction r with
  | zero =>
    intro j s vb xb c oI hr hj I hit hxb rvb;have hin:j+1=xs.length:=by lia
    have nS:=I.at (pl:=[(S,seqObj "list" #[vb,vb] c),(Ia,oI)]) (.head _);obtain ⟨its,rl,pL,_⟩:=I.list hl;have W:=acp (prog:=X.prog) (w:=X.w) (A:=X.A.in1) hh Ia l hlI its.toArray;have hsz:its.toArray.size=xs.length:=by rw [aah,rl.length]
    refine codeAny_builtin abi ?_;rw [abp aaH _];show wpAny _ X.A.in1 (seqItems? (.ref S) >>= _) _ _ _;refine wpAny_bind (wpAny_seqItems nS rfl ?_);show wpAny _ X.A.in1 (tryCatch (pyNext (.ref Ia)) _ >>= _) _ _ _;refine wpAny_bind (wpAny_tryCatch (W.done _ _ _ ⟨by rw [hsz,← hin];exact hit,pL.isList⟩ fun h' tk' hk'=>?_));have hk1:∀ b o,b≠Ia→s.heap.get? b=some o→h'.get? b=some o:=fun b o hb e=>hk' b o (by simpa using hb) e;have I1:Inv X (pins++[(S,seqObj "list" #[vb,vb] c)]) σ H { s with heap:=h',toks:=tk' }:=I.swap.turn0 hk1 hI0 hpI (fun p hp=>by rw [aaj.mp hp];exact hSI);have hS':=I1.at (pl:=[(S,seqObj "list" #[vb,vb] c)]) (.head _);have s1:=abj h' S (aaU fun _=>(#[]:Array Value));show wpAny _ X.A.in1 (updateSeq S (fun _=>#[]) >>= _) _ _ _;refine wpAny_bind ?_;refine wpAny_updateSeq hS' rfl (wpAny_bind (wpAny_letGo (wpAny_pure ?_)));have I2:=I1.turn0 (pl:=[]) (h':=h'.update S (aaU fun _=>(#[]:Array Value))) (tk:=tk') (fun b ob hb e=>(s1.2 b hb).trans e) hS0 hpS (fun p hp=>by simp at hp);rw [abD] at I2;refine ⟨xb,H,I2,rvb,hQ xb ?_⟩;rw [show xs.length - 1=j by lia];exact hxb
  | succ r ih =>
    intro j s vb xb c oI hr hj I hit hxb rvb;have hlt:j+1 < xs.length:=by lia
    have nS:=I.at (pl:=[(S,seqObj "list" #[vb,vb] c),(Ia,oI)]) (.head _);obtain ⟨its,rl,pL,_⟩:=I.list hl;have W:=acp (prog:=X.prog) (w:=X.w) (A:=X.A.in1) hh Ia l hlI its.toArray;have hsz:its.toArray.size=xs.length:=by rw [aah,rl.length]
    refine codeAny_builtin abi ?_;rw [abp aaH _];show wpAny _ X.A.in1 (seqItems? (.ref S) >>= _) _ _ _;refine wpAny_bind (wpAny_seqItems nS rfl ?_);show wpAny _ X.A.in1 (tryCatch (pyNext (.ref Ia)) _ >>= _) _ _ _;refine wpAny_bind (wpAny_tryCatch (W.item (j+1) _ _ _ (by rw [hsz];exact hlt) ⟨hit,pL.isList⟩ fun v h' tk' hP hst' hk'=>?_));have hk1:∀ b o,b≠Ia→s.heap.get? b=some o→h'.get? b=some o:=fun b o hb e=>hk' b o (by simpa using hb) e;have hv:its[j+1]?=some v:=by simpa using hP
    obtain ⟨x,hx,rx⟩:∃ x,xs[j+1]?=some x∧RelV x v:=by
      have hxx:xs[j+1]?=some xs[j+1]:=aac hlt;obtain ⟨u,hu,ru⟩:=rl.get hxx;rw [hv] at hu;cases hu;exact ⟨_,hxx,ru⟩
    obtain ⟨oI',hoI',hoc,hod⟩:=id hst'.1;have I1:Inv X (pins++[(S,seqObj "list" #[vb,vb] c),(Ia,oI')]) σ H { s with heap:=h',toks:=tk' } :=
      (I.swap.turn1 hk1 hoI' (fun v z=>by rw [hod] at z;cases z) hI0 hpI (fun p hp=>by rw [aaj.mp hp];exact hSI)).swap
    have nS2:=I1.at (pl:=[(S,seqObj "list" #[vb,vb] c),(Ia,oI')]) (.head _);have nI2:=I1.at (pl:=[(S,seqObj "list" #[vb,vb] c),(Ia,oI')]) (.tail _ (.head _));show wpAny _ X.A.in1 (tryCatch (holding [v,v] (richCompare .Lt v vb >>= _)) _ >>= _) _ _ _;refine wpAny_bind (wpAny_tryCatch (wpAny_holding (wpAny_bind (wpAny_mono (cmp (j+1) (aG kf j) x xb v vb _ _ (fun z s'=>z=.bool (HT.lexLt (kf (j+1)) (kf (aG kf j)))∧s'={ s with heap:=h',toks:=tk' }) hx hxb rx rvb I1 ⟨rfl,rfl⟩) (fun z s3 hz=>?_) fun _ _ hF=>hF.elim))));obtain ⟨rfl,rfl⟩:=hz;refine wpAny_bind (wpAny_holding (wpAny_truthy_bool ?_));refine wpAny_bind (wpAny_letGo (wpAny_pure ?_));by_cases hb':HT.lexLt (kf (j+1)) (kf (aG kf j))=true
    · have s1:=abj h' S (aaU fun _=>#[v,v]);obtain ⟨c2,hc2⟩:∃ c2,(h'.update S (aaU fun _=>#[v,v])).get? S=some (seqObj "list" #[v,v] c2):=⟨_,get?_update_seq nS2 fun _=>#[v,v]⟩
      simp only [hb',if_true];refine wpAny_bind ?_;refine wpAny_updateSeq nS2 rfl (wpAny_bind (wpAny_letGo ?_));rw [hname];have eb:aG kf (j+1)=j+1:=by conv=>lhs;unfold aG;rw [if_pos hb']
      have I3:Inv X (pins++[(S,seqObj "list" #[v,v] c2),(Ia,oI')]) σ H { s with heap:=h'.update S (aaU fun _=>#[v,v]),toks:=tk' } :=
        I1.turn1 (fun b ob hb e=>(s1.2 b hb).trans e) hc2 (fun v z=>by cases z) hS0 hpS (fun p hp=>by rw [aaj.mp hp];exact hSI.symm)
      refine wpAny_pure ⟨plainId_quiet aaH _,ih (j+1) _ v x c2 oI' (by lia) hlt I3 ⟨oI',(s1.2 Ia hSI.symm).trans nI2,hoc,hod⟩ (by rw [eb];exact hx) rx⟩
    · simp only [hb',ab9,if_false];refine wpAny_bind (wpAny_letGo ?_);rw [hname];have eb:aG kf (j+1)=aG kf j:=by conv=>lhs;unfold aG;rw [if_neg hb']
      refine wpAny_pure ⟨plainId_quiet aaH _,ih (j+1) _ vb xb c oI' (by lia) hlt I1 ⟨oI',nI2,hoc,hod⟩ (by rw [eb];exact hxb) rvb⟩
theorem zd {l:Addr} {xs:List V} {kf:Nat→List Int} {Q:VK} (hh:X.A.handled=none) (I:Inv X pins σ H s) (hne:0 < xs.length)
    (hl:SqL X.K H l xs)
    (cmp:∀ i j k k' u u' pl s (Q:Value→Shared→Prop),xs[i]?=some k→xs[j]?=some k'→RelV k u→RelV k' u'→Inv X (pins++pl) σ H s→Q (.bool (HT.lexLt (kf i) (kf j))) s→wpAny (model X.prog X.w) X.A.in1 (richCompare .Lt u u') Q (fun _ _=>False) s)
    (hQ:∀ x,xs[aG kf (xs.length - 1)]?=some x→Q x H) :
    wpAny (model X.prog X.w) X.A (call (.builtin "min") [.ref l]) (EP X pins σ Q) X.xe s:=by
  have hname:(toString "min" ++ toString ".loop":String) = "min.loop":=by decide
  obtain ⟨its,rl,pL,_⟩:=I.list hl;have hls:=pL.isList;obtain ⟨ol,hol,_⟩:=id hls;have hll:l < s.heap.objs.size:=aar hol;refine call_function_tree PySem.F.kind_min PySem.F.plain_min PySem.F.entry_min (PySem.F.args_min1 _) ?_;show wpAny _ X.A.in1 (abt "min" ["key","default"] 0 ⟨[],[]⟩ >>= _) _ _ s;refine wpAny_bind (wpAny_of_eq (show abt "min" ["key","default"] 0 ⟨[],[]⟩=pure [none,none] from rfl) ?_);refine wpAny_bind (wpAny_pure ?_);refine wpAny_bind (wpAny_pyIter_list hls ?_);refine wpAny_bind (wpAny_newList ?_ (aaN _));rw [hname];have hS:(s.heap.push { cls:=.type "list_iterator",data:=.fields #[.ref l,.int 0 0] }).objs.size=s.heap.objs.size+1:=size_push' ..;have hlI:l≠s.heap.objs.size:=aaz hll;have hSI:(s.heap.push { cls:=.type "list_iterator",data:=.fields #[.ref l,.int 0 0] }).objs.size≠s.heap.objs.size:=by rw [hS];exact aaT (abM _)
  have gI:((s.heap.push { cls:=.type "list_iterator",data:=.fields #[.ref l,.int 0 0] }).push (seqObj "list" #[] 0)).get? s.heap.objs.size=some { cls:=.type "list_iterator",data:=.fields #[.ref l,.int 0 0] } :=
    aad _ (aaq _ rfl)
  have gS:((s.heap.push { cls:=.type "list_iterator",data:=.fields #[.ref l,.int 0 0] }).push (seqObj "list" #[] 0)).get? (s.heap.push { cls:=.type "list_iterator",data:=.fields #[.ref l,.int 0 0] }).objs.size=some (seqObj "list" #[] 0):=aaq _ rfl;have kk:∀ b u,s.heap.get? b=some u→((s.heap.push { cls:=.type "list_iterator",data:=.fields #[.ref l,.int 0 0] }).push (seqObj "list" #[] 0)).get? b=some u:=fun b u e=>aad _ (aad _ e);have hI0:X.s₀.heap.objs.size≤s.heap.objs.size:=I.sz;have hS0:X.s₀.heap.objs.size≤(s.heap.push { cls:=.type "list_iterator",data:=.fields #[.ref l,.int 0 0] }).objs.size:=by rw [hS];exact aco I.sz
  have hpI:∀ p∈X.pn++pins,p.1≠s.heap.objs.size:=fun p hp=>aaz (aar (I.pin p hp).1);have hpS:∀ p∈X.pn++pins,p.1≠(s.heap.push { cls:=.type "list_iterator",data:=.fields #[.ref l,.int 0 0] }).objs.size:=fun p hp=>by rw [hS];exact aaz (abG (aar (I.pin p hp).1))
  have I0:Inv X (pins++[((s.heap.push { cls:=.type "list_iterator",data:=.fields #[.ref l,.int 0 0] }).objs.size,seqObj "list" #[] 0),(s.heap.objs.size,{ cls:=.type "list_iterator",data:=.fields #[.ref l,.int 0 0] })]) σ H
      { s with heap:=(s.heap.push { cls:=.type "list_iterator",data:=.fields #[.ref l,.int 0 0] }).push (seqObj "list" #[] 0),toks:=s.toks }:=by
    refine (I.kept (t':=s.toks) kk).pins_of fun p hp=>?_;rcases aan.mp hp with hp|hp
    · exact (I.kept (t':=s.toks) kk).pin p (aab _ hp)
    · rcases aam.mp hp with rfl|hp
      · refine ⟨gS,I.hok.fresh (by rw [hS];exact acn _),?_,I.nofs (by rw [hS];exact acn _),fun v z=>by cases z⟩;rw [hS];exact aaT (abG I.lt)
      · rw [aaj.mp hp];exact ⟨gI,I.hok.fresh (aag _),aaT I.lt,I.nofs (aag _),fun v z=>by cases z⟩
  refine wpAny_pure ⟨plainId_quiet aaH _,?_⟩;have W:=acp (prog:=X.prog) (w:=X.w) (A:=X.A.in1) hh s.heap.objs.size l hlI its.toArray;have hsz:its.toArray.size=xs.length:=by rw [aah,rl.length]
  refine codeAny_builtin abi ?_;rw [abp aaH _];show wpAny _ X.A.in1 (seqItems? (.ref _) >>= _) _ _ _;refine wpAny_bind (wpAny_seqItems gS rfl ?_);show wpAny _ X.A.in1 (tryCatch (pyNext (.ref s.heap.objs.size)) _ >>= _) _ _ _;refine wpAny_bind (wpAny_tryCatch (W.item 0 _ _ _ (by rw [hsz];exact hne) ⟨⟨_,gI,rfl,rfl⟩,hls.at fun o e=>kk _ o e⟩ fun v h' tk' hP hst' hk'=>?_));have hv:its[0]?=some v:=by simpa using hP
  obtain ⟨x,hx,rx⟩:∃ x,xs[0]?=some x∧RelV x v:=by
    have hxx:xs[0]?=some xs[0]:=aac hne;obtain ⟨u,hu,ru⟩:=rl.get hxx;rw [hv] at hu;cases hu;exact ⟨_,hxx,ru⟩
  obtain ⟨oI',hoI',hoc,hod⟩:=id hst'.1;have I1:=(I0.swap.turn1 (h':=h') (tk:=tk') (fun b ob hb e=>hk' b ob (by simpa using hb) e) hoI' (fun v z=>by rw [hod] at z;cases z) hI0 hpI (fun p hp=>by rw [aaj.mp hp];exact hSI)).swap;generalize (s.heap.push { cls:=.type "list_iterator",data:=.fields #[.ref l,.int 0 0] }).objs.size=S at hSI hS0 hpS I1 ⊢;generalize s.heap.objs.size=Ia at hlI hSI hI0 hpI I1 hst' hoI' ⊢;have nS2:=I1.at (pl:=[(S,seqObj "list" #[] 0),(Ia,oI')]) (.head _);have nI2:=I1.at (pl:=[(S,seqObj "list" #[] 0),(Ia,oI')]) (.tail _ (.head _));have s1:=abj h' S (aaU fun _=>#[v,v]);obtain ⟨c2,hc2⟩:∃ c2,(h'.update S (aaU fun _=>#[v,v])).get? S=some (seqObj "list" #[v,v] c2):=⟨_,get?_update_seq nS2 fun _=>#[v,v]⟩
  show wpAny _ X.A.in1 (updateSeq S (fun _=>#[v,v]) >>= _) _ _ _;refine wpAny_bind ?_;refine wpAny_updateSeq nS2 rfl ?_;rw [hname];have I3:Inv X (pins++[(S,seqObj "list" #[v,v] c2),(Ia,oI')]) σ H { s with heap:=h'.update S (aaU fun _=>#[v,v]),toks:=tk' } :=
    I1.turn1 (fun b ob hb e=>(s1.2 b hb).trans e) hc2 (fun v z=>by cases z) hS0 hpS (fun p hp=>by rw [aaj.mp hp];exact hSI.symm)
  refine wpAny_pure ⟨plainId_quiet aaH _,?_⟩;exact sX hh hlI hSI hI0 hS0 hpI hpS hl cmp hQ _ 0 _ v x c2 oI' rfl hne I3 ⟨oI',(s1.2 Ia hSI.symm).trans nI2,hoc,hod⟩ hx rx
end
section
variable {X:Cx}
def gR (p:Int × Int):List Int:=[p.1,p.2]
theorem tJ (hr:Room 1 X.A):eW X (.builtin "min") (fun xs H Q=>∃ l us ps,xs=[.ref l]∧H l=some (.lst us)∧PairsIn H ps us∧0 < us.length∧∀ x,us[aG (bS gR ps) (us.length - 1)]?=some x→Q x H):=by
  intro pins s σ H xs us0 Q I r h;obtain ⟨l,us,ps,rfl,el,hps,hne,q⟩:=h;obtain ⟨u1,rfl,ru⟩:∃ u,us0=[u]∧RelV (.ref l) u:=by
    cases r with
    | cons a b=>cases b;exact ⟨_,rfl,a⟩
  cases ru;refine zd (kf:=bS gR ps) hr.hd I hne (SqL.of el) (fun i j k k' u u' pl s3 Q' hk hk' rk rk' I3 hq=>?_) q;obtain ⟨p,hp,a,rfl,ea⟩:=bu hps hk;obtain ⟨p',hp',a',rfl,ea'⟩:=bu hps hk';have e1:bS gR ps i=[p.1,p.2]:=by unfold bS;rw [hp];rfl
  have e2:bS gR ps j=[p'.1,p'.2]:=by unfold bS;rw [hp'];rfl
  rw [e1,e2] at hq;cases rk;cases rk';obtain ⟨its,r1,p1,_⟩:=I3.tuple (SqT.of ea);obtain ⟨its2,r2,p2,_⟩:=I3.tuple (SqT.of ea');exact HT.lt_tupInts p1 p2 (fJ (ns:=[p.1,p.2]) r1) (fJ (ns:=[p'.1,p'.2]) r2) hr.in1.units0 hq
end
end L2
namespace L2
open PySem PySem.Spec PyProof.Rows PySem.W
structure FunC (K:aaa) (x qual:Str) (st:Stmt) (f:Addr) (fd:FuncData) (c:Addr):Prop where
  ex:∃ (oc:Value) (od:Option Addr) (kV doc pm:Value) (an:Option Addr) (ct:Value) (osl:Array (Option Value)),
    fd=aaW x qual (bw st) (a9 st) (am st) .none kV doc pm an (.ref c) ct∧K.lookup f=some ⟨oc,od,.func fd,osl⟩∧abf K (.ref c) qual=true
  kp:aaZ K (.ref f)=true
section
variable {P:Program} {w:World} {K:aaa} {mg:Str→Option Value} {base:Heap}
theorem FunC.ok {x qual:Str} {st:Stmt} {f:Addr} {fd:FuncData} {N ps:List Str} {k:Nat} {sp:Sp} {c:Addr} (F:FunC K x qual st f fd c) (S:FnScope N ps (am st)) (len:∀ vs H Q E,sp vs H Q E→vs.length=ps.length)
    (hbody:∀ (A:Around) (outer:List Env) (s:Shared) (H:Hp) (vs:List V) (Q:VK) (E:XK),Room k (A.deeper (envOfC qual (am st) s.heap.objs.size f (.ref c)))→sp vs H Q E →
      ∃ t,PSs (kW CX0 P w K mg base N qual (am st) f (.ref c) A outer s H E).nox (a9 st) t∧t { nx:=fun _ H'=>Q .non H',rt:=Q } (start N vs) H):FnOk P w K mg base CX0 (k+1) f fd ps sp:=by
  obtain ⟨oc,od,kV,doc,pm,an,ct,osl,rfl,lk,hcd⟩:=F.ex;refine uS lk hcd S len fun A outer s H vs Q E hr hsp=>?_;obtain ⟨t,h,q⟩:=hbody A outer s H vs Q E hr hsp;exact ⟨t,h.nox,q⟩
theorem wc {x qual:Str} {st:Stmt} {f c:Addr} {oc:Value} {od an:Option Addr} {osl:Array (Option Value)} {kV doc pm ct:Value} (l:K.lookup f=some ⟨oc,od,.func (aaW x qual (bw st) (a9 st) (am st) .none kV doc pm an (.ref c) ct),osl⟩)
    (h:abf K (.ref c) qual=true) (k:aaZ K (.ref f)=true):FunC K x qual st f (aaW x qual (bw st) (a9 st) (am st) .none kV doc pm an (.ref c) ct) c:=⟨⟨oc,od,kV,doc,pm,an,ct,osl,rfl,l,h⟩,k⟩
end
open PySem PySem.Spec PyProof.Rows
theorem tf {T c:Addr} {qual:Str} {P:Program} {w:World} {K:aaa} {mg mb:Str→Option Value} {CX:CXT} {k:Nat} {fa a:Addr} {fd:FuncData} {x:Str} {sp:Sp} {s₁:Shared} {vs:List Value} {ns:List Int}
    (KX:K.In s₁.heap) (hns:s₁.heap.Ns mainGlobals mg) (hb:s₁.heap.Ns builtinsNs mb) (hbb:∀ x:Str,x ≠ "__name__"→mb x=bootBuiltins x) (hlim:s₁.heap.NoLimit) (hsm:∃ mm,s₁.heap.Ns sysModules mm) (hg:s₁.gens=#[])
    (ha:s₁.heap.get? a=some { cls:=.type "list",data:=.seq vs.toArray }) (hi:IntsAre vs ns) (hl:ns.length≤sizeLine) (hr:Room k callerA)
    (hT:s₁.heap.get? T=some (PySem.W.tabObj #[])) (hTc:s₁.heap.TableAt c T #[]) (hKT:K.lookup T=none) (hBT:s₁.heap.BuiltinsAt mg T)
    (F:∀ base:Heap,K.In base→base.Ns mainGlobals mg→base.BuiltinsAt mg T→FnOk P w K mg base CX k fa fd [x] sp) (hbind:∀ (s:Shared) (u:Value),BindsTo s fd ⟨[u],[]⟩ [(x,u)])
    (hsp:∀ H:Hp,LTab T qual H #[]→SqL K H a (ns.map V.int)→sp [.ref a] H (fun v _=>v=.bl true) fun _ _ _=>False)
    (hCX:∀ H e s',CX [] H s₁ (fun _ _ _=>False) e s'→False) :
    codeAny (model P w) callerA (.call (.ref fa) ⟨[.ref a],[]⟩) (fun r s'=>r=.ok (.ret (.bool true))∧OldK s₁.heap s'.heap∧s'.os=s₁.os∧AllBare s'.gens) s₁:=by
  have rv:=l_ hi;have lenV:=hi.length;have nTa:T≠a:=fun e=>by rw [e,ha] at hT;cases hT
  have core:∀ H0:Hp,zo H0→SqL K H0 a (ns.map V.int)→HOk P w H0 s₁.heap→(∀ b,H0 b≠none→b=a)→(H0 a≠none→K.lookup a=none) →
      codeAny (model P w) callerA (.call (.ref fa) ⟨[.ref a],[]⟩) (fun r s'=>r=.ok (.ret (.bool true))∧OldK s₁.heap s'.heap∧s'.os=s₁.os∧AllBare s'.gens) s₁:=by
    intro H0 hO hS0 hok0 hA0 hK0;have h0T:H0 T=none:=by
      cases q:H0 T with
      | none=>rfl
      | some u=>exact absurd (hA0 T (by rw [q];simp)) nTa
    obtain ⟨H,eH⟩:∃ H:Hp,H=upd H0 T (.tbl #[]):=⟨_,rfl⟩
    have eT:H T=some (.tbl #[]):=by rw [eH,af]
    have eN:∀ b,b≠T→H b=H0 b:=fun b hb=>by rw [eH,aq hb]
    have eS:∀ b o,H0 b=some o→H b=some o:=fun b o e=>by rw [eN b (aF e h0T)];exact e
    have hok:HOk P w H s₁.heap:=fun b o e=>by
      by_cases hb:b=T
      · subst hb;rw [eT] at e;cases e;exact hT
      · rw [eN b hb] at e;exact (hok0 b o e).stay (fun _ _ _ q=>q) (fun d q=>eS d _ q) fun d xs q=>eS d _ q
    have hS:SqL K H a (ns.map V.int):=by
      rcases hS0 with (h|⟨o,h⟩)|h
      · exact .inl (.inl (eS _ _ h))
      · exact .inl (.inr ⟨o,eS _ _ h⟩)
      · exact .inr h
    have hA:∀ b,H b≠none→b=a∨b=T:=fun b h=>by
      by_cases hb:b=T
      · exact .inr hb
      · rw [eN b hb] at h;exact .inl (hA0 b h)
    have base_of:∀ {b:Addr} {o:Obj},s₁.heap.get? b=some o→H b=none→(l4 s₁.heap H).get? b=some o:=fun e n=>uL e n;have noB:∀ {b:Addr} {o:Obj},s₁.heap.get? b=some o→o.cls≠.none→(∀ its n,o.data≠.seq its n)→H b=none:=fun {b o} e d1 d2=>by
      cases q:H b with
      | none=>rfl
      | some u =>
        rcases hA b (by rw [q];simp) with z|z
        · subst z;rw [ha] at e;cases e;exact absurd rfl (d2 _ _)
        · subst z;rw [hT] at e;cases e;exact absurd rfl d1
    have noA:∀ {b:Addr} {o:Obj} {es:Array DictEntry} {ep:Nat},s₁.heap.get? b=some o→o.data=.dict es ep→H b=none:=fun {b o es ep} e d=>by
      cases q:H b with
      | none=>rfl
      | some u =>
        rcases hA b (by rw [q];simp) with z|z
        · subst z;rw [ha] at e;cases e;cases d
        · subst z;rw [hT] at e;cases e;cases d
    have nsK:∀ {b:Addr} {m:Str→Option Value},s₁.heap.Ns b m→(l4 s₁.heap H).Ns b m:=fun {b m} ⟨o,es,ep,e,d,r⟩=>⟨o,es,ep,base_of e (noA e d),d,r⟩
    have hKb:K.In (l4 s₁.heap H):=fun b o e=>base_of (KX b o e) (by
      cases q:H b with
      | none=>rfl
      | some u =>
        rcases hA b (by rw [q];simp) with z|z
        · subst z;rw [eN b nTa.symm] at q;rw [hK0 (by rw [q];simp)] at e;cases e
        · subst z;rw [hKT] at e;cases e)
    have hBb:(l4 s₁.heap H).BuiltinsAt mg T:=by
      obtain ⟨bm,ob,b1,b2,b3,b4,b5,b6,b7,b8⟩:=hBT;exact ⟨bm,ob,b1,b2,b3,b4,base_of b5 (noB b5 (by rw [b6];simp) (fun its n z=>by rw [b8] at z;cases z)),b6,b7,b8⟩
    have hM:Mod K mg (l4 s₁.heap H):=⟨hKb,nsK hns,⟨mb,nsK hb,hbb⟩,let ⟨mc,h1,h2⟩:=hlim;⟨mc,nsK h1,h2⟩,let ⟨mm,h1⟩:=hsm;⟨mm,nsK h1⟩⟩
    have e0:Env0 P w K mg (l4 s₁.heap H) callerA [] s₁ H:=⟨rfl,hM,fun b o e=>vU e,Nat.le_of_eq (tE _ _),trivial,fun b hb=>absurd (show b∈([]:List Addr) from hb) (by simp),hok,.of_eq hg⟩
    have hL:LTab T qual H #[]:=⟨eT,trivial,fun pos cv z=>by cases z⟩
    refine codeAny_mono ((F _ hKb (nsK hns) hBb).run callerA [] s₁ H ⟨[.ref a],[]⟩ [.ref a] [.ref a] _ _ hr e0 (hbind s₁ (.ref a)) (.cons rfl .nil) (hsp H hL hS)) fun r s' h=>?_;cases r with
    | error e=>exact (hCX H e s' h).elim
    | ok fl =>
      cases fl with
      | next=>exact abq h
      | brk=>exact abq h
      | cont=>exact abq h
      | ret u =>
        obtain ⟨v,H',os,bare,un,hok',r',q⟩:=h;have q':v=.bl true:=q;subst q';obtain rfl:u=Value.bool true:=r';refine ⟨rfl,⟨fun b o e=>?_,fun b o e=>un.there b o e (by simp)⟩,os,bare⟩;by_cases hbT:b=T
        · subst hbT;rw [hT] at e;cases e;obtain ⟨more,e2⟩:=un.tbls b #[] eT;have e3:s'.heap.get? b=some (PySem.W.tabObj (#[]++more)):=hok' b _ e2;exact .inr (.inl ⟨hTc.isCodeTable,rfl,#[],more,rfl,e3⟩)
        · cases q:H b with
          | none=>exact .inl (un.keep b o e q (by intro z;exact absurd (show b∈([]:List Addr) from z) (by simp)) (by simp))
          | some u =>
            rw [eN b hbT] at q;rcases hO b with z|⟨ob,xs,z⟩
            · rw [q] at z;cases z
            · have z2:=un.frzs b ob _ (eS _ _ z);obtain ⟨e1,_⟩:=hok0 b _ z;obtain ⟨e2,_⟩:=hok' b _ z2;rw [e] at e1;cases e1;exact .inl e2
  cases hk:K.lookup a with
  | some o =>
    have e:=KX a o hk;rw [ha] at e;cases e;refine core (fun _=>none) (fun _=>.inl rfl) (.inr ⟨_,vs.toArray,_,hk,rfl,rfl,rfl,by rw [aah,lenV];exact hl,by simpa using rv⟩) (fun b u z=>by have z':(none:Option HO)=some u:=z;cases z') (fun b z=>absurd rfl z) fun z=>absurd rfl z
  | none =>
    refine core (fun b=>if b=a then some (.frz { cls:=.type "list",data:=.seq vs.toArray } (.lst (ns.map V.int))) else none) (fun b=>?_) (.inl (.inr ⟨{ cls:=.type "list",data:=.seq vs.toArray },if_pos rfl⟩)) (fun b u z=>?_) (fun b z=>?_) fun _=>hk
    · by_cases hb:b=a
      · exact .inr ⟨_,_,if_pos hb⟩
      · exact .inl (if_neg hb)
    · by_cases hb:b=a
      · have z':=(if_pos hb).symm.trans z;cases z';subst hb;exact ⟨ha,by rw [aaf];exact hl,vs,_,rv,ha⟩
      · have z':=(if_neg hb).symm.trans z;cases z'
    · by_cases hb:b=a
      · exact hb
      · exact absurd (if_neg hb) z
theorem walk_ofT {T c:Addr} {qual:Str} {l:PySem.W.OpenLaw} {n k:Nat} {q:Program} {loose:List Str} {XP:(Str→Option Value)→Heap→Prop} {YP:World→Heap→Prop} {d:DefRec} {K:Params→aaa} {CX:World→CXT} {sp:World→Sp} {x:Str}
    (hn:l.most=some n) (hn2:n≤sizeLine) (hdf:d.params.defaults=[]) (hr:Room k callerA) (hi:PyProof.Rows.importsNone q=true)
    (hY:∀ (w:World) (h:Heap),YP w h→(K w.params).In h∧h.get? T=some (PySem.W.tabObj #[])) (hC:∀ w:World,PySem.W.codeHdIn (K w.params) c T=true) (hKT:∀ w:World,(K w.params).lookup T=none)
    (F:∀ (w:World) (mg:Str→Option Value) (fa:Addr) (h:Heap),(K w.params).In h→h.Ns mainGlobals mg→mg d.name=some (.ref fa) →
      ∃ fd:FuncData,(∀ (s:Shared) (u:Value),BindsTo s fd ⟨[u],[]⟩ [(x,u)]) ∧
        ∀ base:Heap,(K w.params).In base→base.Ns mainGlobals mg→base.BuiltinsAt mg T→FnOk l.prog w (K w.params) mg base (CX w) k fa fd [x] (sp w))
    (hsp:∀ (w:World) (H:Hp) (a:Addr) (ns:List Int),ns.length≤n→LTab T qual H #[]→SqL (K w.params) H a (ns.map V.int)→sp w [.ref a] H (fun v _=>v=.bl true) fun _ _ _=>False)
    (hCX:∀ (w:World) (H:Hp) (s:Shared) (e:Value) (s':Shared),CX w [] H s (fun _ _ _=>False) e s'→False) :
    PySem.W.WalkO q loose XP YP l.row.toRowW d [] (fun f vs=>PySem.call f vs):=by
  refine Att.attach_call hn hdf fun w s₀ s₁ mg mb fa o pm cd doc a vs ns G Y ho hd hcd hmg hobj hints hlen hg=>?_;obtain ⟨KX,hT⟩:=hY w _ Y;obtain ⟨fd,hb,hF⟩:=F w mg fa _ KX G.T.g hmg;have hTc:s₁.heap.TableAt c T #[]:=(PySem.W.codeHd_of_K KX (hC w)).tab hT;obtain ⟨bm,ob,b1,b2,b3,b4,b5,b6⟩:=G.T.bmain;have hBT:s₁.heap.BuiltinsAt mg T:=by
    refine ⟨bm,ob,b1,b2,fun z=>?_,fun z=>?_,b3,b4,b5,b6⟩
    · obtain ⟨o',es,ep,e,hd',_⟩:=G.T.g;rw [z,e] at b3;cases b3;rw [hd'] at b6;cases b6
    · rw [z,hT] at b3;cases b3;cases b4
  exact tf (qual:=qual) KX G.T.g G.T.b G.T.builtins G.T.nolimit (let ⟨mm,h1,_⟩:=(G.T.seer hi).mods;⟨mm,h1⟩) hg hobj hints (aaV hlen hn2) hr hT hTc (hKT w) hBT hF hb (fun H hL hS=>hsp w H a ns hlen hL hS) fun H e s'=>hCX w H s₁ e s'
open PySem PySem.Spec PyProof.Rows
theorem xy {J:It} {n:Nat} {Kp:Hp→Prop} {item:Nat→V→Hp→Hp→Prop} (T:Trn J n Kp item) {cap:List (Option Nat)} {g:TG} {tt:TT} {wi2:TI} {g2:TG} {tt2:TT} {wi3:TI} {g3:TG} {tt3:TT} {te:TE} {σ:St} {H:Hp} {Q:VK} (Pv:Nat→List V→Hp→Prop) (h0:Pv 0 [] H) (hk:∀ i ys H,i≤n→Pv i ys H→Kp H)
    (hs:∀ i x ys H H',i < n→item i x H H'→Pv i ys H→∀ Nx:List V→Hp→Prop,(∀ ys' H2,Pv (i+1) ys' H2→Nx ys' H2)→g x (b_ cap σ) H' fun σ2 H2=>tt σ2 H2 fun b H3=>if b=true then wi2 σ2 H3 (vw g2 tt2 wi3 g3 tt3 te ys σ2 Nx) else Nx ys H3)
    (hd:∀ ys H,Pv n ys H→∀ p,H p=none→Q (.ref p) (upd H p (.lst ys))):wR cap g tt wi2 g2 tt2 wi3 g3 tt3 te σ Q J H:=by
  refine ⟨fun i m ys H=>m=n - i∧i≤n∧Pv i ys H,⟨n,by simp,aaN _,h0⟩,?_⟩;rintro i m ys H ⟨rfl,hi,p⟩;by_cases hlt:i < n
  · refine .inr ⟨T.go i H hlt (hk i ys H hi p),fun x H' y=>?_⟩;exact hs i x ys H H' hlt (T.yld i H x H' hlt (hk i ys H hi p) y) p (fun ys' H4=>∃ m',m' < n - i∧m'=n - (i+1)∧i+1≤n∧Pv (i+1) ys' H4) fun ys' H2 h=>⟨_,by lia,rfl,hlt,h⟩
  · have e:i=n:=by lia
    subst e;exact .inl ⟨T.stop H (hk _ ys H hi p),hd ys H p⟩
theorem vZ {J:It} {n:Nat} {Kp:Hp→Prop} {item:Nat→V→Hp→Hp→Prop} (T:Trn J n Kp item) {g2:TG} {tt2:TT} {wi3:TI} {g3:TG} {tt3:TT} {te:TE} {ys:List V} {σ:St} {H:Hp} {Fin:List V→Hp→Prop} (Pv:Nat→List V→St→Hp→Prop) (h0:Pv 0 ys σ H) (hk:∀ i ys σ H,i≤n→Pv i ys σ H→Kp H)
    (hs:∀ i x ys σ H H',i < n→item i x H H'→Pv i ys σ H→∀ Nx:List V→St→Hp→Prop,(∀ ys' σ' H2,Pv (i+1) ys' σ' H2→Nx ys' σ' H2)→g2 x σ H' fun σ3 H5=>tt2 σ3 H5 fun b H6=>if b=true then wi3 σ3 H6 (ot g3 tt3 te ys σ3 Nx) else Nx ys σ3 H6)
    (hd:∀ ys σ H,Pv n ys σ H→Fin ys H):vw g2 tt2 wi3 g3 tt3 te ys σ Fin J H:=by
  refine ⟨fun i m ys σ H=>m=n - i∧i≤n∧Pv i ys σ H,⟨n,by simp,aaN _,h0⟩,?_⟩;rintro i m ys σ H ⟨rfl,hi,p⟩;by_cases hlt:i < n
  · refine .inr ⟨T.go i H hlt (hk i ys σ H hi p),fun x H' y=>?_⟩;exact hs i x ys σ H H' hlt (T.yld i H x H' hlt (hk i ys σ H hi p) y) p (fun ys' σ' H4=>∃ m',m' < n - i∧m'=n - (i+1)∧i+1≤n∧Pv (i+1) ys' σ' H4) fun ys' σ' H2 h=>⟨_,by lia,rfl,hlt,h⟩
  · have e:i=n:=by lia
    subst e;exact .inl ⟨T.stop H (hk _ ys σ H hi p),hd ys σ H p⟩
theorem vY {J:It} {n:Nat} {Kp:Hp→Prop} {item:Nat→V→Hp→Hp→Prop} (T:Trn J n Kp item) {g2:TG} {tt2:TT} {te:TE} {ys:List V} {σ:St} {H:Hp} {Fin:List V→St→Hp→Prop} (Pv:Nat→List V→St→Hp→Prop) (h0:Pv 0 ys σ H) (hk:∀ i ys σ H,i≤n→Pv i ys σ H→Kp H∧ys.length < sizeLine)
    (hs:∀ i x ys σ H H',i < n→item i x H H'→Pv i ys σ H→∀ Nx:List V→St→Hp→Prop,(∀ ys' σ' H2,Pv (i+1) ys' σ' H2→Nx ys' σ' H2)→g2 x σ H' fun σ3 H5=>tt2 σ3 H5 fun b H6=>if b=true then te σ3 H6 fun v H7=>Nx (ys++[v]) σ3 H7 else Nx ys σ3 H6)
    (hd:∀ ys σ H,Pv n ys σ H→Fin ys σ H):ot g2 tt2 te ys σ Fin J H:=by
  refine ⟨fun i m ys σ H=>m=n - i∧i≤n∧Pv i ys σ H,⟨n,by simp,aaN _,h0⟩,?_⟩;rintro i m ys σ H ⟨rfl,hi,p⟩;by_cases hlt:i < n
  · refine .inr ⟨T.go i H hlt (hk i ys σ H hi p).1,(hk i ys σ H hi p).2,fun x H' y=>?_⟩;exact hs i x ys σ H H' hlt (T.yld i H x H' hlt (hk i ys σ H hi p).1 y) p (fun ys' σ' H4=>∃ m',m' < n - i∧m'=n - (i+1)∧i+1≤n∧Pv (i+1) ys' σ' H4) fun ys' σ' H2 h=>⟨_,by lia,rfl,hlt,h⟩
  · have e:i=n:=by lia
    subst e;exact .inl ⟨T.stop H (hk _ ys σ H hi p).1,hd ys σ H p⟩
open PySem PySem.Spec PyProof.Rows
def yi (K:aaa) (neg:Bool):R2:=fun x y H Q=>∃ (p:Int × Int) (l:Addr) (us:List V) (ps:List (Int × Int)),PairIn H p x∧y=.ref l∧(SqL K H l us∨SqT K H l us)∧PairsIn H ps us∧Q (.bl (if neg then !decide (p∈ps) else decide (p∈ps))) H
theorem qt {X:Cx} {K:aaa} (hK:X.K=K) (hu:X.A.units+64 < cLine):OpR X (compareOp .NotIn) (yi K true):=by
  intro pins s σ H x y v u Q I rx ry h;obtain ⟨p,l,us,ps,hp,e,hq,hps,q⟩:=h;rcases hq with hq|hq
  · exact my hK hu pins s σ H x y v u Q I rx ry ⟨p,l,us,ps,hp,e,hq,hps,q⟩
  · subst hK;subst e;cases ry;obtain ⟨its,r,pl,hz⟩:=I.tuple hq;obtain ⟨f,hf,ha⟩:=jh (p:=p) I hps r;refine SeqAt.notIn_tupleAt f pl (fun w hw=>?_) ⟨.bl _,H,I,rfl,?_⟩
    · obtain ⟨q',v',h1,h2,h3⟩:=hf w (by simpa using hw);rw [h3];exact (EqR.pair (K:=X.K) (n:=0) h1 hp).at I h2 rx (by show X.A.units+1+(0+1) < cLine;lia)
    · rw [show its.toArray.any f=its.any f by simp,ha];exact q
open PySem PySem.Spec PyProof.Rows
section
variable {prog:Program} {w:World} {A:Around} {E:Value→Shared→Prop} {s:Shared}
theorem nQ (d:Addr) (hd:(d == sysModules)=false) :
    MeetsIn prog w (Builtin.«dict.items» ⟨[.ref d],[]⟩) (fun _ R s=>s.TypeIs (.ref d) "dict" ∧
      R (.ok (.ret (.ref s.heap.objs.size))) { s with heap:=s.heap.push { cls:=.type "dict_items",data:=.fields #[.ref d] } }) :=
  .of_wp fun A R s ⟨hm,h⟩=>by
    unfold Builtin.«dict.items»;refine wpAny_bind ?_;unfold Builtin.Dict.noArgs;refine wpAny_bind (wpAny_notOrdered_dict hm ?_);show wpAny _ _ (pure d) _ _ s;refine wpAny_pure ?_;show wpAny _ _ (Builtin.Dict.showsAll d >>= _) _ _ s;unfold Builtin.Dict.showsAll;rw [if_neg (by rw [hd];exact aal)];refine wpAny_bind (wpAny_pure ?_);exact wpAny_bind (wpAny_newObj_type (wpAny_pure ⟨_,rfl,h⟩))
theorem qK {v d:Addr} {o:Obj} {es:Array DictEntry} {ep:Nat} {Q:Value→Shared→Prop} (hv:s.heap.IsItemsView v d) (ho:s.heap.get? d=some o) (hdat:o.data=.dict es ep)
    (hQ:Q (.ref s.heap.objs.size) { s with heap:=s.heap.push { cls:=.type "dict_itemiterator",data:=.fields #[.none,.bool false,.ref d,.int 0 0,.int es.size 0,.int ep 0,.none,.none] } }) :
    wpAny (model prog w) A (pyIter (.ref v)) Q E s:=by
  obtain ⟨ov,hov,hcv,hdv⟩:=id hv;refine wpAny_pyIter_slot hv.typeIs F.slot_dict_items_iter (wpAny_call_entry F.slot_dict_items_iter hv.typeIs F.entry_dict_items_iter ?_ (F.args_dict_items_iter_1 _));unfold Builtin.«dict_items.__iter__»;refine wpAny_bind (wpAny_pure ?_);refine wpAny_bind ?_;unfold Builtin.Dict_items.dictOf;refine wpAny_bind (wpAny_field hov hdv (x:=.ref d) rfl (wpAny_pure ?_));refine wpAny_bind ?_;unfold Builtin.Dict_items.newIterator;refine wpAny_bind (wpAny_dictEntries ho hdat ?_);refine wpAny_bind (wpAny_dictEpoch ho hdat ?_);have hown:abO "dict_itemiterator" = true:=by decide
  simp only [hown,if_true];refine wpAny_newObj_type (wpAny_pure ⟨_,rfl,"dict_itemiterator",_,⟨_,aaq _ rfl,rfl⟩,F.slot_dict_itemiterator_next.lookup,?_⟩)
    (by simp only [sizeOk,abX,aah,aap,aaS,abF,sizeLine_eq];lia)
  simpa [rawInt,abX] using hQ
theorem sT {it d:Addr} {i n ep:Nat} {od:Obj} {es:Array DictEntry} {e:DictEntry} {ok ov:Value} {Q:Option Value→Shared→Prop} (hit:IsItemIter s.heap it d i n ep ok ov) (hod:s.heap.get? d=some od) (hdd:od.data=.dict es ep) (hsz:es.size=n) (hx:es[i]?=some e)
    (hQ:∀ h',IsItemIterOut h' it d (i+1) n ep e.key e.val s.heap.objs.size →
      h'.get? s.heap.objs.size=some { cls:=.type "tuple",data:=.seq #[e.key,e.val] }→h'.objs.size=s.heap.objs.size+1 →
      (∀ b o,b≠it→s.heap.get? b=some o→h'.get? b=some o)→Q (some (.ref s.heap.objs.size)) { s with heap:=h' }) :
    wpAny (model prog w) A (pyNext (.ref it)) Q E s:=by
  obtain ⟨hp,g,dr,tk,os⟩:=s;have hT:Shared.TypeIs ⟨hp,g,dr,tk,os⟩ (.ref it) "dict_itemiterator":=⟨_,hit,rfl⟩
  unfold pyNext;refine wpAny_bind (wpAny_attempt (wpAny_callSpecial?_slot (name:=Str.ofString "__next__") hT abo
    (wpAny_call_entry abo hT F.entry_dict_itemiterator_next ?_ (acl _))))
  refine wpAny_bind (wpAny_pure ?_);refine wpAny_bind ?_;refine wpAny_bind ?_
  first|refine wpAny_bind (wpAny_typeNameOfWhole_itemiter hT (wpAny_pure ?_))|refine wpAny_bind (wpAny_typeNameOf_itemiter hT (wpAny_pure ?_))
  refine wpAny_bind (wpAny_fieldsOf hit rfl ?_);have hown:abO "dict_itemiterator" = true:=by decide
  simp only [hown,if_true];show wpAny _ _ (if (Value.ref d == Value.none)=true then _ else _) _ _ _;rw [if_neg (show ¬ ((Value.ref d == Value.none)=true) from aal)];refine wpAny_bind (wpAny_pure ?_);refine wpAny_bind (wpAny_dictEntries hod hdd ?_);rw [if_neg (by rw [hsz];simp)];refine wpAny_bind (wpAny_pure ?_);refine wpAny_bind (wpAny_dictEpoch hod hdd ?_);rw [if_neg (by simp)];refine wpAny_pure ?_;simp only [show ¬ ((i:Int) < 0) from by lia,if_false,Int.toNat_natCast,hx];refine wpAny_bind ?_
  first|refine wpAny_bind (wpAny_typeNameOfWhole_itemiter hT (wpAny_pure ?_))|refine wpAny_bind (wpAny_typeNameOf_itemiter hT (wpAny_pure ?_))
  refine wpAny_bind (wpAny_isOneOf_itemiter hT ?_);show wpAny _ _ (setField (.ref it) 3 (rawInt ((i:Int)+1)) >>= _) _ _ ⟨hp,g,dr,tk,os⟩;refine wpAny_bind (wpAny_setField_rec hit (by simp) fun h₁ he₁ hs₁=>?_)
  replace hs₁:abI it hp h₁:=hs₁
  replace he₁:IsItemIter h₁ it d (i+1) n ep ok ov:=by
    have e:((i+1:Nat):Int)=(i:Int)+1:=by lia
    unfold IsItemIter;rw [e];simpa [rawInt] using he₁
  have hT₁:Shared.TypeIs ⟨h₁,g,dr,tk,os⟩ (.ref it) "dict_itemiterator":=⟨_,he₁,rfl⟩
  refine wpAny_bind (wpAny_holding ?_);refine wpAny_bind (wpAny_isOneOf_itemiter hT₁ ?_);refine wpAny_bind (wpAny_isOneOf_itemiter hT₁ ?_);show wpAny _ _ (aci (.ref it) 6 e.key e.val) _ _ ⟨h₁,g,dr,tk,os⟩;unfold aci;refine wpAny_bind (wpAny_newTuple ?_);have he₂:IsItemIter (h₁.push { cls:=.type "tuple",data:=.seq #[e.key,e.val] }) it d (i+1) n ep ok ov:=aad _ he₁;generalize hh₂:h₁.push { cls:=.type "tuple",data:=.seq #[e.key,e.val] }=h₂ at he₂;have hz₁:h₁.objs.size=hp.objs.size:=hs₁.1;have hil:it < hp.objs.size:=aar hit;have ht₂:h₂.get? hp.objs.size=some { cls:=.type "tuple",data:=.seq #[e.key,e.val] }:=by rw [← hh₂,← hz₁];exact aaq _ rfl
  have hz₂:h₂.objs.size=hp.objs.size+1:=by rw [← hh₂,abN,hz₁]
  have hk₂:∀ b o,b≠it→hp.get? b=some o→h₂.get? b=some o:=fun b o hb e=>by rw [← hh₂];exact aad _ (hs₁.extBut b o hb e)
  show wpAny _ _ (abY (.ref it) >>= _) _ _ ⟨h₂,g,dr,tk,os⟩;rw [hz₁];clear hh₂ he₁ hs₁ hT₁ hz₁ h₁;refine wpAny_bind ?_;unfold abY;refine wpAny_bind (wpAny_field he₂ rfl (x:=.none) rfl (wpAny_pure ?_));simp only [if_true];refine wpAny_bind (wpAny_field he₂ rfl (x:=ok) rfl ?_);refine wpAny_bind (wpAny_field he₂ rfl (x:=ov) rfl ?_);refine wpAny_bind (wpAny_setField_rec he₂ (by simp) fun h₃ he₃ hs₃=>?_)
  replace hs₃:abI it h₂ h₃:=hs₃
  replace he₃:IsItemIter h₃ it d (i+1) n ep e.key ov:=he₃
  refine wpAny_bind (wpAny_setField_rec he₃ (by simp) fun h₄ he₄ hs₄=>?_)
  replace hs₄:abI it h₃ h₄:=hs₄
  replace he₄:IsItemIter h₄ it d (i+1) n ep e.key e.val:=he₄
  refine wpAny_bind (wpAny_setField_rec he₄ (by simp) fun h₅ he₅ hs₅=>?_)
  replace hs₅:abI it h₄ h₅:=hs₅
  replace he₅:IsItemIterOut h₅ it d (i+1) n ep e.key e.val hp.objs.size:=he₅
  refine wpAny_bind (wpAny_setField_rec he₅ (by simp) fun h₆ he₆ hs₆=>?_)
  replace hs₆:abI it h₅ h₆:=hs₆
  replace he₆:IsItemIterOut h₆ it d (i+1) n ep e.key e.val hp.objs.size:=he₆
  refine wpAny_bind (wpAny_letGo (wpAny_pure (wpAny_pure ⟨_,rfl,wpAny_pure (hQ h₆ he₆ ?_ ?_ ?_)⟩)))
  · exact hs₆.extBut _ _ (aaT hil) (hs₅.extBut _ _ (aaT hil) (hs₄.extBut _ _ (aaT hil) (hs₃.extBut _ _ (aaT hil) ht₂)))
  · show h₆.objs.size=hp.objs.size+1;rw [hs₆.1,hs₅.1,hs₄.1,hs₃.1,hz₂]
  · exact fun b o hb e=>hs₆.extBut b o hb (hs₅.extBut b o hb (hs₄.extBut b o hb (hs₃.extBut b o hb (hk₂ b o hb e))))
theorem qE {it d:Addr} {i n ep:Nat} {od:Obj} {es:Array DictEntry} {ok ov:Value} {Q:Option Value→Shared→Prop} (hh:A.handled=none) (hit:IsItemIter s.heap it d i n ep ok ov) (hod:s.heap.get? d=some od) (hdd:od.data=.dict es ep) (hsz:es.size=n) (hge:es.size≤i)
    (hQ:∀ h',Heap.ExtBut it s.heap h'→Q none { s with heap:=h' }):wpAny (model prog w) A (pyNext (.ref it)) Q E s:=by
  have hT:s.TypeIs (.ref it) "dict_itemiterator":=⟨_,hit,rfl⟩
  unfold pyNext;refine wpAny_bind (wpAny_attempt (wpAny_callSpecial?_slot (name:=Str.ofString "__next__") hT abo
    (wpAny_call_entry abo hT F.entry_dict_itemiterator_next ?_ (acl _))))
  refine wpAny_bind (wpAny_pure ?_);refine wpAny_bind ?_;refine wpAny_bind ?_
  first|refine wpAny_bind (wpAny_typeNameOfWhole_itemiter hT (wpAny_pure ?_))|refine wpAny_bind (wpAny_typeNameOf_itemiter hT (wpAny_pure ?_))
  refine wpAny_bind (wpAny_fieldsOf hit rfl ?_);have hown:abO "dict_itemiterator" = true:=by decide
  simp only [hown,if_true];show wpAny _ _ (if (Value.ref d == Value.none)=true then _ else _) _ _ s;rw [if_neg (show ¬ ((Value.ref d == Value.none)=true) from aal)];refine wpAny_bind (wpAny_pure ?_);refine wpAny_bind (wpAny_dictEntries hod hdd ?_);rw [if_neg (by rw [hsz];simp)];refine wpAny_bind (wpAny_pure ?_);refine wpAny_bind (wpAny_dictEpoch hod hdd ?_);rw [if_neg (by simp)];refine wpAny_pure ?_;simp only [show ¬ ((i:Int) < 0) from by lia,if_false,Int.toNat_natCast,Array.getElem?_eq_none hge];refine wpAny_bind ?_
  first|refine wpAny_bind (wpAny_typeNameOfWhole_itemiter hT (wpAny_pure ?_))|refine wpAny_bind (wpAny_typeNameOf_itemiter hT (wpAny_pure ?_))
  show wpAny _ _ (setField (.ref it) 2 .none >>= _) _ _ s;refine wpAny_bind (wpAny_setField hit rfl (by simp) ?_);show wpAny _ _ (newExc (.type "StopIteration") [] >>= _) _ _ _;refine wpAny_bind ?_;simp only [newExc,newTuple];refine wpAny_bind (wpAny_newObj_type ?_ (by size_fits));refine wpAny_bind (m:=firstArgMember _ _) (wpAny_of_eq (a:=Value.none) (by first|rfl|(simp only [firstArgMember];rfl)) ?_);refine wpAny_newObj_type ?_ (by size_fits);simp only [raiseNew];refine wpAny_bind (wpAny_handled ?_);rw [show A.in1.handled=none from hh];refine wpAny_bind (wpAny_pure (wpAny_throw ?_));refine wpAny_bind (wpAny_isInstance (T:="StopIteration") (b:=true) ⟨_,aaq _ rfl,rfl⟩ isSubtype_stop ?_);exact wpAny_pure (hQ _ (((abj ..).extBut.push _).push _))
end
def tZ (kvs:List (List Key × V)):Nat→V→V→Hp→Prop:=fun i k y H=>∃ kv b,kvs[i]?=some kv∧k=.ref b∧y=kv.2∧H b=some (.tup (kv.1.map kV))
def t6 (kvs:List (Key × V)):Nat→V→V→Hp→Prop:=fun i k y _=>∃ kv,kvs[i]?=some kv∧k=kV kv.1∧y=kv.2
def Iti (d:Addr) (o:Obj) (u:HO) (n:Nat) (rw:Nat→V→V→Hp→Prop):It :=
  ⟨fun i H=>H d=some (.frz o u)∧i < n,fun i H x H'=>∃ p k y,H p=none∧x=.ref p∧H'=upd H p (.tup [k,y])∧rw i k y H,fun i H=>H d=some (.frz o u)∧n≤i⟩
def Ent (P:Program) (w:World) (d:Addr) (o:Obj) (u:HO) (n:Nat) (rw:Nat→V→V→Hp→Prop) (es:Array DictEntry) (ep:Nat):Prop :=
  o.data=.dict es ep∧es.size=n∧∀ H h,HOk P w H h→H d=some (.frz o u)→h.get? d=some o∧∀ i e,es[i]?=some e→∃ k y,RelV k e.key∧RelV y e.val∧rw i k y H
theorem wN {P:Program} {w:World} {H:Hp} {h:Heap} {d:Addr} {o:Obj} {kvs:List (List Key × V)} (ok:HOk P w H h) (e:H d=some (.frz o (.dT kvs))) :
    h.get? d=some o∧o.ExactDict∧(d == sysModules)=false∧∃ es ep,Ent P w d o (.dT kvs) kvs.length (tZ kvs) es ep:=by
  obtain ⟨ho,z,hs,xs,rel,o2,es,ep,ho2,c,dat,_⟩:=(show ObjOk P w H h d (.frz o (.dT kvs)) from ok d _ e)
  rw [ho] at ho2;cases ho2;obtain ⟨_,_,_,hsz,_⟩:=uP ok e dat;refine ⟨ho,c,hs,es,ep,dat,hsz,fun H h ok e=>?_⟩;obtain ⟨ho,_,_,hsz,xs,rel,l⟩:=uP ok e dat;refine ⟨ho,fun i en he=>?_⟩;have lx:=aa9 rel;have hi:i < es.size:=by
    rcases Nat.lt_or_ge i es.size with h|h
    · exact h
    · rw [Array.getElem?_eq_none h] at he;cases he
  have hx:xs[i]?=some xs[i]:=aac (by lia);have hkv:kvs[i]?=some kvs[i]:=aac (by lia);rw [entry_at l i,hx] at he;have he:entryOfKey (tupleKind (a5 P w)) xs[i]=en:=aaR he;subst he;have r:=Paired.nth rel i _ _ hkv hx;exact ⟨.ref xs[i].2.1,kvs[i].2,rfl,r.2.2,_,_,hkv,rfl,rfl,r.2.1⟩
theorem mt {P:Program} {w:World}:∀ {es:List DictEntry} {vs:List (Key × Value)},Pairs (a5 P w) es vs→∀ {i:Nat} {e:DictEntry},es[i]?=some e→∃ kv,vs[i]?=some kv∧(a5 P w).is kv.1 e.key=true∧e.val=kv.2
  | _,_,.nil,i,e,h=>by simp at h
  | _,_,.cons a b c,0,e,h=>by simp at h;subst h;exact ⟨_,rfl,a,b⟩
  | _,_,.cons a b c,i+1,e,h=>by simpa using mt c (by simpa using h)
theorem wO {P:Program} {w:World} {H:Hp} {h:Heap} {d:Addr} {o:Obj} {kvs:List (Key × V)} (ok:HOk P w H h) (e:H d=some (.frz o (.dK kvs))) :
    h.get? d=some o∧o.ExactDict∧(d == sysModules)=false∧∃ es ep,Ent P w d o (.dK kvs) kvs.length (t6 kvs) es ep:=by
  obtain ⟨ho,z,hs,vs,rel,o2,es,ep,ho2,c,dat,ks,pr,nd⟩:=(show ObjOk P w H h d (.frz o (.dK kvs)) from ok d _ e)
  rw [ho] at ho2;cases ho2;have lv:=aa9 rel;have hsz:es.size=kvs.length:=by rw [← Array.length_toList,pr.length];lia
  refine ⟨ho,c,hs,es,ep,dat,hsz,fun H h ok e=>?_⟩;obtain ⟨ho,z,hs,vs,rel,o2,es2,ep2,ho2,c,dat2,ks,pr,nd⟩:=(show ObjOk P w H h d (.frz o (.dK kvs)) from ok d _ e)
  rw [ho] at ho2;cases ho2;rw [dat] at dat2;cases dat2;refine ⟨ho,fun i en he=>?_⟩;obtain ⟨kv,e1,e2,e3⟩:=mt pr (i:=i) (e:=en) (by simpa using he);have hi:i < vs.length:=(aak.mp e1).1;have lv:=aa9 rel;have hkv:kvs[i]?=some kvs[i]:=aac (by lia);have r:=Paired.nth rel i _ _ hkv e1;refine ⟨kV kvs[i].1,kvs[i].2,?_,by rw [e3];exact r.2,_,hkv,rfl,rfl⟩;rw [r.1];rcases a_ e2 with ⟨j,t,q1,q2⟩|⟨x,t,q1,q2⟩
  · rw [q1,q2];exact ⟨t,rfl⟩
  · rw [q1,q2];exact ⟨t,rfl⟩
theorem pX {P:Program} {w:World} {K:aaa} {elts:List Expr} {k:Nat} {pos:Pos} (d it:Addr) (hdi:d≠it) (o:Obj) (u:HO) (n:Nat) (rw:Nat→V→V→Hp→Prop) (es:Array DictEntry) (ep:Nat) (hE:Ent P w d o u n rw es ep) :
    Turn P w K (.Tuple elts k pos) (Iti d o u n rw) [it] it (fun i h=>∃ ok ov,IsItemIter h it d i n ep ok ov) where
  mem:=by simp
  obj:=fun i h st b hb=>by
    have e:b=it:=by simpa using hb
    subst e;obtain ⟨ok,ov,e⟩:=st;exact ⟨_,e,fun v z=>by cases z⟩
  keep:=fun i h h' st k=>by
    obtain ⟨ok,ov,e⟩:=st;exact ⟨ok,ov,k it (by simp) _ e⟩
  item:=by
    intro X hP hw hK hc i pins s σ H E I hf st hg;subst hP hw hK;obtain ⟨e,hlt⟩:=hg;obtain ⟨dat,hsz,hE⟩:=hE;obtain ⟨ho,hE⟩:=hE H s.heap I.hok e;obtain ⟨f0,f1,f2,f3,f4,f5⟩:=hf it (by simp);obtain ⟨ok,ov,hit⟩:=st;have hx:es[i]?=some es[i]:=abW (by lia);obtain ⟨kx,y,r1,r2,r3⟩:=hE i _ hx;have hilt:it < s.heap.objs.size:=aar hit;refine sT hit ho dat hsz hx fun h' hit' hT hz hk=>?_;refine ⟨_,rfl,wpAny_letOwnedTupleGo_items hit' fun h'' he' hs'=>?_⟩;have hs2:abI it h' h'':=hs';have keep:∀ b o,b∉[it]→s.heap.get? b=some o→h''.get? b=some o:=fun b o hb q=>by
      have b1:b≠it:=fun z=>hb (by simp [z]);exact (hs2.2 b b1).trans (hk b o b1 q)
    have I1:Inv X pins σ H { s with heap:=h'',toks:=s.toks }:=I.turnedL keep hf;have gT:h''.get? s.heap.objs.size=some { cls:=.type "tuple",data:=.seq #[es[i].key,es[i].val] }:=(hs2.2 _ (aaT hilt)).trans hT;have fresh:H s.heap.objs.size=none:=I.hok.fresh (aag _);have I2:=I1.adopt (a:=s.heap.objs.size) (o:=.tup [kx,y]) fresh I.sz (aaT I.lt) (fun y c e1=>by
        obtain ⟨v,q⟩:=I.cell y c e1;exact aaz q.lt) (fun q hq=>aaz (aar (I.pin q hq).1)) ⟨by show 2≤sizeLine;decide,[es[i].key,es[i].val],.cons r1 (.cons r2 .nil),⟨_,gT,rfl,_,rfl⟩⟩
    refine ⟨.ref s.heap.objs.size,_,I2,rfl,⟨_,kx,y,fresh,rfl,rfl,r3⟩,⟨_,_,he'⟩,fun b hb=>?_⟩;have z:b=it:=by simpa using hb
    subst z;rw [aq (aaz hilt)];exact f0
  done:=by
    intro X hP hw hK hc i pins s σ H E I hf st hg;subst hP hw hK;obtain ⟨e,hge⟩:=hg;obtain ⟨dat,hsz,hE⟩:=hE;obtain ⟨ho,hE⟩:=hE H s.heap I.hok e;obtain ⟨f0,f1,f2,f3,f4,f5⟩:=hf it (by simp);obtain ⟨ok,ov,hit⟩:=st;exact qE (I.ok.hd hc) hit ho dat hsz (by lia) fun h' eb=>⟨rfl,I.turned (t':=s.toks) (fun b o hb e=>eb b o hb e) f0 f1 f3 f4 f5⟩
  self:=fun _ _ _ _ _ st h=>by
    obtain ⟨ok,ov,hit⟩:=st;exact PySem.W.kcp_self hit h
def xK (te:TE):TI:=fun σ H R=>te σ H fun x H1=>∃ d,x=.ref d ∧
  ((∃ kvs,H1 d=some (.dT kvs)∧∀ o,R (Iti d o (.dT kvs) kvs.length (tZ kvs)) (upd H1 d (.frz o (.dT kvs))))∨(∃ kvs,H1 d=some (.dK kvs)∧∀ o,R (Iti d o (.dK kvs) kvs.length (t6 kvs)) (upd H1 d (.frz o (.dK kvs)))) ∨
   (∃ o kvs,H1 d=some (.frz o (.dT kvs))∧R (Iti d o (.dT kvs) kvs.length (tZ kvs)) H1)∨∃ o kvs,H1 d=some (.frz o (.dK kvs))∧R (Iti d o (.dK kvs) kvs.length (t6 kvs)) H1)
theorem uc {X:Cx} {elts:List Expr} {k:Nat} {tpos:Pos} {o:Expr} {to:TE} {apos cpos:Pos} (ho:PE X o to)
    (hbase:attributeBase o "items" X.env (eval o X.env)=eval o X.env:=by rfl) (hline:(apos.endLine == cpos.line)=true:=by rfl):PI X (.Tuple elts k tpos) (.Call (.Attribute o "items" apos) [] [] cpos) (xK to):=by
  intro pins s σ H R I h;refine wpAny_Call_method0_late hbase hline (thn (ho pins s σ H _ I h) fun v s1 ⟨x,H1,I1,r1,d,ex,q1⟩=>?_);subst ex;cases r1;have main:∀ (ob:Obj) (u:HO) (n:Nat) (rw:Nat→V→V→Hp→Prop) (es:Array DictEntry) (ep:Nat) (H2:Hp),s1.heap.get? d=some ob→ob.ExactDict→(d == sysModules)=false→Inv X pins σ H2 s1→Ent X.prog X.w d ob u n rw es ep→R (Iti d ob u n rw) H2 →
      MethodOn X.prog X.w X.A "items" cpos (.ref d) [] (fun v s1=>wpAny (model X.prog X.w) X.A (pyIter v) (PIE X pins σ (.Tuple elts k tpos) R) X.xe s1) X.xe s1:=fun ob u n rw es ep H2 g c hs I2 hE q=>by
    have hT:s1.TypeIs (.ref d) "dict":=⟨ob,g,c.1⟩
    refine ⟨"dict","dict.items",PySem.F.plainAttrs_dict,PySem.F.slot_dict_items,PySem.F.type_dict_items,hT,fun a e=>by cases e;exact ⟨ob,g,c.2.1⟩,acj rfl (PySem.evalArgs_none ?_)⟩;refine call_meetsIn PySem.F.slot_dict_items hT PySem.F.entry_dict_items (PySem.F.args_dict_items_1 _) (nQ d hs) ⟨hT,?_⟩;have g1:(s1.heap.push { cls:=.type "dict_items",data:=.fields #[.ref d] }).get? d=some ob:=aad _ g;refine qK (s:={ s1 with heap:=s1.heap.push { cls:=.type "dict_items",data:=.fields #[.ref d] } }) (v:=s1.heap.objs.size) (d:=d) ⟨_,aaq _ rfl,rfl,rfl⟩ g1 hE.1 ?_;have kp:∀ b o,s1.heap.get? b=some o→((s1.heap.push { cls:=.type "dict_items",data:=.fields #[.ref d] }).push { cls:=.type "dict_itemiterator",data:=.fields #[.none,.bool false,.ref d,.int 0 0,.int es.size 0,.int ep 0,.none,.none] }).get? b=some o:=fun b o e=>aad _ (aad _ e);have hlt:d < s1.heap.objs.size:=aar g;have hsz:(s1.heap.push { cls:=.type "dict_items",data:=.fields #[.ref d] }).objs.size=s1.heap.objs.size+1:=abN _ _;refine ⟨(s1.heap.push { cls:=.type "dict_items",data:=.fields #[.ref d] }).objs.size,[(s1.heap.push { cls:=.type "dict_items",data:=.fields #[.ref d] }).objs.size],_,_,H2,rfl,I2.kept (t':=s1.toks) kp,pX d _ (by rw [hsz];exact aaz (abG hlt)) ob u n rw es ep hE,⟨.none,.none,?_⟩,fun b hb=>?_,q⟩
    · have e:=aaq (s1.heap.push { cls:=.type "dict_items",data:=.fields #[.ref d] }) (o:={ cls:=.type "dict_itemiterator",data:=.fields #[.none,.bool false,.ref d,.int 0 0,.int es.size 0,.int ep 0,.none,.none] }) rfl;rw [hE.2.1] at e;rw [hE.2.1];exact e
    · have e:b=(s1.heap.push { cls:=.type "dict_items",data:=.fields #[.ref d] }).objs.size:=by simpa using hb
      have hb2:s1.heap.objs.size≤b:=by rw [e,hsz];exact acn _
      exact I2.fpOk hb2 (I2.hok.fresh hb2)
  have nf:∀ u,H1 d=some u→(∀ o v,u≠.frz o v)→∀ o v,X.H₀ d≠some (.frz o v):=fun u e1 n o v q=>by
    have z:=I1.base.frzs d o v q;rw [e1] at z;injection z with z;exact n _ _ z
  rcases q1 with ⟨kvs,e1,q⟩|⟨kvs,e1,q⟩|⟨ob,kvs,e1,q⟩|⟨ob,kvs,e1,q⟩
  · obtain ⟨z,hd,xs,rel,ob,es,ep,hob,c⟩:=(show ObjOk X.prog X.w H1 s1.heap d (.dT kvs) from I1.hok d _ e1)
    have I2:Inv X pins σ (upd H1 d (.frz ob (.dT kvs))) s1:=I1.retype e1 (fun _ z=>nomatch z) (fun _ z=>nomatch z) (fun _ z=>nomatch z) (nf _ e1 fun _ _ z=>nomatch z) ⟨hob,I1.hok d _ e1⟩;obtain ⟨h1,h2,h3,es',ep',hE⟩:=wN I2.hok (af (H:=H1) (a:=d));exact main ob _ _ _ _ _ _ h1 h2 h3 I2 hE (q ob)
  · obtain ⟨z,hd,vs,rel,ob,es,ep,hob,c⟩:=(show ObjOk X.prog X.w H1 s1.heap d (.dK kvs) from I1.hok d _ e1)
    have I2:Inv X pins σ (upd H1 d (.frz ob (.dK kvs))) s1:=I1.retype e1 (fun _ z=>nomatch z) (fun _ z=>nomatch z) (fun _ z=>nomatch z) (nf _ e1 fun _ _ z=>nomatch z) ⟨hob,I1.hok d _ e1⟩;obtain ⟨h1,h2,h3,es',ep',hE⟩:=wO I2.hok (af (H:=H1) (a:=d));exact main ob _ _ _ _ _ _ h1 h2 h3 I2 hE (q ob)
  · obtain ⟨h1,h2,h3,es',ep',hE⟩:=wN I1.hok e1;exact main ob _ _ _ _ _ _ h1 h2 h3 I1 hE q
  · obtain ⟨h1,h2,h3,es',ep',hE⟩:=wO I1.hok e1;exact main ob _ _ _ _ _ _ h1 h2 h3 I1 hE q
theorem Trn.items {d:Addr} {o:Obj} {u:HO} {n:Nat} {rw:Nat→V→V→Hp→Prop}:Trn (Iti d o u n rw) n (fun H=>H d=some (.frz o u)) (fun i x H H'=>∃ p k y,H p=none∧x=.ref p∧H'=upd H p (.tup [k,y])∧rw i k y H) :=
  ⟨fun i H hi q=>⟨q,hi⟩,fun H q=>⟨q,aag _⟩,fun i H x H' hi q y=>y⟩
theorem uQ {J:It} {n:Nat} {Kp:Hp→Prop} {item:Nat→V→Hp→Hp→Prop} (T:Trn J n Kp item) {g:TG} {tb:TS} {D:Ends} {σ:St} {H:Hp} (Pv:Nat→St→Hp→Prop) (h0:Pv 0 σ H) (hk:∀ i σ H,i≤n→Pv i σ H→Kp H)
    (hs:∀ i x σ H H',i < n→item i x H H'→Pv i σ H→g x σ H' fun σ2 H2=>tb { D with nx:=Pv (i+1),ct:=Pv (i+1),bk:=D.nx } σ2 H2) (hd:∀ σ H,Pv n σ H→D.nx σ H) :
    ∃ W:Nat→Nat→St→Hp→Prop,(∃ m,W 0 m σ H)∧∀ i m σ H,W i m σ H →
      (J.stop i H∧D.nx σ H)∨(J.go i H∧∃ N:St→Hp→Prop,(∀ σ' H',N σ' H'→∃ m',m' < m∧W (i+1) m' σ' H')∧∀ x H',J.yld i H x H'→g x σ H' fun σ2 H2=>tb { D with nx:=N,ct:=N,bk:=D.nx } σ2 H2):=by
  refine ⟨fun i m σ H=>m=n - i∧i≤n∧Pv i σ H,⟨n,by simp,aaN _,h0⟩,?_⟩;rintro i m σ H ⟨rfl,hi,p⟩;have q:=hk i σ H hi p;by_cases hlt:i < n
  · exact .inr ⟨T.go i H hlt q,Pv (i+1),fun σ' H' p'=>⟨n - (i+1),by lia,rfl,hlt,p'⟩,fun x H' y=>hs i x σ H H' hlt (T.yld i H x H' hlt q y) p⟩
  · have e:i=n:=by lia
    subst e;exact .inl ⟨T.stop H q,hd σ H p⟩
def qU (H:Hp) (d:Addr):Prop:=∀ o v,H d≠some (.frz o v)
def xZ (t:TE):TE:=fun σ H Q=>t σ H fun v H'=>∃ d o u,qU H d∧H' d=some (.frz o u)∧Q v (upd H' d u)
theorem vN {X:Cx} {e:Expr} {t:TE} (he:PE X e t):PE X e (xZ t):=by
  intro pins s σ H Q I h;refine thn (he pins s σ _ _ I h) fun u s1 ⟨v,H1,I2,r,d,o,u',nf,e1,q⟩=>⟨v,upd H1 d u',?_,r,q⟩
  have hf:∀ o v,X.H₀ d≠some (.frz o v):=fun o v q=>nf _ _ (I.base.frzs d o v q);exact I2.retype e1 (fun _ z=>nomatch z) (fun _ z=>nomatch z) (fun _ z=>nomatch z) hf (show ObjOk X.prog X.w H1 s1.heap d (.frz o u') from I2.hok d _ e1).2
end L2
namespace PySem
open Sem (wp)
namespace F
end F
section
variable {prog:Program} {w:World} {A:Around} {E:Value→Shared→Prop} {h:Heap} {g:Array GenState} {d:Drawn} {t:Nat} {os:OsState} {a:Addr} {xs:Array Value} {k:Nat}
end
end PySem
namespace L2
open PySem PySem.Spec PyProof.Rows
section
variable {prog:Program} {w:World} {A:Around} {E:Value→Shared→Prop} {s:Shared}
end
open PySem PySem.Spec PyProof.Rows
def wE (P:Program) (w:World) (K:aaa) (mg:Str→Option Value) (base:Heap) (x:Str) (k:Nat) (ps:List Str) (sp:Sp) (dvs:List V):Prop :=
  ∃ f fd ds,FnOk P w K mg base CX0 k f fd ps sp∧Binds K fd ps ds∧Vals dvs ds∧aaZ K (.ref f)=true∧mg x=some (.ref f)
section
variable {X:Cx}
theorem rz {x:Str} {k k':Nat} {ps:List Str} {sp:Sp} {dvs:List V} {e:Expr} {es:List Expr} {t:TA} {p pos:Pos} (C:wE X.prog X.w X.K X.mg X.base x k ps sp dvs) (hr:Room k' X.A) (hk:k≤k') (hg:Gl X x) (ha:PA X (e :: es) t)
    (hdb:(x == ("__debug__":Str))=false:=by decide) (he:starEach (e :: es) X.env=(false,eval e X.env) :: starEach es X.env:=by rfl) (hpl:(backTo pos (starEach es X.env)).any (·.1)=false:=by rfl) :
    PE X (.Call (.Name x p) (e :: es) [] pos) (tR sp dvs E0 t):=by
  obtain ⟨f,fd,ds,F,b,hd,kp,m⟩:=C;exact rq F (hr.mono hk) hg m kp b hd wI ha hdb he hpl
end
theorem wU {us:List Value} {d:Value} (h:(us++[d]).length=3):∃ a b,us=[a,b]:=by
  rw [aap] at h
  match us,h with
  | [a,b],_=>exact ⟨a,b,rfl⟩
structure FunD (K:aaa) (x qual:Str) (st:Stmt) (f:Addr) (fd:FuncData) (tD:Addr):Prop where
  ex:∃ (oc:Value) (od:Option Addr) (kV doc pm:Value) (an:Option Addr) (cdv ct:Value) (osl:Array (Option Value)),
    fd=aaW x qual (bw st) (a9 st) (am st) (.ref tD) kV doc pm an cdv ct∧K.lookup f=some ⟨oc,od,.func fd,osl⟩∧abf K cdv qual=true
  kp:aaZ K (.ref f)=true
section
variable {P:Program} {w:World} {K:aaa} {mg:Str→Option Value} {base:Heap}
theorem FunD.ok {x qual:Str} {st:Stmt} {f:Addr} {fd:FuncData} {tD:Addr} {N ps:List Str} {k:Nat} {sp:Sp} (F:FunD K x qual st f fd tD) (S:FnScope N ps (am st)) (len:∀ vs H Q E,sp vs H Q E→vs.length=ps.length)
    (hbody:∀ (cdv:Value) (A:Around) (outer:List Env) (s:Shared) (H:Hp) (vs:List V) (Q:VK) (E:XK),Room k (A.deeper (envOfC qual (am st) s.heap.objs.size f cdv))→sp vs H Q E →
      ∃ t,PSs (kW CX0 P w K mg base N qual (am st) f cdv A outer s H E).nox (a9 st) t∧t { nx:=fun _ H'=>Q .non H',rt:=Q } (start N vs) H):FnOk P w K mg base CX0 (k+1) f fd ps sp:=by
  obtain ⟨oc,od,kV,doc,pm,an,cdv,ct,osl,rfl,lk,hcd⟩:=F.ex;refine uS lk hcd S len fun A outer s H vs Q E hr hsp=>?_;obtain ⟨t,h,q⟩:=hbody cdv A outer s H vs Q E hr hsp;exact ⟨t,h.nox,q⟩
theorem FunD.binds {x qual:Str} {st:Stmt} {f:Addr} {fd:FuncData} {tD:Addr} {ps:List Str} {ds:List Value} (F:FunD K x qual st f fd tD)
    (h:∀ (kV doc pm:Value) (an:Option Addr) (cdv ct:Value) (s:Shared) (us:List Value),K.In s.heap→(us++ds).length=ps.length→BindsTo s (aaW x qual (bw st) (a9 st) (am st) (.ref tD) kV doc pm an cdv ct) ⟨us,[]⟩ (ps.zip (us++ds))):Binds K fd ps ds:=by
  obtain ⟨oc,od,kV,doc,pm,an,cdv,ct,osl,rfl,lk,hcd⟩:=F.ex;exact h kV doc pm an cdv ct
theorem v_ {x qual:Str} {st:Stmt} {f tD:Addr} {oc:Value} {od an:Option Addr} {osl:Array (Option Value)} {kV doc pm cdv ct:Value} (l:K.lookup f=some ⟨oc,od,.func (aaW x qual (bw st) (a9 st) (am st) (.ref tD) kV doc pm an cdv ct),osl⟩)
    (c:abf K cdv qual=true) (k:aaZ K (.ref f)=true):FunD K x qual st f (aaW x qual (bw st) (a9 st) (am st) (.ref tD) kV doc pm an cdv ct) tD:=⟨⟨oc,od,kV,doc,pm,an,cdv,ct,osl,rfl,l,c⟩,k⟩
end
open PySem PySem.Spec PyProof.Rows
section
variable {X:Cx} {tg:Expr}
end
open PySem PySem.Spec PyProof.Rows
end L2
namespace L2
open PySem PySem.Spec PyProof.Rows PySem.W
section
variable {prog:Program} {w:World} {A:Around} {E:Value→Shared→Prop} {s:Shared}
end
open PySem PySem.Spec PyProof.Rows
def xw (e l:Nat→Bool) (n m:Nat):Nat→Nat→Bool
  | _,0=>decide (n < m)
  | j,k+1=>if e j=true then xw e l n m (j+1) k else l j
section
open PySem.SeqAt
open PySem.AutoSeq1 (wpAny_loadPart')
open PySem.MeetsSeq PySem.MeetsSeq2 PySem.MeetsSeq3
end
inductive LtR (K:aaa) (H:Hp):Nat→V→V→Bool→Prop
  | int {n:Nat} {a b:Int}:LtR K H n (.int a) (.int b) (decide (a < b))
  | tup {n:Nat} {a b:Addr} {xs ys:List V} {e l:Nat→Bool} (ha:SqT K H a xs) (hb:SqT K H b ys) (h:∀ (j:Nat) x y,xs[j]?=some x→ys[j]?=some y→EqR K H n x y (e j)) (hl:∀ (j:Nat) x y,xs[j]?=some x→ys[j]?=some y→e j=false→LtR K H n x y (l j)) :
      LtR K H (n+1) (.ref a) (.ref b) (xw e l xs.length ys.length 0 (min xs.length ys.length))
section
variable {X:Cx} {pins:List (Addr × Obj)} {σ:St} {H:Hp} {s:Shared}
end
section
variable {X:Cx}
end
open PySem PySem.Spec PyProof.Rows
def Fq (K:aaa) (x:Str) (s:Stmt) (f:Addr):Prop:=aaF K mainGlobals x=some (some (.ref f))∧∃ fd,Fun K x x s f fd
theorem Fq.mk4 {K:aaa} {x:Str} {st:Stmt} {f:Addr} {oc:Value} {od an:Option Addr} {osl:Array (Option Value)} {kV doc pm cdv ct:Value} (a:aaF K mainGlobals x=some (some (.ref f))) (l:K.lookup f=some ⟨oc,od,.func (aaW x x (bw st) (a9 st) (am st) .none kV doc pm an cdv ct),osl⟩)
    (c:abf K cdv x=true) (k:aaZ K (.ref f)=true):Fq K x st f:=⟨a,_,uO l c k⟩
theorem Fq.use {K:aaa} {x:Str} {st:Stmt} {f:Addr} {h:Heap} {mg:Str→Option Value} (q:Fq K x st f) (X:K.In h) (G:h.Ns mainGlobals mg) {ps:List Str}
    (hb:∀ (kV doc pm:Value) (an:Option Addr) (cdv ct:Value) (us:List Value),us.length=ps.length→bindArgs (aaW x x (bw st) (a9 st) (am st) .none kV doc pm an cdv ct) ⟨us,[]⟩=pure (ps.zip us)):∃ fd,Fun K x x st f fd∧Binds K fd ps []∧mg x=some (.ref f):=by
  obtain ⟨a,fd,F⟩:=q;exact ⟨fd,F,F.binds hb,abB X G a⟩
open PySem PySem.Spec PyProof.Rows
open PySem PySem.Spec PyProof.Rows
open PySem PySem.Spec PyProof.Rows
open PySem PySem.Spec PyProof.Rows
section
variable {prog:Program} {w:World} {A:Around} {E:Value→Shared→Prop} {s:Shared}
end
end L2
namespace L2
open PySem
def yF (xs:Array Nat):Prop:=xs.toList.Pairwise (· < ·)
def Okm (m:Nat):Prop:=m=7∨m=15∨m=31∨m=63∨m=127∨m=255∨m=511∨m=1023
def lp (m:Nat):Nat→Nat→Nat→Nat × Nat
  | 0,i,p=>(i,p)
  | L+1,i,p=>lp m L ((i * 5+1+p / 32) % (m+1)) (p / 32)
end L2
namespace L2
open PySem
end L2
namespace L2
open PySem
structure GT (n:Nat) (b:Bool) (t:SetTable):Prop where
  okm:Okm t.mask
  dum:t.dummies=#[]
  pl:t.plain=true
  rise:yF t.place
  size:t.place.size=n
  led:t.led=b
  room:n * 5 < t.mask * 3
structure GT1 (n:Nat) (b:Bool) (t:SetTable):Prop where
  okm:Okm t.mask
  dum:t.dummies=#[]
  pl:t.plain=true
  rise:yF t.place
  size:t.place.size=n
  led:t.led=b
  room:(n - 1) * 5 < t.mask * 3
open PySem PySem.Spec PyProof.Rows
section
variable {prog:Program} {w:World} {A:Around} {E:Value→Shared→Prop} {s:Shared}
end
end L2
set_option maxHeartbeats 3200000
namespace L2
open PySem PySem.Spec PyProof.Rows
section
variable {prog:Program} {w:World} {A:Around} {E:Value→Shared→Prop} {s:Shared}
variable {R:Result→Shared→Prop} {I:Addr} {fp wr:List Addr} {G:Array GenState→Array GenState→Prop} {n:Nat} {P:Nat→Value→Prop} {St:Nat→Shared→Prop}
end
section
variable {prog:Program} {w:World} {A:Around} {E:Value→Shared→Prop} {s:Shared}
end
open PySem PySem.Spec PyProof.Rows
section
variable {prog:Program} {w:World} {A:Around} {E:Value→Shared→Prop} {s:Shared}
end
end L2
namespace PySem.F
end PySem.F
namespace L2
open PySem PySem.Spec PyProof.Rows
section
variable {prog:Program} {w:World} {A:Around} {E:Value→Shared→Prop} {s:Shared}
end
open PySem PySem.Spec PyProof.Rows
section
variable {prog:Program} {w:World} {A:Around} {E:Value→Shared→Prop} {s:Shared}
end
open PySem PySem.Spec PyProof.Rows
end L2
namespace PySem.F
end PySem.F
namespace L2
open PySem PySem.Spec PyProof.Rows
structure SI (prog:Program) (w:World) (h:Heap) (a:Addr) (o:Obj) (es:Array (Int × Value)) (ep:Nat) (t:SetTable):Prop where
  at':h.get? a=some o
  ex:o.ExactSet
  dat:o.data=.set es ep t
  fit:t.fits es.size=true
  els:ElemsOf (intKind prog w) es.toList
  few:es.size < scanBound
section
variable {prog:Program} {w:World} {A:Around} {E:Value→Shared→Prop} {s:Shared}
end
open PySem PySem.Spec PyProof.Rows
section
variable {prog:Program} {w:World} {A:Around} {E:Value→Shared→Prop} {s:Shared}
end
open PySem PySem.Spec PyProof.Rows
section
variable {prog:Program} {w:World} {A:Around} {E:Value→Shared→Prop} {s:Shared}
end
open PySem PySem.Spec PyProof.Rows
section
variable {prog:Program} {w:World} {A:Around} {E:Value→Shared→Prop} {s:Shared}
end
open PySem PySem.Spec PyProof.Rows
section
variable {prog:Program} {w:World} {A:Around} {E:Value→Shared→Prop} {s:Shared}
end
open PySem PySem.Spec PyProof.Rows
section
variable {prog:Program} {w:World} {A:Around} {E:Value→Shared→Prop} {s:Shared}
end
open PySem PySem.Spec PyProof.Rows
open PySem PySem.Spec PyProof.Rows
open PySem PySem.Spec PyProof.Rows
open PySem PySem.Spec PyProof.Rows
open PySem PySem.Spec PyProof.Rows
section
variable {X:Cx}
end
open PySem PySem.Spec PyProof.Rows
open PySem PySem.Spec PyProof.Rows
section
open PySem.SeqAt
open PySem.AutoSeq1 (wpAny_loadPart')
open PySem.MeetsSeq PySem.MeetsSeq2 PySem.MeetsSeq3
end
inductive LtQ (K:aaa) (H:Hp):Nat→V→V→Bool→Prop
  | int {n:Nat} {a b:Int}:LtQ K H n (.int a) (.int b) (decide (a < b))
  | lst {n:Nat} {a b:Addr} {xs ys:List V} {e l:Nat→Bool} (ha:SqL K H a xs) (hb:SqL K H b ys) (h:∀ (j:Nat) x y,xs[j]?=some x→ys[j]?=some y→EqR K H n x y (e j)) (hl:∀ (j:Nat) x y,xs[j]?=some x→ys[j]?=some y→e j=false→LtQ K H n x y (l j)) :
      LtQ K H (n+1) (.ref a) (.ref b) (xw e l xs.length ys.length 0 (min xs.length ys.length))
section
variable {X:Cx} {pins:List (Addr × Obj)} {σ:St} {H:Hp} {s:Shared}
end
end L2
namespace Tim
open PySem PyProof.Rows
section
variable {prog:Program} {w:World} {A:Around} {E:Value→Shared→Prop} {s:Shared}
end
end Tim
namespace L2
open PySem PySem.Spec PyProof.Rows
section
variable {prog:Program} {w:World} {A:Around} {E:Value→Shared→Prop} {s:Shared}
end
structure Rnk (K:aaa) (H:Hp) (n:Nat) (us:List V) (kf:V→Int):Prop where
  two:∀ x∈us,∃ t k wv ks,x=.ref t∧H t=some (.tup [.ref k,wv])∧H k=some (.lst ks)
  cmp:∀ t t' k k' wv wv',V.ref t∈us→V.ref t'∈us→H t=some (.tup [.ref k,wv])→H t'=some (.tup [.ref k',wv']) →
    EqR K H n (.ref k) (.ref k') (decide (kf (.ref t)=kf (.ref t')))∧(kf (.ref t)≠kf (.ref t')→LtQ K H n (.ref k) (.ref k') (decide (kf (.ref t) < kf (.ref t'))))∧(kf (.ref t)=kf (.ref t')→EqR K H n wv wv' true)
open PySem PySem.Spec PyProof.Rows
section
variable {X:Cx} {tg:Expr}
end
section
variable {X:Cx}
end
open PySem PySem.Spec PyProof.Rows
open PySem PySem.Spec PyProof.Rows
section
variable {X:Cx} {pos:Pos}
end
end L2
namespace L2
open PySem PySem.Spec PyProof.Rows PySem.W
section
variable {X:Cx} {pins pl:List (Addr × Obj)} {σ:St} {H:Hp} {s:Shared}
end
section
variable {X:Cx}
end
end L2
namespace L2
open PySem PySem.Spec PyProof.Rows PySem.W
section
variable {X:Cx} {pins pl:List (Addr × Obj)} {σ:St} {H:Hp} {s:Shared}
end
section
variable {X:Cx}
end
open PySem PySem.Spec PyProof.Rows
inductive Thw (H:Hp):Hp→Hp→Prop
  | refl (H1:Hp):Thw H H1 H1
  | step {H1 H2:Hp} {d:Addr} {o:Obj} {u:HO} (h:Thw H H1 H2) (nf:qU H d) (e:H2 d=some (.frz o u)):Thw H H1 (upd H2 d u)
open PySem PySem.Spec PyProof.Rows
open PySem PySem.Spec PyProof.Rows
section
variable {X:Cx} {tg:Expr}
end
open PySem PySem.Spec PyProof.Rows
section
variable {prog:Program} {w:World} {A:Around} {E:Value→Shared→Prop} {R:Result→Shared→Prop} {s:Shared}
end
section
variable {prog:Program} {w:World}
end
section
variable {X:Cx}
end
open PySem PySem.Spec PyProof.Rows
section
variable {M:Model} {A:Around} {E:Value→Shared→Prop} {s:Shared}
end
section
variable {X:Cx}
end
open PySem PySem.Spec PyProof.Rows
open PySem PySem.Spec PyProof.Rows
section
variable {X:Cx} {pins:List (Addr × Obj)} {σ:St} {H:Hp} {s:Shared}
end
end L2
namespace L2
open PySem
variable {X:Cx}
end L2
namespace L2
open PySem PyProof.Rows PySem.W
open PySem PySem.Spec PyProof.Rows
theorem vO {X:Cx} {a:Expr} {ta:TE} {pos:Pos} (ha:PE X a ta):PE X (.UnaryOp .Not a pos) (fun σ H Q=>ta σ H fun x H'=>∃ k,wu X.K x H' k∧Q (.bl (!k)) H'):=by
  intro pins s σ H Q I h;refine UnaryOp_ (thn (ha pins s σ H _ I h) fun v s1 ⟨x,H1,I1,r1,k,tr,q1⟩=>?_);exact not_of (thn (tP pins s1 σ H1 x v _ I1 r1 ⟨k,tr,q1⟩) fun b s2 ⟨H2,I2,q2⟩=>⟨.bl (!b),H2,I2,rfl,q2⟩)
theorem Same.upd {H H1:Hp} {p:Addr} {o:HO} (a:Same H H1) (h:H p=none):Same H (L2.upd H1 p o):=fun b u q=>by
  rw [aq (aF q h)];exact a b u q
end L2
namespace Put
open PySem L2
def top (i:Nat):Stmt:=PySem.Challenge.pw_putsigns_k43_whole_held_and_barred.main.body.getD i (.Pass ⟨0,0,0,0⟩)
inductive Sg where
  | plus|minus|times
  deriving DecidableEq
def Sg.str:Sg→Str
  | .plus=>"+"
  | .minus=>"-"
  | .times=>"*"
inductive Wy where
  | num (i:Int)
  | node (g:Sg) (l r:Wy)
  deriving DecidableEq
def Wy.size:Wy→Nat
  | .num _=>1
  | .node _ l r=>l.size+r.size
def Wy.knots:Wy→Nat
  | .num _=>1
  | .node _ l r=>l.knots+r.knots+1
theorem Wy.size_pos:∀ w:Wy,1≤w.size
  | .num _=>aag _
  | .node _ l r=>by have:=l.size_pos;show 1≤l.size+r.size;lia
def WyIn (H:Hp):Wy→V→Prop
  | .num i,v=>v=.int i
  | .node g l r,v=>∃ a vl vr,v=.ref a∧H a=some (.tup [.str g.str,vl,vr])∧WyIn H l vl∧WyIn H r vr
def Tups (H H':Hp):Prop:=∀ b xs,H b=some (.tup xs)→H' b=some (.tup xs)
theorem Tups.of {H H':Hp} (a:Same H H'):Tups H H':=fun b xs h=>a b _ h
theorem Tups.but {H H':Hp} {w:Addr} {xs:List V} (a:But w H H') (h:H w=some (.lst xs)):Tups H H':=fun b ys q=>a b _ (fun e=>by rw [e,h] at q;cases q) q
theorem Tups.trans {H H1 H2:Hp} (a:Tups H H1) (b:Tups H1 H2):Tups H H2:=fun c xs h=>b c xs (a c xs h)
theorem WyIn.mono {H H':Hp} (t:Tups H H'):∀ {w:Wy} {v:V},WyIn H w v→WyIn H' w v
  | .num _,_,h=>h
  | .node g l r,v,h=>by
    obtain ⟨a,vl,vr,e,h1,h2,h3⟩:=h;exact ⟨a,vl,vr,e,t _ _ h1,WyIn.mono t h2,WyIn.mono t h3⟩
def WyAll (H:Hp) (ws:List Wy) (vs:List V):Prop:=Paired (fun w v=>WyIn H w v) ws vs
theorem WyAll.mono {H H':Hp} (t:Tups H H') {ws:List Wy} {vs:List V} (p:WyAll H ws vs):WyAll H' ws vs:=by
  induction p with
  | nil=>exact .nil
  | cons a _ ih=>exact .cons (a.mono t) ih
theorem WyAll.snoc {H:Hp} {w:Wy} {v:V} (h:WyIn H w v):∀ {ws:List Wy} {vs:List V},WyAll H ws vs→WyAll H (ws++[w]) (vs++[v])
  | _,_,.nil=>.cons h .nil
  | _,_,.cons a b=>.cons a (WyAll.snoc h b)
theorem WyAll.length {H:Hp}:∀ {ws:List Wy} {vs:List V},WyAll H ws vs→ws.length=vs.length
  | _,_,.nil=>rfl
  | _,_,.cons _ b=>congrArg (·+1) (WyAll.length b)
def iy (ws:List Wy):Nat:=(ws.map Wy.size).sum
def fH (ws:List Wy):Nat:=(ws.map Wy.knots).sum
theorem hU (ws:List Wy) (w:Wy):iy (ws++[w])=iy ws+w.size:=by simp [iy]
theorem gt (ws:List Wy) (w:Wy):fH (ws++[w])=fH ws+w.knots:=by simp [fH]
theorem dh:∀ ws:List Wy,ws.length≤iy ws
  | []=>aag _
  | w :: r=>by
    have a:=dh r;have b:=w.size_pos;show r.length+1≤(w.size :: r.map Wy.size).sum;rw [abz];have : iy r=(r.map Wy.size).sum:=rfl;lia
theorem WyAll.last {H:Hp} {ws:List Wy} {vs:List V} (h:WyAll H ws vs) (ne:vs≠[]):∃ ws' w vs' v,ws=ws'++[w]∧vs=vs'++[v]∧WyAll H ws' vs'∧WyIn H w v:=by
  induction h with
  | nil=>exact absurd rfl ne
  | @cons w v ws vs a b ih =>
    cases b with
    | nil=>exact ⟨[],w,[],v,rfl,rfl,.nil,a⟩
    | cons a' b' =>
      obtain ⟨ws',w',vs',v',e1,e2,h1,h2⟩:=ih (by simp);exact ⟨w :: ws',w',v :: vs',v',by rw [e1];rfl,by rw [e2];rfl,.cons a h1,h2⟩
structure Bu (K:aaa) (mg:Str→Option Value):Prop where
  ilen:mg "len" = none
  iisinstance : mg "isinstance" = none
  iint:mg "int" = none
  ibool:mg "bool" = none
  istr:mg "str" = none
  ituple:mg "tuple" = none
  ilist:mg "list" = none
  isorted:mg "sorted" = none
  irange:mg "range" = none
  irepr:mg "repr" = none
  ienumerate:mg "enumerate" = none
  isum:mg "sum" = none
  iall:mg "all" = none
  imin:mg "min" = none
  imax:mg "max" = none
  iabs:mg "abs" = none
  idivmod:mg "divmod" = none
  idict:mg "dict" = none
  iset:mg "set" = none
  ireversed:mg "reversed" = none
  iany:mg "any" = none
  izip:mg "zip" = none
structure Co (K:aaa) (mg:Str→Option Value) (tk:Tok) (aS:Addr):Prop where
  gMOST_NUMBERS:mg "MOST_NUMBERS" = some (.int 9 tk)
  gSIGNS:mg "SIGNS" = some (.ref aS)
  sSIGNS:∀ H,SqT K H aS [.str "+",.str "-",.str "*"]
section
variable {P:Program} {w:World} {K:aaa} {mg:Str→Option Value} {base:Heap} {f:Addr} {fd:FuncData}
def cU (K:aaa):Sp:=fun vs H Q _=>∃ x n,vs=[x]∧TyOf K H x (.type n)∧Q (.bl (decide (n = "int"))) H
abbrev ib:Stmt:=top 11
theorem oF:FnScope ["thing"] ["thing"] (am ib):=⟨rfl,rfl,rfl,by decide +kernel,rfl,by decide +kernel,by decide +kernel⟩
theorem o4 (F:Fun K "is_whole" "is_whole" ib f fd) (B:Bu K mg):FnOk P w K mg base CX0 1 f fd ["thing"] (cU K):=by
  refine F.ok oF (fun vs H Q E h=>?_) (fun cdv A outer s H vs Q E hr h=>?_)
  · obtain ⟨x,n,rfl,_⟩:=h;rfl
  obtain ⟨x,n,rfl,ty,q⟩:=h;refine ⟨_,(@ak _ _ _ (@au _ _ _ _ (@d5 _ _ _ _ _ _ _ (@aA _ _ _ _ _ _ _ _ _ (@bN _ ("int")) rfl B.iisinstance aaK (@aa _ _ _ _ _ (pv 0) (@aa _ _ _ _ _ (@dm _ _ (.ty "int") _ _ rfl B.iint acv rfl (by decide) (by decide)) ac (by rfl)) (by rfl)) (by decide) (by decide) (by rfl) (by rfl)) (@fC _ _ _ _ _ (@xl _ _ _ _ (@aA _ _ _ _ _ _ _ _ _ (@bN _ ("bool")) rfl B.iisinstance aaK (@aa _ _ _ _ _ (pv 0) (@aa _ _ _ _ _ (@dm _ _ (.ty "bool") _ _ rfl B.ibool PyProof.Rows.boot_bool rfl (by decide) (by decide)) ac (by rfl)) (by rfl)) (by decide) (by decide) (by rfl) (by rfl))))))),?_⟩;cases ty with
  | non=>exact ⟨_,rfl,_,_,false,rfl,.non,rfl,false,rfl,bi q⟩
  | bl y=>exact ⟨_,rfl,_,_,true,rfl,.bl y,rfl,true,rfl,bV ⟨_,rfl,_,_,true,rfl,.bl y,rfl,true,rfl,q⟩⟩
  | int i=>exact ⟨_,rfl,_,_,true,rfl,.int i,rfl,true,rfl,bV ⟨_,rfl,_,_,false,rfl,.int i,rfl,false,rfl,q⟩⟩
  | str y=>exact ⟨_,rfl,_,_,false,rfl,.str y,rfl,false,rfl,bi q⟩
  | flt y=>exact ⟨_,rfl,_,_,false,rfl,.flt y,rfl,false,rfl,bi q⟩
  | lst e=>exact ⟨_,rfl,_,_,false,rfl,.lst e,rfl,false,rfl,bi q⟩
  | frz e=>exact ⟨_,rfl,_,_,false,rfl,.frz e,rfl,false,rfl,bi q⟩
  | tup e=>exact ⟨_,rfl,_,_,false,rfl,.tup e,rfl,false,rfl,bi q⟩
  | dK e=>exact ⟨_,rfl,_,_,false,rfl,.dK e,rfl,false,rfl,bi q⟩
  | dT e=>exact ⟨_,rfl,_,_,false,rfl,.dT e,rfl,false,rfl,bi q⟩
def yv (z:Str):Bool:=inV (.str z) [.str "+",.str "-",.str "*"]
theorem uI (g:Sg):yv g.str=true:=by cases g <;> decide +kernel
def qb:Sp:=fun vs H Q _=>∃ z,vs=[.str z]∧Q (.bl (yv z)) H
abbrev i6:Stmt:=top 15
theorem qk:FnScope ["thing"] ["thing"] (am i6):=⟨rfl,rfl,rfl,by decide +kernel,rfl,by decide +kernel,by decide +kernel⟩
theorem qz {tk:Tok} {aS:Addr} (F:Fun K "is_sign" "is_sign" i6 f fd) (B:Bu K mg) (B':Co K mg tk aS):FnOk P w K mg base CX0 1 f fd ["thing"] qb:=by
  refine F.ok qk (fun vs H Q E h=>?_) (fun cdv A outer s H vs Q E hr h=>?_)
  · obtain ⟨x,rfl,_⟩:=h;rfl
  obtain ⟨z,rfl,q⟩:=h;refine ⟨_,(ak (au (d5 (aA (bN (n:="str")) rfl B.iisinstance aaK (aa (pv 0) (aa (dm (v:=.ty "str") rfl B.istr PyProof.Rows.boot_str rfl) ac))) (fC (bZ mB (pv 0) (gF (v:=.ref aS) rfl B'.gSIGNS rfl) (by with_unfolding_all rfl)))))),?_⟩;exact ⟨_,rfl,_,_,true,rfl,.str z,rfl,true,rfl,bV ⟨_,rfl,aS,_,rfl,.inr (B'.sSIGNS H),rfl,rfl,q⟩⟩
open PySem L2
theorem v6 {α:Type} (xs:List α) (x:α):(xs++[x])[(xs++[x]).length - 1]?=some x:=by simp
theorem xY (xs:List V) (x:V):(xs++[x]).dropLast=xs:=by simp
theorem bM {n:Nat} (h:n≤1000):n≤sizeLine:=abg (aJ h)
def mZ:Sp:=fun vs H Q _=>∃ w v,vs=[v]∧WyIn H w v∧w.size≤9∧∀ H',Same H H'→Q (.bl true) H'
abbrev kt:Stmt:=top 16
theorem eh:FnScope ["thing","waiting","numbers","part"] ["thing"] (am kt):=⟨rfl,rfl,rfl,by decide +kernel,rfl,by decide +kernel,by decide +kernel⟩
theorem sR {tk:Tok} {aS:Addr} (F:Fun K "is_way" "is_way" kt f fd) (B:Bu K mg) (B':Co K mg tk aS) (C_is_whole:Cal P w K mg base "is_whole" 1 ["thing"] (cU K)) (C_is_sign:Cal P w K mg base "is_sign" 1 ["thing"] qb) :
    FnOk P w K mg base CX0 2 f fd ["thing"] mZ:=by
  refine F.ok eh (fun vs H Q E h=>?_) (fun cdv A outer s H vs Q E hr h=>?_)
  · obtain ⟨x,v,rfl,_⟩:=h;rfl
  obtain ⟨wy,v,rfl,hw,h9,q⟩:=h;refine ⟨_,(@ag _ _ _ _ _ (@aH _ _ (1) _ _ _ _ (eh).nd rfl (Or.inl rfl) (@aV _ _ _ _ (@aa _ _ _ _ _ (pv 0) ac (by rfl))) (by rfl) (by first|exact .inl rfl|exact .inr rfl|assumption)) (@ag _ _ _ _ _ (@aH _ _ (2) _ _ _ _ (eh).nd rfl (Or.inl rfl) ai (by rfl) (by first|exact .inl rfl|exact .inr rfl|assumption)) (@ag _ _ _ _ _ (@oP _ _ _ _ _ _ aa4 (@PW.pt _ _ _ (@jb _ _ _ _ _ _ _ (@dG _ _ _ (pv 1) (fun _=>rfl)) (@iE _ _ _ _ (@aK _ _ _ _ _ _ _ _ gl (@aC _ _ _ _ _ _ _ _ bU (pv 2) (@aA _ _ _ _ _ _ _ _ _ aB rfl B.ilen aay (@aa _ _ _ _ _ (pv 1) ac (by rfl)) (by decide) (by decide) (by rfl) (by rfl))) (@gF _ _ (.int 9) _ _ rfl B'.gMOST_NUMBERS ⟨_,rfl⟩ (by decide)) (aN _))))) (@ag _ _ _ _ _ (@aH _ _ (3) _ _ _ _ (eh).nd rfl (Or.inl rfl) (@xp _ _ _ _ _ _ _ _ _ aa2 PySem.F.slot_list_pop PySem.F.type_list_pop xt (pv 1) (by rfl) (by rfl)) (by rfl) (by first|exact .inl rfl|exact .inr rfl|assumption)) (@ak _ _ _ (@bh _ _ _ _ _ _ _ _ (@bQ _ _ _ (@aj _ _ _ _ _ _ _ _ _ _ _ C_is_whole hr (by lia) rfl (@aa _ _ _ _ _ (pv 3) ac (by rfl)) (by decide) (by rfl) (by rfl)) (by intro _;rfl)) (@ak _ _ _ (@nG _ _ (2) _ _ _ _ _ _ (eh).nd rfl (Or.inl rfl) ai qM (by first|exact .inl rfl|exact .inr rfl|assumption))) (@ak _ _ _ (@bh _ _ _ _ _ _ _ _ (@PW.pt _ _ _ (@jb _ _ _ _ _ _ _ (@bQ _ _ _ (@aA _ _ _ _ _ _ _ _ _ (@bN _ ("tuple")) rfl B.iisinstance aaK (@aa _ _ _ _ _ (pv 3) (@aa _ _ _ _ _ (@dm _ _ (.ty "tuple") _ _ rfl B.ituple acg rfl (by decide) (by decide)) ac (by rfl)) (by rfl)) (by decide) (by decide) (by rfl) (by rfl)) (by intro _;rfl)) (@jb _ _ _ _ _ _ _ (@aK _ _ _ _ _ _ _ _ eQ (@aA _ _ _ _ _ _ _ _ _ aB rfl B.ilen aay (@aa _ _ _ _ _ (pv 3) ac (by rfl)) (by decide) (by decide) (by rfl) (by rfl)) ai (aN _)) (@iE _ _ _ _ (@bQ _ _ _ (@aj _ _ _ _ _ _ _ _ _ _ _ C_is_sign hr (by lia) rfl (@aa _ _ _ _ _ (@aI _ _ _ _ _ _ _ aT (pv 3) ai (fun _ _=>rfl)) ac (by rfl)) (by decide) (by rfl) (by rfl)) (by intro _;rfl)))))) (@ag _ _ _ _ _ (@aX _ _ _ _ (@mr _ _ _ _ _ _ _ _ _ _ _ _ aa2 abc abd du (pv 1) (@aa _ _ _ _ _ (@aI _ _ _ _ _ _ _ aT (pv 3) ai (fun _ _=>rfl)) ac (by rfl)) (by rfl) (by rfl) (by rfl) (by rfl) (by rfl)) (by rfl)) (@ak _ _ _ (@aX _ _ _ _ (@mr _ _ _ _ _ _ _ _ _ _ _ _ aa2 abc abd du (pv 1) (@aa _ _ _ _ _ (@aI _ _ _ _ _ _ _ aT (pv 3) ai (fun _ _=>rfl)) ac (by rfl)) (by rfl) (by rfl) (by rfl) (by rfl) (by rfl)) (by rfl)))) (@ak _ _ _ (@au _ _ _ _ di)))))))) (@ak _ _ _ (@au _ _ _ _ (vO (pv 1))))))),?_⟩;refine ⟨_,rfl,(by show 1≤sizeLine;decide),fun p hp=>?_⟩;refine ⟨fun m σ H'=>∃ (n:Nat) (ws:List Wy) (vs:List V) (part:Option V),σ=[some v,some (.ref p),some (.int n),part]∧H' p=some (.lst vs)∧WyAll H' ws vs∧Same H H'∧n+iy ws≤9∧m=fH ws,?_,?_⟩
  · exact ⟨_,0,[wy],[v],_,rfl,af,.cons (hw.mono (Tups.of (Same.new hp _))) .nil,Same.new hp _,by simpa [iy] using h9,rfl⟩
  rintro m σ H' ⟨n,ws,vs,part,rfl,hH,hall,hS,hn,rfl⟩;by_cases ne:vs=[]
  · subst ne;refine ⟨_,rfl,false,.inl ⟨[],SqL.of hH,rfl⟩,bi (bi ?_)⟩;exact ⟨_,rfl,false,.inl ⟨[],SqL.of hH,rfl⟩,q H' hS⟩
  obtain ⟨ws',w',vs',v',rfl,rfl,hall',hw'⟩:=hall.last ne;have hl:=hall.length;have hle:=dh (ws'++[w']);rw [hU] at hn hle;have hlen:((n:Int)+((vs'++[v']).length:Nat)≤9):=by lia
  refine ⟨_,rfl,true,.inl ⟨_,SqL.of hH,by simp⟩,bV ⟨_,rfl,_,rfl,p,_,rfl,.inl (SqL.of hH),_,_,rfl,rfl,_,_,rfl,rfl,true,congrArg V.bl (decide_eq_true hlen),bV ⟨fun σ' H'=>∃ m',m' < fH (ws'++[w'])∧_,fun _ _ h=>h,?_⟩⟩⟩;refine ⟨_,rfl,.inl ⟨rfl,_,SqL.of hH⟩,p,_,v',rfl,rfl,hH,v6 _ _,?_⟩;rw [xY];have hT:Tups H' (upd H' p (.lst vs')):=fun b xs z=>by rw [aq (fun e=>by rw [e,hH] at z;cases z)];exact z
  have hp0:H p=none:=hp;have hS2:Same H (upd H' p (.lst vs')):=hS.upd hp0;rw [gt];cases w' with
  | num i =>
    cases hw';refine ⟨_,rfl,_,"int",rfl,.int i,true,rfl,bV ⟨_,rfl,_,_,rfl,rfl,?_⟩⟩;refine ⟨fH ws',abM _,n+1,ws',vs',_,rfl,af,hall'.mono hT,hS2,?_,rfl⟩;have : n+(iy ws'+1)≤9:=hn;lia
  | node g l r =>
    obtain ⟨a,vl,vr,rfl,ha,hl',hr'⟩:=hw';have ha2:upd H' p (.lst vs') a=some (.tup [.str g.str,vl,vr]):=hT _ _ ha;refine ⟨_,rfl,_,"tuple",rfl,.tup ha2,false,rfl,bi ?_⟩;refine ⟨_,rfl,_,_,true,rfl,.tup ha2,rfl,true,rfl,bV ⟨_,rfl,a,_,rfl,.inr (SqT.of ha2),rfl,_,rfl,bV ?_⟩⟩;refine ⟨_,rfl,a,_,_,_,rfl,rfl,SqT.of ha2,rfl,_,rfl,true,congrArg V.bl (uI g),bV ?_⟩;have hsz:vs'.length≤9:=by
      have:=hall'.length;have z:=dh ws';lia
    refine ⟨_,rfl,.inl ⟨rfl,_,SqL.of af⟩,_,rfl,a,_,_,_,rfl,rfl,SqT.of ha2,rfl,p,_,_,rfl,rfl,af,(aJ (by lia)),?_⟩;have hT2:Tups (upd H' p (.lst vs')) (upd (upd H' p (.lst vs')) p (.lst (vs'++[vl]))):=fun b xs z=>by rw [aq (fun e=>by rw [e,af] at z;cases z)];exact z
    refine ⟨_,rfl,.inl ⟨rfl,_,SqL.of af⟩,_,rfl,a,_,_,_,rfl,rfl,SqT.of (hT2 _ _ ha2),rfl,p,_,_,rfl,rfl,af,(aJ (by rw [aap,aby];lia)),?_⟩;have hT3:Tups (upd (upd H' p (.lst vs')) p (.lst (vs'++[vl]))) (upd (upd (upd H' p (.lst vs')) p (.lst (vs'++[vl]))) p (.lst (vs'++[vl]++[vr]))):=fun b xs z=>by rw [aq (fun e=>by rw [e,af] at z;cases z)];exact z
    have hTT:=(hT.trans hT2).trans hT3;refine ⟨fH (ws'++[l]++[r]),?_,n,ws'++[l]++[r],vs'++[vl]++[vr],_,rfl,af,((hall'.mono hTT).snoc (hl'.mono hTT)).snoc (hr'.mono hTT),(hS2.upd hp0).upd hp0,?_,rfl⟩
    · rw [gt,gt];show fH ws'+l.knots+r.knots < fH ws'+(l.knots+r.knots+1);lia
    · rw [hU,hU];have : n+(iy ws'+(l.size+r.size))≤9:=hn;lia
def d_:Sp:=fun vs H Q _=>∃ w v,vs=[v]∧WyIn H w v∧w.size≤9∧∀ H',Same H H'→Q .non H'
abbrev h_:Stmt:=top 19
theorem oD:FnScope ["thing"] ["thing"] (am h_):=⟨rfl,rfl,rfl,by decide +kernel,rfl,by decide +kernel,by decide +kernel⟩
theorem oZ (F:Fun K "need_way" "need_way" h_ f fd) (C_is_way:Cal P w K mg base "is_way" 2 ["thing"] mZ):FnOk P w K mg base CX0 3 f fd ["thing"] d_:=by
  refine F.ok oD (fun vs H Q E h=>?_) (fun cdv A outer s H vs Q E hr h=>?_)
  · obtain ⟨x,v,rfl,_⟩:=h;rfl
  obtain ⟨wy,v,rfl,hw,h9,q⟩:=h;refine ⟨_,(@ak _ _ _ (@bh _ _ _ _ _ _ _ _ (@cx _ _ _ _ (@bQ _ _ _ (@aj _ _ _ _ _ _ _ _ _ _ _ C_is_way hr (by lia) rfl (@aa _ _ _ _ _ (pv 0) ac (by rfl)) (by decide) (by rfl) (by rfl)) (by intro _;rfl))) (@ak _ _ _ eF) aO)),?_⟩;exact ⟨_,rfl,wy,v,rfl,hw,h9,fun H' hS=>⟨true,rfl,bi (q H' hS)⟩⟩
def Wy.nums:Wy→List Int
  | .num i=>[i]
  | .node _ l r=>l.nums++r.nums
theorem Wy.nums_len:∀ w:Wy,w.nums.length=w.size
  | .num _=>rfl
  | .node _ l r=>by show (l.nums++r.nums).length=l.size+r.size;rw [aap,l.nums_len,r.nums_len]
def Wy.deep:Wy→Nat
  | .num _=>1
  | .node _ l r=>max l.deep r.deep+1
theorem Wy.deep_le:∀ w:Wy,w.deep≤w.size
  | .num _=>aag _
  | .node _ l r=>by have a:=l.deep_le;have b:=r.deep_le;have c:=l.size_pos;have d:=r.size_pos;show max l.deep r.deep+1≤l.size+r.size;lia
def j9 (n:Nat):Sp:=fun vs H Q _=>∃ w v,vs=[v]∧WyIn H w v∧w.size≤20∧w.deep≤n∧∀ p H',Same H H'→H p=none→H' p=some (.lst (w.nums.map V.int))→Q (.ref p) H'
abbrev dD:Stmt:=top 24
theorem cu:FnScope ["way","sign","left","right"] ["way"] (am dD):=⟨rfl,rfl,rfl,by decide +kernel,rfl,by decide +kernel,by decide +kernel⟩
theorem jR (F:Fun K "list_numbers" "list_numbers" dD f fd) (bF:Binds K fd ["way"] []) (mF:mg "list_numbers" = some (.ref f)) (C_is_whole:Cal P w K mg base "is_whole" 1 ["thing"] (cU K)) :
    ∀ n,FnOk P w K mg base CX0 (n+1) f fd ["way"] (j9 n):=by
  intro n
  induction n with
  | zero =>
    refine ⟨fun vs H Q E h=>?_,fun A outer s H args us vs Q E _ _ _ _ h=>?_⟩
    · obtain ⟨x,v,rfl,_⟩:=h;rfl
    · obtain ⟨wy,v,_,_,_,hd,_⟩:=h;cases wy <;> exact absurd hd (by simp [Wy.deep])
  | succ n ih =>
    have C_list_numbers:Cal P w K mg base "list_numbers" (n+1) ["way"] (j9 n):=⟨f,fd,ih,bF,F.kp,mF⟩
    refine F.ok cu (fun vs H Q E h=>?_) (fun cdv A outer s H vs Q E hr h=>?_)
    · obtain ⟨x,v,rfl,_⟩:=h;rfl
    obtain ⟨wy,v,rfl,hw,h20,hd,q⟩:=h;refine ⟨_,(@ag _ _ _ _ _ (@bh _ _ _ _ _ _ _ _ (@bQ _ _ _ (@aj _ _ _ _ _ _ _ _ _ _ _ C_is_whole hr (by lia) rfl (@aa _ _ _ _ _ (pv 0) ac (by rfl)) (by decide) (by rfl) (by rfl)) (by intro _;rfl)) (@ak _ _ _ (@au _ _ _ _ (@aV _ _ _ _ (@aa _ _ _ _ _ (pv 0) ac (by rfl))))) aO) (@ag _ _ _ _ _ (@cy _ _ _ _ _ _ (pv 0) (@cz _ _ _ _ _ _ rfl (@az _ _ _ _ _ (@ao _ _ (1) _ (cu).nd rfl (Or.inl rfl) (.inl rfl)) (@az _ _ _ _ _ (@ao _ _ (2) _ (cu).nd rfl (Or.inl rfl) (.inl rfl)) (@az _ _ _ _ _ (@ao _ _ (3) _ (cu).nd rfl (Or.inl rfl) (.inl rfl)) a8 (by rfl)) (by rfl)) (by rfl)) (by rfl) (by rfl)) (by rfl) (by rfl) (by rfl)) (@ak _ _ _ (@au _ _ _ _ (@aC _ _ _ _ _ _ _ _ cQ (@aj _ _ _ _ _ _ _ _ _ _ _ C_list_numbers hr (by lia) rfl (@aa _ _ _ _ _ (pv 2) ac (by rfl)) (by decide) (by rfl) (by rfl)) (@aj _ _ _ _ _ _ _ _ _ _ _ C_list_numbers hr (by lia) rfl (@aa _ _ _ _ _ (pv 3) ac (by rfl)) (by decide) (by rfl) (by rfl))))))),?_⟩;cases wy with
    | num i =>
      cases hw;refine ⟨_,rfl,_,"int",rfl,.int i,true,rfl,bV ⟨_,rfl,(by show 1≤sizeLine;decide),fun p hp=>?_⟩⟩;exact q p _ (Same.new hp _) hp af
    | node g l r =>
      obtain ⟨a,vl,vr,rfl,ha,hl,hr'⟩:=hw;refine ⟨_,rfl,_,"tuple",rfl,.tup ha,false,rfl,bi ?_⟩;have d:max l.deep r.deep+1≤n+1:=hd;have z:l.size+r.size≤20:=h20;have zl:=l.size_pos;have zr:=r.size_pos;refine ⟨_,rfl,a,_,rfl,SqT.of ha,rfl,_,_,rfl,_,_,rfl,_,_,rfl,rfl,?_⟩;refine ⟨_,rfl,l,vl,rfl,hl,by lia,by lia,fun p H1 g1 n1 e1=>?_⟩;refine ⟨_,rfl,r,vr,rfl,hr'.mono (Tups.of g1),by lia,by lia,fun p2 H2 g2 n2 e2=>?_⟩;refine ⟨p,p2,_,_,rfl,rfl,g2 _ _ e1,e2,bM (by rw [aaf,aaf,l.nums_len,r.nums_len];lia),fun p3 n3=>?_⟩;refine q p3 _ ((g1.trans g2).trans (Same.new n3 _)) ((g1.trans g2).free n3) ?_;rw [af];show some (HO.lst (l.nums.map V.int++r.nums.map V.int))=some (HO.lst ((l.nums++r.nums).map V.int));rw [aaJ]
def fR:Sp:=fun vs H Q _=>∃ w v,vs=[v]∧WyIn H w v∧w.size≤9∧∀ p H',Same H H'→H p=none→H' p=some (.lst (w.nums.map V.int))→Q (.ref p) H'
abbrev ff:Stmt:=top 23
theorem lG:FnScope ["way"] ["way"] (am ff):=⟨rfl,rfl,rfl,by decide +kernel,rfl,by decide +kernel,by decide +kernel⟩
theorem lQ (F:Fun K "numbers_of" "numbers_of" ff f fd) (C_need_way:Cal P w K mg base "need_way" 3 ["thing"] d_) (C_list_numbers:Cal P w K mg base "list_numbers" 21 ["way"] (j9 20)) :
    FnOk P w K mg base CX0 22 f fd ["way"] fR:=by
  refine F.ok lG (fun vs H Q E h=>?_) (fun cdv A outer s H vs Q E hr h=>?_)
  · obtain ⟨x,v,rfl,_⟩:=h;rfl
  obtain ⟨wy,v,rfl,hw,h9,q⟩:=h;refine ⟨_,(@ag _ _ _ _ _ (@aX _ _ _ _ (@aj _ _ _ _ _ _ _ _ _ _ _ C_need_way hr (by lia) rfl (@aa _ _ _ _ _ (pv 0) ac (by rfl)) (by decide) (by rfl) (by rfl)) (by rfl)) (@ak _ _ _ (@au _ _ _ _ (@aj _ _ _ _ _ _ _ _ _ _ _ C_list_numbers hr (by lia) rfl (@aa _ _ _ _ _ (pv 0) ac (by rfl)) (by decide) (by rfl) (by rfl))))),?_⟩;refine ⟨_,rfl,wy,v,rfl,hw,h9,fun H1 g1=>?_⟩;have dl:=wy.deep_le;exact ⟨_,rfl,wy,v,rfl,hw.mono (Tups.of g1),by lia,by lia,fun p H2 g2 n2 e2=>q p H2 (g1.trans g2) (g1.free n2) e2⟩
def aD:List Sg→Str
  | []=>""
  | g :: r=>g.str++aD r
theorem xg (g:Sg):g.str.length=1:=by cases g <;> rfl
theorem vI (x y:Str):(x++y).length=x.length+y.length:=by
  cases x;cases y;show (_++_:Array Nat).size=_;rw [Array.size_append];rfl
theorem kh:∀ xs:List Sg,(aD xs).length=xs.length
  | []=>rfl
  | g :: r=>by show (g.str++aD r).length=r.length+1;rw [vI,xg,kh r];lia
end
open PySem L2
def Wel (H:Hp) (w:Addr) (_M:Int):Prop:=∃ a b,H w=some (.lst [.int a,.int b])∧0≤b∧b < 2147483629
theorem Wel.keep {H H':Hp} {w:Addr} {M M':Int} (h:Wel H w M) (s:Same H H') (m:M≤M'):Wel H' w M':=by
  obtain ⟨a,b,e,h0,h1⟩:=h;exact ⟨a,b,s _ _ e,h0,h1⟩
theorem Wel.more {H:Hp} {w:Addr} {M M':Int} (h:Wel H w M) (m:M≤M'):Wel H w M':=h.keep (Same.refl H) m
theorem But.free {w p:Addr} {H H':Hp} {M:Int} (b:But w H H') (h:Wel H' w M) (n:H' p=none):H p=none:=by
  cases q:H p with
  | none=>rfl
  | some o =>
    by_cases e:p=w
    · subst e;obtain ⟨_,_,z,_⟩:=h;rw [z] at n;cases n
    · rw [b p o e q] at n;cases n
theorem Wel.ne {w p:Addr} {H:Hp} {M:Int} (h:Wel H w M) (n:H p=none):p≠w:=fun e=>by
  subst e;obtain ⟨_,_,z,_⟩:=h;rw [z] at n;cases n
theorem Wel.tups {w:Addr} {H H':Hp} {M:Int} (h:Wel H w M) (b:But w H H'):Tups H H':=by
  obtain ⟨_,_,z,_⟩:=h;exact Tups.but b z
section
variable {P:Program} {w:World} {K:aaa} {mg:Str→Option Value} {base:Heap} {f:Addr} {fd:FuncData}
theorem py (x m:Int) (h:0 < m):0≤x % m∧x % m < m:=⟨Int.emod_nonneg x (by lia),Int.emod_lt_of_pos x h⟩
def p_:Sp:=fun vs H Q _=>∃ cell,vs=[.int cell]∧∀ p H',Same H H'→H p=none→Wel H' p 0→Q (.ref p) H'
abbrev fX:Stmt:=top 66
theorem nF:FnScope ["cell"] ["cell"] (am fX):=⟨rfl,rfl,rfl,by decide +kernel,rfl,by decide +kernel,by decide +kernel⟩
theorem vR (F:Fun K "_law_well" "_law_well" fX f fd) (B:Bu K mg):FnOk P w K mg base CX0 1 f fd ["cell"] p_:=by
  refine F.ok nF (fun vs H Q E h=>?_) (fun cdv A outer s H vs Q E hr h=>?_)
  · obtain ⟨x,rfl,_⟩:=h;rfl
  obtain ⟨cell,rfl,q⟩:=h;refine ⟨_,(@ag _ _ _ _ _ (@bh _ _ _ _ _ _ _ _ (@aK _ _ _ _ _ _ _ _ wJ (pv 0) (@aC _ _ _ _ _ _ _ _ fF ai ai) (aN _)) (@ak _ _ _ (@au _ _ _ _ (@aV _ _ _ _ (@aa _ _ _ _ _ (pv 0) (@aa _ _ _ _ _ (@aC _ _ _ _ _ _ _ _ gk (pv 0) ai) ac (by rfl)) (by rfl))))) aO) (@ak _ _ _ (@au _ _ _ _ (@aV _ _ _ _ (@aa _ _ _ _ _ ai (@aa _ _ _ _ _ (@aC _ _ _ _ _ _ _ _ gk (pv 0) ai) ac (by rfl)) (by rfl)))))),?_⟩;have z:=py cell 2147483629 (by decide);refine ⟨_,rfl,_,_,rfl,rfl,⟨by decide,by decide,by decide⟩,_,_,rfl,rfl,_,rfl,dI (fun _=>?_) (fun _=>?_)⟩
  · exact ⟨_,rfl,_,rfl,_,_,rfl,rfl,(show (0:Int) < 2147483629 by decide),(by show 2≤sizeLine;decide),fun p hp=>q p _ (Same.new hp _) hp ⟨_,_,af,z.1,z.2⟩⟩
  · exact ⟨_,rfl,_,_,rfl,rfl,(show (0:Int) < 2147483629 by decide),(by show 2≤sizeLine;decide),fun p hp=>q p _ (Same.new hp _) hp ⟨_,_,af,z.1,z.2⟩⟩
def g_:Sp:=fun vs H Q _=>∃ w m M,vs=[.ref w,.int m]∧0 < m∧m < 2 ^ 63∧Wel H w M∧M < 1000000000∧∀ r H',0≤r→r < m→But w H H'→Wel H' w (M+1)→Q (.int r) H'
abbrev fY:Stmt:=top 67
theorem dk:FnScope ["well","many","got","stirred"] ["well","many"] (am fY):=⟨rfl,rfl,rfl,by decide +kernel,rfl,by decide +kernel,by decide +kernel⟩
theorem vT (F:Fun K "_law_draw" "_law_draw" fY f fd):FnOk P w K mg base CX0 2 f fd ["well","many"] g_:=by
  refine F.ok dk (fun vs H Q E h=>?_) (fun cdv A outer s H vs Q E hr h=>?_)
  · obtain ⟨x,m,M,rfl,_⟩:=h;rfl
  obtain ⟨wl,m,M,rfl,h0,h1,⟨a,b,e,c0,c1⟩,hM,q⟩:=h;refine ⟨_,(@ag _ _ _ _ _ (@bh _ _ _ _ _ _ _ _ (@aK _ _ _ _ _ _ _ _ mC (@aI _ _ _ _ _ _ _ aR (pv 0) ai (fun _ _=>rfl)) ai (aN _)) (@ag _ _ _ _ _ (@aH _ _ (2) _ _ _ _ (dk).nd rfl (Or.inl rfl) (@aC _ _ _ _ _ _ _ _ gk (@aI _ _ _ _ _ _ _ aR (pv 0) ai (fun _ _=>rfl)) (pv 1)) (by rfl) (by first|exact .inl rfl|exact .inr rfl|assumption)) (@ag _ _ _ _ _ (@cy _ _ _ _ _ _ (@aC _ _ _ _ _ _ _ _ oV (@aI _ _ _ _ _ _ _ aR (pv 0) ai (fun _ _=>rfl)) (pv 1)) (@ud _ _ _ _ _ _ _ (pv 0) ai oz (by intro _;rfl)) (by rfl) (by rfl) (by rfl)) (@ak _ _ _ (@au _ _ _ _ (pv 2))))) aO) (@ag _ _ _ _ _ (@aH _ _ (3) _ _ _ _ (dk).nd rfl (Or.inl rfl) (@aC _ _ _ _ _ _ _ _ gk (@aC _ _ _ _ _ _ _ _ bU (@aC _ _ _ _ _ _ _ _ gg (@aI _ _ _ _ _ _ _ aR (pv 0) ai (fun _ _=>rfl)) ai) ai) ai) (by rfl) (by first|exact .inl rfl|exact .inr rfl|assumption)) (@ag _ _ _ _ _ (@aH _ _ (3) _ _ _ _ (dk).nd rfl (Or.inl rfl) (@aC _ _ _ _ _ _ _ _ gk (@aC _ _ _ _ _ _ _ _ gg (pv 3) (pv 3)) ai) (by rfl) (by first|exact .inl rfl|exact .inr rfl|assumption)) (@ag _ _ _ _ _ (@cy _ _ _ _ _ _ (@aC _ _ _ _ _ _ _ _ gk (@aC _ _ _ _ _ _ _ _ bU (@aC _ _ _ _ _ _ _ _ gg (pv 3) ai) ai) ai) (@ud _ _ _ _ _ _ _ (pv 0) ai oz (by intro _;rfl)) (by rfl) (by rfl) (by rfl)) (@ak _ _ _ (@au _ _ _ _ (@aC _ _ _ _ _ _ _ _ gk (@aC _ _ _ _ _ _ _ _ oV (@aI _ _ _ _ _ _ _ aR (pv 0) ai (fun _ _=>rfl)) ai) (pv 1)))))))),?_⟩;refine ⟨_,rfl,wl,_,_,_,rfl,rfl,SqL.of e,rfl,_,_,rfl,rfl,_,rfl,dI (fun _=>?_) (fun _=>?_)⟩
  · refine ⟨_,rfl,wl,_,_,_,rfl,rfl,SqL.of e,rfl,_,rfl,_,_,rfl,rfl,h0,?_⟩;refine ⟨_,rfl,wl,_,_,_,rfl,rfl,SqL.of e,rfl,_,rfl,_,_,rfl,rfl,⟨h0,by lia⟩,_,rfl,wl,_,_,0,rfl,rfl,e,rfl,?_⟩;refine ⟨_,rfl,?_⟩;have z:=py a m h0;exact q _ _ z.1 z.2 But.put ⟨_,_,af,c0,c1⟩
  · refine ⟨_,rfl,wl,_,_,_,rfl,rfl,SqL.of e,rfl,_,_,rfl,rfl,.inr ⟨by decide,by decide⟩,_,_,rfl,rfl,_,_,rfl,rfl,(show (0:Int) < 2147483647 by decide),?_⟩;refine ⟨_,rfl,_,rfl,_,_,rfl,rfl,.inl ⟨by lia,by lia⟩,_,_,rfl,rfl,(show (0:Int) < 2147483587 by decide),?_⟩;refine ⟨_,rfl,_,_,rfl,rfl,.inr ⟨by decide,by decide⟩,_,_,rfl,rfl,_,_,rfl,rfl,(show (0:Int) < 2147483629 by decide),_,rfl,wl,_,_,1,rfl,rfl,e,rfl,?_⟩;have hd:=py ((b * 48271+11) % 2147483647 * ((b * 48271+11) % 2147483647) % 2147483587 * 69621+40692) 2147483629 (by decide);refine ⟨_,rfl,wl,_,_,_,rfl,rfl,SqL.of af,rfl,_,_,rfl,rfl,⟨by decide,by decide⟩,_,rfl,_,_,rfl,rfl,h0,?_⟩;have z:=py (((b * 48271+11) % 2147483647 * ((b * 48271+11) % 2147483647) % 2147483587 * 69621+40692) % 2147483629 / 8) m h0;exact q _ _ z.1 z.2 But.put ⟨_,_,af,hd.1,hd.2⟩
open PySem L2
def iP (ns:List Int):Prop:=∀ i∈ns,-1000000000000 < i∧i < 1000000000000
def tU:Sp:=fun vs H Q _=>∃ w n M,vs=[.ref w,.int n]∧0≤n∧n≤20∧Wel H w M∧M < 999990000 ∧
  ∀ p ns H',But w H H'→Wel H' w (M+400)→H p=none→H' p=some (.lst (ns.map V.int))→(ns.length:Int)=n→iP ns→Q (.ref p) H'
theorem oR {xs:List Int} {r:Int} (h0:0≤r) (h1:r < xs.length):∃ u:Int,atI (xs.map V.int) r=some (.int u)∧u∈xs:=by
  obtain ⟨j,rfl⟩:∃ j:Nat,r=(j:Int):=⟨r.toNat,by lia⟩
  have hj:j < xs.length:=by lia
  exact ⟨xs[j],iN (by rw [aaL,aac hj];rfl),aa8 hj⟩
theorem pm {k:Int} (h0:0≤k) (h1:k < 2):∃ z:Int,atI [V.int 1,.int (-1)] k=some (.int z)∧(z=1∨z=-1):=by
  have : k=0∨k=1:=by lia
  rcases this with rfl|rfl
  · exact ⟨1,rfl,.inl rfl⟩
  · exact ⟨-1,rfl,.inr rfl⟩
theorem p4 {k:Int} (h0:0≤k) (h1:k < 4):∃ z:Int,atI [V.int (10 ^ (4:Int).toNat),.int (10 ^ (6:Int).toNat),.int (10 ^ (9:Int).toNat),.int (10 ^ (12:Int).toNat)] k=some (.int z)∧0 < z∧z≤1000000000000:=by
  have : k=0∨k=1∨k=2∨k=3:=by lia
  rcases this with rfl|rfl|rfl|rfl <;> exact ⟨_,rfl,by decide,by decide⟩
abbrev ij:Stmt:=top 68
theorem bH:FnScope ["well","many","kind","found","k","some","wide","own"] ["well","many"] (am ij):=⟨rfl,rfl,rfl,by decide +kernel,rfl,by decide +kernel,by decide +kernel⟩
theorem xq (F:Fun K "_law_row" "_law_row" ij f fd) (B:Bu K mg) (C__law_draw:Cal P w K mg base "_law_draw" 2 ["well","many"] g_):FnOk P w K mg base CX0 3 f fd ["well","many"] tU:=by
  refine F.ok bH (fun vs H Q E h=>?_) (fun cdv A outer s H vs Q E hr h=>?_)
  · obtain ⟨x,m,M,rfl,_⟩:=h;rfl
  obtain ⟨wl,n,M,rfl,h0,h1,hw,hM,q⟩:=h;refine ⟨_,(@ag _ _ _ _ _ (@aH _ _ (2) _ _ _ _ (bH).nd rfl (Or.inl rfl) (@aj _ _ _ _ _ _ _ _ _ _ _ C__law_draw hr (by lia) rfl (@aa _ _ _ _ _ (pv 0) (@aa _ _ _ _ _ ai ac (by rfl)) (by rfl)) (by decide) (by rfl) (by rfl)) (by rfl) (by first|exact .inl rfl|exact .inr rfl|assumption)) (@ag _ _ _ _ _ (@aH _ _ (3) _ _ _ _ (bH).nd rfl (Or.inl rfl) (@aV _ _ _ _ ac) (by rfl) (by first|exact .inl rfl|exact .inr rfl|assumption)) (@ag _ _ _ _ _ (@fz _ _ _ _ _ _ _ _ aa4 rfl (@eI _ _ _ _ _ _ rfl B.irange (@aa _ _ _ _ _ (pv 1) ac (by rfl)) (by rfl)) (@ao _ _ (4) _ (bH).nd rfl (Or.inl rfl) (.inl rfl)) (@ag _ _ _ _ _ (@aH _ _ (5) _ _ _ _ (bH).nd rfl (Or.inl rfl) (@aV _ _ _ _ (@aa _ _ _ _ _ (@aj _ _ _ _ _ _ _ _ _ _ _ C__law_draw hr (by lia) rfl (@aa _ _ _ _ _ (pv 0) (@aa _ _ _ _ _ ai ac (by rfl)) (by rfl)) (by decide) (by rfl) (by rfl)) (@aa _ _ _ _ _ (@aC _ _ _ _ _ _ _ _ bz (@aj _ _ _ _ _ _ _ _ _ _ _ C__law_draw hr (by lia) rfl (@aa _ _ _ _ _ (pv 0) (@aa _ _ _ _ _ ai ac (by rfl)) (by rfl)) (by decide) (by rfl) (by rfl)) ai) (@aa _ _ _ _ _ (@aC _ _ _ _ _ _ _ _ bz (@aj _ _ _ _ _ _ _ _ _ _ _ C__law_draw hr (by lia) rfl (@aa _ _ _ _ _ (pv 0) (@aa _ _ _ _ _ ai ac (by rfl)) (by rfl)) (by decide) (by rfl) (by rfl)) ai) (@aa _ _ _ _ _ (@aC _ _ _ _ _ _ _ _ bz (@aj _ _ _ _ _ _ _ _ _ _ _ C__law_draw hr (by lia) rfl (@aa _ _ _ _ _ (pv 0) (@aa _ _ _ _ _ ai ac (by rfl)) (by rfl)) (by decide) (by rfl) (by rfl)) ai) ac (by rfl)) (by rfl)) (by rfl)) (by rfl))) (by rfl) (by first|exact .inl rfl|exact .inr rfl|assumption)) (@ag _ _ _ _ _ (@aH _ _ (5) _ _ _ _ (bH).nd rfl (Or.inl rfl) (@aC _ _ _ _ _ _ _ _ cQ (pv 5) (@aV _ _ _ _ (@aa _ _ _ _ _ (@aC _ _ _ _ _ _ _ _ gg (@aC _ _ _ _ _ _ _ _ bz (@aC _ _ _ _ _ _ _ _ bz (@aC _ _ _ _ _ _ _ _ fF ai ai) ai) (@aj _ _ _ _ _ _ _ _ _ _ _ C__law_draw hr (by lia) rfl (@aa _ _ _ _ _ (pv 0) (@aa _ _ _ _ _ ai ac (by rfl)) (by rfl)) (by decide) (by rfl) (by rfl))) (@aI _ _ _ _ _ _ _ aR (@aV _ _ _ _ (@aa _ _ _ _ _ ai (@aa _ _ _ _ _ (@oS _ _ _ _ _ _ j8 ai) ac (by rfl)) (by rfl))) (@aj _ _ _ _ _ _ _ _ _ _ _ C__law_draw hr (by lia) rfl (@aa _ _ _ _ _ (pv 0) (@aa _ _ _ _ _ ai ac (by rfl)) (by rfl)) (by decide) (by rfl) (by rfl)) (fun _ _=>rfl))) (@aa _ _ _ _ _ (@aC _ _ _ _ _ _ _ _ bU ai (@aj _ _ _ _ _ _ _ _ _ _ _ C__law_draw hr (by lia) rfl (@aa _ _ _ _ _ (pv 0) (@aa _ _ _ _ _ ai ac (by rfl)) (by rfl)) (by decide) (by rfl) (by rfl))) ac (by rfl)) (by rfl)))) (by rfl) (by first|exact .inl rfl|exact .inr rfl|assumption)) (@ag _ _ _ _ _ (@aH _ _ (6) _ _ _ _ (bH).nd rfl (Or.inl rfl) (@aC _ _ _ _ _ _ _ _ bU (@aC _ _ _ _ _ _ _ _ gg (@aj _ _ _ _ _ _ _ _ _ _ _ C__law_draw hr (by lia) rfl (@aa _ _ _ _ _ (pv 0) (@aa _ _ _ _ _ (@aC _ _ _ _ _ _ _ _ fF ai ai) ac (by rfl)) (by rfl)) (by decide) (by rfl) (by rfl)) (@aC _ _ _ _ _ _ _ _ fF ai ai)) (@aj _ _ _ _ _ _ _ _ _ _ _ C__law_draw hr (by lia) rfl (@aa _ _ _ _ _ (pv 0) (@aa _ _ _ _ _ (@aC _ _ _ _ _ _ _ _ fF ai ai) ac (by rfl)) (by rfl)) (by decide) (by rfl) (by rfl))) (by rfl) (by first|exact .inl rfl|exact .inr rfl|assumption)) (@ag _ _ _ _ _ (@aH _ _ (6) _ _ _ _ (bH).nd rfl (Or.inl rfl) (@aC _ _ _ _ _ _ _ _ gg (@aC _ _ _ _ _ _ _ _ gk (pv 6) (@aI _ _ _ _ _ _ _ aR (@aV _ _ _ _ (@aa _ _ _ _ _ (@aC _ _ _ _ _ _ _ _ fF ai ai) (@aa _ _ _ _ _ (@aC _ _ _ _ _ _ _ _ fF ai ai) (@aa _ _ _ _ _ (@aC _ _ _ _ _ _ _ _ fF ai ai) (@aa _ _ _ _ _ (@aC _ _ _ _ _ _ _ _ fF ai ai) ac (by rfl)) (by rfl)) (by rfl)) (by rfl))) (@aj _ _ _ _ _ _ _ _ _ _ _ C__law_draw hr (by lia) rfl (@aa _ _ _ _ _ (pv 0) (@aa _ _ _ _ _ ai ac (by rfl)) (by rfl)) (by decide) (by rfl) (by rfl)) (fun _ _=>rfl))) (@aI _ _ _ _ _ _ _ aR (@aV _ _ _ _ (@aa _ _ _ _ _ ai (@aa _ _ _ _ _ (@oS _ _ _ _ _ _ j8 ai) ac (by rfl)) (by rfl))) (@aj _ _ _ _ _ _ _ _ _ _ _ C__law_draw hr (by lia) rfl (@aa _ _ _ _ _ (pv 0) (@aa _ _ _ _ _ ai ac (by rfl)) (by rfl)) (by decide) (by rfl) (by rfl)) (fun _ _=>rfl))) (by rfl) (by first|exact .inl rfl|exact .inr rfl|assumption)) (@ag _ _ _ _ _ (@aH _ _ (7) _ _ _ _ (bH).nd rfl (Or.inl rfl) (@aj _ _ _ _ _ _ _ _ _ _ _ C__law_draw hr (by lia) rfl (@aa _ _ _ _ _ (pv 0) (@aa _ _ _ _ _ ai ac (by rfl)) (by rfl)) (by decide) (by rfl) (by rfl)) (by rfl) (by first|exact .inl rfl|exact .inr rfl|assumption)) (@ak _ _ _ (@aX _ _ _ _ (@mr _ _ _ _ _ _ _ _ _ _ _ _ aa2 abc abd du (pv 3) (@aa _ _ _ _ _ (@aI _ _ _ _ _ _ _ aR (@aC _ _ _ _ _ _ _ _ cQ (pv 5) (@aV _ _ _ _ (@aa _ _ _ _ _ (@aI _ _ _ _ _ _ _ aR (@aC _ _ _ _ _ _ _ _ cQ (pv 3) (pv 5)) ai (fun _ _=>rfl)) (@aa _ _ _ _ _ (pv 6) ac (by rfl)) (by rfl)))) (@aI _ _ _ _ _ _ _ aR (@aV _ _ _ _ (@aa _ _ _ _ _ (pv 2) (@aa _ _ _ _ _ (pv 7) ac (by rfl)) (by rfl))) (@mo _ _ _ _ _ _ _ _ _ mR rfl B.iint acv (@aa _ _ _ _ _ (@bZ _ _ _ _ _ _ _ _ eQ (pv 2) ai (aN _)) ac (by rfl)) (by decide) (by decide) (by rfl) (by rfl)) (fun _ _=>rfl)) (fun _ _=>rfl)) ac (by rfl)) (by rfl) (by rfl) (by rfl) (by rfl) (by rfl)) (by rfl)))))))) (by intro _;rfl)) (@ak _ _ _ (@au _ _ _ _ (pv 3)))))),?_⟩;have t1:(1:Nat)≤sizeLine:=by decide
  have t2:(2:Nat)≤sizeLine:=by decide
  have t4:(4:Nat)≤sizeLine:=by decide
  refine ⟨_,rfl,wl,9,_,rfl,by decide,by decide,hw,by lia,fun kd H1 kd0 kd1 g1 w1=>?_⟩;refine ⟨(by show 0≤sizeLine;decide),fun pf nf=>?_⟩;have nfw:=w1.ne nf;have hfree:H pf=none:=But.free g1 w1 nf;refine ⟨_,rfl,n,rfl,by lia,by lia,jt (n:=n.toNat) (fun j σ H'=>∃ (ns:List Int) (c4 c5 c6 c7:Option V),σ=[some (.ref wl),some (.int n),some (.int kd),some (.ref pf),c4,c5,c6,c7]∧H' pf=some (.lst (ns.map V.int))∧ns.length=j∧iP ns∧But wl H1 H'∧Wel H' wl (M+1+15 * j)) ⟨[],_,_,_,_,rfl,af,rfl,(fun _ z=>nomatch z),But.new nf _,(w1.keep (Same.new nf _) (aav _)).more (by lia)⟩ ?_ ?_⟩
  · rintro j σ K0 hj ⟨ns,c4,c5,c6,c7,rfl,ef,hl,hs,bb,u0⟩;refine ⟨_,rfl,wl,10,_,rfl,by decide,by decide,u0,by lia,fun r1 K1 r1a r1b b0 u1=>?_⟩;refine ⟨_,rfl,wl,3,_,rfl,by decide,by decide,u1,by lia,fun r2 K2 r2a r2b b1 u2=>⟨_,_,rfl,rfl,?_⟩⟩;refine ⟨_,rfl,wl,13,_,rfl,by decide,by decide,u2,by lia,fun r3 K3 r3a r3b b2 u3=>⟨_,_,rfl,rfl,?_⟩⟩;refine ⟨_,rfl,wl,1999,_,rfl,by decide,by decide,u3,by lia,fun r4 K4 r4a r4b b3 u4=>⟨_,_,rfl,rfl,?_⟩⟩;refine ⟨t4,fun q1 m1=>?_⟩;have y4:=Same.new m1 (.lst [V.int r1,.int (r2 - 1),.int (r3 - 6),.int (r4 - 999)]);have nq_q1:=u4.ne m1;have u5:=u4.keep y4 (aav _);have e_q1:=af (H:=K4) (a:=q1) (o:=.lst [V.int r1,.int (r2 - 1),.int (r3 - 6),.int (r4 - 999)]);revert y4 u5 e_q1;generalize upd K4 q1 (.lst [V.int r1,.int (r2 - 1),.int (r3 - 6),.int (r4 - 999)])=K5;intro y4 u5 e_q1;have b4:But wl K4 K5:=But.of y4;refine ⟨_,rfl,10,12,rfl,rfl,⟨by decide,by decide,by decide⟩,_,_,rfl,rfl,?_⟩;refine ⟨_,rfl,wl,99,_,rfl,by decide,by decide,u5,by lia,fun r5 K6 r5a r5b b5 u6=>⟨_,_,rfl,rfl,?_⟩⟩;refine ⟨_,rfl,t2,fun q2 m2=>?_⟩;have y6:=Same.new m2 (.lst [V.int 1,.int (-1)]);have nq_q2:=u6.ne m2;have u7:=u6.keep y6 (aav _);have e_q2:=af (H:=K6) (a:=q2) (o:=.lst [V.int 1,.int (-1)]);revert y6 u7 e_q2;generalize upd K6 q2 (.lst [V.int 1,.int (-1)])=K7;intro y6 u7 e_q2;have b6:But wl K6 K7:=But.of y6;refine ⟨_,rfl,wl,2,_,rfl,by decide,by decide,u7,by lia,fun r6 K8 r6a r6b b7 u8=>?_⟩;obtain ⟨s1,hs1,vs1⟩:=pm r6a r6b;have p12:(10:Int) ^ (12:Int).toNat=1000000000000:=by decide
    rw [p12];refine ⟨q2,_,_,_,rfl,rfl,SqL.of (b7 _ _ nq_q2 e_q2),hs1,_,_,rfl,rfl,.inr ⟨by lia,by lia⟩,?_⟩;refine ⟨_,rfl,wl,9,_,rfl,by decide,by decide,u8,by lia,fun r7 K9 r7a r7b b8 u9=>⟨_,_,rfl,rfl,?_⟩⟩;refine ⟨t2,fun q3 m3=>?_⟩;have y9:=Same.new m3 (.lst [V.int ((1000000000000 - 1 - r5) * s1),.int (1+r7)]);have nq_q3:=u9.ne m3;have u10:=u9.keep y9 (aav _);have e_q3:=af (H:=K9) (a:=q3) (o:=.lst [V.int ((1000000000000 - 1 - r5) * s1),.int (1+r7)]);revert y9 u10 e_q3;generalize upd K9 q3 (.lst [V.int ((1000000000000 - 1 - r5) * s1),.int (1+r7)])=K10;intro y9 u10 e_q3;have b9:But wl K9 K10:=But.of y9;refine ⟨q1,q3,_,_,rfl,rfl,((b5.trans (b6.trans (b7.trans (b8.trans b9)))) _ _ nq_q1 e_q1),e_q3,bM (by show 4+2≤1000;decide),fun q4 m4=>?_⟩;have y10:=Same.new m4 (.lst ([V.int r1,.int (r2 - 1),.int (r3 - 6),.int (r4 - 999)]++[V.int ((1000000000000 - 1 - r5) * s1),.int (1+r7)]));have nq_q4:=u10.ne m4;have u11:=u10.keep y10 (aav _);have e_q4:=af (H:=K10) (a:=q4) (o:=.lst ([V.int r1,.int (r2 - 1),.int (r3 - 6),.int (r4 - 999)]++[V.int ((1000000000000 - 1 - r5) * s1),.int (1+r7)]));revert y10 u11 e_q4;generalize upd K10 q4 (.lst ([V.int r1,.int (r2 - 1),.int (r3 - 6),.int (r4 - 999)]++[V.int ((1000000000000 - 1 - r5) * s1),.int (1+r7)]))=K11;intro y10 u11 e_q4;have b10:But wl K10 K11:=But.of y10;have p6:(10:Int) ^ (6:Int).toNat=1000000:=by decide
    refine ⟨_,rfl,10,6,rfl,rfl,⟨by decide,by decide,by decide⟩,wl,_,_,rfl,(by decide),(by decide),u11,by lia,fun r8 K12 r8a r8b b11 u12=>⟨10,6,rfl,rfl,⟨by decide,by decide,by decide⟩,_,_,rfl,rfl,.inr ⟨by decide,by decide⟩,?_⟩⟩;refine ⟨_,rfl,10,6,rfl,rfl,⟨by decide,by decide,by decide⟩,wl,_,_,rfl,(by decide),(by decide),u12,by lia,fun r9 K13 r9a r9b b12 u13=>⟨_,_,rfl,rfl,?_⟩⟩;refine ⟨_,rfl,10,4,rfl,rfl,⟨by decide,by decide,by decide⟩,10,6,rfl,rfl,⟨by decide,by decide,by decide⟩,10,9,rfl,rfl,⟨by decide,by decide,by decide⟩,10,12,rfl,rfl,⟨by decide,by decide,by decide⟩,t4,fun q5 m5=>?_⟩;have y13:=Same.new m5 (.lst [V.int (10 ^ (4:Int).toNat),.int (10 ^ (6:Int).toNat),.int (10 ^ (9:Int).toNat),.int (10 ^ (12:Int).toNat)]);have nq_q5:=u13.ne m5;have u14:=u13.keep y13 (aav _);have e_q5:=af (H:=K13) (a:=q5) (o:=.lst [V.int (10 ^ (4:Int).toNat),.int (10 ^ (6:Int).toNat),.int (10 ^ (9:Int).toNat),.int (10 ^ (12:Int).toNat)]);revert y13 u14 e_q5;generalize upd K13 q5 (.lst [V.int (10 ^ (4:Int).toNat),.int (10 ^ (6:Int).toNat),.int (10 ^ (9:Int).toNat),.int (10 ^ (12:Int).toNat)])=K14;intro y13 u14 e_q5;have b13:But wl K13 K14:=But.of y13;refine ⟨_,rfl,wl,4,_,rfl,by decide,by decide,u14,by lia,fun r10 K15 r10a r10b b14 u15=>?_⟩;obtain ⟨md,hmd,md0,md1⟩:=p4 r10a r10b;refine ⟨q5,_,_,_,rfl,rfl,SqL.of (b14 _ _ nq_q5 e_q5),hmd,_,_,rfl,rfl,md0,_,rfl,t2,fun q6 m6=>?_⟩;have y15:=Same.new m6 (.lst [V.int 1,.int (-1)]);have nq_q6:=u15.ne m6;have u16:=u15.keep y15 (aav _);have e_q6:=af (H:=K15) (a:=q6) (o:=.lst [V.int 1,.int (-1)]);revert y15 u16 e_q6;generalize upd K15 q6 (.lst [V.int 1,.int (-1)])=K16;intro y15 u16 e_q6;have b15:But wl K15 K16:=But.of y15;refine ⟨_,rfl,wl,2,_,rfl,by decide,by decide,u16,by lia,fun r11 K17 r11a r11b b16 u17=>?_⟩;obtain ⟨s2,hs2,vs2⟩:=pm r11a r11b;have hwd:=py (r8 * 10 ^ (6:Int).toNat+r9) md md0;refine ⟨q6,_,_,_,rfl,rfl,SqL.of (b16 _ _ nq_q6 e_q6),hs2,_,_,rfl,rfl,.inr ⟨by lia,by lia⟩,?_⟩;refine ⟨_,rfl,wl,8,_,rfl,by decide,by decide,u17,by lia,fun r12 K18 r12a r12b b17 u18=>?_⟩;refine ⟨_,rfl,.inl ⟨rfl,_,SqL.of ((b0.trans (b1.trans (b2.trans (b3.trans (b4.trans (b5.trans (b6.trans (b7.trans (b8.trans (b9.trans (b10.trans (b11.trans (b12.trans (b13.trans (b14.trans (b15.trans (b16.trans b17))))))))))))))))) _ _ nfw ef)⟩,_,rfl,_,rfl,_,rfl,?_⟩;refine ⟨pf,q4,_,_,rfl,rfl,((b0.trans (b1.trans (b2.trans (b3.trans (b4.trans (b5.trans (b6.trans (b7.trans (b8.trans (b9.trans (b10.trans (b11.trans (b12.trans (b13.trans (b14.trans (b15.trans (b16.trans b17))))))))))))))))) _ _ nfw ef),((b11.trans (b12.trans (b13.trans (b14.trans (b15.trans (b16.trans b17)))))) _ _ nq_q4 e_q4),bM (by rw [aaf];show _+6≤1000;lia),fun q7 m7=>?_⟩;have eall:ns.map V.int++([V.int r1,.int (r2 - 1),.int (r3 - 6),.int (r4 - 999)]++[V.int ((1000000000000 - 1 - r5) * s1),.int (1+r7)])=(ns++[r1,r2 - 1,r3 - 6,r4 - 999,(1000000000000 - 1 - r5) * s1,1+r7]).map V.int:=by rw [aaJ];rfl
    rw [eall];have y18:=Same.new m7 (.lst ((ns++[r1,r2 - 1,r3 - 6,r4 - 999,(1000000000000 - 1 - r5) * s1,1+r7]).map V.int));have nq_q7:=u18.ne m7;have u19:=u18.keep y18 (aav _);have e_q7:=af (H:=K18) (a:=q7) (o:=.lst ((ns++[r1,r2 - 1,r3 - 6,r4 - 999,(1000000000000 - 1 - r5) * s1,1+r7]).map V.int));revert y18 u19 e_q7;generalize upd K18 q7 (.lst ((ns++[r1,r2 - 1,r3 - 6,r4 - 999,(1000000000000 - 1 - r5) * s1,1+r7]).map V.int))=K19;intro y18 u19 e_q7;have b18:But wl K18 K19:=But.of y18;obtain ⟨x0,hx0,mx0⟩:=oR (xs:=(ns++[r1,r2 - 1,r3 - 6,r4 - 999,(1000000000000 - 1 - r5) * s1,1+r7])) (r:=0) (by decide) (by rw [aap];simp only [aaS,abF];lia);refine ⟨q7,_,_,_,rfl,rfl,SqL.of e_q7,hx0,_,rfl,t2,fun q8 m8=>?_⟩;have y19:=Same.new m8 (.lst [V.int x0,.int ((r8 * 10 ^ (6:Int).toNat+r9) % md * s2)]);have nq_q8:=u19.ne m8;have u20:=u19.keep y19 (aav _);have e_q8:=af (H:=K19) (a:=q8) (o:=.lst [V.int x0,.int ((r8 * 10 ^ (6:Int).toNat+r9) % md * s2)]);revert y19 u20 e_q8;generalize upd K19 q8 (.lst [V.int x0,.int ((r8 * 10 ^ (6:Int).toNat+r9) % md * s2)])=K20;intro y19 u20 e_q8;have b19:But wl K19 K20:=But.of y19;refine ⟨q4,q8,_,_,rfl,rfl,((b11.trans (b12.trans (b13.trans (b14.trans (b15.trans (b16.trans (b17.trans (b18.trans b19)))))))) _ _ nq_q4 e_q4),e_q8,bM (by show 6+2≤1000;decide),fun q9 m9=>?_⟩;have e8:[V.int r1,.int (r2 - 1),.int (r3 - 6),.int (r4 - 999)]++[V.int ((1000000000000 - 1 - r5) * s1),.int (1+r7)]++[V.int x0,.int ((r8 * 10 ^ (6:Int).toNat+r9) % md * s2)]=([r1,r2 - 1,r3 - 6,r4 - 999,(1000000000000 - 1 - r5) * s1,1+r7,x0,(r8 * 10 ^ (6:Int).toNat+r9) % md * s2]:List Int).map V.int:=rfl;rw [e8];have y20:=Same.new m9 (.lst (([r1,r2 - 1,r3 - 6,r4 - 999,(1000000000000 - 1 - r5) * s1,1+r7,x0,(r8 * 10 ^ (6:Int).toNat+r9) % md * s2]:List Int).map V.int));have nq_q9:=u20.ne m9;have u21:=u20.keep y20 (aav _);have e_q9:=af (H:=K20) (a:=q9) (o:=.lst (([r1,r2 - 1,r3 - 6,r4 - 999,(1000000000000 - 1 - r5) * s1,1+r7,x0,(r8 * 10 ^ (6:Int).toNat+r9) % md * s2]:List Int).map V.int));revert y20 u21 e_q9;generalize upd K20 q9 (.lst (([r1,r2 - 1,r3 - 6,r4 - 999,(1000000000000 - 1 - r5) * s1,1+r7,x0,(r8 * 10 ^ (6:Int).toNat+r9) % md * s2]:List Int).map V.int))=K21;intro y20 u21 e_q9;have b20:But wl K20 K21:=But.of y20;refine ⟨_,rfl,_,rfl,t2,fun qa ma=>?_⟩;have y21:=Same.new ma (.lst [V.int kd,.int r12]);have nq_qa:=u21.ne ma;have u22:=u21.keep y21 (aav _);have e_qa:=af (H:=K21) (a:=qa) (o:=.lst [V.int kd,.int r12]);revert y21 u22 e_qa;generalize upd K21 qa (.lst [V.int kd,.int r12])=K22;intro y21 u22 e_qa;have b21:But wl K21 K22:=But.of y21;have ix:∃ z:Int,atI [V.int kd,.int r12] (if decide (V.int kd=V.int 8)=true then 1 else 0)=some (.int z)∧0≤z∧z < 8:=by
      by_cases c:kd=8
      · exact ⟨r12,by rw [decide_eq_true (by rw [c])];rfl,r12a,r12b⟩
      · exact ⟨kd,by rw [decide_eq_false (fun e=>c (by injection e))];rfl,kd0,by lia⟩
    obtain ⟨zi,hzi,zi0,zi1⟩:=ix;obtain ⟨el,hel,mel⟩:=oR (xs:=[r1,r2 - 1,r3 - 6,r4 - 999,(1000000000000 - 1 - r5) * s1,1+r7,x0,(r8 * 10 ^ (6:Int).toNat+r9) % md * s2]) zi0 zi1;refine ⟨_,rfl,rfl,.inr ⟨_,rfl,qa,_,_,_,rfl,rfl,SqL.of e_qa,hzi,q9,_,_,_,rfl,rfl,SqL.of (b21 _ _ nq_q9 e_q9),hel,pf,_,_,rfl,rfl,((b0.trans (b1.trans (b2.trans (b3.trans (b4.trans (b5.trans (b6.trans (b7.trans (b8.trans (b9.trans (b10.trans (b11.trans (b12.trans (b13.trans (b14.trans (b15.trans (b16.trans (b17.trans (b18.trans (b19.trans (b20.trans b21))))))))))))))))))))) _ _ nfw ef),aJ (by rw [aaf];lia),?_⟩⟩;have sm5:-1000000000000 < (1000000000000 - 1 - r5) * s1∧(1000000000000 - 1 - r5) * s1 < 1000000000000:=by rcases vs1 with rfl|rfl <;> lia
    have smw:-1000000000000 < (r8 * 10 ^ (6:Int).toNat+r9) % md * s2∧(r8 * 10 ^ (6:Int).toNat+r9) % md * s2 < 1000000000000:=by rcases vs2 with rfl|rfl <;> lia
    have sm1:∀ x∈[r1,r2 - 1,r3 - 6,r4 - 999,(1000000000000 - 1 - r5) * s1,1+r7],-1000000000000 < x∧x < 1000000000000:=fun x hx=>by
      simp only [aam,abw,or_false] at hx;rcases hx with rfl|rfl|rfl|rfl|rfl|rfl <;> first|exact sm5|lia
    have sx0:-1000000000000 < x0∧x0 < 1000000000000:=(aan.mp mx0).elim (hs x0) (sm1 x0);have sel:-1000000000000 < el∧el < 1000000000000:=by
      simp only [aam,abw,or_false] at mel;rcases mel with rfl|rfl|rfl|rfl|rfl|rfl|rfl|rfl <;> first|exact sm5|exact sx0|exact smw|lia
    refine ⟨ns++[el],_,_,_,_,rfl,by rw [af,aaJ];rfl,by rw [aap,hl];rfl,fun x hx=>(aan.mp hx).elim (hs x) fun z=>by rw [aaj.mp z];exact sel,?_,?_⟩
    · exact fun c o nc hc=>by
        by_cases z:c=pf
        · subst z;rw [nf] at hc;cases hc
        · rw [aq z];exact (bb.trans (b0.trans (b1.trans (b2.trans (b3.trans (b4.trans (b5.trans (b6.trans (b7.trans (b8.trans (b9.trans (b10.trans (b11.trans (b12.trans (b13.trans (b14.trans (b15.trans (b16.trans (b17.trans (b18.trans (b19.trans (b20.trans b21)))))))))))))))))))))) c o nc hc
    · obtain ⟨wa,wb,we,wf,wg⟩:=u22;exact ⟨wa,wb,by rw [aq (ab3 nfw)];exact we,wf,wg⟩
  · rintro σ K1 ⟨ns,c4,c5,c6,c7,rfl,ef,hl,hs,bb,u0⟩;exact ⟨_,rfl,q pf ns K1 (g1.trans bb) (u0.more (by lia)) hfree ef (by lia) hs⟩
def nB:List V:=[.str "+",.str "-",.str "*",.str "+-",.str "+*",.str "-*",.str "+-*"]
def cY (gs:List Sg):Prop:=inV (.str (aD gs)) nB=true
def g9:Sp:=fun vs H Q _=>∃ w M,vs=[.ref w]∧Wel H w M∧M < 999990000∧∀ gs H',1≤gs.length→gs.length≤3→cY gs→But w H H'→Wel H' w (M+1)→Q (.str (aD gs)) H'
theorem zj {k:Int} (h0:0≤k) (h1:k < 8):∃ gs:List Sg,atI [V.str "+",.str "-",.str "*",.str "+-",.str "+*",.str "-*",.str "+-*",.str "+-*"] k=some (.str (aD gs))∧1≤gs.length∧gs.length≤3∧cY gs:=by
  have : k=0∨k=1∨k=2∨k=3∨k=4∨k=5∨k=6∨k=7:=by lia
  rcases this with rfl|rfl|rfl|rfl|rfl|rfl|rfl|rfl
  · exact ⟨[.plus],by rfl,by decide,by decide,by unfold cY;decide +kernel⟩
  · exact ⟨[.minus],by rfl,by decide,by decide,by unfold cY;decide +kernel⟩
  · exact ⟨[.times],by rfl,by decide,by decide,by unfold cY;decide +kernel⟩
  · exact ⟨[.plus,.minus],by rfl,by decide,by decide,by unfold cY;decide +kernel⟩
  · exact ⟨[.plus,.times],by rfl,by decide,by decide,by unfold cY;decide +kernel⟩
  · exact ⟨[.minus,.times],by rfl,by decide,by decide,by unfold cY;decide +kernel⟩
  · exact ⟨[.plus,.minus,.times],by rfl,by decide,by decide,by unfold cY;decide +kernel⟩
  · exact ⟨[.plus,.minus,.times],by rfl,by decide,by decide,by unfold cY;decide +kernel⟩
abbrev fu:Stmt:=top 69
theorem lK:FnScope ["well"] ["well"] (am fu):=⟨rfl,rfl,rfl,by decide +kernel,rfl,by decide +kernel,by decide +kernel⟩
theorem nI (F:Fun K "_law_signs" "_law_signs" fu f fd) (C__law_draw:Cal P w K mg base "_law_draw" 2 ["well","many"] g_):FnOk P w K mg base CX0 3 f fd ["well"] g9:=by
  refine F.ok lK (fun vs H Q E h=>?_) (fun cdv A outer s H vs Q E hr h=>?_)
  · obtain ⟨x,M,rfl,_⟩:=h;rfl
  obtain ⟨wl,M,rfl,hw,hM,q⟩:=h;refine ⟨_,(@ak _ _ _ (@au _ _ _ _ (@aI _ _ _ _ _ _ _ aR (@aV _ _ _ _ (@aa _ _ _ _ _ dZ (@aa _ _ _ _ _ dZ (@aa _ _ _ _ _ dZ (@aa _ _ _ _ _ dZ (@aa _ _ _ _ _ dZ (@aa _ _ _ _ _ dZ (@aa _ _ _ _ _ dZ (@aa _ _ _ _ _ dZ ac (by rfl)) (by rfl)) (by rfl)) (by rfl)) (by rfl)) (by rfl)) (by rfl)) (by rfl))) (@aj _ _ _ _ _ _ _ _ _ _ _ C__law_draw hr (by lia) rfl (@aa _ _ _ _ _ (pv 0) (@aa _ _ _ _ _ ai ac (by rfl)) (by rfl)) (by decide) (by rfl) (by rfl)) (fun _ _=>rfl)))),?_⟩;refine ⟨(by show 8≤sizeLine;decide),fun p1 n1=>?_⟩;have w1:=hw.keep (Same.new n1 (.lst [.str "+",.str "-",.str "*",.str "+-",.str "+*",.str "-*",.str "+-*",.str "+-*"])) (aav _);refine ⟨_,rfl,wl,8,_,rfl,by decide,by decide,w1,by lia,fun r1 H1 a1 b1 g1 w2=>?_⟩;obtain ⟨gs,hg,l1,l2,l3⟩:=zj a1 b1;exact ⟨p1,_,_,_,rfl,rfl,SqL.of (g1 _ _ (hw.ne n1) af),hg,q gs H1 l1 l2 l3 ((But.new n1 _).trans g1) w2⟩
end
open PySem L2
theorem yK {A G:Prop} (h:A) (k:A→G):G:=k h
structure Ch (K:aaa) (mg:Str→Option Value) (t1 t2:Tok) (aP:Addr):Prop where
  gMOST_NUMBERS:mg "MOST_NUMBERS" = some (.int 9 t1)
  gMOST_STRETCHES:mg "MOST_STRETCHES" = some (.int 40 t2)
  gSIGNS_TO_PUT:mg "SIGNS_TO_PUT" = some (.ref aP)
  sSIGNS_TO_PUT:∀ H,SqT K H aP nB
theorem PairsIn.mono {H H':Hp} (t:Tups H H') {ps:List (Int × Int)} {vs:List V} (p:PairsIn H ps vs):PairsIn H' ps vs:=by
  induction p with
  | nil=>exact .nil
  | cons z _ ih=>obtain ⟨a,e,h⟩:=z;exact .cons ⟨a,e,t _ _ h⟩ ih
theorem PairsIn.app {H:Hp} {ps qs:List (Int × Int)} {vs us:List V} (a:PairsIn H ps vs) (b:PairsIn H qs us):PairsIn H (ps++qs) (vs++us):=by
  induction a with
  | nil=>exact b
  | cons x _ ih=>exact .cons x ih
theorem PairsIn.snoc {H:Hp} {ps:List (Int × Int)} {vs:List V} {p:Int × Int} {v:V} (h:PairsIn H ps vs) (x:PairIn H p v):PairsIn H (ps++[p]) (vs++[v]):=PairsIn.app h (.cons x .nil)
def sfR (n m:Nat):List (Int × Int):=(aaI (n - m)).map fun (f:Nat)=>((f:Int),((f+m:Nat):Int))
def sfl (n i:Nat):List (Int × Int):=(aaI i).flatMap fun m=>sfR n m
theorem ow (n i:Nat):sfl n (i+1)=sfl n i++sfR n i:=by
  unfold sfl;rw [List.range_succ,List.flatMap_append];simp
theorem iz (n i:Nat):(sfl n i).length≤i * n:=by
  induction i with
  | zero=>simp [sfl]
  | succ i ih =>
    rw [ow,aap];have : (sfR n i).length≤n:=by simp [sfR]
    rw [act];lia
theorem dM (n:Nat) (a b:Nat) (h1:a≤b) (h2:b < n):((a:Int),(b:Int))∈sfl n n:=by
  unfold sfl sfR;rw [aaG];refine ⟨b - a,aaB.mpr (by lia),?_⟩;rw [aaC];refine ⟨a,aaB.mpr (by lia),?_⟩;have : a+(b - a)=b:=by lia
  rw [this]
section
variable {P:Program} {w:World} {K:aaa} {mg:Str→Option Value} {base:Heap} {f:Addr} {fd:FuncData}
def m_:Sp:=fun vs H Q _=>∃ (a:Addr) (ns:List Int),vs=[.ref a]∧H a=some (.lst (ns.map V.int))∧1≤ns.length∧ns.length≤9∧∀ H',Same H H'→Q (.bl true) H'
abbrev ku:Stmt:=top 12
theorem sx:FnScope ["thing"] ["thing"] (am ku):=⟨rfl,rfl,rfl,by decide +kernel,rfl,by decide +kernel,by decide +kernel⟩
theorem sS {t3 t4:Tok} {aP:Addr} (F:Fun K "is_row" "is_row" ku f fd) (B:Bu K mg) (B3:Ch K mg t3 t4 aP) (C_is_whole:Cal P w K mg base "is_whole" 1 ["thing"] (cU K)):FnOk P w K mg base CX0 2 f fd ["thing"] m_:=by
  refine F.ok sx (fun vs H Q E h=>?_) (fun cdv A outer s H vs Q E hr h=>?_)
  · obtain ⟨x,v,rfl,_⟩:=h;rfl
  obtain ⟨a,ns,rfl,ea,h1,h2,q⟩:=h;refine ⟨_,(@ag _ _ _ _ _ (@bh _ _ _ _ _ _ _ _ (@PW.pt _ _ _ (@iD _ _ _ _ _ _ _ (@cx _ _ _ _ (@bQ _ _ _ (@aA _ _ _ _ _ _ _ _ _ (@bN _ ("list")) rfl B.iisinstance aaK (@aa _ _ _ _ _ (pv 0) (@aa _ _ _ _ _ (@dm _ _ (.ty "list") _ _ rfl B.ilist PyProof.Rows.boot_list rfl (by decide) (by decide)) ac (by rfl)) (by rfl)) (by decide) (by decide) (by rfl) (by rfl)) (by intro _;rfl))) (@fZ _ _ _ _ (@cx _ _ _ _ (@oO _ _ _ _ _ _ _ _ _ _ _ _ gl gl ai (@aA _ _ _ _ _ _ _ _ _ aB rfl B.ilen aay (@aa _ _ _ _ _ (pv 0) ac (by rfl)) (by decide) (by decide) (by rfl) (by rfl)) (@gF _ _ (.int 9) _ _ rfl B3.gMOST_NUMBERS ⟨_,rfl⟩ (by decide)) (by with_unfolding_all rfl)))))) (@ak _ _ _ (@au _ _ _ _ di)) aO) (@ak _ _ _ (@au _ _ _ _ (@aA _ _ _ _ _ _ _ _ _ (@k_ _ rfl) rfl B.iall acu (@aa _ _ _ _ _ (@gf _ _ _ _ _ _ _ _ (["number"]) ([none]) _ _ _ _ rfl (@bO _ _ _ _ (pv 0)) rfl trivial trivial (fun _ _ _ _=>⟨(@ao _ _ (0) _ (show aaM (["number"]:List Str) by decide +kernel) rfl (Or.inl rfl) (.inr rfl)),bt,(@aj _ _ _ _ _ _ _ _ _ _ _ C_is_whole hr (by lia) rfl (@aa _ _ _ _ _ (pv 0) ac (by rfl)) (by decide) (by rfl) (by rfl))⟩) (by rfl) (by rfl) (by rfl) (by rfl) (by intro _;rfl)) ac (by rfl)) (by decide) (by decide) (by rfl) (by rfl))))),?_⟩;have hl:(ns.map V.int).length=ns.length:=aaf _;refine ⟨_,rfl,_,_,true,rfl,.lst ea,rfl,true,rfl,bi ?_⟩;refine ⟨_,rfl,a,_,rfl,.inl (SqL.of ea),_,_,rfl,rfl,true,congrArg V.bl (decide_eq_true (by lia)),bV ?_⟩;refine ⟨_,_,rfl,rfl,true,congrArg V.bl (decide_eq_true (by lia)),bi ?_⟩;refine ⟨_,rfl,a,rfl,⟨_,SqL.of ea⟩,?_⟩;refine eV (Trn.list (xs:=ns.map V.int)) (fun i ys H'=>H'=H∧ys=(aao i true).map V.bl) ⟨rfl,rfl⟩ (fun i ys H' hi p=>by rw [p.1,p.2];exact ⟨SqL.of ea,aJ (by simp;lia)⟩) (fun i x ys H1 H' hi hx p Nx nx=>?_) (fun ys H' p p5 n5=>?_)
  · obtain ⟨rfl,rfl⟩:=p;obtain ⟨rfl,hx⟩:=hx;rw [aaL] at hx;obtain ⟨c,_,rfl⟩:=abv.mp hx;refine ⟨_,rfl,_,_,rfl,.int c,nx _ _ ⟨rfl,?_⟩⟩;rw [List.replicate_succ',aaJ];rfl
  obtain ⟨rfl,rfl⟩:=p;refine ⟨p5,_,rfl,SqL.of af,?_⟩;have e:((aao (ns.map V.int).length true).all id)=true:=by simp
  rw [e];exact q _ (Same.new n5 _)
def dq:Sp:=fun vs H Q _=>∃ (a:Addr) (ns:List Int),vs=[.ref a]∧H a=some (.lst (ns.map V.int))∧1≤ns.length∧ns.length≤9∧∀ H',Same H H'→Q .non H'
abbrev ia:Stmt:=top 17
theorem oE:FnScope ["thing"] ["thing"] (am ia):=⟨rfl,rfl,rfl,by decide +kernel,rfl,by decide +kernel,by decide +kernel⟩
theorem o0 (F:Fun K "need_row" "need_row" ia f fd) (C_is_row:Cal P w K mg base "is_row" 2 ["thing"] m_):FnOk P w K mg base CX0 3 f fd ["thing"] dq:=by
  refine F.ok oE (fun vs H Q E h=>?_) (fun cdv A outer s H vs Q E hr h=>?_)
  · obtain ⟨x,v,rfl,_⟩:=h;rfl
  obtain ⟨a,ns,rfl,ea,h1,h2,q⟩:=h;refine ⟨_,(@ak _ _ _ (@bh _ _ _ _ _ _ _ _ (@cx _ _ _ _ (@bQ _ _ _ (@aj _ _ _ _ _ _ _ _ _ _ _ C_is_row hr (by lia) rfl (@aa _ _ _ _ _ (pv 0) ac (by rfl)) (by decide) (by rfl) (by rfl)) (by intro _;rfl))) (@ak _ _ _ eF) aO)),?_⟩;exact ⟨_,rfl,a,ns,rfl,ea,h1,h2,fun H' hS=>⟨true,rfl,bi (q H' hS)⟩⟩
def sf:Sp:=fun vs H Q _=>∃ n:Nat,vs=[.int n]∧n≤9∧∀ p us H',Same H H'→H p=none→H' p=some (.lst us)→PairsIn H' (sfl n n) us→Q (.ref p) H'
abbrev cZ:Stmt:=top 21
theorem iV:FnScope ["many"] ["many"] (am cZ):=⟨rfl,rfl,rfl,by decide +kernel,rfl,by decide +kernel,by decide +kernel⟩
theorem ji (F:Fun K "shorter_first" "shorter_first" cZ f fd) (B:Bu K mg):FnOk P w K mg base CX0 1 f fd ["many"] sf:=by
  refine F.ok iV (fun vs H Q E h=>?_) (fun cdv A outer s H vs Q E hr h=>?_)
  · obtain ⟨l,rfl,_⟩:=h;rfl
  obtain ⟨n,rfl,h9,q⟩:=h;refine ⟨_,(@ak _ _ _ (@au _ _ _ _ (@xo _ _ _ _ _ _ _ _ _ _ _ (["more","first","many"]) ([none,none,some 0]) _ _ _ _ _ _ _ rfl (@eI _ _ _ _ _ _ rfl B.irange (@aa _ _ _ _ _ (pv 0) ac (by rfl)) (by rfl)) rfl ⟨rfl,trivial⟩ ⟨⟨rfl,Or.inl rfl,Or.inl rfl⟩,trivial⟩ (fun _ _ _ _=>⟨(@ao _ _ (0) _ (show aaM (["more","first","many"]:List Str) by decide +kernel) rfl (Or.inl rfl) (.inr rfl)),bt,(@eI _ _ _ _ _ _ rfl B.irange (@aa _ _ _ _ _ (@aC _ _ _ _ _ _ _ _ bz (pv 2) (pv 0)) ac (by rfl)) (by rfl)),(@ao _ _ (1) _ (show aaM (["more","first","many"]:List Str) by decide +kernel) rfl (Or.inl rfl) (.inr rfl)),bt,(@aY _ _ _ _ _ (@aa _ _ _ _ _ (pv 1) (@aa _ _ _ _ _ (@aC _ _ _ _ _ _ _ _ bU (pv 1) (pv 0)) ac (by rfl)) (by rfl)))⟩) (by rfl) (by rfl) (by rfl) (by rfl) (by intro _;rfl) (by intro _ _;rfl)))),?_⟩;refine ⟨_,rfl,n,rfl,by lia,by lia,?_⟩;refine xz (Trn.range (lo:=0) (n:=(n:Int).toNat)) (fun i ys H'=>Same H H'∧PairsIn H' (sfl n i) ys) ⟨Same.refl _,.nil⟩ (fun i ys H' hi p=>trivial) (fun i x ys H1 H' hi hx p Nx nx=>?_) (fun ys H' p p5 n5=>?_)
  · obtain ⟨rfl,rfl⟩:=hx;obtain ⟨S,hp⟩:=p;have hl:=hp.length;have hb:=iz n i;have hn:(n:Int).toNat=n:=by lia
    have hin:i < n:=by lia
    have hb2:i * n≤9 * 9:=abn (by lia) h9;have en:((n:Int) - (0+(i:Int))).toNat=n - i:=by lia
    refine ⟨_,rfl,_,rfl,_,_,rfl,rfl,(n:Int) - (0+(i:Int)),rfl,by lia,by lia,?_⟩;refine xu (Trn.range (lo:=0) (n:=((n:Int) - (0+(i:Int))).toNat)) (fun j zs σ H2=>Same H H2∧(∃ c,σ=[some (.int (0+(i:Int))),c,some (.int n)])∧PairsIn H2 (sfl n i++(sfR n i).take j) zs) ⟨S,⟨_,rfl⟩,by simpa using hp⟩ (fun j zs σ H2 hj p=>⟨trivial,aJ (by have:=p.2.2.length;rw [← this,aap,aas];lia)⟩) (fun j x zs σ H2 H3 hj hx p Ny ny=>?_) (fun zs σ H2 p=>?_)
    · obtain ⟨rfl,rfl⟩:=hx;obtain ⟨S2,⟨c,rfl⟩,hp2⟩:=p;refine ⟨_,rfl,_,rfl,_,rfl,_,_,rfl,rfl,(by show 2≤sizeLine;decide),fun t ht=>ny _ _ _ ⟨S2.trans (Same.new ht _),⟨_,rfl⟩,?_⟩⟩;have s3:=Same.new ht (.tup [.int (0+(j:Int)),.int (0+(j:Int)+(0+(i:Int)))]);have e:(sfR n i).take (j+1)=(sfR n i).take j++[(((j:Nat):Int),((j+i:Nat):Int))]:=by
        rw [aaP];have : (sfR n i)[j]?=some (((j:Nat):Int),((j+i:Nat):Int)):=by
          unfold sfR;rw [aaL,List.getElem?_range (by lia)];rfl
        rw [this];rfl
      rw [e,← abC];refine PairsIn.snoc (PairsIn.mono (Tups.of s3) hp2) ⟨t,rfl,?_⟩;rw [af];have e1:(0:Int)+(j:Int)=((j:Nat):Int):=by lia
      have e2:(0:Int)+(j:Int)+(0+(i:Int))=((j+i:Nat):Int):=by lia
      show some (HO.tup [V.int (0+(j:Int)),V.int (0+(j:Int)+(0+(i:Int)))])=some (HO.tup [V.int ((j:Nat):Int),V.int ((j+i:Nat):Int)]);rw [e2,e1]
    · obtain ⟨S2,⟨c,rfl⟩,hp2⟩:=p;refine nx _ _ ⟨S2,?_⟩;rw [en,abh (by simp [sfR]),← ow] at hp2;exact hp2
  · obtain ⟨S,hp⟩:=p;have hn:(n:Int).toNat=n:=by lia
    rw [hn] at hp;have s5:=Same.new n5 (.lst ys);exact q p5 ys _ (S.trans s5) (S.free n5) af (PairsIn.mono (Tups.of s5) hp)
def ke:Sp:=fun vs H Q _=>∃ p v,vs=[v]∧PairIn H p v∧Q (.bl true) H
abbrev i9:Stmt:=top 27
theorem ql:FnScope ["thing"] ["thing"] (am i9):=⟨rfl,rfl,rfl,by decide +kernel,rfl,by decide +kernel,by decide +kernel⟩
theorem qA (F:Fun K "is_pair" "is_pair" i9 f fd) (B:Bu K mg) (C_is_whole:Cal P w K mg base "is_whole" 1 ["thing"] (cU K)):FnOk P w K mg base CX0 2 f fd ["thing"] ke:=by
  refine F.ok ql (fun vs H Q E h=>?_) (fun cdv A outer s H vs Q E hr h=>?_)
  · obtain ⟨p,v,rfl,_⟩:=h;rfl
  obtain ⟨p,v,rfl,⟨a,rfl,ha⟩,q⟩:=h;refine ⟨_,(@ak _ _ _ (@au _ _ _ _ (@d5 _ _ _ _ _ _ _ (@aA _ _ _ _ _ _ _ _ _ (@bN _ ("tuple")) rfl B.iisinstance aaK (@aa _ _ _ _ _ (pv 0) (@aa _ _ _ _ _ (@dm _ _ (.ty "tuple") _ _ rfl B.ituple acg rfl (by decide) (by decide)) ac (by rfl)) (by rfl)) (by decide) (by decide) (by rfl) (by rfl)) (@d5 _ _ _ _ _ _ _ (@bZ _ _ _ _ _ _ _ _ eQ (@aA _ _ _ _ _ _ _ _ _ aB rfl B.ilen aay (@aa _ _ _ _ _ (pv 0) ac (by rfl)) (by decide) (by decide) (by rfl) (by rfl)) ai (aN _)) (@d5 _ _ _ _ _ _ _ (@aj _ _ _ _ _ _ _ _ _ _ _ C_is_whole hr (by lia) rfl (@aa _ _ _ _ _ (@aI _ _ _ _ _ _ _ aT (pv 0) ai (fun _ _=>rfl)) ac (by rfl)) (by decide) (by rfl) (by rfl)) (@fC _ _ _ _ _ (@aj _ _ _ _ _ _ _ _ _ _ _ C_is_whole hr (by lia) rfl (@aa _ _ _ _ _ (@aI _ _ _ _ _ _ _ aT (pv 0) ai (fun _ _=>rfl)) ac (by rfl)) (by decide) (by rfl) (by rfl)))))))),?_⟩;refine ⟨_,rfl,_,_,true,rfl,.tup ha,rfl,true,rfl,bV ⟨_,rfl,a,_,rfl,.inr (SqT.of ha),rfl,true,rfl,bV ?_⟩⟩;refine ⟨_,rfl,a,_,_,_,rfl,rfl,SqT.of ha,rfl,_,_,rfl,.int _,true,rfl,bV ?_⟩;exact ⟨_,rfl,a,_,_,_,rfl,rfl,SqT.of ha,rfl,_,_,rfl,.int _,q⟩
def iw:Sp:=fun vs H Q _=>∃ n:Int,vs=[.int n]∧1≤n∧n≤9∧Q (.bl true) H
abbrev i_:Stmt:=top 14
theorem qm:FnScope ["thing"] ["thing"] (am i_):=⟨rfl,rfl,rfl,by decide +kernel,rfl,by decide +kernel,by decide +kernel⟩
theorem qB {t3 t4:Tok} {aP:Addr} (F:Fun K "is_many" "is_many" i_ f fd) (B:Bu K mg) (B3:Ch K mg t3 t4 aP) (C_is_whole:Cal P w K mg base "is_whole" 1 ["thing"] (cU K)):FnOk P w K mg base CX0 2 f fd ["thing"] iw:=by
  refine F.ok qm (fun vs H Q E h=>?_) (fun cdv A outer s H vs Q E hr h=>?_)
  · obtain ⟨n,rfl,_⟩:=h;rfl
  obtain ⟨n,rfl,h1,h2,q⟩:=h;refine ⟨_,(@ak _ _ _ (@au _ _ _ _ (@d5 _ _ _ _ _ _ _ (@aj _ _ _ _ _ _ _ _ _ _ _ C_is_whole hr (by lia) rfl (@aa _ _ _ _ _ (pv 0) ac (by rfl)) (by decide) (by rfl) (by rfl)) (@fC _ _ _ _ _ (@oU _ _ _ _ _ _ _ _ _ _ _ _ gl gl ai (pv 0) (@gF _ _ (.int 9) _ _ rfl B3.gMOST_NUMBERS ⟨_,rfl⟩ (by decide)) (by with_unfolding_all rfl)))))),?_⟩;refine ⟨_,rfl,_,_,rfl,.int n,true,rfl,bV ⟨_,rfl,_,_,rfl,rfl,true,congrArg V.bl (decide_eq_true (by lia)),bV ⟨_,_,rfl,rfl,?_⟩⟩⟩;show Q (.bl (decide (n≤9))) H;rw [decide_eq_true (by lia)];exact q
def Gp (n:Int) (p:Int × Int):Prop:=0≤p.1∧p.1 < p.2∧p.2 < n
def StIn (H:Hp) (ps:List (Int × Int)) (v:V):Prop:=∃ a us,v=.ref a∧H a=some (.lst us)∧PairsIn H ps us
theorem StIn.mono {H H':Hp} {ps:List (Int × Int)} {v:V} (g:Same H H') (h:StIn H ps v):StIn H' ps v:=by
  obtain ⟨a,us,e,h1,h2⟩:=h;exact ⟨a,us,e,g _ _ h1,PairsIn.mono (Tups.of g) h2⟩
def qe:Sp:=fun vs H Q _=>∃ (n:Int) (ps:List (Int × Int)) (v:V),vs=[v,.int n]∧StIn H ps v∧ps.length≤40∧(∀ p∈ps,Gp n p)∧∀ H',Same H H'→Q (.bl true) H'
abbrev bT:Stmt:=top 50
theorem eu:FnScope ["thing","many"] ["thing","many"] (am bT):=⟨rfl,rfl,rfl,by decide +kernel,rfl,by decide +kernel,by decide +kernel⟩
theorem vS {t3 t4:Tok} {aP:Addr} (F:Fun K "is_list_of_stretches" "is_list_of_stretches" bT f fd) (B:Bu K mg) (B3:Ch K mg t3 t4 aP) (C_is_pair:Cal P w K mg base "is_pair" 2 ["thing"] ke):FnOk P w K mg base CX0 3 f fd ["thing","many"] qe:=by
  refine F.ok eu (fun vs H Q E h=>?_) (fun cdv A outer s H vs Q E hr h=>?_)
  · obtain ⟨n,ps,v,rfl,_⟩:=h;rfl
  obtain ⟨n,ps,v,rfl,⟨a,us,rfl,ea,hp⟩,h40,hg,q⟩:=h;refine ⟨_,(@ag _ _ _ _ _ (@bh _ _ _ _ _ _ _ _ (@PW.pt _ _ _ (@iD _ _ _ _ _ _ _ (@cx _ _ _ _ (@bQ _ _ _ (@aA _ _ _ _ _ _ _ _ _ (@bN _ ("list")) rfl B.iisinstance aaK (@aa _ _ _ _ _ (pv 0) (@aa _ _ _ _ _ (@dm _ _ (.ty "list") _ _ rfl B.ilist PyProof.Rows.boot_list rfl (by decide) (by decide)) ac (by rfl)) (by rfl)) (by decide) (by decide) (by rfl) (by rfl)) (by intro _;rfl))) (@fZ _ _ _ _ (@aK _ _ _ _ _ _ _ _ mC (@aA _ _ _ _ _ _ _ _ _ aB rfl B.ilen aay (@aa _ _ _ _ _ (pv 0) ac (by rfl)) (by decide) (by decide) (by rfl) (by rfl)) (@gF _ _ (.int 40) _ _ rfl B3.gMOST_STRETCHES ⟨_,rfl⟩ (by decide)) (aN _))))) (@ak _ _ _ (@au _ _ _ _ di)) aO) (@ak _ _ _ (@au _ _ _ _ (@aA _ _ _ _ _ _ _ _ _ (@k_ _ rfl) rfl B.iall acu (@aa _ _ _ _ _ (@gf _ _ _ _ _ _ _ _ (["pair","many"]) ([none,some 1]) _ _ _ _ rfl (@bO _ _ _ _ (pv 0)) rfl ⟨rfl,trivial⟩ ⟨⟨rfl,Or.inl rfl,Or.inl rfl⟩,trivial⟩ (fun _ _ _ _=>⟨(@ao _ _ (0) _ (show aaM (["pair","many"]:List Str) by decide +kernel) rfl (Or.inl rfl) (.inr rfl)),bt,(@d5 _ _ _ _ _ _ _ (@aj _ _ _ _ _ _ _ _ _ _ _ C_is_pair hr (by lia) rfl (@aa _ _ _ _ _ (pv 0) ac (by rfl)) (by decide) (by rfl) (by rfl)) (@fC _ _ _ _ _ (@jf _ _ _ _ _ _ _ _ _ _ _ _ _ _ _ _ gl jC jC ai (@aI _ _ _ _ _ _ _ (@fI _ _ rfl) (pv 0) ai (fun _ _=>rfl)) (@aI _ _ _ _ _ _ _ (@fI _ _ rfl) (pv 0) ai (fun _ _=>rfl)) (pv 1) (by with_unfolding_all rfl))))⟩) (by rfl) (by rfl) (by rfl) (by rfl) (by intro _;rfl)) ac (by rfl)) (by decide) (by decide) (by rfl) (by rfl))))),?_⟩;have hl:=hp.length;refine ⟨_,rfl,_,_,true,rfl,.lst ea,rfl,true,rfl,bi ⟨_,rfl,a,_,rfl,.inl (SqL.of ea),_,_,rfl,rfl,_,rfl,?_⟩⟩;rw [decide_eq_false (by lia)];refine bi ⟨_,rfl,a,rfl,⟨_,SqL.of ea⟩,?_⟩;refine eV (Trn.list (xs:=us)) (fun i ys H'=>H'=H∧ys=(aao i true).map V.bl) ⟨rfl,rfl⟩ (fun i ys H' hi p=>by rw [p.1,p.2];exact ⟨SqL.of ea,aJ (by simp;lia)⟩) (fun i x ys H1 H' hi hx p Nx nx=>?_) (fun ys H' p p5 n5=>?_)
  · obtain ⟨rfl,rfl⟩:=p;obtain ⟨rfl,hx⟩:=hx;obtain ⟨p,hpi,hpp⟩:=bu hp hx;obtain ⟨g1,g2,g3⟩:=hg p (aax hpi);have hpp0:=hpp;obtain ⟨b,rfl,hb⟩:=hpp;refine ⟨_,rfl,p,_,rfl,hpp0,true,rfl,bV ?_⟩;refine ⟨_,rfl,b,_,_,_,rfl,rfl,SqT.of hb,rfl,_,_,rfl,rfl,true,congrArg V.bl (decide_eq_true (by lia)),bV ?_⟩;refine ⟨_,rfl,b,_,_,_,rfl,rfl,SqT.of hb,rfl,_,_,rfl,rfl,true,congrArg V.bl (decide_eq_true (by lia)),bV ?_⟩;refine ⟨_,rfl,_,_,rfl,rfl,nx _ _ ⟨rfl,?_⟩⟩;have e9:decide (p.2 < n)=true:=decide_eq_true g3;show (aao i true).map V.bl++[V.bl (decide (p.2 < n))]=_;rw [List.replicate_succ',aaJ,e9];rfl
  obtain ⟨rfl,rfl⟩:=p;refine ⟨p5,_,rfl,SqL.of af,?_⟩;have e:((aao us.length true).all id)=true:=by simp
  rw [e];exact q _ (Same.new n5 _)
def HdIn (H:Hp) (ps qs:List (Int × Int)) (v:V):Prop:=∃ a x y,v=.ref a∧H a=some (.tup [x,y])∧StIn H ps x∧StIn H qs y
theorem HdIn.mono {H H':Hp} {ps qs:List (Int × Int)} {v:V} (g:Same H H') (h:HdIn H ps qs v):HdIn H' ps qs v:=by
  obtain ⟨a,x,y,e,h1,h2,h3⟩:=h;exact ⟨a,x,y,e,g _ _ h1,h2.mono g,h3.mono g⟩
def Gs (n:Int) (ps:List (Int × Int)):Prop:=ps.length≤40∧∀ p∈ps,Gp n p
def iT:Sp:=fun vs H Q _=>∃ (n:Int) (ps qs:List (Int × Int)) (v:V),vs=[v,.int n]∧1≤n∧n≤9∧HdIn H ps qs v∧Gs n ps∧Gs n qs∧∀ H',Same H H'→Q (.bl true) H'
abbrev ie:Stmt:=top 49
theorem oH:FnScope ["thing","many"] ["thing","many"] (am ie):=⟨rfl,rfl,rfl,by decide +kernel,rfl,by decide +kernel,by decide +kernel⟩
theorem o6 {t3 t4:Tok} {aP:Addr} (F:Fun K "is_holds" "is_holds" ie f fd) (B:Bu K mg) (B3:Ch K mg t3 t4 aP) (C_is_many:Cal P w K mg base "is_many" 2 ["thing"] iw) (C_is_list_of_stretches:Cal P w K mg base "is_list_of_stretches" 3 ["thing","many"] qe):FnOk P w K mg base CX0 4 f fd ["thing","many"] iT:=by
  refine F.ok oH (fun vs H Q E h=>?_) (fun cdv A outer s H vs Q E hr h=>?_)
  · obtain ⟨n,ps,qs,v,rfl,_⟩:=h;rfl
  obtain ⟨n,ps,qs,v,rfl,h1,h9,⟨a,x,y,rfl,ha,hx,hy⟩,g1,g2,q⟩:=h;refine ⟨_,(@ag _ _ _ _ _ (@bh _ _ _ _ _ _ _ _ (@PW.pt _ _ _ (@iD _ _ _ _ _ _ _ (@cx _ _ _ _ (@bQ _ _ _ (@aj _ _ _ _ _ _ _ _ _ _ _ C_is_many hr (by lia) rfl (@aa _ _ _ _ _ (pv 1) ac (by rfl)) (by decide) (by rfl) (by rfl)) (by intro _;rfl))) (@iD _ _ _ _ _ _ _ (@cx _ _ _ _ (@bQ _ _ _ (@aA _ _ _ _ _ _ _ _ _ (@bN _ ("tuple")) rfl B.iisinstance aaK (@aa _ _ _ _ _ (pv 0) (@aa _ _ _ _ _ (@dm _ _ (.ty "tuple") _ _ rfl B.ituple acg rfl (by decide) (by decide)) ac (by rfl)) (by rfl)) (by decide) (by decide) (by rfl) (by rfl)) (by intro _;rfl))) (@fZ _ _ _ _ (@aK _ _ _ _ _ _ _ _ mz (@aA _ _ _ _ _ _ _ _ _ aB rfl B.ilen aay (@aa _ _ _ _ _ (pv 0) ac (by rfl)) (by decide) (by decide) (by rfl) (by rfl)) ai (aN _)))))) (@ak _ _ _ (@au _ _ _ _ di)) aO) (@ak _ _ _ (@au _ _ _ _ (@aA _ _ _ _ _ _ _ _ _ (@k_ _ rfl) rfl B.iall acu (@aa _ _ _ _ _ (@gf _ _ _ _ _ _ _ _ (["part","many"]) ([none,some 1]) _ _ _ _ rfl (@t_ _ _ _ _ (pv 0)) rfl ⟨rfl,trivial⟩ ⟨⟨rfl,Or.inl rfl,Or.inl rfl⟩,trivial⟩ (fun _ _ _ _=>⟨(@ao _ _ (0) _ (show aaM (["part","many"]:List Str) by decide +kernel) rfl (Or.inl rfl) (.inr rfl)),bt,(@aj _ _ _ _ _ _ _ _ _ _ _ C_is_list_of_stretches hr (by lia) rfl (@aa _ _ _ _ _ (pv 0) (@aa _ _ _ _ _ (pv 1) ac (by rfl)) (by rfl)) (by decide) (by rfl) (by rfl))⟩) (by rfl) (by rfl) (by rfl) (by rfl) (by intro _;rfl)) ac (by rfl)) (by decide) (by decide) (by rfl) (by rfl))))),?_⟩;refine ⟨_,rfl,n,rfl,h1,h9,true,rfl,bi ⟨_,rfl,_,_,true,rfl,.tup ha,rfl,true,rfl,bi ⟨_,rfl,a,_,rfl,.inr (SqT.of ha),rfl,false,rfl,bi ?_⟩⟩⟩;refine ⟨_,rfl,a,rfl,⟨_,SqT.of ha⟩,?_⟩;refine eV (Trn.tup (xs:=[x,y])) (fun i ys H'=>Same H H'∧ys=(aao i true).map V.bl) ⟨Same.refl _,rfl⟩ (fun i ys H' hi p=>by rw [p.2];exact ⟨SqT.of (p.1 _ _ ha),aJ (by simp at hi;simp;lia)⟩) (fun i z ys H1 H' hi hx' p Nx nx=>?_) (fun ys H' p p5 n5=>?_)
  · obtain ⟨S,rfl⟩:=p;obtain ⟨rfl,hz⟩:=hx';have key:∃ ps,StIn H' ps z∧Gs n ps:=by
      have : i=0∨i=1:=by simp at hi;lia
      rcases this with rfl|rfl
      · simp at hz;subst hz;exact ⟨ps,hx.mono S,g1⟩
      · simp at hz;subst hz;exact ⟨qs,hy.mono S,g2⟩
    obtain ⟨ps',k1,k2,k3⟩:=key;refine ⟨_,rfl,_,rfl,n,ps',z,rfl,k1,k2,k3,fun H2 s2=>nx _ _ ⟨S.trans s2,?_⟩⟩;rw [List.replicate_succ',aaJ];rfl
  obtain ⟨S,rfl⟩:=p;refine ⟨p5,_,rfl,SqL.of af,?_⟩;exact q _ (S.trans (Same.new n5 _))
def iS:Sp:=fun vs H Q _=>∃ gs,vs=[.str (aD gs)]∧cY gs∧Q (.bl true) H
abbrev ic:Stmt:=top 13
theorem oG:FnScope ["thing"] ["thing"] (am ic):=⟨rfl,rfl,rfl,by decide +kernel,rfl,by decide +kernel,by decide +kernel⟩
theorem o5 {t3 t4:Tok} {aP:Addr} (F:Fun K "is_signs" "is_signs" ic f fd) (B:Bu K mg) (B3:Ch K mg t3 t4 aP):FnOk P w K mg base CX0 1 f fd ["thing"] iS:=by
  refine F.ok oG (fun vs H Q E h=>?_) (fun cdv A outer s H vs Q E hr h=>?_)
  · obtain ⟨x,rfl,_⟩:=h;rfl
  obtain ⟨gs,rfl,hs,q⟩:=h;refine ⟨_,(@ak _ _ _ (@au _ _ _ _ (@d5 _ _ _ _ _ _ _ (@aA _ _ _ _ _ _ _ _ _ (@bN _ ("str")) rfl B.iisinstance aaK (@aa _ _ _ _ _ (pv 0) (@aa _ _ _ _ _ (@dm _ _ (.ty "str") _ _ rfl B.istr PyProof.Rows.boot_str rfl (by decide) (by decide)) ac (by rfl)) (by rfl)) (by decide) (by decide) (by rfl) (by rfl)) (@fC _ _ _ _ _ (@bZ _ _ _ _ _ _ _ _ mB (pv 0) (@gF _ _ (.ref aP) _ _ rfl B3.gSIGNS_TO_PUT rfl (by decide)) (by with_unfolding_all rfl)))))),?_⟩;refine ⟨_,rfl,_,_,true,rfl,.str _,rfl,true,rfl,bV ⟨_,rfl,aP,_,rfl,.inr (B3.sSIGNS_TO_PUT H),rfl,rfl,?_⟩⟩;show Q (.bl (inV (.str (aD gs)) nB)) H;rw [show inV (.str (aD gs)) nB=true from hs];exact q
def cc:Sp:=fun vs H Q _=>∃ gs,vs=[.str (aD gs)]∧cY gs∧Q .non H
abbrev fg:Stmt:=top 18
theorem lH:FnScope ["thing"] ["thing"] (am fg):=⟨rfl,rfl,rfl,by decide +kernel,rfl,by decide +kernel,by decide +kernel⟩
theorem lR (F:Fun K "need_signs" "need_signs" fg f fd) (C_is_signs:Cal P w K mg base "is_signs" 1 ["thing"] iS):FnOk P w K mg base CX0 2 f fd ["thing"] cc:=by
  refine F.ok lH (fun vs H Q E h=>?_) (fun cdv A outer s H vs Q E hr h=>?_)
  · obtain ⟨x,rfl,_⟩:=h;rfl
  obtain ⟨gs,rfl,hs,q⟩:=h;refine ⟨_,(@ak _ _ _ (@bh _ _ _ _ _ _ _ _ (@cx _ _ _ _ (@bQ _ _ _ (@aj _ _ _ _ _ _ _ _ _ _ _ C_is_signs hr (by lia) rfl (@aa _ _ _ _ _ (pv 0) ac (by rfl)) (by decide) (by rfl) (by rfl)) (by intro _;rfl))) (@ak _ _ _ eF) aO)),?_⟩;exact ⟨_,rfl,gs,rfl,hs,true,rfl,bi q⟩
def cA:Sp:=fun vs H Q _=>∃ (a:Addr) (ns:List Int) (gs:List Sg) (ps qs:List (Int × Int)) (v:V),vs=[.ref a,.str (aD gs),v]∧H a=some (.lst (ns.map V.int))∧1≤ns.length∧ns.length≤9∧cY gs∧HdIn H ps qs v∧Gs ns.length ps∧Gs ns.length qs∧∀ H',Same H H'→Q .non H'
abbrev fh:Stmt:=top 58
theorem lI:FnScope ["row","signs","thing"] ["row","signs","thing"] (am fh):=⟨rfl,rfl,rfl,by decide +kernel,rfl,by decide +kernel,by decide +kernel⟩
theorem lT (F:Fun K "need_holds" "need_holds" fh f fd) (B:Bu K mg) (C_need_row:Cal P w K mg base "need_row" 3 ["thing"] dq) (C_need_signs:Cal P w K mg base "need_signs" 2 ["thing"] cc) (C_is_holds:Cal P w K mg base "is_holds" 4 ["thing","many"] iT):FnOk P w K mg base CX0 5 f fd ["row","signs","thing"] cA:=by
  refine F.ok lI (fun vs H Q E h=>?_) (fun cdv A outer s H vs Q E hr h=>?_)
  · obtain ⟨a,ns,gs,ps,qs,v,rfl,_⟩:=h;rfl
  obtain ⟨a,ns,gs,ps,qs,v,rfl,ea,h1,h9,hs,hd,g1,g2,q⟩:=h;refine ⟨_,(@ag _ _ _ _ _ (@aX _ _ _ _ (@aj _ _ _ _ _ _ _ _ _ _ _ C_need_row hr (by lia) rfl (@aa _ _ _ _ _ (pv 0) ac (by rfl)) (by decide) (by rfl) (by rfl)) (by rfl)) (@ag _ _ _ _ _ (@aX _ _ _ _ (@aj _ _ _ _ _ _ _ _ _ _ _ C_need_signs hr (by lia) rfl (@aa _ _ _ _ _ (pv 1) ac (by rfl)) (by decide) (by rfl) (by rfl)) (by rfl)) (@ak _ _ _ (@bh _ _ _ _ _ _ _ _ (@cx _ _ _ _ (@bQ _ _ _ (@aj _ _ _ _ _ _ _ _ _ _ _ C_is_holds hr (by lia) rfl (@aa _ _ _ _ _ (pv 2) (@aa _ _ _ _ _ (@aA _ _ _ _ _ _ _ _ _ aB rfl B.ilen aay (@aa _ _ _ _ _ (pv 0) ac (by rfl)) (by decide) (by decide) (by rfl) (by rfl)) ac (by rfl)) (by rfl)) (by decide) (by rfl) (by rfl)) (by intro _;rfl))) (@ak _ _ _ eF) aO)))),?_⟩;refine ⟨_,rfl,a,ns,rfl,ea,h1,h9,fun H1 s1=>⟨_,rfl,gs,rfl,hs,?_⟩⟩;have hl:(ns.map V.int).length=ns.length:=aaf _;refine ⟨_,rfl,_,rfl,a,_,rfl,.inl (SqL.of (s1 _ _ ea)),?_⟩;rw [hl];exact ⟨(ns.length:Int),ps,qs,v,rfl,by lia,by lia,hd.mono s1,g1,g2,fun H2 s2=>⟨true,rfl,bi (q H2 (s1.trans s2))⟩⟩
end
open PySem L2
def wl (s:Nat) (L:List Int) (n l:Nat):Int:=(s:Int) * L.getD l 0 * L.getD (n - l) 0
def cl (s:Nat):Nat→List Int
  | 0=>[0,1]
  | k+1=>cl s k++[((aaI (k+1)).map fun j=>wl s (cl s k) (k+2) (1+j)).sum]
theorem oi (s:Nat):∀ k,(cl s k).length=k+2
  | 0=>rfl
  | k+1=>by
    show (cl s k++[_]).length=_;rw [aap,oi s k];rfl
def cn (s n:Nat):Int:=(cl s 8).getD n 0
theorem vi (s:Nat):∀ (k d n:Nat),n < k+2→(cl s (k+d)).getD n 0=(cl s k).getD n 0
  | k,0,n,h=>rfl
  | k,d+1,n,h=>by
    show (cl s (k+d)++[_]).getD n 0=_;rw [← vi s k d n h];have hl:=oi s (k+d);simp only [aau];rw [List.getElem?_append_left (by lia)]
theorem vj {s k n:Nat} (hk:k≤8) (h:n < k+2):(cl s k).getD n 0=cn s n:=by
  have:=vi s k (8 - k) n h;unfold cn;rw [show 8=k+(8 - k) by lia];exact this.symm
theorem gX:∀ s≤3,∀ n≤9,0≤cn s n∧cn s n < 1000000000:=by decide +kernel
theorem jG {s k n:Nat} (hk:k≤8) (h:n < k+2):atI ((cl s k).map V.int) (n:Int)=some (.int (cn s n)):=by
  have hl:=oi s k;have e:(cl s k)[n]?=some (cn s n):=by
    have:=vj (s:=s) hk h;rw [aau] at this;cases z:(cl s k)[n]? with
    | none=>rw [List.getElem?_eq_none_iff] at z;lia
    | some x=>rw [z] at this;exact congrArg some this
  refine iN ?_;rw [aaL,e];rfl
section
variable {P:Program} {w:World} {K:aaa} {mg:Str→Option Value} {base:Heap} {f:Addr} {fd:FuncData}
def qY:Sp:=fun vs H Q _=>∃ (z:Str) (pc:Addr) (xs:List V) (l r a b:Int),vs=[.str z,.ref pc,.int l,.int r]∧z.length≤3∧H pc=some (.lst xs)∧atI xs l=some (.int a)∧atI xs r=some (.int b)∧0≤b∧b < 1000000000∧Q (.int ((z.length:Int) * a * b)) H
abbrev dS:Stmt:=top 32
theorem ki:FnScope ["signs","counts","left","right"] ["signs","counts","left","right"] (am dS):=⟨rfl,rfl,rfl,by decide +kernel,rfl,by decide +kernel,by decide +kernel⟩
theorem kD (F:Fun K "ways_by_cut" "ways_by_cut" dS f fd) (B:Bu K mg):FnOk P w K mg base CX0 1 f fd ["signs","counts","left","right"] qY:=by
  refine F.ok ki (fun vs H Q E h=>?_) (fun cdv A outer s H vs Q E hr h=>?_)
  · obtain ⟨z,pc,xs,l,r,a,b,rfl,_⟩:=h;rfl
  obtain ⟨z,pc,xs,l,r,a,b,rfl,hz,hc,ha,hb,b0,b1,q⟩:=h;refine ⟨_,(@ak _ _ _ (@au _ _ _ _ (@aC _ _ _ _ _ _ _ _ gg (@aC _ _ _ _ _ _ _ _ gg (@aA _ _ _ _ _ _ _ _ _ iM rfl B.ilen aay (@aa _ _ _ _ _ (pv 0) ac (by rfl)) (by decide) (by decide) (by rfl) (by rfl)) (@aI _ _ _ _ _ _ _ aR (pv 1) (pv 2) (fun _ _=>rfl))) (@aI _ _ _ _ _ _ _ aR (pv 1) (pv 3) (fun _ _=>rfl))))),?_⟩;exact ⟨_,rfl,z,rfl,bM (by lia),_,rfl,_,rfl,pc,_,_,_,rfl,rfl,SqL.of hc,ha,_,_,rfl,rfl,.inl ⟨by lia,by lia⟩,_,rfl,_,rfl,pc,_,_,_,rfl,rfl,SqL.of hc,hb,_,_,rfl,rfl,.inr ⟨by lia,by lia⟩,q⟩
def jy:Sp:=fun vs H Q _=>∃ (z:Str) (m:Int),vs=[.str z,.int m]∧z.length≤3∧1≤m∧m≤9∧∀ p H',Same H H'→H p=none→H' p=some (.lst ((cl z.length (m - 1).toNat).map V.int))→Q (.ref p) H'
abbrev dE:Stmt:=top 31
theorem cw:FnScope ["signs","many","counts","length","by_left"] ["signs","many"] (am dE):=⟨rfl,rfl,rfl,by decide +kernel,rfl,by decide +kernel,by decide +kernel⟩
theorem jS (F:Fun K "counts_up_to" "counts_up_to" dE f fd) (B:Bu K mg) (C_ways_by_cut:Cal P w K mg base "ways_by_cut" 1 ["signs","counts","left","right"] qY):FnOk P w K mg base CX0 2 f fd ["signs","many"] jy:=by
  refine F.ok cw (fun vs H Q E h=>?_) (fun cdv A outer s H vs Q E hr h=>?_)
  · obtain ⟨z,m,rfl,_⟩:=h;rfl
  obtain ⟨z,m,rfl,hz,h1,h9,q⟩:=h;refine ⟨_,(@ag _ _ _ _ _ (@aH _ _ (2) _ _ _ _ (cw).nd rfl (Or.inr rfl) (@aV _ _ _ _ (@aa _ _ _ _ _ ai (@aa _ _ _ _ _ ai ac (by rfl)) (by rfl))) (by rfl) (by first|exact .inl rfl|exact .inr rfl|assumption)) (@ag _ _ _ _ _ (@fz _ _ _ _ _ _ _ _ aa4 rfl (@je _ _ _ _ _ _ _ rfl B.irange (@aa _ _ _ _ _ ai (@aa _ _ _ _ _ (@aC _ _ _ _ _ _ _ _ bU (pv 1) ai) ac (by rfl)) (by rfl)) (by rfl) (by rfl)) (@ao _ _ (3) _ (cw).nd rfl (Or.inr rfl) (.inl rfl)) (@ag _ _ _ _ _ (@rj _ (4) _ _ _ _ _ _ _ _ _ _ (["left","signs","counts","length"]) ([none,some 0,some 2,some 3]) _ _ _ _ (cw).nd rfl (Or.inl rfl) rfl (@je _ _ _ _ _ _ _ rfl B.irange (@aa _ _ _ _ _ ai (@aa _ _ _ _ _ (pv 3) ac (by rfl)) (by rfl)) (by rfl) (by rfl)) rfl ⟨rfl,⟨rfl,⟨rfl,trivial⟩⟩⟩ ⟨⟨rfl,Or.inl rfl,Or.inl rfl⟩,⟨⟨rfl,Or.inl rfl,Or.inl rfl⟩,⟨⟨rfl,Or.inl rfl,Or.inl rfl⟩,trivial⟩⟩⟩ (fun _ _ _ _=>⟨(@ao _ _ (0) _ (show aaM (["left","signs","counts","length"]:List Str) by decide +kernel) rfl (Or.inl rfl) (.inr rfl)),bt,(@aj _ _ _ _ _ _ _ _ _ _ _ C_ways_by_cut hr (by lia) rfl (@aa _ _ _ _ _ (pv 1) (@aa _ _ _ _ _ (pv 2) (@aa _ _ _ _ _ (pv 0) (@aa _ _ _ _ _ (@aC _ _ _ _ _ _ _ _ bz (pv 3) (pv 0)) ac (by rfl)) (by rfl)) (by rfl)) (by rfl)) (by decide) (by rfl) (by rfl))⟩) (by rfl) (by rfl) (by rfl) (by rfl) (by intro _;rfl) (by rfl) (by first|exact .inl rfl|exact .inr rfl|assumption)) (@ak _ _ _ (@aX _ _ _ _ (@mr _ _ _ _ _ _ _ _ _ _ _ _ aa2 abc abd du (pv 2) (@aa _ _ _ _ _ (@aA _ _ _ _ _ _ _ _ _ (@pS _ rfl) rfl B.isum PyProof.Rows.boot_sum (@aa _ _ _ _ _ (pv 4) ac (by rfl)) (by decide) (by decide) (by rfl) (by rfl)) ac (by rfl)) (by rfl) (by rfl) (by rfl) (by rfl) (by rfl)) (by rfl)))) (by intro _;rfl)) (@ak _ _ _ (@au _ _ _ _ (pv 2))))),?_⟩;refine ⟨(by show 2≤sizeLine;decide),fun p np=>?_⟩;refine ⟨_,rfl,_,_,rfl,rfl,2,m+1,rfl,⟨by decide,by decide,by lia,by lia⟩,jt (n:=(m+1 - 2).toNat) (fun i σ H'=>∃ len by',σ=[some (.str z),some (.int m),some (.ref p),len,by']∧H' p=some (.lst ((cl z.length i).map V.int))∧Same H H') ⟨_,_,rfl,af,Same.new np _⟩ ?_ ?_⟩
  · rintro i σ H1 hi ⟨len,by',rfl,e1,S1⟩;have i8:i≤7:=by lia
    have hl:=oi z.length i;refine ⟨_,rfl,1,_,rfl,⟨by decide,by decide,by lia,by lia⟩,uC (n:=(2+(i:Int) - 1).toNat) (fun j ys H'=>ys=((aaI j).map fun j=>wl z.length (cl z.length i) (i+2) (1+j)).map V.int∧H'=H1) ⟨rfl,rfl⟩ ?_ ?_ ?_⟩
    · rintro j ys H' hj ⟨rfl,rfl⟩;rw [aaf,aaf,List.length_range];exact aJ (by lia)
    · rintro j ys H' hj ⟨rfl,rfl⟩ nx;have bd:=gX z.length hz;have e2:2+(i:Int) - (1+(j:Int))=((i+2 - (1+j):Nat):Int):=by lia
      have e3:(1+(j:Int))=((1+j:Nat):Int):=by lia
      refine ⟨_,rfl,_,rfl,_,rfl,_,rfl,_,rfl,_,_,rfl,rfl,z,p,_,_,_,cn z.length (1+j),cn z.length (i+2 - (1+j)),rfl,hz,e1,?_,?_,(bd _ (by lia)).1,(bd _ (by lia)).2,nx ⟨?_,rfl⟩⟩
      · rw [e3];exact jG (by lia) (by lia)
      · rw [e2];exact jG (by lia) (by lia)
      · rw [List.range_succ,aaJ,aaJ];show _=_++[V.int (wl z.length (cl z.length i) (i+2) (1+j))];unfold wl;rw [vj (by lia) (by lia),vj (by lia) (by lia)]
    · rintro ys H' ⟨rfl,rfl⟩ p2 n2;have g2:=Same.new n2 (.lst (((aaI (2+(i:Int) - 1).toNat).map fun j=>wl z.length (cl z.length i) (i+2) (1+j)).map V.int));refine ⟨_,rfl,.inl ⟨rfl,_,SqL.of (g2 _ _ e1)⟩,_,rfl,p2,_,rfl,SqL.of af,p,_,_,rfl,rfl,g2 _ _ e1,aJ (by rw [aaf];lia),_,_,rfl,?_,?_⟩
      · rw [af,← List.map_singleton,← aaJ];have e4:(2+(i:Int) - 1).toNat=i+1:=by lia
        rw [e4];rfl
      · exact (S1.trans g2).upd np
  · rintro σ H1 ⟨len,by',rfl,e1,S1⟩;have e4:(m+1 - 2).toNat=(m - 1).toNat:=by lia
    rw [e4] at e1;exact ⟨_,rfl,q p H1 S1 np e1⟩
end
open PySem L2
def ky (p:Int × Int):List Key:=[Sum.inl p.1,Sum.inl p.2]
theorem kM {p q:Int × Int} (h:ky p=ky q):p=q:=by
  obtain ⟨a,b⟩:=p;obtain ⟨c,d⟩:=q;simp [ky] at h;rw [h.1,h.2]
theorem PairIn.key {H:Hp} {p:Int × Int} {v:V} (h:PairIn H p v):∃ b,v=.ref b∧H b=some (.tup ((ky p).map kV)):=h
def CutIn (H:Hp) (p:Int × Int) (c:Int) (v:V):Prop:=∃ a x y,v=.ref a∧H a=some (.tup [x,y])∧PairIn H (p.1,c) x∧PairIn H (c+1,p.2) y
theorem PairIn.mono {H H':Hp} {p:Int × Int} {v:V} (t:Tups H H') (h:PairIn H p v):PairIn H' p v:=by
  obtain ⟨a,e,h⟩:=h;exact ⟨a,e,t _ _ h⟩
theorem CutIn.mono {H H':Hp} {p:Int × Int} {c:Int} {v:V} (t:Tups H H') (h:CutIn H p c v):CutIn H' p c v:=by
  obtain ⟨a,x,y,e,h1,h2,h3⟩:=h;exact ⟨a,x,y,e,t _ _ h1,PairIn.mono t h2,PairIn.mono t h3⟩
def aQ (p:Int × Int):List Int:=(aaI (p.2 - p.1).toNat).map fun (k:Nat)=>p.1+(k:Int)
theorem Paired.snoc {α β:Type} {F:α→β→Prop} {as:List α} {us:List β} {a:α} {u:β} (h:Paired F as us) (x:F a u):Paired F (as++[a]) (us++[u]):=by
  induction h with
  | nil=>exact .cons x .nil
  | cons y _ ih=>exact .cons y ih
theorem Paired.at {α β:Type} {F:α→β→Prop} {as:List α} {us:List β} (p:Paired F as us):∀ {j:Nat} {x:β},us[j]?=some x→∃ a,as[j]?=some a∧F a x:=by
  induction p with
  | nil=>intro j x h;cases h
  | cons a b ih =>
    intro j x h;cases j with
    | zero=>cases h;exact ⟨_,rfl,a⟩
    | succ j=>exact ih (j:=j) h
def Sg.op:Sg→Int→Int→Int
  | .plus,a,b=>a+b
  | .minus,a,b=>a - b
  | .times,a,b=>a * b
theorem pZ (x y:Str):(x++y).cps.toList=x.cps.toList++y.cps.toList:=by
  obtain ⟨a⟩:=x;obtain ⟨b⟩:=y;show (a++b).toList=_;rw [Array.toList_append]
def Sg.code:Sg→Nat
  | .plus=>43
  | .minus=>45
  | .times=>42
theorem fS (g:Sg):g.str=⟨#[g.code]⟩:=by cases g <;> rfl
theorem cF:∀ gs:List Sg,(aD gs).cps.toList=gs.map Sg.code
  | []=>rfl
  | g :: r=>by
    show (g.str++aD r).cps.toList=g.code :: r.map Sg.code;rw [pZ,cF r,fS];rfl
theorem qj (gs:List Sg):(aD gs).cps.all (· < 128)=true:=by
  rw [← Array.all_toList,cF,aa7];intro c hc;obtain ⟨g,_,rfl⟩:=aaC.mp hc;cases g <;> decide
theorem ye {gs:List Sg} {i c:Nat} (h:(aD gs).cps[i]?=some c):∃ g,gs[i]?=some g∧c=g.code:=by
  have h2:(aD gs).cps.toList[i]?=some c:=by simpa using h
  rw [cF,aaL] at h2;obtain ⟨g,hg,e⟩:=abv.mp h2;exact ⟨g,hg,e.symm⟩
theorem dL (gs:List Sg):(aD gs).cps.size=gs.length:=by
  have:=congrArg abZ (cF gs);simpa using this
abbrev Jt:=Int × Sg × Int × Int
def Lw (s:Nat) (p:Int × Int) (c:Int):Int:=cn s (c - p.1+1).toNat
def Rw (s:Nat) (p:Int × Int) (c:Int):Int:=cn s (p.2 - c).toNat
def dH (c L R:Int):List Sg→Int→List Jt
  | [],_=>[]
  | g :: r,st=>(c,g,st,R) :: dH c L R r (st+L * R)
def dJ (gs:List Sg) (p:Int × Int):List Int→Int→List Jt
  | [],_=>[]
  | c :: cs,st=>dH c (Lw gs.length p c) (Rw gs.length p c) gs st++dJ gs p cs (st+(gs.length:Int) * (Lw gs.length p c * Rw gs.length p c))
def jst (gs:List Sg) (p:Int × Int) (cs:List Int):Int:=(cs.map fun c=>(gs.length:Int) * (Lw gs.length p c * Rw gs.length p c)).sum
theorem mG (c L R:Int) (g:Sg):∀ (xs:List Sg) (st:Int),dH c L R (xs++[g]) st=dH c L R xs st++[(c,g,st+(xs.length:Int) * (L * R),R)]
  | [],st=>by show [(c,g,st,R)]=[(c,g,st+((0:Nat):Int) * (L * R),R)];simp
  | x :: xs,st=>by
    show (c,x,st,R) :: dH c L R (xs++[g]) (st+L * R)=(c,x,st,R) :: (dH c L R xs (st+L * R)++[(c,g,st+((x :: xs).length:Int) * (L * R),R)]);rw [mG c L R g xs];have : st+L * R+(xs.length:Int) * (L * R)=st+((x :: xs).length:Int) * (L * R):=by
      rw [aaS,acd,abk];simp only [Int.natCast_one,abl];lia
    rw [this]
theorem jr (gs:List Sg) (p:Int × Int) (c:Int):∀ (cs:List Int) (st:Int),dJ gs p (cs++[c]) st=dJ gs p cs st++dH c (Lw gs.length p c) (Rw gs.length p c) gs (st+jst gs p cs)
  | [],st=>by simp [dJ,jst]
  | x :: cs,st=>by
    show dH x _ _ gs st++dJ gs p (cs++[c]) _=(dH x _ _ gs st++dJ gs p cs _)++_;rw [jr gs p c cs,abC];congr 3;simp only [jst,aaO,abz];lia
theorem kP (c L R:Int):∀ (xs:List Sg) (st:Int),(dH c L R xs st).length=xs.length
  | [],_=>rfl
  | x :: xs,st=>by show (dH c L R xs _).length+1=_;rw [kP c L R xs];rfl
theorem kQ (gs:List Sg) (p:Int × Int):∀ (cs:List Int) (st:Int),(dJ gs p cs st).length=cs.length * gs.length
  | [],_=>by simp [dJ]
  | c :: cs,st=>by
    show (dH c _ _ gs st++dJ gs p cs _).length=_;rw [aap,kP,kQ gs p cs,aaS,act];lia
def JtIn (H:Hp) (p:Int × Int) (j:Jt) (v:V):Prop:=∃ t x y,v=.ref t∧H t=some (.tup [x,.str j.2.1.str,y,.int j.2.2.1,.int j.2.2.2])∧PairIn H (p.1,j.1) x∧PairIn H (j.1+1,p.2) y
theorem JtIn.mono {H H':Hp} {p:Int × Int} {j:Jt} {v:V} (t:Tups H H') (h:JtIn H p j v):JtIn H' p j v:=by
  obtain ⟨a,x,y,e,h1,h2,h3⟩:=h;exact ⟨a,x,y,e,t _ _ h1,PairIn.mono t h2,PairIn.mono t h3⟩
section
variable {P:Program} {w:World} {K:aaa} {mg:Str→Option Value} {base:Heap} {f:Addr} {fd:FuncData}
def ni:Sp:=fun vs H Q _=>∃ p v,vs=[v]∧PairIn H p v∧0≤p.1∧p.1≤p.2∧p.2 < 100∧∀ a us H',Same H H'→H a=none→H' a=some (.lst us)→Paired (CutIn H' p) (aQ p) us→Q (.ref a) H'
abbrev ja:Stmt:=top 22
theorem hV:FnScope ["stretch","first","last"] ["stretch"] (am ja):=⟨rfl,rfl,rfl,by decide +kernel,rfl,by decide +kernel,by decide +kernel⟩
theorem qC (F:Fun K "cuts_of" "cuts_of" ja f fd) (B:Bu K mg):FnOk P w K mg base CX0 1 f fd ["stretch"] ni:=by
  refine F.ok hV (fun vs H Q E h=>?_) (fun cdv A outer s H vs Q E hr h=>?_)
  · obtain ⟨p,v,rfl,_⟩:=h;rfl
  obtain ⟨p,v,rfl,⟨a,rfl,ha⟩,h1,h2,h3,q⟩:=h;refine ⟨_,(@ag _ _ _ _ _ (@cy _ _ _ _ _ _ (pv 0) (@cz _ _ _ _ _ _ rfl (@az _ _ _ _ _ (@ao _ _ (1) _ (hV).nd rfl (Or.inr rfl) (.inl rfl)) (@az _ _ _ _ _ (@ao _ _ (2) _ (hV).nd rfl (Or.inr rfl) (.inl rfl)) a8 (by rfl)) (by rfl)) (by rfl) (by rfl)) (by rfl) (by rfl) (by rfl)) (@ak _ _ _ (@au _ _ _ _ (@gf _ _ _ _ _ _ _ _ (["cut","first","last"]) ([none,some 1,some 2]) _ _ _ _ rfl (@je _ _ _ _ _ _ _ rfl B.irange (@aa _ _ _ _ _ (pv 1) (@aa _ _ _ _ _ (pv 2) ac (by rfl)) (by rfl)) (by rfl) (by rfl)) rfl ⟨rfl,⟨rfl,trivial⟩⟩ ⟨⟨rfl,Or.inl rfl,Or.inl rfl⟩,⟨⟨rfl,Or.inl rfl,Or.inl rfl⟩,trivial⟩⟩ (fun _ _ _ _=>⟨(@ao _ _ (0) _ (show aaM (["cut","first","last"]:List Str) by decide +kernel) rfl (Or.inl rfl) (.inr rfl)),bt,(@aY _ _ _ _ _ (@aa _ _ _ _ _ (@aY _ _ _ _ _ (@aa _ _ _ _ _ (pv 1) (@aa _ _ _ _ _ (pv 0) ac (by rfl)) (by rfl))) (@aa _ _ _ _ _ (@aY _ _ _ _ _ (@aa _ _ _ _ _ (@aC _ _ _ _ _ _ _ _ bU (pv 0) ai) (@aa _ _ _ _ _ (pv 2) ac (by rfl)) (by rfl))) ac (by rfl)) (by rfl)))⟩) (by rfl) (by rfl) (by rfl) (by rfl) (by intro _;rfl))))),?_⟩;refine ⟨_,rfl,a,_,rfl,SqT.of ha,rfl,_,_,rfl,_,_,rfl,rfl,?_⟩;refine ⟨_,rfl,_,rfl,p.1,p.2,rfl,⟨by lia,by lia,by lia,by lia⟩,?_⟩;refine eV (Trn.range (lo:=p.1) (n:=(p.2 - p.1).toNat)) (fun i ys H'=>Same H H'∧Paired (CutIn H' p) ((aQ p).take i) ys) ⟨Same.refl _,.nil⟩ (fun i ys H' hi z=>⟨trivial,aJ (by have:=z.2.length;rw [← this,aas];lia)⟩) (fun i x ys H0 H' hi hx z Nx nx=>?_) (fun ys H' z p5 n5=>?_)
  · obtain ⟨rfl,rfl⟩:=hx;obtain ⟨S,hp⟩:=z;have t2:(2:Nat)≤sizeLine:=by decide
    refine ⟨_,rfl,_,rfl,t2,fun t ht=>?_⟩;have st:=Same.new ht (.tup [.int p.1,.int (p.1+(i:Int))]);refine ⟨_,rfl,_,_,rfl,rfl,_,rfl,t2,fun u hu=>⟨t2,fun v hv=>nx _ _ ?_⟩⟩;have su:=Same.new hu (.tup [.int (p.1+(i:Int)+1),.int p.2]);have sv:=Same.new hv (.tup [.ref t,.ref u]);have S3:=(st.trans su).trans sv;refine ⟨S.trans S3,?_⟩;have e:(aQ p).take (i+1)=(aQ p).take i++[p.1+(i:Int)]:=by
      rw [aaP];have : (aQ p)[i]?=some (p.1+(i:Int)):=by
        unfold aQ;rw [aaL,List.getElem?_range hi];rfl
      rw [this];rfl
    rw [e];exact Paired.snoc (Paired.mapP hp fun _ _ h=>CutIn.mono (Tups.of S3) h) ⟨v,_,_,rfl,af,⟨t,rfl,sv _ _ (su _ _ af)⟩,⟨u,rfl,sv _ _ af⟩⟩
  · obtain ⟨S,hp⟩:=z;rw [abh (by simp [aQ])] at hp;have s5:=Same.new n5 (.lst ys);exact q p5 ys _ (S.trans s5) (S.free n5) af (Paired.mapP hp fun _ _ h=>CutIn.mono (Tups.of s5) h)
def gw:Sp:=fun vs H Q _=>∃ a g b,vs=[.int a,.str (Sg.str g),.int b]∧a.natAbs < 2 ^ 4000∧b.natAbs < 2 ^ 4000∧Q (.int (g.op a b)) H
abbrev hZ:Stmt:=top 37
theorem oB:FnScope ["left","sign","right"] ["left","sign","right"] (am hZ):=⟨rfl,rfl,rfl,by decide +kernel,rfl,by decide +kernel,by decide +kernel⟩
theorem oX (F:Fun K "put_sign" "put_sign" hZ f fd):FnOk P w K mg base CX0 1 f fd ["left","sign","right"] gw:=by
  refine F.ok oB (fun vs H Q E h=>?_) (fun cdv A outer s H vs Q E hr h=>?_)
  · obtain ⟨a,g,b,rfl,_⟩:=h;rfl
  obtain ⟨a,g,b,rfl,ha,hb,q⟩:=h;refine ⟨_,(@ag _ _ _ _ _ (@bh _ _ _ _ _ _ _ _ (@aK _ _ _ _ _ _ _ _ eQ (pv 1) dZ (aN _)) (@ak _ _ _ (@au _ _ _ _ (@aC _ _ _ _ _ _ _ _ bU (pv 0) (pv 2)))) aO) (@ag _ _ _ _ _ (@bh _ _ _ _ _ _ _ _ (@aK _ _ _ _ _ _ _ _ eQ (pv 1) dZ (aN _)) (@ak _ _ _ (@au _ _ _ _ (@aC _ _ _ _ _ _ _ _ bz (pv 0) (pv 2)))) aO) (@ak _ _ _ (@au _ _ _ _ (@aC _ _ _ _ _ _ _ _ iF (pv 0) (pv 2)))))),?_⟩;cases g with
  | plus=>exact ⟨_,rfl,rfl,_,rfl,uH rfl ⟨_,rfl,_,rfl,_,_,rfl,rfl,q⟩⟩
  | minus=>exact ⟨_,rfl,rfl,_,rfl,rH (by decide +kernel) ⟨_,rfl,rfl,_,rfl,uH rfl ⟨_,rfl,_,rfl,_,_,rfl,rfl,q⟩⟩⟩
  | times=>exact ⟨_,rfl,rfl,_,rfl,rH (by decide +kernel) ⟨_,rfl,rfl,_,rfl,rH (by decide +kernel) ⟨_,rfl,_,rfl,_,_,rfl,rfl,⟨ha,hb⟩,q⟩⟩⟩
def kc:Sp:=fun vs H Q _=>∃ (gs:List Sg) (pc:Addr) (M:Nat) (p:Int × Int) (v:V),vs=[.str (aD gs),.ref pc,v]∧gs.length≤3∧H pc=some (.lst ((cl gs.length M).map V.int))∧M≤8∧PairIn H p v∧0≤p.1∧p.1≤p.2∧p.2≤M ∧
  ∀ a us H',Same H H'→H a=none→H' a=some (.lst us)→Paired (JtIn H' p) (dJ gs p (aQ p) 0) us→Q (.ref a) H'
abbrev fV:Stmt:=top 34
theorem bj:FnScope ["signs","counts","stretch","joints","start","before","behind","left_ways","right_ways","sign"] ["signs","counts","stretch"] (am fV):=⟨rfl,rfl,rfl,by decide +kernel,rfl,by decide +kernel,by decide +kernel⟩
theorem nK (F:Fun K "joints_of" "joints_of" fV f fd) (B:Bu K mg) (C_cuts_of:Cal P w K mg base "cuts_of" 1 ["stretch"] ni):FnOk P w K mg base CX0 2 f fd ["signs","counts","stretch"] kc:=by
  refine F.ok bj (fun vs H Q E h=>?_) (fun cdv A outer s H vs Q E hr h=>?_)
  · obtain ⟨gs,pc,M,p,v,rfl,_⟩:=h;rfl
  obtain ⟨gs,pc,M,p,v,rfl,g3,ec,hM,hp,p0,p1,pM,q⟩:=h;refine ⟨_,(@ag _ _ _ _ _ (@aH _ _ (3) _ _ _ _ (bj).nd rfl (Or.inl rfl) (@aV _ _ _ _ ac) (by rfl) (by first|exact .inl rfl|exact .inr rfl|assumption)) (@ag _ _ _ _ _ (@aH _ _ (4) _ _ _ _ (bj).nd rfl (Or.inl rfl) ai (by rfl) (by first|exact .inl rfl|exact .inr rfl|assumption)) (@ag _ _ _ _ _ (@fz _ _ _ _ _ _ _ _ aa4 rfl (@bO _ _ _ _ (@aj _ _ _ _ _ _ _ _ _ _ _ C_cuts_of hr (by lia) rfl (@aa _ _ _ _ _ (pv 2) ac (by rfl)) (by decide) (by rfl) (by rfl))) (@cz _ _ _ _ _ _ rfl (@az _ _ _ _ _ (@ao _ _ (5) _ (bj).nd rfl (Or.inl rfl) (.inl rfl)) (@az _ _ _ _ _ (@ao _ _ (6) _ (bj).nd rfl (Or.inl rfl) (.inl rfl)) a8 (by rfl)) (by rfl)) (by rfl) (by rfl)) (@ag _ _ _ _ _ (@aH _ _ (7) _ _ _ _ (bj).nd rfl (Or.inl rfl) (@aI _ _ _ _ _ _ _ aR (pv 1) (@aC _ _ _ _ _ _ _ _ bU (@aC _ _ _ _ _ _ _ _ bz (@aI _ _ _ _ _ _ _ aT (pv 5) ai (fun _ _=>rfl)) (@aI _ _ _ _ _ _ _ aT (pv 5) ai (fun _ _=>rfl))) ai) (fun _ _=>rfl)) (by rfl) (by first|exact .inl rfl|exact .inr rfl|assumption)) (@ag _ _ _ _ _ (@aH _ _ (8) _ _ _ _ (bj).nd rfl (Or.inl rfl) (@aI _ _ _ _ _ _ _ aR (pv 1) (@aC _ _ _ _ _ _ _ _ bU (@aC _ _ _ _ _ _ _ _ bz (@aI _ _ _ _ _ _ _ aT (pv 6) ai (fun _ _=>rfl)) (@aI _ _ _ _ _ _ _ aT (pv 6) ai (fun _ _=>rfl))) ai) (fun _ _=>rfl)) (by rfl) (by first|exact .inl rfl|exact .inr rfl|assumption)) (@ak _ _ _ (@fz _ _ _ _ _ _ _ _ aa4 rfl (@xj _ _ _ _ (pv 0)) (@ao _ _ (9) _ (bj).nd rfl (Or.inl rfl) (.inl rfl)) (@ag _ _ _ _ _ (@aX _ _ _ _ (@mr _ _ _ _ _ _ _ _ _ _ _ _ aa2 abc abd du (pv 3) (@aa _ _ _ _ _ (@aY _ _ _ _ _ (@aa _ _ _ _ _ (pv 5) (@aa _ _ _ _ _ (pv 9) (@aa _ _ _ _ _ (pv 6) (@aa _ _ _ _ _ (pv 4) (@aa _ _ _ _ _ (pv 8) ac (by rfl)) (by rfl)) (by rfl)) (by rfl)) (by rfl))) ac (by rfl)) (by rfl) (by rfl) (by rfl) (by rfl) (by rfl)) (by rfl)) (@ak _ _ _ (@nG _ _ (4) _ _ _ _ _ _ (bj).nd rfl (Or.inl rfl) (@aC _ _ _ _ _ _ _ _ iF (pv 7) (pv 8)) qM (by first|exact .inl rfl|exact .inr rfl|assumption)))) (by intro _;rfl))))) (by intro _;rfl)) (@ak _ _ _ (@au _ _ _ _ (pv 3)))))),?_⟩;refine ⟨(by show 0≤sizeLine;decide),fun pj nj=>?_⟩;have sj:=Same.new nj (.lst []);have ej:upd H pj (.lst []) pj=some (.lst []):=af;generalize upd H pj (.lst [])=H0 at sj ej ⊢;refine ⟨_,rfl,p,v,rfl,PairIn.mono (Tups.of sj) hp,p0,p1,by lia,fun pl ul H1 s1 npl epl hul=>?_⟩;have lul:=hul.length;have lc:(aQ p).length=(p.2 - p.1).toNat:=by simp [aQ]
  have S1:=sj.trans s1;refine ⟨pl,rfl,⟨_,SqL.of epl⟩,kU (xs:=ul) (fun i σ H'=>∃ (us:List V) (c5 c6 c7 c8 c9:Option V),σ=[some (.str (aD gs)),some (.ref pc),some v,some (.ref pj),some (.int (jst gs p ((aQ p).take i))),c5,c6,c7,c8,c9]∧Same H H'∧H' pj=some (.lst us)∧H' pl=some (.lst ul)∧Paired (CutIn H' p) (aQ p) ul∧Paired (JtIn H' p) (dJ gs p ((aQ p).take i) 0) us) ⟨[],_,_,_,_,_,rfl,S1,s1 _ _ ej,epl,hul,.nil⟩ ?_ ?_ ?_⟩
  · rintro i σ H' _ ⟨_,_,_,_,_,_,rfl,_,_,e,_⟩;exact SqL.of e
  · rintro i x σ H2 hx ⟨us,c5,c6,c7,c8,c9,rfl,S2,ej2,el2,hc2,hj2⟩;obtain ⟨c,hci,t,xb,yb,rfl,et,hxb0,hyb0⟩:=Paired.at hc2 hx;have hxb:=hxb0;have hyb:=hyb0;obtain ⟨bx,rfl,ebx⟩:=hxb0;obtain ⟨byy,rfl,eby⟩:=hyb0;have hc1:p.1≤c∧c < p.2:=by
      have:=aax hci;unfold aQ at this;obtain ⟨k,hk,rfl⟩:=aaC.mp this;have:=aaB.mp hk;lia
    have ec2:=S2 _ _ ec;refine ⟨t,_,rfl,SqT.of et,rfl,_,_,rfl,_,_,rfl,rfl,?_⟩;have eL:atI ((cl gs.length M).map V.int) (c - p.1+1)=some (.int (Lw gs.length p c)):=by
      have:=jG (s:=gs.length) (k:=M) (n:=(c - p.1+1).toNat) hM (by lia);rw [show (((c - p.1+1).toNat:Nat):Int)=c - p.1+1 by lia] at this;exact this
    have eR:atI ((cl gs.length M).map V.int) (p.2 - (c+1)+1)=some (.int (Rw gs.length p c)):=by
      have:=jG (s:=gs.length) (k:=M) (n:=(p.2 - c).toNat) hM (by lia);rw [show (((p.2 - c).toNat:Nat):Int)=p.2 - (c+1)+1 by lia] at this;exact this
    refine ⟨_,rfl,_,rfl,bx,_,_,_,rfl,rfl,SqT.of ebx,rfl,_,rfl,bx,_,_,_,rfl,rfl,SqT.of ebx,rfl,_,_,rfl,rfl,_,_,rfl,rfl,pc,_,_,_,rfl,rfl,SqL.of ec2,eL,?_⟩;refine ⟨_,rfl,_,rfl,byy,_,_,_,rfl,rfl,SqT.of eby,rfl,_,rfl,byy,_,_,_,rfl,rfl,SqT.of eby,rfl,_,_,rfl,rfl,_,_,rfl,rfl,pc,_,_,_,rfl,rfl,SqL.of ec2,eR,?_⟩;have bL:=gX gs.length g3 (c - p.1+1).toNat (by lia);have bR:=gX gs.length g3 (p.2 - c).toNat (by lia);have b9:(1000000000:Nat) < 2 ^ 4000:=by decide +kernel
    have nL:(Lw gs.length p c).natAbs < 2 ^ 4000:=ab8 (by unfold Lw;lia) b9;have nR:(Rw gs.length p c).natAbs < 2 ^ 4000:=ab8 (by unfold Rw;lia) b9;have et1:(aQ p).take (i+1)=(aQ p).take i++[c]:=by rw [aaP,hci];rfl
    have hi:i < (aQ p).length:=(aak.mp hci).1;refine ⟨_,rfl,_,rfl,qj gs,wd (fun a σ H'=>∃ (us:List V) (c9:Option V),σ=[some (.str (aD gs)),some (.ref pc),some v,some (.ref pj),some (.int (jst gs p ((aQ p).take i)+(a:Int) * (Lw gs.length p c * Rw gs.length p c))),some (.ref bx),some (.ref byy),some (.int (Lw gs.length p c)),some (.int (Rw gs.length p c)),c9]∧Same H H'∧H' pj=some (.lst us)∧H' pl=some (.lst ul)∧Paired (CutIn H' p) (aQ p) ul∧PairIn H' (p.1,c) (.ref bx)∧PairIn H' (c+1,p.2) (.ref byy)∧Paired (JtIn H' p) (dJ gs p ((aQ p).take i) 0++dH c (Lw gs.length p c) (Rw gs.length p c) (gs.take a) (jst gs p ((aQ p).take i))) us) ⟨us,c9,by simp,S2,ej2,el2,hc2,hxb,hyb,by simpa [dH] using hj2⟩ ?_ ?_⟩
    · rintro a ch σ H3 hch ⟨us3,c9',rfl,S3,ej3,el3,hc3,hx3,hy3,hj3⟩;obtain ⟨g,hg,rfl⟩:=ye hch;have ha:a < gs.length:=(aak.mp hg).1;refine ⟨_,rfl,.inl ⟨rfl,_,SqL.of ej3⟩,?_⟩;refine ⟨_,rfl,_,rfl,_,rfl,_,rfl,_,rfl,(by show 5≤sizeLine;decide),fun t5 n5=>?_⟩;have s5:=Same.new n5 (.tup [.ref bx,.str ⟨#[g.code]⟩,.ref byy,.int (jst gs p ((aQ p).take i)+(a:Int) * (Lw gs.length p c * Rw gs.length p c)),.int (Rw gs.length p c)]);have len3:=hj3.length;rw [aap,kQ,kP,aas,aas] at len3;have lm:min i (aQ p).length * gs.length≤8 * 3:=abn (by lia) g3;refine ⟨pj,_,_,rfl,rfl,s5 _ _ ej3,aJ (by lia),?_⟩;have ej5:=s5 _ _ ej3;have T5:Tups (upd H3 t5 (.tup [.ref bx,.str ⟨#[g.code]⟩,.ref byy,.int (jst gs p ((aQ p).take i)+(a:Int) * (Lw gs.length p c * Rw gs.length p c)),.int (Rw gs.length p c)])) (upd (upd H3 t5 (.tup [.ref bx,.str ⟨#[g.code]⟩,.ref byy,.int (jst gs p ((aQ p).take i)+(a:Int) * (Lw gs.length p c * Rw gs.length p c)),.int (Rw gs.length p c)])) pj (.lst (us3++[.ref t5]))):=fun d xs hd=>by rw [aq (fun e=>by rw [e,ej5] at hd;cases hd)];exact hd
      have T35:=(Tups.of s5).trans T5;have npl2:pl≠pj:=fun e=>by rw [e] at npl;rw [ej] at npl;cases npl
      refine ⟨_,rfl,_,rfl,_,rfl,_,_,rfl,rfl,⟨nL,nR⟩,_,_,rfl,rfl,?_⟩;refine ⟨us3++[.ref t5],some (.str ⟨#[g.code]⟩),?_,(S3.trans s5).upd nj,af,?_,Paired.mapP hc3 fun _ _ h=>CutIn.mono T35 h,PairIn.mono T35 hx3,PairIn.mono T35 hy3,?_⟩
      · have : jst gs p ((aQ p).take i)+(a:Int) * (Lw gs.length p c * Rw gs.length p c)+Lw gs.length p c * Rw gs.length p c=jst gs p ((aQ p).take i)+((a+1:Nat):Int) * (Lw gs.length p c * Rw gs.length p c):=by
          rw [acd,abk];simp only [Int.natCast_one,abl];lia
        rw [← this];rfl
      · rw [aq npl2];exact s5 _ _ el3
      · have eg:gs.take (a+1)=gs.take a++[g]:=by rw [aaP,hg];rfl
        rw [eg,mG,← abC];refine Paired.snoc (Paired.mapP hj3 fun _ _ h=>JtIn.mono T35 h) ⟨t5,.ref bx,.ref byy,rfl,T5 _ _ ?_,PairIn.mono T35 hx3,PairIn.mono T35 hy3⟩;rw [af,fS,aas,Nat.min_eq_left (by lia)]
    · rintro σ H3 ⟨us3,c9',rfl,S3,ej3,el3,hc3,hx3,hy3,hj3⟩;rw [dL] at *;rw [aaQ] at hj3;refine ⟨us3,some (.ref bx),some (.ref byy),some (.int (Lw gs.length p c)),some (.int (Rw gs.length p c)),c9',?_,S3,ej3,el3,hc3,?_⟩
      · rw [et1];have : jst gs p ((aQ p).take i++[c])=jst gs p ((aQ p).take i)+(gs.length:Int) * (Lw gs.length p c * Rw gs.length p c):=by
          unfold jst;rw [aaJ,List.sum_append];simp
        rw [this]
      · rw [et1,jr];simpa using hj3
  · rintro σ H2 ⟨us,c5,c6,c7,c8,c9,rfl,S2,ej2,el2,hc2,hj2⟩;rw [← lul,aaQ] at hj2;exact ⟨_,rfl,q pj us H2 S2 nj ej2 hj2⟩
end
open PySem L2
def PkAt (H:Hp) (kvs:List (List Key × V)) (q:Int × Int) (ls:List (Int × Int)):Prop:=∃ t xs,cE kvs (ky q)=some (.ref t)∧H t=some (.tup xs)∧PairsIn H ls xs
theorem PkAt.mono {H H':Hp} {kvs:List (List Key × V)} {q:Int × Int} {ls:List (Int × Int)} (t:Tups H H') (h:PkAt H kvs q ls):PkAt H' kvs q ls:=by
  obtain ⟨a,xs,e,h1,h2⟩:=h;exact ⟨a,xs,e,t _ _ h1,PairsIn.mono t h2⟩
def jp1 (j:Jt) (a:Int × Int) (bs:List (Int × Int)):List (Int × Int):=bs.map fun b=>(j.2.1.op a.1 b.1,j.2.2.1+a.2 * j.2.2.2+b.2)
def jp2 (L:Int × Int→List (Int × Int)) (p:Int × Int) (j:Jt):List (Int × Int):=(L (p.1,j.1)).flatMap fun a=>jp1 j a (L (j.1+1,p.2))
def fO (L:Int × Int→List (Int × Int)) (p:Int × Int) (js:List Jt):List (Int × Int):=js.flatMap fun j=>jp2 L p j
theorem mL {α β:Type} {l:List α} {f:α→List β} {i:Nat} {x:α} (h:l[i]?=some x):(l.take (i+1)).flatMap f=(l.take i).flatMap f++f x:=by
  rw [aaP,h,List.flatMap_append];simp
theorem oe {α β:Type} {l:List α} {f:α→List β} {c:Nat} (h:∀ x∈l,(f x).length≤c):(l.flatMap f).length≤l.length * c:=by
  induction l with
  | nil=>simp
  | cons a r ih =>
    rw [abS,aap,aaS,act];have:=h a aai;have:=ih fun x hx=>h x (aae _ hx);lia
def Bg (i:Int):Prop:=i.natAbs < 2 ^ 4000
section
variable {P:Program} {w:World} {K:aaa} {mg:Str→Option Value} {base:Heap} {f:Addr} {fd:FuncData}
def xc:Sp:=fun vs H Q _=>∃ (pk jl:Addr) (kvs:List (List Key × V)) (us:List V) (p:Int × Int) (js:List Jt) (L:Int × Int→List (Int × Int)),vs=[.ref pk,.ref jl]∧H pk=some (.dT kvs)∧H jl=some (.lst us)∧Paired (JtIn H p) js us∧js.length≤24 ∧
  (∀ j∈js,PkAt H kvs (p.1,j.1) (L (p.1,j.1))∧PkAt H kvs (j.1+1,p.2) (L (j.1+1,p.2))∧Bg j.2.2.2)∧(∀ q,(L q).length≤3∧∀ x∈L q,Bg x.1∧Bg x.2) ∧
  ∀ a vs H',Same H H'→H a=none→H' a=some (.lst vs)→PairsIn H' (fO L p js) vs→Q (.ref a) H'
abbrev fk:Stmt:=top 45
theorem lJ:FnScope ["picks","joints"] ["picks","joints"] (am fk):=⟨rfl,rfl,rfl,by decide +kernel,rfl,by decide +kernel,by decide +kernel⟩
theorem lV (F:Fun K "join_picks" "join_picks" fk f fd) (C_put_sign:Cal P w K mg base "put_sign" 1 ["left","sign","right"] gw):FnOk P w K mg base CX0 2 f fd ["picks","joints"] xc:=by
  refine F.ok lJ (fun vs H Q E h=>?_) (fun cdv A outer s H vs Q E hr h=>?_)
  · obtain ⟨pk,jl,kvs,us,p,js,L,rfl,_⟩:=h;rfl
  obtain ⟨pk,jl,kvs,us,p,js,L,rfl,ek,ej,hj,l24,hpk,hL,q⟩:=h;refine ⟨_,(@ak _ _ _ (@au _ _ _ _ (@xn _ _ _ _ _ _ _ _ _ _ _ _ _ _ (["before","sign","behind","start","step","left_worth","left_number","right_worth","right_number","picks"]) ([none,none,none,none,none,none,none,none,none,some 0]) _ _ _ _ _ _ _ _ _ _ rfl (@bO _ _ _ _ (pv 1)) rfl ⟨rfl,trivial⟩ ⟨⟨rfl,Or.inl rfl,Or.inl rfl⟩,trivial⟩ (fun _ _ _ _=>⟨(@fB _ _ _ _ _ _ (5) rfl rfl (@az _ _ _ _ _ (@ao _ _ (0) _ (show aaM (["before","sign","behind","start","step","left_worth","left_number","right_worth","right_number","picks"]:List Str) by decide +kernel) rfl (Or.inl rfl) (.inr rfl)) (@az _ _ _ _ _ (@ao _ _ (1) _ (show aaM (["before","sign","behind","start","step","left_worth","left_number","right_worth","right_number","picks"]:List Str) by decide +kernel) rfl (Or.inl rfl) (.inr rfl)) (@az _ _ _ _ _ (@ao _ _ (2) _ (show aaM (["before","sign","behind","start","step","left_worth","left_number","right_worth","right_number","picks"]:List Str) by decide +kernel) rfl (Or.inl rfl) (.inr rfl)) (@az _ _ _ _ _ (@ao _ _ (3) _ (show aaM (["before","sign","behind","start","step","left_worth","left_number","right_worth","right_number","picks"]:List Str) by decide +kernel) rfl (Or.inl rfl) (.inr rfl)) (@az _ _ _ _ _ (@ao _ _ (4) _ (show aaM (["before","sign","behind","start","step","left_worth","left_number","right_worth","right_number","picks"]:List Str) by decide +kernel) rfl (Or.inl rfl) (.inr rfl)) a8 (by rfl)) (by rfl)) (by rfl)) (by rfl)) (by rfl)) (by rfl) (by rfl)),bt,(@rp _ _ _ _ _ rfl (@dN _ _ _ _ _ _ (u1 hr.units) (pv 9) (pv 0) (fun _ _=>rfl))),(@fB _ _ _ _ _ _ (2) rfl rfl (@az _ _ _ _ _ (@ao _ _ (5) _ (show aaM (["before","sign","behind","start","step","left_worth","left_number","right_worth","right_number","picks"]:List Str) by decide +kernel) rfl (Or.inl rfl) (.inr rfl)) (@az _ _ _ _ _ (@ao _ _ (6) _ (show aaM (["before","sign","behind","start","step","left_worth","left_number","right_worth","right_number","picks"]:List Str) by decide +kernel) rfl (Or.inl rfl) (.inr rfl)) a8 (by rfl)) (by rfl)) (by rfl) (by rfl)),bt,(@rp _ _ _ _ _ rfl (@dN _ _ _ _ _ _ (u1 hr.units) (pv 9) (pv 2) (fun _ _=>rfl))),(@fB _ _ _ _ _ _ (2) rfl rfl (@az _ _ _ _ _ (@ao _ _ (7) _ (show aaM (["before","sign","behind","start","step","left_worth","left_number","right_worth","right_number","picks"]:List Str) by decide +kernel) rfl (Or.inl rfl) (.inr rfl)) (@az _ _ _ _ _ (@ao _ _ (8) _ (show aaM (["before","sign","behind","start","step","left_worth","left_number","right_worth","right_number","picks"]:List Str) by decide +kernel) rfl (Or.inl rfl) (.inr rfl)) a8 (by rfl)) (by rfl)) (by rfl) (by rfl)),bt,(@aY _ _ _ _ _ (@aa _ _ _ _ _ (@aj _ _ _ _ _ _ _ _ _ _ _ C_put_sign hr (by lia) rfl (@aa _ _ _ _ _ (pv 5) (@aa _ _ _ _ _ (pv 1) (@aa _ _ _ _ _ (pv 7) ac (by rfl)) (by rfl)) (by rfl)) (by decide) (by rfl) (by rfl)) (@aa _ _ _ _ _ (@aC _ _ _ _ _ _ _ _ bU (@aC _ _ _ _ _ _ _ _ bU (pv 3) (@aC _ _ _ _ _ _ _ _ iF (pv 6) (pv 4))) (pv 8)) ac (by rfl)) (by rfl)))⟩) (by rfl) (by rfl) (by rfl) (by rfl) (by intro _;rfl) (by intro _ _;rfl) (by intro _ _;rfl)))),?_⟩;have lj:=hj.length;have b2:∀ j,(jp2 L p j).length≤9:=fun j=>by
    unfold jp2;have h1:=oe (l:=L (p.1,j.1)) (f:=fun a=>jp1 j a (L (j.1+1,p.2))) (c:=3) (fun x _=>by unfold jp1;rw [aaf];exact (hL _).1);have:=(hL (p.1,j.1)).1;lia
  refine ⟨_,rfl,jl,rfl,⟨_,SqL.of ej⟩,?_⟩;refine xy (Trn.list (xs:=us)) (fun i ys H'=>Same H H'∧PairsIn H' (fO L p (js.take i)) ys) ⟨Same.refl _,.nil⟩ (fun i ys H' hi z=>SqL.of (z.1 _ _ ej)) (fun i x ys H0 H1 hi hx z Nx nx=>?_) (fun ys H' z p5 n5=>?_)
  · obtain ⟨rfl,hx⟩:=hx;obtain ⟨S,hp⟩:=z;obtain ⟨j,hji,t,xb,yb,rfl,et,hxb0,hyb0⟩:=Paired.at hj hx;have et:=S _ _ et;have hxb:=PairIn.mono (Tups.of S) hxb0;have hyb:=PairIn.mono (Tups.of S) hyb0;obtain ⟨bx,rfl,ebx⟩:=PairIn.key hxb;obtain ⟨byy,rfl,eby⟩:=PairIn.key hyb;obtain ⟨k1,k2,k3⟩:=hpk j (aax hji);obtain ⟨t1,xs1,v1,e1,h1⟩:=PkAt.mono (Tups.of S) k1;obtain ⟨t2,xs2,v2,e2,h2⟩:=PkAt.mono (Tups.of S) k2;have ek1:=S _ _ ek;have l1:=h1.length;have l2:=h2.length;have c1:=(hL (p.1,j.1)).1;have c2:=(hL (j.1+1,p.2)).1;have lys:=hp.length;have lb:(fO L p (js.take i)).length≤24 * 9:=by
      have:=oe (l:=js.take i) (f:=fun j=>jp2 L p j) (c:=9) (fun j _=>b2 j);have h3:(js.take i).length≤24:=by rw [aas];lia
      exact aaV this (abU _ h3)
    refine ⟨t,_,rfl,SqT.of et,rfl,_,_,rfl,_,_,rfl,_,_,rfl,_,_,rfl,_,_,rfl,rfl,?_⟩;refine ⟨_,rfl,_,rfl,pk,.ref t1,rfl,by rw [← v1];exact DGet.t (k:=ky (p.1,j.1)) ek1 ebx,t1,rfl,⟨_,SqT.of e1⟩,?_⟩;refine vZ (Trn.tup (xs:=xs1)) (fun a ys' σ' H'=>∃ c5 c6 c7 c8,σ'=[some (.ref bx),some (.str j.2.1.str),some (.ref byy),some (.int j.2.2.1),some (.int j.2.2.2),c5,c6,c7,c8,some (.ref pk)]∧Same H1 H'∧PairsIn H' (fO L p (js.take i)++((L (p.1,j.1)).take a).flatMap fun x=>jp1 j x (L (j.1+1,p.2))) ys') ⟨_,_,_,_,rfl,Same.refl _,by simpa using hp⟩ (fun a ys' σ' H' ha z=>by obtain ⟨_,_,_,_,_,S1,_⟩:=z;exact SqT.of (S1 _ _ e1)) (fun a x ys1 σ1 H2 H2' ha hx1 z Nx1 nx1=>?_) (fun ys1 σ1 H2 z=>?_)
    · obtain ⟨rfl,hx1⟩:=hx1;obtain ⟨c5,c6,c7,c8,rfl,S1,hp1⟩:=z;obtain ⟨pa,hpa,ba,rfl,eba⟩:=bu (PairsIn.mono (Tups.of S1) h1) hx1;have gpa:=(hL (p.1,j.1)).2 pa (aax hpa);refine ⟨ba,_,rfl,SqT.of eba,rfl,_,_,rfl,_,_,rfl,rfl,?_⟩;refine ⟨_,rfl,_,rfl,pk,.ref t2,rfl,by rw [← v2];exact DGet.t (k:=ky (j.1+1,p.2)) (S1 _ _ ek1) (S1 _ _ eby),t2,rfl,⟨_,SqT.of (S1 _ _ e2)⟩,?_⟩;have lys1:=hp1.length;have lt1:(((L (p.1,j.1)).take a).flatMap fun x=>jp1 j x (L (j.1+1,p.2))).length≤3 * 3:=by
        have:=oe (l:=(L (p.1,j.1)).take a) (f:=fun x=>jp1 j x (L (j.1+1,p.2))) (c:=3) (fun x _=>by unfold jp1;rw [aaf];exact c2);have h3:((L (p.1,j.1)).take a).length≤3:=by rw [aas];lia
        exact aaV this (abU _ h3)
      rw [aap] at lys1;refine vY (Trn.tup (xs:=xs2)) (fun b ys' σ' H'=>∃ c7 c8,σ'=[some (.ref bx),some (.str j.2.1.str),some (.ref byy),some (.int j.2.2.1),some (.int j.2.2.2),some (.int pa.1),some (.int pa.2),c7,c8,some (.ref pk)]∧Same H1 H'∧PairsIn H' (fO L p (js.take i)++((L (p.1,j.1)).take a).flatMap (fun x=>jp1 j x (L (j.1+1,p.2)))++jp1 j pa ((L (j.1+1,p.2)).take b)) ys') ⟨_,_,rfl,S1,by simpa [jp1] using hp1⟩ (fun b ys' σ' H' hb z=>?_) (fun b x ys2 σ2 H3 H3' hb hx2 z Nx2 nx2=>?_) (fun ys2 σ2 H3 z=>?_)
      · obtain ⟨_,_,_,S2,hp2⟩:=z;have:=hp2.length;rw [aap,aap] at this;have h3:(jp1 j pa ((L (j.1+1,p.2)).take b)).length≤3:=by unfold jp1;rw [aaf,aas];lia
        exact ⟨SqT.of (S2 _ _ e2),aJ (by lia)⟩
      · obtain ⟨rfl,hx2⟩:=hx2;obtain ⟨c7,c8,rfl,S2,hp2⟩:=z;obtain ⟨pb,hpb,bb,rfl,ebb⟩:=bu (PairsIn.mono (Tups.of S2) h2) hx2;have gpb:=(hL (j.1+1,p.2)).2 pb (aax hpb);refine ⟨bb,_,rfl,SqT.of ebb,rfl,_,_,rfl,_,_,rfl,rfl,?_⟩;refine ⟨_,rfl,_,rfl,_,rfl,pa.1,j.2.1,pb.1,rfl,gpa.1,gpb.1,?_⟩;refine ⟨_,rfl,_,rfl,_,rfl,_,_,rfl,rfl,⟨gpa.2,k3⟩,_,_,rfl,rfl,_,rfl,_,_,rfl,rfl,(by show 2≤sizeLine;decide),fun o ho=>nx2 _ _ _ ⟨_,_,rfl,S2.trans (Same.new ho _),?_⟩⟩;have etb:(L (j.1+1,p.2)).take (b+1)=(L (j.1+1,p.2)).take b++[pb]:=by rw [aaP,hpb];rfl
        rw [etb];unfold jp1;rw [aaJ,← abC];exact PairsIn.snoc (PairsIn.mono (Tups.of (Same.new ho _)) hp2) ⟨o,rfl,af⟩
      · obtain ⟨c7,c8,rfl,S2,hp2⟩:=z;refine nx1 _ _ _ ⟨_,_,_,_,rfl,S2,?_⟩;rw [← l2,aaQ] at hp2;rw [mL (f:=fun x=>jp1 j x (L (j.1+1,p.2))) hpa,← abC];exact hp2
    · obtain ⟨c5,c6,c7,c8,rfl,S1,hp1⟩:=z;refine nx _ _ ⟨S.trans S1,?_⟩;rw [← l1,aaQ] at hp1;unfold fO at hp1 ⊢;rw [mL (f:=fun j=>jp2 L p j) hji];exact hp1
  · obtain ⟨S,hp⟩:=z;rw [← lj,aaQ] at hp;have s5:=Same.new n5 (.lst ys);exact q p5 ys _ (S.trans s5) (S.free n5) af (PairsIn.mono (Tups.of s5) hp)
open PySem L2
def yr:Str:=("pick_three":Str) ++ ".<locals>." ++ "<lambda>"
def pE (p:Int × Int):List Int:=[p.2]
def qJ (p:Int × Int):List Int:=[-p.1,p.2]
def LT (T:Addr) (H:Hp):Prop:=∃ tp,LTab T yr H tp
def qc (T:Addr):Sp:=fun vs H Q _=>∃ (l:Addr) (us:List V) (ps:List (Int × Int)),vs=[.ref l]∧H l=some (.lst us)∧PairsIn H ps us∧0 < us.length∧LT T H ∧
  ∀ t x y z H',But T H H'→H t=none→LT T H'→H' t=some (.tup [x,y,z])→us[aG (bS pE ps) (us.length - 1)]?=some x→us[aG (bS gR ps) (us.length - 1)]?=some y→us[aG (bS qJ ps) (us.length - 1)]?=some z→Q (.ref t) H'
abbrev bo:Stmt:=top 46
theorem sc_pick_three:FnScope ["found","first","greatest"] ["found"] (am bo):=⟨rfl,rfl,rfl,by decide +kernel,rfl,by decide +kernel,by decide +kernel⟩
theorem lO {c T:Addr} (F:FunC K "pick_three" "pick_three" bo f fd c) (C:PySem.W.CodeHd base c T) (hB:base.BuiltinsAt mg T) (hmin:mg "min" = none):FnOk P w K mg base CX0 4 f fd ["found"] (qc T):=by
  refine F.ok sc_pick_three (fun vs H Q E h=>?_) (fun A outer s H vs Q E hr h=>?_)
  · obtain ⟨l,us,ps,rfl,_⟩:=h;rfl
  obtain ⟨l,us,ps,rfl,el,hps,hne,hT,q⟩:=h;have nd:=sc_pick_three.nd;have S1:FnScope ["way"] ["way"] { kind:=.function,names:=[("way",.local)],isGenerator:=false,isCoroutine:=false }:=⟨rfl,rfl,rfl,by decide,rfl,by decide,by decide⟩
  have k1:∀ p x H (Q:VK),PairIn H p x→(∀ k H',KeyIn false (pE p) k H'→Same H H'→Q k H')→tOp (xi K) (wW 0) (tC (V.int 1)) [some x] H Q:=fun p x H Q ⟨a,e,ha⟩ q=>by
    subst e;exact ⟨_,rfl,a,_,_,_,rfl,rfl,SqT.of ha,rfl,q _ H ⟨p.2,rfl,rfl⟩ (Same.refl _)⟩
  refine ⟨_,ag (aH (i:=1) nd rfl (Or.inl rfl) (mk (key:=pE) (kd:=false) (y:="way") (c:=c) (P:=T) (hr.mono (by decide)) (by rfl) hmin acw (aa (pv 0) ac) (by rfl) (by rfl) rfl C hB S1 (fun _ _ _ _=>rfl) (fun _ _ _ _ _=>(aI (fI (K:=K) rfl) (pv 0) ai (fun _ _=>rfl))) k1))
    (ag (aH (i:=2) nd rfl (Or.inl rfl) (mk (key:=qJ) (kd:=true) (y:="way") (c:=c) (P:=T) (hr.mono (by decide)) (by rfl) hmin acw (aa (pv 0) ac) (by rfl) (by rfl) rfl C hB S1 (fun _ _ _ _=>rfl) (fun _ _ _ _ _=>aY (aa (oS j8 (aI (fI (K:=K) rfl) (pv 0) ai (fun _ _=>rfl))) (aa (aI (fI (K:=K) rfl) (pv 0) ai (fun _ _=>rfl)) ac))) ?_))
    (ak (au (aY (aa (pv 1) (aa (aA (tJ (hr.mono (by decide))) (by rfl) hmin acw (aa (pv 0) ac)) (aa (pv 2) ac))))))),?_⟩
  · intro p x H Q ⟨a,e,ha⟩ q;subst e;exact ⟨_,rfl,a,_,_,_,rfl,rfl,SqT.of ha,rfl,_,rfl,_,rfl,a,_,_,_,rfl,rfl,SqT.of ha,rfl,(by show 2≤sizeLine;decide),fun t ht=>q (.ref t) _ ⟨t,rfl,af⟩ (Same.new ht _)⟩
  · have nl:l≠T:=fun z=>by obtain ⟨tp,h⟩:=hT;rw [z,h.tab] at el;cases el
    have tT:∀ {H H':Hp},But T H H'→LT T H→∀ b xs,H b=some (.tup xs)→H' b=some (.tup xs):=fun b h c xs e=>b c _ (fun z=>by obtain ⟨tp,h⟩:=h;rw [z,h.tab] at e;cases e) e;refine ⟨_,rfl,l,us,ps,rfl,el,hps,hne,hT,fun x1 H1 hx1 B1 T1=>?_⟩;have el1:=B1 _ _ nl el;have hps1:=PairsIn.tups (tT B1 hT) hps;refine ⟨_,rfl,l,us,ps,rfl,el1,hps1,hne,T1,fun x2 H2 hx2 B2 T2=>?_⟩;have el2:=B2 _ _ nl el1;have hps2:=PairsIn.tups (tT B2 T1) hps1;refine ⟨_,rfl,_,rfl,l,us,ps,rfl,el2,hps2,hne,fun x3 hx3=>⟨_,rfl,(by show 3≤sizeLine;decide),fun t ht=>?_⟩⟩;have st:=Same.new ht (.tup [x1,x3,x2]);have nT:t≠T:=fun z=>by obtain ⟨tp,h⟩:=T2;rw [z,h.tab] at ht;cases ht
    refine q t x1 x3 x2 _ (fun b o hb e=>st _ _ (B2 _ _ hb (B1 _ _ hb e))) ?_ ?_ af hx1 hx3 hx2
    · cases e:H t with
      | none=>rfl
      | some o=>have:=B2 _ _ nT (B1 _ _ nT e);rw [ht] at this;cases this
    · obtain ⟨tp,h⟩:=T2;refine ⟨tp,st _ _ h.tab,h.tri,fun pos' cv hc=>?_⟩;obtain ⟨d,e1,e2⟩:=h.cds pos' cv hc;exact ⟨d,e1,st _ _ e2⟩
end
open PySem L2
def fN (ps:List (Int × Int)):List (Int × Int):=[ps.getD (aG (bS pE ps) (ps.length - 1)) (0,0),ps.getD (aG (bS gR ps) (ps.length - 1)) (0,0),ps.getD (aG (bS qJ ps) (ps.length - 1)) (0,0)]
def fnd (ns:List Int) (gs:List Sg) (L:Int × Int→List (Int × Int)) (q:Int × Int):List (Int × Int):=if q.1=q.2 then [(ns.getD q.1.toNat 0,0)] else fO L q (dJ gs q (aQ q) 0)
def fL (ns:List Int) (gs:List Sg) (lo:List (Int × Int)) (L:Int × Int→List (Int × Int)) (q:Int × Int):Prop:=L q=if fnd ns gs L q≠[]∧q∉lo then fN (fnd ns gs L q) else []
theorem oN {kvs:List (List Key × V)} {k:List Key} {v:V} (h:k∉kvs.map (·.1)):eE kvs k v=kvs++[(k,v)]:=by
  unfold eE;rw [if_neg];intro q;obtain ⟨p,hp,e⟩:=List.any_eq_true.mp q;exact h (aaC.mpr ⟨p,hp,of_decide_eq_true e⟩)
theorem cD {ps:List (Int × Int)} (h:ps≠[]):∀ x∈fN ps,x∈ps:=fun x hx=>by
  have l:0 < ps.length:=ab0.mpr h;have key:∀ kf:Nat→List Int,ps.getD (aG kf (ps.length - 1)) (0,0)∈ps:=fun kf=>by
    have:=ld kf (ps.length - 1);have hb:aG kf (ps.length - 1) < ps.length:=by lia
    rw [aau,aac hb];exact aa8 hb
  simp only [fN,aam,abw,or_false] at hx;rcases hx with rfl|rfl|rfl
  · exact key _
  · exact key _
  · exact key _
theorem ox:∀ n,n≤9→(sfl n n).Pairwise (fun p q=>p.2 - p.1≤q.2 - q.1):=by decide +kernel
theorem eY {n i:Nat} (hn:n≤9) {p q:Int × Int} (hi:(sfl n n)[i]?=some p) (hq:0≤q.1∧q.1≤q.2∧q.2 < n) (hl:q.2 - q.1 < p.2 - p.1):q∈(sfl n n).take i:=by
  have hm:q∈sfl n n:=by
    have z:=dM n q.1.toNat q.2.toNat (by lia) (by lia);have e:((q.1.toNat:Int),(q.2.toNat:Int))=q:=by
      obtain ⟨a,b⟩:=q;simp only at *;rw [show (a.toNat:Int)=a by lia,show (b.toNat:Int)=b by lia]
    rw [e] at z;exact z
  obtain ⟨j,hj,e⟩:=aa0 hm;obtain ⟨hi1,hi2⟩:=aak.mp hi;by_cases c:j < i
  · rw [List.mem_iff_getElem?];exact ⟨j,by rw [List.getElem?_take];rw [if_pos c,aac hj,e]⟩
  · have hr:=aaX.mp (ox n hn);by_cases c2:i=j
    · subst c2;rw [hi2] at e;rw [e] at hl;lia
    · have:=hr i j hi1 hj (by lia);rw [hi2,e] at this;lia
theorem iA (n:Nat):∀ p∈sfl n n,0≤p.1∧p.1≤p.2∧p.2 < n:=fun p hp=>by
  unfold sfl sfR at hp;rw [aaG] at hp;obtain ⟨m,hm,hp⟩:=hp;rw [aaC] at hp;obtain ⟨f,hf,rfl⟩:=hp;rw [List.mem_range] at hf;simp only;lia
theorem gz:∀ n,n≤9→(sfl n n).Nodup:=by decide +kernel
theorem pF {c L R:Int} {j:Jt}:∀ {xs:List Sg} {st:Int},j∈dH c L R xs st→j.1=c∧j.2.2.2=R∧∃ k:Nat,k < xs.length∧j.2.2.1=st+(k:Int) * (L * R)
  | [],st,h=>by simp [dH] at h
  | g :: r,st,h=>by
    rcases aam.mp h with rfl|h
    · exact ⟨rfl,rfl,0,by simp,by simp⟩
    · obtain ⟨a,b,k,hk,e⟩:=pF h;refine ⟨a,b,k+1,by simp;lia,?_⟩;rw [e,acd,abk];simp only [Int.natCast_one,abl];lia
theorem iK {gs:List Sg} {p:Int × Int} {j:Jt} (g3:gs.length≤3) (hp:0≤p.1) (hp2:p.2≤8):∀ {cs:List Int} {st:Int},(∀ c∈cs,p.1≤c∧c < p.2)→0≤st→j∈dJ gs p cs st→(p.1≤j.1∧j.1 < p.2)∧(0≤j.2.2.2∧j.2.2.2 < 1000000000)∧0≤j.2.2.1∧j.2.2.1≤st+(cs.length:Int) * (3 * (1000000000 * 1000000000))
  | [],st,_,_,h=>by simp [dJ] at h
  | c :: cs,st,hc,h0,h=>by
    have c1:=hc c aai;have bL:=gX gs.length g3 (c - p.1+1).toNat (by lia);have bR:=gX gs.length g3 (p.2 - c).toNat (by lia);have m0:0≤Lw gs.length p c * Rw gs.length p c:=abe bL.1 bR.1;have m1:Lw gs.length p c * Rw gs.length p c≤1000000000 * 1000000000:=Int.mul_le_mul (by unfold Lw;lia) (by unfold Rw;lia) bR.1 (by decide);have g3':(gs.length:Int)≤3:=by lia
    have lc:((c :: cs).length:Int)=(cs.length:Int)+1:=by simp
    rcases aan.mp h with h|h
    · obtain ⟨a,b,k,hk,e⟩:=pF h;rw [a,b];have k1:(k:Int) * (Lw gs.length p c * Rw gs.length p c)≤3 * (1000000000 * 1000000000):=Int.mul_le_mul (by lia) m1 m0 (by decide);have k0:0≤(k:Int) * (Lw gs.length p c * Rw gs.length p c):=abe (by lia) m0;refine ⟨c1,⟨bR.1,bR.2⟩,?_,?_⟩
      · rw [e];lia
      · rw [e,lc];have : (0:Int)≤(cs.length:Int):=by lia
        lia
    · have k1:(gs.length:Int) * (Lw gs.length p c * Rw gs.length p c)≤3 * (1000000000 * 1000000000):=Int.mul_le_mul g3' m1 m0 (by decide);have k0:0≤(gs.length:Int) * (Lw gs.length p c * Rw gs.length p c):=abe (by lia) m0;obtain ⟨a,b,d,e⟩:=iK g3 hp hp2 (fun x hx=>hc x (aae _ hx)) (by lia) h;refine ⟨a,b,d,?_⟩;rw [lc];lia
theorem kX {p:Int × Int} {c:Int} (h:c∈aQ p):p.1≤c∧c < p.2:=by
  unfold aQ at h;obtain ⟨k,hk,rfl⟩:=aaC.mp h;have:=aaB.mp hk;lia
def bdW (q:Int × Int) (x:Int × Int):Prop:=x.1.natAbs≤10 ^ (30 * (q.2 - q.1+1).toNat)∧x.2.natAbs≤10 ^ (30 * (q.2 - q.1+1).toNat)
theorem jd {n:Nat} (h:n≤9):10 ^ (30 * n) < 2 ^ 4000:=abA (Nat.pow_le_pow_right (by decide) (show 30 * n≤270 by lia)) (by decide +kernel)
theorem mx {H:Hp} {ps:List (Int × Int)} {us:List V} (h:PairsIn H ps us):us=[]↔ps=[]:=by
  have:=h.length;constructor
  · rintro rfl;exact abK.mp this
  · rintro rfl;exact abK.mp this.symm
theorem rM {α β:Type} {f g:α→List β}:∀ {l:List α},(∀ x∈l,f x=g x)→l.flatMap f=l.flatMap g
  | [],_=>rfl
  | a :: r,h=>by rw [abS,abS,h a aai,rM fun x hx=>h x (aae _ hx)]
theorem xL {ns:List Int} {gs:List Sg} {L L':Int × Int→List (Int × Int)} {q:Int × Int} (g3:gs.length≤3) (h0:0≤q.1) (h8:q.2≤8) (h:∀ c,q.1≤c→c < q.2→L' (q.1,c)=L (q.1,c)∧L' (c+1,q.2)=L (c+1,q.2)):fnd ns gs L' q=fnd ns gs L q:=by
  unfold fnd;split
  · rfl
  · unfold fO;refine rM fun j hj=>?_;have hb:=(iK g3 h0 h8 (fun c hc=>kX hc) (aav 0) hj).1;obtain ⟨e1,e2⟩:=h j.1 hb.1 hb.2;unfold jp2;rw [e1,e2]
theorem bdW.bg {q x:Int × Int} (h:bdW q x) (hq:(q.2 - q.1+1).toNat≤9):Bg x.1∧Bg x.2:=⟨abA h.1 (jd hq),abA h.2 (jd hq)⟩
theorem qX {a b:Nat} (ha:1≤a) (hb:1≤b):10 ^ (30 * a) * 10 ^ 25+10 ^ (30 * b)+10 ^ 25≤10 ^ (30 * (a+b)):=by
  have e:10 ^ (30 * (a+b))=10 ^ (30 * a) * 10 ^ (30 * b):=by rw [← Nat.pow_add];congr 1;lia
  have h1:10 ^ 30≤10 ^ (30 * a):=Nat.pow_le_pow_right (by decide) (by lia);have h2:10 ^ 30≤10 ^ (30 * b):=Nat.pow_le_pow_right (by decide) (by lia);rw [e];generalize 10 ^ (30 * a)=x at h1 ⊢;generalize 10 ^ (30 * b)=y at h2 ⊢;have h3:x * 10 ^ 30≤x * y:=Nat.mul_le_mul_left _ h2;have h4:10 ^ 30 * y≤x * y:=abU _ h1;have a1:x * (10 ^ 25 * 4)≤x * 10 ^ 30:=Nat.mul_le_mul_left x (by decide);have a2:4 * y≤10 ^ 30 * y:=abU y (by decide);have a3:10 ^ 25 * 4≤y:=aaV (by decide) h2;have b1:=aaV a1 h3;have b2:=aaV a2 h4;rw [← Nat.mul_assoc] at b1;clear a1 a2 h1 h2 h3 h4 e;generalize x * y=m at b1 b2 ⊢;generalize x * 10 ^ 25=u at b1 ⊢;generalize 10 ^ 25=v at a3 ⊢;lia
theorem yu {p:Int × Int} {j:Jt} {a b:Int × Int} (h1:p.1≤j.1∧j.1 < p.2) (h2:0≤j.2.2.2∧j.2.2.2 < 1000000000) (h3:0≤j.2.2.1∧j.2.2.1≤10 ^ 25) (ha:bdW (p.1,j.1) a) (hb:bdW (j.1+1,p.2) b):bdW p (j.2.1.op a.1 b.1,j.2.2.1+a.2 * j.2.2.2+b.2):=by
  obtain ⟨a1,a2⟩:=ha;obtain ⟨b1,b2⟩:=hb;simp only at a1 a2 b1 b2;have el:(p.2 - p.1+1).toNat=(j.1 - p.1+1).toNat+(p.2 - (j.1+1)+1).toNat:=by lia
  have tp:=qX (a:=(j.1 - p.1+1).toNat) (b:=(p.2 - (j.1+1)+1).toNat) (by lia) (by lia);have em:10 ^ (30 * ((j.1 - p.1+1).toNat+(p.2 - (j.1+1)+1).toNat))=10 ^ (30 * (j.1 - p.1+1).toNat) * 10 ^ (30 * (p.2 - (j.1+1)+1).toNat):=by rw [← Nat.pow_add];congr 1;lia
  unfold bdW;rw [el];generalize 10 ^ (30 * (j.1 - p.1+1).toNat)=x at a1 a2 tp em ⊢;generalize 10 ^ (30 * (p.2 - (j.1+1)+1).toNat)=y at b1 b2 tp em ⊢;generalize 10 ^ (30 * ((j.1 - p.1+1).toNat+(p.2 - (j.1+1)+1).toNat))=z at tp em ⊢;refine ⟨?_,?_⟩
  · simp only;cases j.2.1 with
    | plus=>show (a.1+b.1).natAbs≤z;lia
    | minus=>show (a.1 - b.1).natAbs≤z;lia
    | times=>show (a.1 * b.1).natAbs≤z;rw [Int.natAbs_mul,em];exact abn a1 b1
  · simp only;have hm:(a.2 * j.2.2.2).natAbs≤x * 10 ^ 25:=by rw [Int.natAbs_mul];exact abn a2 (by lia)
    have h10:((10 ^ 25:Nat):Int)=(10:Int) ^ 25:=by decide
    lia
section
variable {P:Program} {w:World} {K:aaa} {mg:Str→Option Value} {base:Heap} {f:Addr} {fd:FuncData}
def mf (T:Addr):Sp:=fun vs H Q _=>∃ (r:Addr) (ns:List Int) (gs:List Sg) (l:Addr) (ul:List V) (lo:List (Int × Int)),vs=[.ref r,.str (aD gs),.ref l]∧H r=some (.lst (ns.map V.int))∧1≤ns.length∧ns.length≤9∧1≤gs.length∧gs.length≤3∧iP ns∧(H l=some (.lst ul)∨∀ H',SqT K H' l ul)∧PairsIn H lo ul∧LT T H ∧
  ∀ pk kvs (L:Int × Int→List (Int × Int)) H',But T H H'→LT T H'→H pk=none→H' pk=some (.dT kvs)→kvs.map (·.1)=(sfl ns.length ns.length).map ky→(∀ q∈sfl ns.length ns.length,PkAt H' kvs q (L q)∧fL ns gs lo L q)→Q (.ref pk) H'
abbrev a6:Stmt:=top 44
theorem aU:FnScope ["row","signs","left_out","counts","picks","stretch","first","last","found"] ["row","signs","left_out"] (am a6):=⟨rfl,rfl,rfl,by decide +kernel,rfl,by decide +kernel,by decide +kernel⟩
theorem dj {T tD:Addr} (F:FunD K "picks_by_stretch" "picks_by_stretch" a6 f fd tD) (B:Bu K mg) (C_counts_up_to:Cal P w K mg base "counts_up_to" 2 ["signs","many"] jy) (C_shorter_first:Cal P w K mg base "shorter_first" 1 ["many"] sf) (C_joints_of:Cal P w K mg base "joints_of" 2 ["signs","counts","stretch"] kc)
    (C_join_picks:Cal P w K mg base "join_picks" 2 ["picks","joints"] xc) (C_pick_three:Cal P w K mg base "pick_three" 4 ["found"] (qc T)):FnOk P w K mg base CX0 5 f fd ["row","signs","left_out"] (mf (K:=K) T):=by
  refine F.ok aU (fun vs H Q E h=>?_) (fun cdv A outer s H vs Q E hr h=>?_)
  · obtain ⟨r,ns,gs,l,ul,lo,rfl,_⟩:=h;rfl
  obtain ⟨r,ns,gs,l,ul,lo,rfl,er,h1,h9,g1,g3,sm,hlo,plo,hT,q⟩:=h;refine ⟨_,(@ag _ _ _ _ _ (@aH _ _ (3) _ _ _ _ (aU).nd rfl (Or.inl rfl) (@aj _ _ _ _ _ _ _ _ _ _ _ C_counts_up_to hr (by lia) rfl (@aa _ _ _ _ _ (pv 1) (@aa _ _ _ _ _ (@aA _ _ _ _ _ _ _ _ _ aB rfl B.ilen aay (@aa _ _ _ _ _ (pv 0) ac (by rfl)) (by decide) (by decide) (by rfl) (by rfl)) ac (by rfl)) (by rfl)) (by decide) (by rfl) (by rfl)) (by rfl) (by first|exact .inl rfl|exact .inr rfl|assumption)) (@ag _ _ _ _ _ (@aH _ _ (4) _ _ _ _ (aU).nd rfl (Or.inl rfl) oT (by rfl) (by first|exact .inl rfl|exact .inr rfl|assumption)) (@ag _ _ _ _ _ (@fz _ _ _ _ _ _ _ _ aa4 rfl (@bO _ _ _ _ (@aj _ _ _ _ _ _ _ _ _ _ _ C_shorter_first hr (by lia) rfl (@aa _ _ _ _ _ (@aA _ _ _ _ _ _ _ _ _ aB rfl B.ilen aay (@aa _ _ _ _ _ (pv 0) ac (by rfl)) (by decide) (by decide) (by rfl) (by rfl)) ac (by rfl)) (by decide) (by rfl) (by rfl))) (@ao _ _ (5) _ (aU).nd rfl (Or.inl rfl) (.inl rfl)) (@ag _ _ _ _ _ (@cy _ _ _ _ _ _ (pv 5) (@cz _ _ _ _ _ _ rfl (@az _ _ _ _ _ (@ao _ _ (6) _ (aU).nd rfl (Or.inl rfl) (.inl rfl)) (@az _ _ _ _ _ (@ao _ _ (7) _ (aU).nd rfl (Or.inl rfl) (.inl rfl)) a8 (by rfl)) (by rfl)) (by rfl) (by rfl)) (by rfl) (by rfl) (by rfl)) (@rh _ _ _ _ _ (@aH _ _ (8) _ _ _ _ (aU).nd rfl (Or.inl rfl) (@eK _ _ _ _ _ _ _ _ (@aK _ _ _ _ _ _ _ _ eQ (pv 6) (pv 7) (aN _)) (@aV _ _ _ _ (@aa _ _ _ _ _ (@aY _ _ _ _ _ (@aa _ _ _ _ _ (@aI _ _ _ _ _ _ _ aR (pv 0) (pv 6) (fun _ _=>rfl)) (@aa _ _ _ _ _ ai ac (by rfl)) (by rfl))) ac (by rfl))) (@aj _ _ _ _ _ _ _ _ _ _ _ C_join_picks hr (by lia) rfl (@aa _ _ _ _ _ (pv 4) (@aa _ _ _ _ _ (@aj _ _ _ _ _ _ _ _ _ _ _ C_joints_of hr (by lia) rfl (@aa _ _ _ _ _ (pv 1) (@aa _ _ _ _ _ (pv 3) (@aa _ _ _ _ _ (pv 5) ac (by rfl)) (by rfl)) (by rfl)) (by decide) (by rfl) (by rfl)) ac (by rfl)) (by rfl)) (by decide) (by rfl) (by rfl))) (by rfl) (by first|exact .inl rfl|exact .inr rfl|assumption)) (@ak _ _ _ (@jW _ _ _ _ _ _ _ _ _ (u1 hr.units) (pv 4) (pv 5) (@eK _ _ _ _ _ _ _ _ (@PW.pt _ _ _ (@jb _ _ _ _ _ _ _ (@dG _ _ _ (pv 8) (fun _=>rfl)) (@iE _ _ _ _ (@aK _ _ _ _ _ _ _ _ (@qt _ _ rfl hr.units) (pv 5) (pv 2) (by with_unfolding_all rfl))))) (@aj _ _ _ _ _ _ _ _ _ _ _ C_pick_three hr (by lia) rfl (@aa _ _ _ _ _ (pv 8) ac (by rfl)) (by decide) (by rfl) (by rfl)) (@aY _ _ _ _ _ ac)) rfl)))) (by intro _;rfl)) (@ak _ _ _ (@au _ _ _ _ (pv 4)))))),?_⟩;have hl:(ns.map V.int).length=ns.length:=aaf _;have zl:(aD gs).length=gs.length:=dL gs;have t2:(2:Nat)≤sizeLine:=by decide
  refine ⟨_,rfl,_,rfl,r,_,rfl,.inl (SqL.of er),?_⟩;rw [hl];refine ⟨aD gs,ns.length,rfl,by rw [zl];exact g3,by lia,by lia,fun pc H1 s1 npc ec=>?_⟩;rw [zl,show (((ns.length:Nat):Int) - 1).toNat=ns.length - 1 by lia] at ec;refine fun pk nk=>?_;have sk:=Same.new nk (.dT []);have ek0:upd H1 pk (.dT []) pk=some (.dT []):=af;generalize upd H1 pk (.dT [])=H2 at sk ek0 ⊢;refine ⟨_,rfl,r,_,rfl,.inl (SqL.of ((s1.trans sk) _ _ er)),?_⟩;rw [hl];refine ⟨ns.length,rfl,h9,fun pl us H3 s3 npl epl hus=>?_⟩;have S3:=(s1.trans sk).trans s3;have nkH:H pk=none:=s1.free nk;obtain ⟨tp0,T0⟩:=hT;have npkT:pk≠T:=fun e=>by rw [e,T0.tab] at nkH;cases nkH
  have nplT:pl≠T:=fun e=>by rw [e,(s1.trans sk) _ _ T0.tab] at npl;cases npl
  have nplk:pl≠pk:=fun e=>by rw [e,ek0] at npl;cases npl
  have npcT:pc≠T:=fun e=>by rw [e,T0.tab] at npc;cases npc
  have npck:pc≠pk:=aF ec nk;have nrT:r≠T:=fun e=>by rw [e,T0.tab] at er;cases er
  have nrk:r≠pk:=aF er nkH;have lus:=hus.length;have l81:=iz ns.length ns.length;have l81':ns.length * ns.length≤9 * 9:=abn h9 h9;have LT3:LT T H3:=⟨tp0,S3 _ _ T0.tab,T0.tri,fun pos' cv hc=>by obtain ⟨d,e1,e2⟩:=T0.cds pos' cv hc;exact ⟨d,e1,S3 _ _ e2⟩⟩
  refine ⟨pl,rfl,⟨_,SqL.of epl⟩,kU (xs:=us) (fun i σ H'=>∃ (kvs:List (List Key × V)) (L:Int × Int→List (Int × Int)) (c5 c6 c7 c8:Option V),σ=[some (.ref r),some (.str (aD gs)),some (.ref l),some (.ref pc),some (.ref pk),c5,c6,c7,c8]∧(∀ b o,b≠pk→b≠T→H3 b=some o→H' b=some o)∧LT T H'∧H' pk=some (.dT kvs)∧kvs.map (·.1)=((sfl ns.length ns.length).take i).map ky∧(∀ q,(L q).length≤3∧(q∉(sfl ns.length ns.length).take i→L q=[])∧∀ x∈L q,bdW q x)∧∀ q∈(sfl ns.length ns.length).take i,PkAt H' kvs q (L q)∧fL ns gs lo L q)
    ⟨[],fun _=>[],_,_,_,_,rfl,fun b o _ _ h=>h,LT3,s3 _ _ ek0,by simp,fun q=>⟨by simp,fun _=>rfl,fun x hx=>by simp at hx⟩,fun q hq=>by simp at hq⟩ ?_ ?_ ?_⟩
  · rintro i σ H' _ ⟨_,_,_,_,_,_,rfl,kp,_⟩;exact SqL.of (kp _ _ nplk nplT epl)
  · rintro i x σ H4 hx ⟨kvs,L,c5,c6,c7,c8,rfl,kp,lt,ek,lk,hL,hq⟩;obtain ⟨p,hpi,hpx0⟩:=bu hus hx;have ilt:i < us.length:=(aak.mp hx).1;have hpm:=iA ns.length p (aax hpi);have TT:Tups H3 H4:=fun b xs hb=>kp b _ (fun e=>by rw [e,s3 _ _ ek0] at hb;cases hb) (fun e=>by rw [e,S3 _ _ T0.tab] at hb;cases hb) hb;have hpx:=PairIn.mono TT hpx0;have hpx':=hpx;obtain ⟨bp,rfl,ebp⟩:=hpx;have er4:=kp _ _ nrk nrT (S3 _ _ er);have ec4:=kp _ _ npck npcT ((sk.trans s3) _ _ ec);have pnew:p∉(sfl ns.length ns.length).take i:=fun z=>by
      obtain ⟨k,hk⟩:=acr.mp z;have hk1:k < i:=by
        have:=(aak.mp hk).1;rw [aas] at this;lia
      rw [abE hk1] at hk;obtain ⟨h1',e1'⟩:=aak.mp hk;obtain ⟨h2',e2'⟩:=aak.mp hpi;exact aaX.mp (gz ns.length h9) k i h1' h2' hk1 (by rw [e1',e2'])
    have etake:(sfl ns.length ns.length).take (i+1)=(sfl ns.length ns.length).take i++[p]:=by rw [aaP,hpi];rfl
    have part:∀ q,q.1≤q.2→q∈(sfl ns.length ns.length).take (i+1)→∀ z:Int × Int,z.2 - z.1 < q.2 - q.1→z≠p:=fun q _ hqm z hz e=>by
      subst e;rw [etake] at hqm;rcases aan.mp hqm with hm|hm
      · obtain ⟨k,hk⟩:=acr.mp hm;have hk1:k < i:=by
          have:=(aak.mp hk).1;rw [aas] at this;lia
        rw [abE hk1] at hk;obtain ⟨h1',e1'⟩:=aak.mp hk;obtain ⟨h2',e2'⟩:=aak.mp hpi;have:=aaX.mp (ox ns.length h9) k i h1' h2' hk1;rw [e1',e2'] at this;lia
      · rw [aaj.mp hm] at hz;lia
    have lk':kvs.length≤i:=by have:=congrArg abZ lk;rw [aaf,aaf,aas] at this;lia
    have fin:∀ (ls:List (Int × Int)) (t:Addr) (xs:List V) (H5:Hp) (d6 d7 d8:Option V),(∀ b o,b≠pk→b≠T→H4 b=some o→H5 b=some o)→LT T H5→H5 pk=some (.dT kvs)→H5 t=some (.tup xs)→PairsIn H5 ls xs→ls.length≤3→(∀ x∈ls,bdW p x)→(ls=if fnd ns gs L p≠[]∧p∉lo then fN (fnd ns gs L p) else []) →
        ∃ H6,DPut H5 pk (.ref bp) (.ref t) H6∧∃ (kvs:List (List Key × V)) (L:Int × Int→List (Int × Int)) (c5 c6 c7 c8:Option V),[some (V.ref r),some (.str (aD gs)),some (.ref l),some (.ref pc),some (.ref pk),some (.ref bp),d6,d7,d8]=[some (.ref r),some (.str (aD gs)),some (.ref l),some (.ref pc),some (.ref pk),c5,c6,c7,c8]∧(∀ b o,b≠pk→b≠T→H3 b=some o→H6 b=some o)∧LT T H6∧H6 pk=some (.dT kvs)∧kvs.map (·.1)=((sfl ns.length ns.length).take (i+1)).map ky∧(∀ q,(L q).length≤3∧(q∉(sfl ns.length ns.length).take (i+1)→L q=[])∧∀ x∈L q,bdW q x)∧∀ q∈(sfl ns.length ns.length).take (i+1),PkAt H6 kvs q (L q)∧fL ns gs lo L q:=fun ls t xs H5 d6 d7 d8 k5 lt5 ek5 et5 hp5 l3 hb he=>by
      have ntk:t≠pk:=fun e=>by rw [e,ek5] at et5;cases et5
      have T45:Tups H4 H5:=fun b ys hb=>k5 b _ (fun e=>by rw [e,ek] at hb;cases hb) (fun e=>by obtain ⟨tp,lt⟩:=lt;rw [e,lt.tab] at hb;cases hb) hb;have T56:Tups H5 (upd H5 pk (.dT (eE kvs (ky p) (.ref t)))):=fun b ys hb=>by rw [aq (fun e=>by rw [e,ek5] at hb;cases hb)];exact hb
      have fe:∀ q∈(sfl ns.length ns.length).take (i+1),fnd ns gs (fun q'=>if q'=p then ls else L q') q=fnd ns gs L q:=fun q hqm=>by
        have hg:=iA ns.length q (abT hqm);refine xL g3 hg.1 (by lia) fun c h1 h2=>⟨?_,?_⟩
        · rw [if_neg (part q hg.2.1 hqm _ (by simp only;lia))]
        · rw [if_neg (part q hg.2.1 hqm _ (by simp only;lia))]
      refine ⟨_,DPut.t (k:=ky p) ek5 (T45 _ _ ebp) (aJ (by lia)),eE kvs (ky p) (.ref t),fun q'=>if q'=p then ls else L q',_,_,_,_,rfl,fun b o h1 h2 h3=>?_,?_,af,?_,fun q=>?_,fun q hqm=>?_⟩
      · rw [aq h1];exact k5 _ _ h1 h2 (kp _ _ h1 h2 h3)
      · obtain ⟨tp,h⟩:=lt5;refine ⟨tp,by rw [aq npkT.symm];exact h.tab,h.tri,fun pos' cv hc=>?_⟩;obtain ⟨d,e1,e2⟩:=h.cds pos' cv hc;exact ⟨d,e1,by rw [aq (fun e=>by rw [e,ek5] at e2;cases e2)];exact e2⟩
      · rw [oN (fun z=>by rw [lk] at z;obtain ⟨q',hq',e⟩:=aaC.mp z;exact pnew (kM e ▸ hq')),aaJ,lk,etake,aaJ];rfl
      · by_cases e:q=p
        · subst e;simp only [if_true];refine ⟨l3,fun z=>absurd (by rw [etake];simp) z,hb⟩
        · simp only [if_neg e];refine ⟨(hL q).1,fun z=>(hL q).2.1 fun y=>z (by rw [etake];exact aaw _ y),(hL q).2.2⟩
      · have fq:=fe q hqm;rw [etake] at hqm;rcases aan.mp hqm with hm|hm
        · have ne:q≠p:=fun e=>pnew (e ▸ hm);obtain ⟨⟨t0,xs0,v0,e0,p0⟩,pe⟩:=hq q hm;refine ⟨⟨t0,xs0,?_,T56 _ _ (T45 _ _ e0),?_⟩,?_⟩
          · rw [j7,if_neg (fun e=>ne (kM e))];exact v0
          · simp only [if_neg ne];exact PairsIn.mono (T45.trans T56) p0
          · unfold fL;rw [fq];simp only [if_neg ne];exact pe
        · have e:=aaj.mp hm;subst e;refine ⟨⟨t,xs,?_,T56 _ _ et5,?_⟩,?_⟩
          · rw [j7,if_pos rfl]
          · simp only [if_true];exact PairsIn.mono T56 hp5
          · unfold fL;rw [fq];simp only [if_true];exact he
    refine ⟨_,rfl,bp,_,rfl,SqT.of ebp,rfl,_,_,rfl,_,_,rfl,rfl,?_⟩;have fbd:∀ x∈fnd ns gs L p,bdW p x:=fun x hx=>by
      unfold fnd at hx;split at hx
      · rename_i e;rw [aaj.mp hx];have e1:(p.2 - p.1+1).toNat=1:=by lia
        have hi:p.1.toNat < ns.length:=by lia
        have hm:=sm _ (aa8 hi);unfold bdW;rw [e1,aau,aac hi];have e10:(10:Nat) ^ (30 * 1)=1000000000000000000000000000000:=by decide
        rw [e10];refine ⟨?_,by show (0:Int).natAbs≤_;decide⟩;show (ns[p.1.toNat]).natAbs≤_;lia
      · unfold fO at hx;obtain ⟨j,hj,hx⟩:=aaG.mp hx;unfold jp2 jp1 at hx;obtain ⟨a,ha,hx⟩:=aaG.mp hx;obtain ⟨b,hb,rfl⟩:=aaC.mp hx;obtain ⟨j1,j2,j3,j4⟩:=iK g3 hpm.1 (by lia) (fun c hc=>kX hc) (aav 0) hj;have lc:((aQ p).length:Int)≤8:=by
          have : (aQ p).length=(p.2 - p.1).toNat:=by simp [aQ]
          lia
        have e25:(10:Int) ^ 25=10000000000000000000000000:=by decide
        exact yu j1 j2 ⟨j3,by rw [e25];lia⟩ ((hL _).2.2 a ha) ((hL _).2.2 b hb)
    refine ⟨fun σ H5=>∃ pf uf,σ=[some (.ref r),some (.str (aD gs)),some (.ref l),some (.ref pc),some (.ref pk),some (.ref bp),some (.int p.1),some (.int p.2),some (.ref pf)]∧Same H4 H5∧H5 pf=some (.lst uf)∧PairsIn H5 (fnd ns gs L p) uf,?_,?_⟩
    · refine ⟨_,rfl,_,rfl,rfl,_,rfl,dI (fun ce=>?_) (fun ce=>?_)⟩
      · have ce:V.int p.1=V.int p.2:=of_decide_eq_true ce;injection ce with ce
        have hi:p.1.toNat < ns.length:=by lia
        have ea:atI (ns.map V.int) p.1=some (.int (ns.getD p.1.toNat 0)):=by
          have h:atI (ns.map V.int) ((p.1.toNat:Nat):Int)=some (.int (ns.getD p.1.toNat 0)):=iN (by rw [aaL,aac hi,aau,aac hi];rfl)
          rwa [show ((p.1.toNat:Nat):Int)=p.1 by lia] at h
        refine ⟨_,rfl,_,rfl,r,_,_,_,rfl,rfl,SqL.of er4,ea,t2,fun t ht=>⟨(by show 1≤sizeLine;decide),fun u hu=>?_⟩⟩;have st:=Same.new ht (.tup [.int (ns.getD p.1.toNat 0),.int 0]);have su:=Same.new hu (.lst [.ref t]);refine ⟨u,_,rfl,st.trans su,af,?_⟩;unfold fnd;rw [if_pos ce];exact .cons ⟨t,rfl,su _ _ af⟩ .nil
      · have ce:p.1≠p.2:=fun z=>ce (by rw [z];exact decide_eq_true rfl);refine ⟨_,rfl,_,rfl,_,rfl,_,rfl,gs,pc,ns.length - 1,p,_,rfl,g3,ec4,by lia,hpx',hpm.1,hpm.2.1,by lia,fun pj uj H5 s5 npj ej hj=>?_⟩;have lj:(dJ gs p (aQ p) 0).length≤24:=by
          rw [kQ];have : (aQ p).length=(p.2 - p.1).toNat:=by simp [aQ]
          exact aaV (abn (show (aQ p).length≤8 by lia) g3) (by decide)
        refine ⟨pk,pj,kvs,uj,p,dJ gs p (aQ p) 0,L,rfl,s5 _ _ ek,ej,hj,lj,fun j hj'=>?_,fun q'=>⟨(hL q').1,fun x hx=>?_⟩,fun a vs H6 s6 na ea hp6=>?_⟩
        · obtain ⟨j1,j2,_,_⟩:=iK g3 hpm.1 (by lia) (fun c hc=>kX hc) (aav 0) hj';have m1:=eY h9 hpi (q:=(p.1,j.1)) ⟨hpm.1,by lia,by simp only;lia⟩ (by simp only;lia);have m2:=eY h9 hpi (q:=(j.1+1,p.2)) ⟨by simp only;lia,by simp only;lia,hpm.2.2⟩ (by simp only;lia);refine ⟨PkAt.mono (Tups.of s5) (hq _ m1).1,PkAt.mono (Tups.of s5) (hq _ m2).1,?_⟩;have b9:(1000000000:Nat) < 2 ^ 4000:=by decide +kernel
          exact ab8 (by lia) b9
        · by_cases e:q'∈(sfl ns.length ns.length).take i
          · have hg:=iA ns.length q' (abT e);exact ((hL q').2.2 x hx).bg (by lia)
          · rw [(hL q').2.1 e] at hx;simp at hx
        · refine ⟨a,vs,rfl,s5.trans s6,ea,?_⟩;unfold fnd;rw [if_neg ce];exact hp6
    · rintro σ H5 ⟨pf,uf,rfl,s5,ef,hf⟩;have k5:∀ b o,b≠pk→b≠T→H4 b=some o→H5 b=some o:=fun b o _ _ h=>s5 _ _ h;have lt5:LT T H5:=by
        obtain ⟨tp,h⟩:=lt;exact ⟨tp,s5 _ _ h.tab,h.tri,fun pos' cv hc=>by obtain ⟨d,e1,e2⟩:=h.cds pos' cv hc;exact ⟨d,e1,s5 _ _ e2⟩⟩
      have lo5:PairsIn H5 lo ul:=PairsIn.mono (((Tups.of S3).trans TT).trans (Tups.of s5)) plo;have hlo5:SqL K H5 l ul∨SqT K H5 l ul:=by
        rcases hlo with h|h
        · exact .inl (SqL.of (s5 _ _ (kp _ _ (aF h nkH) (fun e=>by rw [e,T0.tab] at h;cases h) (S3 _ _ h))))
        · exact .inr (h H5)
      have ek5:=s5 _ _ ek;have hfl:=hf.length;refine ⟨_,rfl,!uf.isEmpty,.inl ⟨uf,SqL.of ef,rfl⟩,?_⟩;have empty:(¬ (fnd ns gs L p≠[]∧p∉lo))→∀ t,H5 t=none→∃ H6,DPut (upd H5 t (.tup [])) pk (.ref bp) (.ref t) H6∧_:=fun hn t ht=>fin [] t [] (upd H5 t (.tup [])) (some (.int p.1)) (some (.int p.2)) (some (.ref pf)) (fun b o _ _ h=>Same.new ht _ _ _ (s5 _ _ h)) (by
          obtain ⟨tp,h⟩:=lt5;exact ⟨tp,Same.new ht _ _ _ h.tab,h.tri,fun pos' cv hc=>by obtain ⟨d,e1,e2⟩:=h.cds pos' cv hc;exact ⟨d,e1,Same.new ht _ _ _ e2⟩⟩) (Same.new ht _ _ _ ek5) af .nil (by decide) (fun x hx=>by simp at hx) (by rw [if_neg hn])
      have t0:(0:Nat)≤sizeLine:=by decide
      cases uf with
      | nil =>
        have e0:fnd ns gs L p=[]:=(mx hf).mp rfl;refine bi ⟨t0,fun t ht=>?_⟩;obtain ⟨H6,d6,w6⟩:=empty (fun z=>z.1 e0) t ht;exact ⟨_,rfl,_,rfl,pk,H6,rfl,d6,w6⟩
      | cons u0 ur =>
        have hne:fnd ns gs L p≠[]:=fun z=>by have:=(mx hf).mpr z;cases this
        refine bV ⟨_,rfl,_,rfl,p,l,ul,lo,PairIn.mono (Tups.of s5) hpx',rfl,hlo5,lo5,_,rfl,dI (fun cn'=>?_) (fun cn'=>?_)⟩
        · have cn':p∉lo:=by simpa using cn'
          refine ⟨_,rfl,pf,u0 :: ur,fnd ns gs L p,rfl,ef,hf,by simp,lt5,fun t x y z H6 b6 nt lt6 et hx hy hz=>?_⟩;have T56:Tups H5 H6:=fun b ys hb=>b6 b _ (fun e=>by obtain ⟨tp,h⟩:=lt5;rw [e,h.tab] at hb;cases hb) hb;have one:∀ {k:Nat} {v:V},(u0 :: ur)[k]?=some v→PairIn H6 ((fnd ns gs L p).getD k (0,0)) v:=fun {k v} h=>by
            obtain ⟨p',e1,h1⟩:=bu hf h;rw [aau,e1];exact PairIn.mono T56 h1
          rw [← hfl] at hx hy hz;have ek6:=b6 _ _ npkT ek5;obtain ⟨H7,d7,w7⟩:=fin (fN (fnd ns gs L p)) t [x,y,z] H6 (some (.int p.1)) (some (.int p.2)) (some (.ref pf)) (fun b o _ h2 h=>b6 _ _ h2 (s5 _ _ h)) lt6 ek6 et (.cons (one hx) (.cons (one hy) (.cons (one hz) .nil))) (aag 3) (fun x hx=>fbd x (cD hne x hx)) (by rw [if_pos ⟨hne,cn'⟩]);exact ⟨_,rfl,_,rfl,pk,H7,rfl,d7,w7⟩
        · have cn':p∈lo:=by simpa using cn'
          refine ⟨t0,fun t ht=>?_⟩;obtain ⟨H6,d6,w6⟩:=empty (fun z=>z.2 cn') t ht;exact ⟨_,rfl,_,rfl,pk,H6,rfl,d6,w6⟩
  · rintro σ H' ⟨kvs,L,_,_,_,_,rfl,kp,lt,ek,lk,hL,hq⟩;rw [← lus,aaQ] at hq lk;refine ⟨_,rfl,q pk kvs L H' (fun b o hb e=>?_) lt nkH ek lk hq⟩;exact kp _ _ (aF e nkH) hb (S3 _ _ e)
end
open PySem L2
theorem gU {lx ux ly uy x y:Int} (hx:lx≤x∧x≤ux) (hy:ly≤y∧y≤uy):∃ a b,(a=lx∨a=ux)∧(b=ly∨b=uy)∧a * b≤x * y:=by
  have inner:∀ a,∃ b,(b=ly∨b=uy)∧a * b≤a * y:=fun a=>by
    by_cases h:0≤a
    · exact ⟨ly,.inl rfl,abL hy.1 h⟩
    · exact ⟨uy,.inr rfl,Int.mul_le_mul_of_nonpos_left (by lia) hy.2⟩
  by_cases h:0≤y
  · obtain ⟨b,hb,e⟩:=inner lx;exact ⟨lx,b,.inl rfl,hb,ab5 e (aaD hx.1 h)⟩
  · obtain ⟨b,hb,e⟩:=inner ux;exact ⟨ux,b,.inr rfl,hb,ab5 e (Int.mul_le_mul_of_nonpos_right hx.2 (by lia))⟩
theorem l0 {lx ux ly uy x y:Int} (hx:lx≤x∧x≤ux) (hy:ly≤y∧y≤uy):∃ a b,(a=lx∨a=ux)∧(b=ly∨b=uy)∧x * y≤a * b:=by
  obtain ⟨a,b,ha,hb,e⟩:=gU (lx:=-ux) (ux:=-lx) (ly:=ly) (uy:=uy) (x:=-x) (y:=y) ⟨by lia,by lia⟩ hy;refine ⟨-a,b,?_,hb,?_⟩
  · rcases ha with ha|ha
    · right;lia
    · left;lia
  · rw [Int.neg_mul] at e;rw [Int.neg_mul];lia
theorem mP (g:Sg) {lx ux ly uy x y:Int} (hx:lx≤x∧x≤ux) (hy:ly≤y∧y≤uy):∃ a b,(a=lx∨a=ux)∧(b=ly∨b=uy)∧g.op a b≤g.op x y:=by
  cases g with
  | plus=>exact ⟨lx,ly,.inl rfl,.inl rfl,by show lx+ly≤x+y;lia⟩
  | minus=>exact ⟨lx,uy,.inl rfl,.inr rfl,by show lx - uy≤x - y;lia⟩
  | times=>exact gU hx hy
theorem mQ (g:Sg) {lx ux ly uy x y:Int} (hx:lx≤x∧x≤ux) (hy:ly≤y∧y≤uy):∃ a b,(a=lx∨a=ux)∧(b=ly∨b=uy)∧g.op x y≤g.op a b:=by
  cases g with
  | plus=>exact ⟨ux,uy,.inr rfl,.inr rfl,by show x+y≤ux+uy;lia⟩
  | minus=>exact ⟨ux,ly,.inr rfl,.inl rfl,by show x - y≤ux - ly;lia⟩
  | times=>exact l0 hx hy
theorem yq (a b c d:Int):HT.lexLt [a,b] [c,d]=(decide (a < c) || (decide (a=c) && decide (b < d))):=by
  show (if a=c then HT.lexLt [b] [d] else decide (a < c))=_;by_cases h:a=c
  · subst h;rw [if_pos rfl,xx];simp
  · rw [if_neg h,decide_eq_false h];simp
theorem lg (f:Nat→Int × Int):∀ n k,k≤n→(f (aG (fun i=>[(f i).1,(f i).2]) n)).1≤(f k).1
  | 0,k,h=>by
    obtain rfl:k=0:=by lia
    exact aav _
  | n+1,k,h=>by
    have ih:=lg f n;have e:aG (fun i=>[(f i).1,(f i).2]) (n+1)=if HT.lexLt [(f (n+1)).1,(f (n+1)).2] [(f (aG (fun i=>[(f i).1,(f i).2]) n)).1,(f (aG (fun i=>[(f i).1,(f i).2]) n)).2]=true then n+1 else aG (fun i=>[(f i).1,(f i).2]) n:=rfl
    rw [e,yq];generalize aG (fun i=>[(f i).1,(f i).2]) n=b at ih ⊢;by_cases c:(decide ((f (n+1)).1 < (f b).1) || (decide ((f (n+1)).1=(f b).1) && decide ((f (n+1)).2 < (f b).2)))=true
    · rw [if_pos c];simp only [aca,aa6,decide_eq_true_eq] at c;by_cases hk:k=n+1
      · rw [hk];exact aav _
      · have:=ih k (by lia);lia
    · rw [if_neg c];simp only [aca,aa6,decide_eq_true_eq,not_or] at c;by_cases hk:k=n+1
      · rw [hk];lia
      · exact ih k (by lia)
theorem cf {kf kf':Nat→List Int}:∀ n,(∀ i,i≤n→kf i=kf' i)→aG kf n=aG kf' n
  | 0,_=>rfl
  | n+1,h=>by
    have ih:=cf n fun i hi=>h i (by lia);unfold aG;rw [ih,h (n+1) (aag _),h (aG kf' n) (by have:=ld kf' n;lia)]
theorem dv (key:Int × Int→List Int) {ps:List (Int × Int)} {i:Nat} (h:i < ps.length):bS key ps i=key (ps.getD i (0,0)):=by
  unfold bS;rw [aac h,aau,aac h];rfl
theorem qp {ps:List (Int × Int)} (h:ps≠[]):∃ f a b,fN ps=[f,a,b]∧f∈ps∧a∈ps∧b∈ps∧∀ x∈ps,a.1≤x.1∧x.1≤b.1:=by
  have l:0 < ps.length:=ab0.mpr h;refine ⟨_,_,_,rfl,cD h _ (by simp [fN]),cD h _ (by simp [fN]),cD h _ (by simp [fN]),fun x hx=>?_⟩;obtain ⟨k,hk,e⟩:=aa0 hx;have ek:ps.getD k (0,0)=x:=by rw [aau,aac hk,e];rfl
  constructor
  · have e1:aG (bS gR ps) (ps.length - 1)=aG (fun i=>[(ps.getD i (0,0)).1,(ps.getD i (0,0)).2]) (ps.length - 1):=cf _ fun i hi=>dv gR (by lia);rw [e1,← ek];exact lg (fun i=>ps.getD i (0,0)) (ps.length - 1) k (by lia)
  · have e1:aG (bS qJ ps) (ps.length - 1)=aG (fun i=>[(-(ps.getD i (0,0)).1,(ps.getD i (0,0)).2).1,(-(ps.getD i (0,0)).1,(ps.getD i (0,0)).2).2]) (ps.length - 1):=cf _ fun i hi=>dv qJ (by lia);have:=lg (fun i=>(-(ps.getD i (0,0)).1,(ps.getD i (0,0)).2)) (ps.length - 1) k (by lia);rw [e1,← ek];have this:-(ps.getD (aG (fun i=>[(-(ps.getD i (0,0)).1,(ps.getD i (0,0)).2).1,(-(ps.getD i (0,0)).1,(ps.getD i (0,0)).2).2]) (ps.length - 1)) (0,0)).1≤-(ps.getD k (0,0)).1:=this;lia
def Ends (L:Int × Int→List (Int × Int)) (q:Int × Int) (lo hi:Int):Prop:=∃ f a b,L q=[f,a,b]∧a.1=lo∧b.1=hi∧lo≤f.1∧f.1≤hi∧lo≤hi
theorem Ends.mem {L:Int × Int→List (Int × Int)} {q:Int × Int} {lo hi:Int} (h:Ends L q lo hi):(∀ x∈L q,lo≤x.1∧x.1≤hi)∧(∃ x∈L q,x.1=lo)∧∃ x∈L q,x.1=hi:=by
  obtain ⟨f,a,b,e,ha,hb,h1,h2,h3⟩:=h;rw [e];refine ⟨fun x hx=>?_,⟨a,by simp,ha⟩,⟨b,by simp,hb⟩⟩;simp only [aam,abw,or_false] at hx;rcases hx with rfl|rfl|rfl
  · exact ⟨h1,h2⟩
  · exact ⟨by lia,by lia⟩
  · exact ⟨by lia,by lia⟩
theorem rm {ns:List Int} {gs:List Sg} {L:Int × Int→List (Int × Int)} {q:Int × Int} (h:fL ns gs [] L q) (hne:fnd ns gs L q≠[]):∃ lo hi,Ends L q lo hi∧(∀ x∈fnd ns gs L q,lo≤x.1∧x.1≤hi)∧(∃ x∈fnd ns gs L q,x.1=lo)∧∃ x∈fnd ns gs L q,x.1=hi:=by
  obtain ⟨f,a,b,e,hf,ha,hb,all⟩:=qp hne;unfold fL at h;rw [if_pos ⟨hne,by simp⟩,e] at h;refine ⟨a.1,b.1,⟨f,a,b,h,rfl,rfl,(all f hf).1,(all f hf).2,(all b hb).1⟩,all,⟨a,ha,rfl⟩,⟨b,hb,rfl⟩⟩
theorem nZ {c L R:Int} {j:Jt}:∀ {xs:List Sg} {st:Int},j∈dH c L R xs st→j.1=c∧j.2.1∈xs
  | [],st,h=>by simp [dH] at h
  | g :: r,st,h=>by
    rcases aam.mp h with rfl|h
    · exact ⟨rfl,aai⟩
    · exact ⟨(nZ h).1,aae _ (nZ h).2⟩
theorem pG {c L R:Int} {g:Sg}:∀ {xs:List Sg} {st:Int},g∈xs→∃ j∈dH c L R xs st,j.1=c∧j.2.1=g
  | [],st,h=>by simp at h
  | x :: r,st,h=>by
    rcases aam.mp h with rfl|h
    · exact ⟨_,aai,rfl,rfl⟩
    · obtain ⟨j,hj,e⟩:=pG (c:=c) (L:=L) (R:=R) (st:=st+L * R) h;exact ⟨j,aae _ hj,e⟩
theorem rF {gs:List Sg} {p:Int × Int} {j:Jt}:∀ {cs:List Int} {st:Int},j∈dJ gs p cs st→j.1∈cs∧j.2.1∈gs
  | [],st,h=>by simp [dJ] at h
  | c :: cs,st,h=>by
    rcases aan.mp h with h|h
    · have:=nZ h;exact ⟨by rw [this.1];exact aai,this.2⟩
    · have:=rF h;exact ⟨aae _ this.1,this.2⟩
theorem pH {gs:List Sg} {p:Int × Int} {c:Int} {g:Sg} (hg:g∈gs):∀ {cs:List Int} {st:Int},c∈cs→∃ j∈dJ gs p cs st,j.1=c∧j.2.1=g
  | [],st,h=>by simp at h
  | x :: cs,st,h=>by
    rcases aam.mp h with rfl|h
    · obtain ⟨j,hj,e⟩:=pG (c:=c) (L:=Lw gs.length p c) (R:=Rw gs.length p c) (st:=st) hg;exact ⟨j,aaw _ hj,e⟩
    · obtain ⟨j,hj,e⟩:=pH hg (cs:=cs) (st:=st+(gs.length:Int) * (Lw gs.length p x * Rw gs.length p x)) h;exact ⟨j,aab _ hj,e⟩
def two (p:Int × Int):List Int:=[p.1,p.2]
def bW (E:Int × Int→Int × Int) (gs:List Sg) (q:Int × Int):List Int:=(aQ q).flatMap fun c=>(two (E (q.1,c))).flatMap fun a=>(two (E (c+1,q.2))).flatMap fun b=>gs.map fun g=>g.op a b
theorem mem_corn {E:Int × Int→Int × Int} {gs:List Sg} {q:Int × Int} {v:Int}:v∈bW E gs q↔∃ c∈aQ q,∃ g∈gs,∃ a b,(a=(E (q.1,c)).1∨a=(E (q.1,c)).2)∧(b=(E (c+1,q.2)).1∨b=(E (c+1,q.2)).2)∧g.op a b=v:=by
  unfold bW two;simp only [aaG,aaC,aam,abw,or_false];constructor
  · rintro ⟨c,hc,a,ha,b,hb,g,hg,e⟩;exact ⟨c,hc,g,hg,a,b,ha,hb,e⟩
  · rintro ⟨c,hc,g,hg,a,b,ha,hb,e⟩;exact ⟨c,hc,a,ha,b,hb,g,hg,e⟩
def jI (L:Int × Int→List (Int × Int)) (E:Int × Int→Int × Int) (q:Int × Int):Prop:=Ends L q (E q).1 (E q).2
theorem uR {ns:List Int} {gs:List Sg} {L:Int × Int→List (Int × Int)} {E:Int × Int→Int × Int} {q:Int × Int} (hq:q.1≠q.2) (h:∀ c∈aQ q,jI L E (q.1,c)∧jI L E (c+1,q.2)) :
    (∀ x∈fnd ns gs L q,(∃ v∈bW E gs q,v≤x.1)∧∃ v∈bW E gs q,x.1≤v)∧∀ v∈bW E gs q,∃ x∈fnd ns gs L q,x.1=v:=by
  unfold fnd;rw [if_neg hq];constructor
  · intro x hx;unfold fO at hx;obtain ⟨j,hj,hx⟩:=aaG.mp hx;unfold jp2 jp1 at hx;obtain ⟨a,ha,hx⟩:=aaG.mp hx;obtain ⟨b,hb,rfl⟩:=aaC.mp hx;obtain ⟨jc,jg⟩:=rF hj;obtain ⟨h1,h2⟩:=h j.1 jc;have m1:=h1.mem.1 a ha;have m2:=h2.mem.1 b hb;obtain ⟨u,v,hu,hv,e⟩:=mP j.2.1 m1 m2;obtain ⟨u',v',hu',hv',e'⟩:=mQ j.2.1 m1 m2;exact ⟨⟨_,mem_corn.mpr ⟨j.1,jc,j.2.1,jg,u,v,hu,hv,rfl⟩,e⟩,⟨_,mem_corn.mpr ⟨j.1,jc,j.2.1,jg,u',v',hu',hv',rfl⟩,e'⟩⟩
  · intro v hv;obtain ⟨c,hc,g,hg,a,b,ha,hb,rfl⟩:=mem_corn.mp hv;obtain ⟨h1,h2⟩:=h c hc;obtain ⟨j,hj,rfl,rfl⟩:=pH (p:=q) (cs:=aQ q) (st:=0) hg hc;have x1:∃ x∈L (q.1,j.1),x.1=a:=by
      rcases ha with rfl|rfl
      · exact h1.mem.2.1
      · exact h1.mem.2.2
    have x2:∃ x∈L (j.1+1,q.2),x.1=b:=by
      rcases hb with rfl|rfl
      · exact h2.mem.2.1
      · exact h2.mem.2.2
    obtain ⟨x,hx,rfl⟩:=x1;obtain ⟨y,hy,rfl⟩:=x2;refine ⟨(j.2.1.op x.1 y.1,j.2.2.1+x.2 * j.2.2.2+y.2),?_,rfl⟩;unfold fO;refine aaG.mpr ⟨j,hj,?_⟩;unfold jp2 jp1;exact aaG.mpr ⟨x,hx,aaC.mpr ⟨y,hy,rfl⟩⟩
theorem tF {ns:List Int} {gs:List Sg} {L:Int × Int→List (Int × Int)} {E:Int × Int→Int × Int} {q:Int × Int} (hq:q.1 < q.2) (hg:gs≠[]) (pe:fL ns gs [] L q) (h:∀ c∈aQ q,jI L E (q.1,c)∧jI L E (c+1,q.2)) :
    ∃ lo hi,Ends L q lo hi∧lo∈bW E gs q∧hi∈bW E gs q∧∀ v∈bW E gs q,lo≤v∧v≤hi:=by
  obtain ⟨f1,f2⟩:=uR (ns:=ns) (gs:=gs) (Int.ne_of_lt hq) h;have hne:fnd ns gs L q≠[]:=fun z=>by
    obtain ⟨g,hg⟩:∃ g,g∈gs:=List.exists_mem_of_ne_nil _ hg;have hc:q.1∈aQ q:=by
      unfold aQ;exact aaC.mpr ⟨0,aaB.mpr (by lia),by simp⟩
    obtain ⟨x,hx,_⟩:=f2 _ (mem_corn.mpr ⟨q.1,hc,g,hg,_,_,.inl rfl,.inl rfl,rfl⟩);rw [z] at hx;simp at hx
  obtain ⟨lo,hi,en,all,⟨x,hx,ex⟩,⟨y,hy,ey⟩⟩:=rm pe hne;have bd:∀ v∈bW E gs q,lo≤v∧v≤hi:=fun v hv=>by
    obtain ⟨z,hz,rfl⟩:=f2 v hv;exact all z hz
  refine ⟨lo,hi,en,?_,?_,bd⟩
  · obtain ⟨v,hv,le⟩:=(f1 x hx).1;have : v=lo:=by have:=(bd v hv).1;lia
    rw [← this];exact hv
  · obtain ⟨v,hv,le⟩:=(f1 y hy).2;have : v=hi:=by have:=(bd v hv).2;lia
    rw [← this];exact hv
open PySem L2
def nO:List Int→Int
  | []=>0
  | [x]=>x
  | x :: r=>min x (nO r)
def nV:List Int→Int
  | []=>0
  | [x]=>x
  | x :: r=>max x (nV r)
theorem nN:∀ {l:List Int},l≠[]→nO l∈l∧∀ x∈l,nO l≤x
  | [],h=>absurd rfl h
  | [x],_=>⟨aaj.mpr rfl,fun y hy=>by rw [aaj.mp hy];exact aav _⟩
  | x :: y :: r,_=>by
    obtain ⟨h1,h2⟩:=nN (l:=y :: r) (by simp);have e:nO (x :: y :: r)=min x (nO (y :: r)):=rfl;rw [e];refine ⟨?_,fun z hz=>?_⟩
    · by_cases c:x≤nO (y :: r)
      · rw [Int.min_eq_left c];exact aai
      · rw [Int.min_eq_right (by lia)];exact aae _ h1
    · rcases aam.mp hz with rfl|hz
      · exact Int.min_le_left _ _
      · exact ab5 (Int.min_le_right _ _) (h2 z hz)
theorem nU:∀ {l:List Int},l≠[]→nV l∈l∧∀ x∈l,x≤nV l
  | [],h=>absurd rfl h
  | [x],_=>⟨aaj.mpr rfl,fun y hy=>by rw [aaj.mp hy];exact aav _⟩
  | x :: y :: r,_=>by
    obtain ⟨h1,h2⟩:=nU (l:=y :: r) (by simp);have e:nV (x :: y :: r)=max x (nV (y :: r)):=rfl;rw [e];refine ⟨?_,fun z hz=>?_⟩
    · by_cases c:x≤nV (y :: r)
      · rw [Int.max_eq_right c];exact aae _ h1
      · rw [Int.max_eq_left (by lia)];exact aai
    · rcases aam.mp hz with rfl|hz
      · exact Int.le_max_left _ _
      · exact ab5 (h2 z hz) (Int.le_max_right _ _)
theorem vX {l:List Int} {m:Int} (hm:m∈l) (h:∀ x∈l,m≤x):nO l=m:=by
  obtain ⟨h1,h2⟩:=nN (acf hm);have:=h _ h1;have:=h2 _ hm;lia
theorem v4 {l:List Int} {m:Int} (hm:m∈l) (h:∀ x∈l,x≤m):nV l=m:=by
  obtain ⟨h1,h2⟩:=nU (acf hm);have:=h _ h1;have:=h2 _ hm;lia
def EnF (ns:List Int) (gs:List Sg):Nat→Int × Int→Int × Int
  | 0,q=>(ns.getD q.1.toNat 0,ns.getD q.1.toNat 0)
  | n+1,q=>if q.1=q.2 then (ns.getD q.1.toNat 0,ns.getD q.1.toNat 0) else (nO (bW (EnF ns gs n) gs q),nV (bW (EnF ns gs n) gs q))
def En (ns:List Int) (gs:List Sg) (q:Int × Int):Int × Int:=EnF ns gs (q.2 - q.1).toNat q
theorem jF {E E':Int × Int→Int × Int} {gs:List Sg} {q:Int × Int} (h:∀ c∈aQ q,E (q.1,c)=E' (q.1,c)∧E (c+1,q.2)=E' (c+1,q.2)):bW E gs q=bW E' gs q:=by
  unfold bW;rw [List.flatMap_def,List.flatMap_def];congr 1;refine ab2 fun c hc=>?_;rw [(h c hc).1,(h c hc).2]
theorem fK {q:Int × Int} {c:Int} (h:c∈aQ q):q.1≤c∧c < q.2:=by
  unfold aQ at h;obtain ⟨k,hk,rfl⟩:=aaC.mp h;have:=aaB.mp hk;lia
theorem pT (ns:List Int) (gs:List Sg):∀ (n:Nat) (q:Int × Int),q.1≤q.2→(q.2 - q.1).toNat≤n→EnF ns gs n q=En ns gs q:=by
  intro n
  induction n using Nat.strongRecOn with
  | _ n ih =>
    intro q h1 h2;by_cases e:q.1=q.2
    · have e0:(q.2 - q.1).toNat=0:=by lia
      unfold En;rw [e0];cases n with
      | zero=>rfl
      | succ n=>unfold EnF;rw [if_pos e]
    · obtain ⟨m,hm⟩:∃ m,(q.2 - q.1).toNat=m+1:=⟨(q.2 - q.1).toNat - 1,by lia⟩
      obtain ⟨k,hk⟩:∃ k,n=k+1:=⟨n - 1,by lia⟩
      unfold En;rw [hm,hk];unfold EnF;rw [if_neg e,if_neg e];have : bW (EnF ns gs k) gs q=bW (EnF ns gs m) gs q:=jF fun c hc=>by
        have:=fK hc;rw [ih k (by lia) (q.1,c) (by simp only;lia) (by simp only;lia),ih k (by lia) (c+1,q.2) (by simp only;lia) (by simp only;lia)];by_cases hmk:m < n
        · rw [ih m hmk (q.1,c) (by simp only;lia) (by simp only;lia),ih m hmk (c+1,q.2) (by simp only;lia) (by simp only;lia)];exact ⟨rfl,rfl⟩
        · lia
      rw [this]
theorem vA (ns:List Int) (gs:List Sg) {q:Int × Int} (h:q.1=q.2):En ns gs q=(ns.getD q.1.toNat 0,ns.getD q.1.toNat 0):=by
  unfold En;have e0:(q.2 - q.1).toNat=0:=by lia
  rw [e0];rfl
theorem vB (ns:List Int) (gs:List Sg) {q:Int × Int} (h:q.1 < q.2):En ns gs q=(nO (bW (En ns gs) gs q),nV (bW (En ns gs) gs q)):=by
  obtain ⟨m,hm⟩:∃ m,(q.2 - q.1).toNat=m+1:=⟨(q.2 - q.1).toNat - 1,by lia⟩
  have : bW (EnF ns gs m) gs q=bW (En ns gs) gs q:=jF fun c hc=>by
    have:=fK hc;exact ⟨pT ns gs m _ (by simp only;lia) (by simp only;lia),pT ns gs m _ (by simp only;lia) (by simp only;lia)⟩
  show EnF ns gs (q.2 - q.1).toNat q=_;rw [hm];unfold EnF;rw [if_neg (Int.ne_of_lt h),this]
theorem wj {E:Int × Int→Int × Int} {gs:List Sg} {q:Int × Int} (hq:q.1 < q.2) (hg:gs≠[]):bW E gs q≠[]:=fun z=>by
  obtain ⟨g,hg⟩:∃ g,g∈gs:=List.exists_mem_of_ne_nil _ hg;have hc:q.1∈aQ q:=by
    unfold aQ;exact aaC.mpr ⟨0,aaB.mpr (by lia),by simp⟩
  have : g.op (E (q.1,q.1)).1 (E (q.1+1,q.2)).1∈bW E gs q:=mem_corn.mpr ⟨q.1,hc,g,hg,_,_,.inl rfl,.inl rfl,rfl⟩;rw [z] at this;simp at this
theorem rN {ns:List Int} {gs:List Sg} {L:Int × Int→List (Int × Int)} (hg:gs≠[]) {n:Nat} (pe:∀ q∈sfl n n,fL ns gs [] L q):∀ (m:Nat) (q:Int × Int),0≤q.1→q.1≤q.2→q.2 < n→(q.2 - q.1).toNat≤m→jI L (En ns gs) q:=by
  have mem:∀ q:Int × Int,0≤q.1→q.1≤q.2→q.2 < n→q∈sfl n n:=fun q h0 h1 h2=>by
    have:=dM n q.1.toNat q.2.toNat (by lia) (by lia)
    rwa [show ((q.1.toNat:Nat):Int)=q.1 by lia,show ((q.2.toNat:Nat):Int)=q.2 by lia] at this
  intro m
  induction m with
  | zero =>
    intro q h0 h1 h2 hm;have e:q.1=q.2:=by lia
    have hf:fnd ns gs L q=[(ns.getD q.1.toNat 0,0)]:=by unfold fnd;rw [if_pos e]
    obtain ⟨lo,hi,en,all,⟨x,hx,ex⟩,⟨y,hy,ey⟩⟩:=rm (pe q (mem q h0 h1 h2)) (by rw [hf];simp);rw [hf] at hx hy;rw [aaj.mp hx] at ex;rw [aaj.mp hy] at ey;unfold jI;rw [vA ns gs e];simp only at ex ey ⊢;rw [← ex,← ey] at en;exact en
  | succ m ih =>
    intro q h0 h1 h2 hm;by_cases e:(q.2 - q.1).toNat≤m
    · exact ih q h0 h1 h2 e
    · have hlt:q.1 < q.2:=by lia
      obtain ⟨lo,hi,en,l1,l2,all⟩:=tF hlt hg (pe q (mem q h0 h1 h2)) (E:=En ns gs) fun c hc=>by
        have:=fK hc;exact ⟨ih (q.1,c) h0 (by simp only;lia) (by simp only;lia) (by simp only;lia),ih (c+1,q.2) (by simp only;lia) (by simp only;lia) h2 (by simp only;lia)⟩
      unfold jI;rw [vB ns gs hlt];simp only;rw [vX l1 fun v hv=>(all v hv).1,v4 l2 fun v hv=>(all v hv).2];exact en
def Rb (ns:List Int) (gs:List Sg) (H:Hp) (q:Int × Int) (kv:List Key × V):Prop:=kv.1=ky q∧∃ t,kv.2=.ref t∧H t=some (.tup [.int (En ns gs q).1,.int (En ns gs q).2])
def BdIn (ns:List Int) (gs:List Sg) (H:Hp) (qs:List (Int × Int)) (kvs:List (List Key × V)):Prop:=Paired (Rb ns gs H) qs kvs
theorem BdIn.mono {ns:List Int} {gs:List Sg} {H H':Hp} (t:Tups H H') {qs:List (Int × Int)} {kvs:List (List Key × V)} (h:BdIn ns gs H qs kvs):BdIn ns gs H' qs kvs:=by
  unfold BdIn at h ⊢
  induction h with
  | nil=>exact .nil
  | cons r _ ih=>obtain ⟨e,a,e2,e3⟩:=r;exact .cons ⟨e,a,e2,t _ _ e3⟩ ih
theorem BdIn.keys {ns:List Int} {gs:List Sg} {H:Hp} {qs:List (Int × Int)} {kvs:List (List Key × V)} (h:BdIn ns gs H qs kvs):kvs.map (·.1)=qs.map ky:=by
  unfold BdIn at h
  induction h with
  | nil=>rfl
  | cons r _ ih=>rw [aaO,aaO,ih,r.1]
theorem j6:∀ {kvs:List (List Key × V)} {k:List Key} {v:V},(kvs.map (·.1)).Nodup→(k,v)∈kvs→cE kvs k=some v
  | [],_,_,_,h=>nomatch h
  | p :: r,k,v,hn,h=>by
    rw [aaO,List.nodup_cons] at hn;rcases aam.mp h with e|h
    · subst e;unfold cE;rw [abu,decide_eq_true rfl];rfl
    · have ne:p.1≠k:=fun e=>hn.1 (aaC.mpr ⟨(k,v),h,e.symm⟩);have:=j6 hn.2 h;unfold cE at this ⊢;rw [abu,decide_eq_false ne];exact this
theorem o8 {qs:List (Int × Int)} (h:qs.Nodup):(qs.map ky).Nodup:=by
  induction h with
  | nil=>exact List.nodup_nil
  | @cons q r hq _ ih =>
    rw [aaO,List.nodup_cons];refine ⟨fun z=>?_,ih⟩;obtain ⟨q',hq',e⟩:=aaC.mp z;exact hq q' hq' (kM e).symm
section
variable {P:Program} {w:World} {K:aaa} {mg:Str→Option Value} {base:Heap} {f:Addr} {fd:FuncData}
def kg (T:Addr):Sp:=fun vs H Q _=>∃ (r:Addr) (ns:List Int) (gs:List Sg),vs=[.ref r,.str (aD gs)]∧H r=some (.lst (ns.map V.int))∧1≤ns.length∧ns.length≤9∧1≤gs.length∧gs.length≤3∧cY gs∧iP ns∧LT T H ∧
  ∀ pb kvs H',But T H H'→LT T H'→H pb=none→H' pb=some (.dT kvs)→BdIn ns gs H' (sfl ns.length ns.length) kvs→Q (.ref pb) H'
abbrev fW:Stmt:=top 42
theorem iB:FnScope ["row","signs","picks"] ["row","signs"] (am fW):=⟨rfl,rfl,rfl,by decide +kernel,rfl,by decide +kernel,by decide +kernel⟩
theorem nM {T aE:Addr} (F:Fun K "bounds_of" "bounds_of" fW f fd) (B:Bu K mg) (hE:∀ H,SqT K H aE []) (C_need_row:Cal P w K mg base "need_row" 3 ["thing"] dq) (C_need_signs:Cal P w K mg base "need_signs" 2 ["thing"] cc)
    (C_picks_by_stretch:wE P w K mg base "picks_by_stretch" 5 ["row","signs","left_out"] (mf (K:=K) T) [.ref aE]):FnOk P w K mg base CX0 6 f fd ["row","signs"] (kg T):=by
  refine F.ok iB (fun vs H Q E h=>?_) (fun cdv A outer s H vs Q E hr h=>?_)
  · obtain ⟨r,ns,gs,rfl,_⟩:=h;rfl
  obtain ⟨r,ns,gs,rfl,er,h1,h9,g1,g3,hs,sm,hT,q⟩:=h;refine ⟨_,(@ag _ _ _ _ _ (@aX _ _ _ _ (@aj _ _ _ _ _ _ _ _ _ _ _ C_need_row hr (by lia) rfl (@aa _ _ _ _ _ (pv 0) ac (by rfl)) (by decide) (by rfl) (by rfl)) (by rfl)) (@ag _ _ _ _ _ (@aX _ _ _ _ (@aj _ _ _ _ _ _ _ _ _ _ _ C_need_signs hr (by lia) rfl (@aa _ _ _ _ _ (pv 1) ac (by rfl)) (by decide) (by rfl) (by rfl)) (by rfl)) (@ag _ _ _ _ _ (@aH _ _ (2) _ _ _ _ (iB).nd rfl (Or.inl rfl) (@rz _ _ _ _ _ _ _ _ _ _ _ _ C_picks_by_stretch hr (by lia) rfl (@aa _ _ _ _ _ (pv 0) (@aa _ _ _ _ _ (pv 1) ac (by rfl)) (by rfl)) (by decide) (by rfl) (by rfl)) (by rfl) (by first|exact .inl rfl|exact .inr rfl|assumption)) (@ak _ _ _ (@au _ _ _ _ (@vN _ _ _ (@yn _ (.dT []) _ _ _ _ _ _ _ _ (["stretch","first","least","greatest"]) ([none,none,none,none]) _ _ _ _ _ (Or.inr rfl) (u1 hr.units) rfl (@uc _ _ _ _ _ _ _ _ (pv 2) (by rfl) (by rfl)) rfl trivial trivial (fun _ _ _ _=>⟨(@fB _ _ _ _ _ _ (2) rfl rfl (@az _ _ _ _ _ (@ao _ _ (0) _ (show aaM (["stretch","first","least","greatest"]:List Str) by decide +kernel) rfl (Or.inl rfl) (.inr rfl)) (@az _ _ _ _ _ (@fB _ _ _ _ _ _ (3) rfl rfl (@az _ _ _ _ _ (@ao _ _ (1) _ (show aaM (["stretch","first","least","greatest"]:List Str) by decide +kernel) rfl (Or.inl rfl) (.inr rfl)) (@az _ _ _ _ _ (@ao _ _ (2) _ (show aaM (["stretch","first","least","greatest"]:List Str) by decide +kernel) rfl (Or.inl rfl) (.inr rfl)) (@az _ _ _ _ _ (@ao _ _ (3) _ (show aaM (["stretch","first","least","greatest"]:List Str) by decide +kernel) rfl (Or.inl rfl) (.inr rfl)) a8 (by rfl)) (by rfl)) (by rfl)) (by rfl) (by rfl)) a8 (by rfl)) (by rfl)) (by rfl) (by rfl)),bt,(pv 0),(@aY _ _ _ _ _ (@aa _ _ _ _ _ (@aI _ _ _ _ _ _ _ (@fI _ _ rfl) (pv 2) ai (fun _ _=>rfl)) (@aa _ _ _ _ _ (@aI _ _ _ _ _ _ _ (@fI _ _ rfl) (pv 3) ai (fun _ _=>rfl)) ac (by rfl)) (by rfl)))⟩) (by rfl) (by rfl) (by rfl) (by rfl) (by intro _;rfl)))))))),?_⟩;refine ⟨_,rfl,r,ns,rfl,er,h1,h9,fun H1 s1=>?_⟩;refine ⟨_,rfl,gs,rfl,hs,?_⟩;have hT1:LT T H1:=by obtain ⟨tp,h⟩:=hT;exact ⟨tp,s1 _ _ h.tab,h.tri,fun pos' cv hc=>by obtain ⟨d,e1,e2⟩:=h.cds pos' cv hc;exact ⟨d,e1,s1 _ _ e2⟩⟩
  refine ⟨_,rfl,_,rfl,r,ns,gs,aE,[],[],rfl,s1 _ _ er,h1,h9,g1,g3,sm,.inr hE,.nil,hT1,fun pk kvs L H2 b2 hT2 nk ek hks hq=>?_⟩;have nd:(kvs.map (·.1)).Nodup:=by rw [hks];exact o8 (gz ns.length h9)
  have gne:gs≠[]:=fun z=>by rw [z] at g1;simp at g1
  have ends:∀ q∈sfl ns.length ns.length,jI L (En ns gs) q:=fun q hqm=>by
    have hg:=iA ns.length q hqm;exact rN gne (fun q hq'=>(hq q hq').2) _ q hg.1 hg.2.1 hg.2.2 (aag _)
  have lk:kvs.length=(sfl ns.length ns.length).length:=by have:=congrArg abZ hks;rwa [aaf,aaf] at this
  have l81:=iz ns.length ns.length;have l81':ns.length * ns.length≤9 * 9:=abn h9 h9;obtain ⟨tp2,T2⟩:=hT2;have nkT:pk≠T:=fun e=>by rw [e,T2.tab] at ek;cases ek
  refine ⟨_,rfl,pk,rfl,.inl ⟨kvs,ek,fun o=>?_⟩⟩;have S3:∀ b ob,b≠pk→H2 b=some ob→upd H2 pk (.frz o (.dT kvs)) b=some ob:=fun b ob hb e=>by rw [aq hb];exact e
  have e3:upd H2 pk (.frz o (.dT kvs)) pk=some (.frz o (.dT kvs)):=af;have N3:∀ p,upd H2 pk (.frz o (.dT kvs)) p=none→p≠pk∧H2 p=none:=fun p hp=>by
    have : p≠pk:=fun e=>by rw [e,af] at hp;cases hp
    rw [aq this] at hp;exact ⟨this,hp⟩
  generalize upd H2 pk (.frz o (.dT kvs))=H3 at S3 e3 N3 ⊢;refine yB Trn.items (fun p i H'=>Same H3 H'∧∃ kv2,H' p=some (.dT kv2)∧BdIn ns gs H' ((sfl ns.length ns.length).take i) kv2) (fun p hp=>⟨Same.new hp _,[],af,.nil⟩) (fun p i H' hi z=>z.1 _ _ e3) (fun p i x H4 H' hp hi it z Nx nx=>?_) (fun p H4 hp z=>?_)
  · obtain ⟨S4,kv2,e4,hb⟩:=z;obtain ⟨pp,k,y,npp,rfl,rfl,kv,b,hkv,rfl,rfl,ekb⟩:=it;have hi':i < (sfl ns.length ns.length).length:=by lia
    obtain ⟨p1,hp1⟩:∃ p1,(sfl ns.length ns.length)[i]?=some p1:=⟨_,aac hi'⟩
    have ekv:kv.1=ky p1:=by
      have:=congrArg (·[i]?) hks;simp only [aaL,hkv,hp1,abQ] at this;exact aaR this
    have hpm:=aax hp1;obtain ⟨⟨t,xs,vt,et,hx⟩,_⟩:=hq p1 hpm;have ev:cE kvs kv.1=some kv.2:=j6 nd (aax hkv);rw [ekv,vt] at ev;have ev:V.ref t=kv.2:=aaR ev;obtain ⟨fv,av,bv,eL,ea,eb,_⟩:=ends p1 hpm;rw [eL] at hx;cases hx with
    | cons hf hx =>
    cases hx with
    | cons ha hx =>
    cases hx with
    | cons hb' hx =>
    cases hx;obtain ⟨a1,rfl,ea1⟩:=ha;obtain ⟨b1,rfl,eb1⟩:=hb';obtain ⟨f1,rfl,ef1⟩:=hf;have st:=Same.new npp (.tup [.ref b,kv.2]);have up:∀ c o',c≠pk→H2 c=some o'→upd H4 pp (.tup [.ref b,kv.2]) c=some o':=fun c o' hc e=>st _ _ (S4 _ _ (S3 c o' hc e));have tk:∀ {c:Addr} {xs:List V},H2 c=some (.tup xs)→c≠pk:=fun {c xs} e z=>by rw [z,ek] at e;cases e
    have et':=up _ _ (tk et) et;have ea':=up _ _ (tk ea1) ea1;have eb':=up _ _ (tk eb1) eb1;have npp4:p≠pp:=aF e4 npp;have e4':=st _ _ e4;refine ⟨pp,_,rfl,SqT.of af,rfl,_,_,rfl,?_⟩;refine ⟨_,_,rfl,t,_,ev.symm,SqT.of et',rfl,_,_,rfl,_,_,rfl,_,_,rfl,rfl,rfl,?_⟩;refine ⟨_,rfl,_,rfl,a1,_,_,_,rfl,rfl,SqT.of ea',rfl,_,rfl,b1,_,_,_,rfl,rfl,SqT.of eb',rfl,(by show 2≤sizeLine;decide),fun u hu=>?_⟩;have su:=Same.new hu (.tup [.int av.1,.int bv.1]);have nup:p≠u:=aF e4' hu;have ekb':=su _ _ (st _ _ ekb);have lk2:=aa9 hb;rw [aas] at lk2;refine ⟨_,DPut.t (su _ _ e4') ekb' (aJ (by lia)),nx _ ⟨?_,_,af,?_⟩⟩
    · intro c o' hc;rw [aq (fun e=>by rw [e,hp] at hc;cases hc)];exact su _ _ (st _ _ (S4 _ _ hc))
    · have kk:=hb.keys;have pnew:ky p1∉kv2.map (·.1):=fun z=>by
        rw [kk] at z;obtain ⟨q',hq',e⟩:=aaC.mp z;have e:=kM e;subst e;obtain ⟨k,hk⟩:=acr.mp hq';have hk1:k < i:=by
          have:=(aak.mp hk).1;rw [aas] at this;lia
        rw [abE hk1] at hk;obtain ⟨h1',e1'⟩:=aak.mp hk;obtain ⟨h2',e2'⟩:=aak.mp hp1;exact aaX.mp (gz ns.length h9) k i h1' h2' hk1 (by rw [e1',e2'])
      rw [ekv,oN pnew,aaP,hp1];have TT:Tups H4 (upd (upd (upd H4 pp (.tup [.ref b,kv.2])) u (.tup [.int av.1,.int bv.1])) p (.dT (kv2++[(ky p1,.ref u)]))):=fun c xs hc=>by
        rw [aq (fun e=>by rw [e,e4] at hc;cases hc)];exact su _ _ (st _ _ hc)
      refine Paired.app (BdIn.mono TT hb) (.cons ⟨rfl,u,rfl,?_⟩ .nil);rw [aq nup.symm,af,ea,eb]
  · obtain ⟨S4,kv2,e4,hb⟩:=z;obtain ⟨np1,np2⟩:=N3 p hp;have ek4:=S4 _ _ e3;have nf:qU H2 pk:=fun o' v' e=>by rw [ek] at e;cases e
    refine ⟨pk,o,.dT kvs,nf,ek4,?_⟩;have np0:p≠T:=fun e=>by rw [e,T2.tab] at np2;cases np2
    have keep:∀ c o',c≠pk→H2 c=some o'→upd H4 pk (.dT kvs) c=some o':=fun c o' hc e=>by rw [aq hc];exact S4 _ _ (S3 c o' hc e)
    have nkH:H pk=none:=s1.free nk;refine q p kv2 _ (fun c o' hc e=>?_) ⟨tp2,keep _ _ nkT.symm T2.tab,T2.tri,fun pos' cv hc=>?_⟩ ?_ ?_ ?_
    · exact keep _ _ (aF e nkH) (b2 _ _ hc (s1 _ _ e))
    · obtain ⟨d,e1,e2⟩:=T2.cds pos' cv hc;exact ⟨d,e1,keep _ _ (fun e=>by rw [e,ek] at e2;cases e2) e2⟩
    · cases eH:H p with
      | none=>rfl
      | some o'=>rw [b2 _ _ np0 (s1 _ _ eH)] at np2;cases np2
    · rw [aq np1];exact e4
    · have hb:BdIn ns gs H4 (sfl ns.length ns.length) kv2:=by rw [lk,aaQ] at hb;exact hb
      refine BdIn.mono (fun c xs hc=>?_) hb;rw [aq (fun e=>by rw [e,ek4] at hc;cases hc)];exact hc
end
open PySem L2
theorem BdIn.get {ns:List Int} {gs:List Sg} {H:Hp} {qs:List (Int × Int)} {kvs:List (List Key × V)} (h:BdIn ns gs H qs kvs) (nd:qs.Nodup) {q:Int × Int} (hq:q∈qs):∃ t,cE kvs (ky q)=some (.ref t)∧H t=some (.tup [.int (En ns gs q).1,.int (En ns gs q).2]):=by
  have nk:(kvs.map (·.1)).Nodup:=by rw [h.keys];exact o8 nd
  have key:∀ {qs:List (Int × Int)} {l:List (List Key × V)},Paired (Rb ns gs H) qs l→q∈qs→∃ kv∈l,Rb ns gs H q kv:=by
    intro qs l h
    induction h with
    | nil=>intro hq;simp at hq
    | cons r _ ih =>
      intro hq;rcases aam.mp hq with rfl|hq
      · exact ⟨_,aai,r⟩
      · obtain ⟨kv,hkv,r'⟩:=ih hq;exact ⟨kv,aae _ hkv,r'⟩
  obtain ⟨kv,hkv,e1,t,e2,e3⟩:=key h hq;refine ⟨t,?_,e3⟩;rw [← e1,← e2];exact j6 nk hkv
theorem yo (g:Sg) {a b:Int} {m n:Nat} (hm:1≤m) (hn:1≤n) (ha:a.natAbs≤10 ^ (30 * m)) (hb:b.natAbs≤10 ^ (30 * n)):(g.op a b).natAbs≤10 ^ (30 * (m+n)):=by
  have tp:=qX hm hn;have em:10 ^ (30 * (m+n))=10 ^ (30 * m) * 10 ^ (30 * n):=by rw [← Nat.pow_add];congr 1;lia
  generalize 10 ^ (30 * m)=x at ha tp em ⊢;generalize 10 ^ (30 * n)=y at hb tp em ⊢;generalize 10 ^ (30 * (m+n))=z at tp em ⊢;cases g with
  | plus=>show (a+b).natAbs≤z;lia
  | minus=>show (a - b).natAbs≤z;lia
  | times=>show (a * b).natAbs≤z;rw [Int.natAbs_mul,em];exact abn ha hb
section
variable {P:Program} {w:World} {K:aaa} {mg:Str→Option Value} {base:Heap} {f:Addr} {fd:FuncData}
end
open PySem L2
theorem mO (xs:List V) (c:Nat) (h:c≤xs.length):ju xs none (some (c:Int))=xs.take c:=by
  have e0:HT.sIx xs.length 0 none=0:=by simp [HT.sIx]
  have e1:HT.sIx xs.length xs.length (some (c:Int))=c:=by
    simp only [HT.sIx];split <;> lia
  unfold ju;rw [e0,e1,List.drop_zero];rfl
theorem pP (xs:List V) (c:Nat):ju xs none (some (c:Int))=xs.take c:=by
  by_cases h:c≤xs.length
  · exact mO xs c h
  · have e0:HT.sIx xs.length 0 none=0:=by simp [HT.sIx]
    have e1:HT.sIx xs.length xs.length (some (c:Int))=xs.length:=by
      simp only [HT.sIx];split <;> lia
    unfold ju;rw [e0,e1,List.drop_zero,Nat.sub_zero,aaQ,abh (by lia)]
theorem tI (xs:List V) (c:Nat) (h:c≤xs.length):ju xs (some (c:Int)) none=xs.drop c:=by
  have e0:HT.sIx xs.length xs.length none=xs.length:=by simp [HT.sIx]
  have e1:HT.sIx xs.length 0 (some (c:Int))=c:=by
    simp only [HT.sIx];split <;> lia
  unfold ju;rw [e0,e1,abh (by rw [aaY];exact aag _)]
def Wy.within (gs:List Sg):Wy→Prop
  | .num _=>True
  | .node g l r=>g∈gs∧l.within gs∧r.within gs
def awC (a:List Int→List Wy) (gs:List Sg) (ns:List Int) (c:Nat):List Wy:=gs.flatMap fun g=>(a (ns.take c)).flatMap fun l=>(a (ns.drop c)).map fun r=>Wy.node g l r
def aw:Nat→List Sg→List Int→List Wy
  | 0,_,_=>[]
  | n+1,gs,ns=>if ns.length=1 then ns.map Wy.num else (aaI (ns.length - 1)).flatMap fun k=>awC (aw n gs) gs ns (k+1)
def lw:Nat→Nat→Nat→Nat
  | 0,_,_=>0
  | n+1,s,m=>if m=1 then 1 else ((aaI (m - 1)).map fun k=>s * (lw n s (k+1) * lw n s (m - (k+1)))).sum
theorem io {α β:Type} (l:List α) (f:α→List β) (c:Nat) (h:∀ x∈l,(f x).length=c):(l.flatMap f).length=l.length * c:=by
  induction l with
  | nil=>simp
  | cons a r ih =>
    rw [abS,aap,h a aai,ih fun x hx=>h x (aae _ hx),aaS,act];lia
theorem wq (a:List Int→List Wy) (gs:List Sg) (ns:List Int) (c:Nat):(awC a gs ns c).length=gs.length * ((a (ns.take c)).length * (a (ns.drop c)).length):=by
  unfold awC;exact io _ _ _ fun g _=>io _ _ _ fun l _=>by rw [aaf]
theorem om:∀ (n:Nat) (gs:List Sg) (ns:List Int),(aw n gs ns).length=lw n gs.length ns.length
  | 0,_,_=>rfl
  | n+1,gs,ns=>by
    unfold aw lw;by_cases c:ns.length=1
    · rw [if_pos c,if_pos c,aaf,c]
    · rw [if_neg c,if_neg c,List.length_flatMap];congr 1;refine ab2 fun k hk=>?_;have hk:=aaB.mp hk;rw [wq,om n gs,om n gs,aas,aaY,Nat.min_eq_left (by lia)]
theorem dg (gs:List Sg) (w:Wy):∀ (n:Nat) (ns:List Int),1≤ns.length→ns.length≤n→(w∈aw n gs ns↔w.nums=ns∧w.within gs):=by
  intro n
  induction n generalizing w with
  | zero=>intro ns h1 h2;lia
  | succ n ih =>
    intro ns h1 h2;unfold aw;by_cases c:ns.length=1
    · rw [if_pos c];obtain ⟨i,rfl⟩:∃ i,ns=[i]:=List.length_eq_one_iff.mp c;constructor
      · intro h;simp at h;subst h;exact ⟨rfl,trivial⟩
      · rintro ⟨h,_⟩;cases w with
        | num j=>simp [Wy.nums] at h;subst h;simp
        | node g l r =>
          have:=congrArg abZ h;have a:=l.size_pos;have b:=r.size_pos;rw [Wy.nums_len] at this;have : l.size+r.size=1:=this;lia
    · rw [if_neg c,aaG];constructor
      · rintro ⟨k,hk,hw⟩;have hk:=aaB.mp hk;unfold awC at hw;obtain ⟨g,hg,hw⟩:=aaG.mp hw;obtain ⟨l,hl,hw⟩:=aaG.mp hw;obtain ⟨r,hr,rfl⟩:=aaC.mp hw;obtain ⟨e1,w1⟩:=(ih l (ns.take (k+1)) (by rw [aas];lia) (by rw [aas];lia)).mp hl;obtain ⟨e2,w2⟩:=(ih r (ns.drop (k+1)) (by rw [aaY];lia) (by rw [aaY];lia)).mp hr;exact ⟨by show l.nums++r.nums=ns;rw [e1,e2,List.take_append_drop],hg,w1,w2⟩
      · rintro ⟨h,hw⟩;cases w with
        | num j=>have:=congrArg abZ h;simp [Wy.nums] at this;lia
        | node g l r =>
          have h:l.nums++r.nums=ns:=h;have a:=l.size_pos;have b:=r.size_pos;have ll:=l.nums_len;have lr:=r.nums_len;have hlen:l.size+r.size=ns.length:=by rw [← h,aap,ll,lr]
          have e1:ns.take (l.size - 1+1)=l.nums:=by rw [← h,show l.size - 1+1=l.nums.length by lia,List.take_left]
          have e2:ns.drop (l.size - 1+1)=r.nums:=by rw [← h,show l.size - 1+1=l.nums.length by lia,List.drop_left]
          refine ⟨l.size - 1,aaB.mpr (by lia),?_⟩;unfold awC;refine aaG.mpr ⟨g,hw.1,aaG.mpr ⟨l,?_,aaC.mpr ⟨r,?_,rfl⟩⟩⟩
          · rw [e1];exact (ih l l.nums (by lia) (by lia)).mpr ⟨rfl,hw.2.1⟩
          · rw [e2];exact (ih r r.nums (by lia) (by lia)).mpr ⟨rfl,hw.2.2⟩
def Wy.wv:Wy→Int
  | .num i=>i
  | .node g l r=>g.op l.wv r.wv
def Wy.bd:Wy→Prop
  | .num i=>i.natAbs≤10 ^ (30 * 1)
  | .node g l r=>l.bd∧r.bd∧(g.op l.wv r.wv).natAbs≤10 ^ (30 * (l.size+r.size))
theorem Wy.wv_bd:∀ {w:Wy},w.bd→w.wv.natAbs≤10 ^ (30 * w.size)
  | .num _,h=>h
  | .node _ _ _,h=>h.2.2
theorem Wy.wv_lt (w:Wy) (h:w.bd) (hs:w.size≤9):w.wv.natAbs < 2 ^ 4000:=abA (Wy.wv_bd h) (jd hs)
theorem Wy.bd_of:∀ (w:Wy),iP w.nums→w.bd
  | .num i,h=>by
    have:=h i (by simp [Wy.nums]);have e10:(10:Nat) ^ (30 * 1)=1000000000000000000000000000000:=by decide
    show i.natAbs≤10 ^ (30 * 1);rw [e10];lia
  | .node g l r,h=>by
    have b1:=l.bd_of fun i hi=>h i (aaw _ hi);have b2:=r.bd_of fun i hi=>h i (aab _ hi);exact ⟨b1,b2,yo g l.size_pos r.size_pos (Wy.wv_bd b1) (Wy.wv_bd b2)⟩
section
variable {P:Program} {w:World} {K:aaa} {mg:Str→Option Value} {base:Heap} {f:Addr} {fd:FuncData}
end
open PySem L2
def slice (ns:List Int) (q:Int × Int):List Int:=(ns.drop q.1.toNat).take (q.2 - q.1+1).toNat
theorem cB {ns:List Int} {q:Int × Int} (h0:0≤q.1) (h1:q.1≤q.2) (h2:q.2 < ns.length):(slice ns q).length=(q.2 - q.1+1).toNat:=by
  unfold slice;rw [aas,aaY];lia
theorem mh {ns:List Int} {q:Int × Int} {c:Int} (h0:0≤q.1) (h1:q.1≤c) (h2:c < q.2):slice ns (q.1,c)++slice ns (c+1,q.2)=slice ns q:=by
  unfold slice;simp only;have e:(q.2 - q.1+1).toNat=(c - q.1+1).toNat+(q.2 - (c+1)+1).toNat:=by lia
  rw [e,List.take_add,List.drop_drop];congr 3;lia
theorem gx {ns:List Int} {q:Int × Int} (h0:0≤q.1) (h1:q.1=q.2) (h2:q.2 < ns.length):slice ns q=[ns.getD q.1.toNat 0]:=by
  unfold slice;have e:(q.2 - q.1+1).toNat=1:=by lia
  have hi:q.1.toNat < ns.length:=by lia
  rw [e,List.drop_eq_getElem_cons hi,List.take_succ_cons,List.take_zero,aau,aac hi];rfl
def prs (s n:Nat):Nat→Int
  | 0=>0
  | j+1=>prs s n j+(s:Int) * cn s (1+j) * cn s (n - (1+j))
theorem vL:∀ s≤3,∀ n≤9,2≤n→prs s n (n - 1)=cn s n:=by decide +kernel
theorem xO:∀ s≤3,cn s 1=1:=by decide +kernel
theorem t9 {s n:Nat} (hs:s≤3) (hn:n≤9) {j:Nat} (hj:j+1≤n - 1):prs s n j≤prs s n (j+1):=by
  show _≤prs s n j+(s:Int) * cn s (1+j) * cn s (n - (1+j));have a:=(gX s hs (1+j) (by lia)).1;have b:=(gX s hs (n - (1+j)) (by lia)).1;have c:=abe (abe (Int.natCast_nonneg s) a) b;lia
theorem f_ {s n:Nat} (hs:s≤3) (hn:n≤9) {i:Nat}:∀ {j:Nat},i≤j→j≤n - 1→prs s n i≤prs s n j
  | 0,h,_=>by rw [show i=0 by lia];exact aav _
  | j+1,h,hj=>by
    by_cases e:i=j+1
    · rw [e];exact aav _
    · exact ab5 (f_ hs hn (j:=j) (by lia) (by lia)) (t9 hs hn hj)
def Wy.nr (gs:List Sg):Wy→Int
  | .num _=>0
  | .node g l r=>prs gs.length (l.size+r.size) (l.size - 1)+((((gs.idxOf g:Nat):Int) * cn gs.length l.size+l.nr gs) * cn gs.length r.size+r.nr gs)
theorem qD {i s A C a c:Int} (i0:0≤i) (i1:i+1≤s) (a0:0≤a) (a1:a < A) (c0:0≤c) (c1:c < C) :
    0≤(i * A+a) * C+c∧(i * A+a) * C+c < s * A * C∧((i * A+a) * C+c) / C=i * A+a∧((i * A+a) * C+c) % C=c∧(i * A+a) / A=i∧(i * A+a) % A=a:=by
  have A0:0 < A:=by lia
  have C0:0 < C:=by lia
  have m0:0≤i * A+a:=Int.add_nonneg (abe i0 (abJ A0)) a0;have m1:i * A+a+1≤s * A:=by
    have:=aaD i1 (abJ A0);rw [abk,abl] at this;lia
  have m2:=aaD m1 (abJ C0);rw [abk,abl] at m2;have u1:=(Int.ediv_emod_unique C0 (a:=(i * A+a) * C+c) (q:=i * A+a) (r:=c)).mpr ⟨by rw [Int.mul_comm C,Int.add_comm],c0,c1⟩;have u2:=(Int.ediv_emod_unique A0 (a:=i * A+a) (q:=i) (r:=a)).mpr ⟨by rw [Int.mul_comm A,Int.add_comm],a0,a1⟩;exact ⟨Int.add_nonneg (abe m0 (abJ C0)) c0,by lia,u1.1,u1.2,u2.1,u2.2⟩
theorem kS {gs:List Sg} {g:Sg} (h:g∈gs):gs.idxOf g < gs.length∧gs[gs.idxOf g]?=some g:=by
  have h1:=List.idxOf_lt_length_of_mem h;exact ⟨h1,by rw [aac h1,List.getElem_idxOf h1]⟩
theorem Wy.nr_bd {gs:List Sg} (hs:gs.length≤3):∀ w:Wy,w.within gs→w.size≤9→0≤w.nr gs∧w.nr gs < cn gs.length w.size
  | .num i,_,_=>by
    show (0:Int)≤0∧(0:Int) < cn gs.length 1;rw [xO _ hs];decide
  | .node g l r,h,h9=>by
    have h9:l.size+r.size≤9:=h9;have l1:=l.size_pos;have r1:=r.size_pos;obtain ⟨a0,a1⟩:=Wy.nr_bd hs l h.2.1 (by lia);obtain ⟨c0,c1⟩:=Wy.nr_bd hs r h.2.2 (by lia);obtain ⟨i1,_⟩:=kS h.1;obtain ⟨e0,e1,_⟩:=qD (i:=((gs.idxOf g:Nat):Int)) (s:=gs.length) (by lia) (by lia) a0 a1 c0 c1;have p0:=f_ hs h9 (i:=0) (j:=l.size - 1) (aaN _) (by lia);have p0:0≤prs gs.length (l.size+r.size) (l.size - 1):=p0;have p1:=f_ hs h9 (i:=l.size - 1+1) (j:=l.size+r.size - 1) (by lia) (by lia);rw [vL _ hs _ h9 (by lia)] at p1;have p1:prs gs.length (l.size+r.size) (l.size - 1)+(gs.length:Int) * cn gs.length (1+(l.size - 1)) * cn gs.length (l.size+r.size - (1+(l.size - 1)))≤cn gs.length (l.size+r.size):=p1;rw [show 1+(l.size - 1)=l.size by lia,show l.size+r.size - l.size=r.size by lia] at p1;show 0≤prs _ _ _+_∧prs _ _ _+_ < cn gs.length (l.size+r.size);lia
section
variable {P:Program} {w:World} {K:aaa} {mg:Str→Option Value} {base:Heap} {f:Addr} {fd:FuncData}
def gZ (n:Nat):Sp:=fun vs H Q _=>∃ (gs:List Sg) (pr pc:Addr) (wy:Wy) (k:Nat),vs=[.ref pr,.str (aD gs),.ref pc,.int (wy.nr gs)]∧gs.length≤3∧H pr=some (.lst (wy.nums.map V.int))∧H pc=some (.lst ((cl gs.length k).map V.int))∧k≤8∧wy.size≤k+1∧wy.size≤n∧wy.within gs∧∀ v H',Same H H'→WyIn H' wy v→Q v H'
abbrev kq:Stmt:=top 33
theorem bP:FnScope ["row","signs","counts","number","many","left","both","right_number","place","left_number","left_way","right_way"] ["row","signs","counts","number"] (am kq):=⟨rfl,rfl,rfl,by decide +kernel,rfl,by decide +kernel,by decide +kernel⟩
theorem sQ (F:Fun K "way_at" "way_at" kq f fd) (bF:Binds K fd ["row","signs","counts","number"] []) (mF:mg "way_at" = some (.ref f)) (B:Bu K mg) (C_ways_by_cut:Cal P w K mg base "ways_by_cut" 1 ["signs","counts","left","right"] qY):∀ n,FnOk P w K mg base CX0 (n+2) f fd ["row","signs","counts","number"] (gZ n):=by
  intro n
  induction n with
  | zero =>
    refine ⟨fun vs H Q E h=>?_,fun A outer s H args us vs Q E _ _ _ _ h=>?_⟩
    · obtain ⟨gs,pr,pc,wy,k,rfl,_⟩:=h;rfl
    · obtain ⟨gs,pr,pc,wy,k,_,_,_,_,_,_,h2,_⟩:=h;have:=wy.size_pos;lia
  | succ n ih =>
    have C_way_at:Cal P w K mg base "way_at" (n+2) ["row","signs","counts","number"] (gZ n):=⟨f,fd,ih,bF,F.kp,mF⟩
    refine F.ok bP (fun vs H Q E h=>?_) (fun cdv A outer s H vs Q E hr h=>?_)
    · obtain ⟨gs,pr,pc,wy,k,rfl,_⟩:=h;rfl
    obtain ⟨gs,pr,pc,wy,k,rfl,hz,hr',hc,hk,hnk,hn,hwi,q⟩:=h;refine ⟨_,(@ag _ _ _ _ _ (@aH _ _ (4) _ _ _ _ (bP).nd rfl (Or.inl rfl) (@aA _ _ _ _ _ _ _ _ _ aB rfl B.ilen aay (@aa _ _ _ _ _ (pv 0) ac (by rfl)) (by decide) (by decide) (by rfl) (by rfl)) (by rfl) (by first|exact .inl rfl|exact .inr rfl|assumption)) (@ag _ _ _ _ _ (@bh _ _ _ _ _ _ _ _ (@aK _ _ _ _ _ _ _ _ eQ (pv 4) ai (aN _)) (@ak _ _ _ (@au _ _ _ _ (@aI _ _ _ _ _ _ _ aR (pv 0) ai (fun _ _=>rfl)))) aO) (@ag _ _ _ _ _ (@aH _ _ (5) _ _ _ _ (bP).nd rfl (Or.inl rfl) ai (by rfl) (by first|exact .inl rfl|exact .inr rfl|assumption)) (@ag _ _ _ _ _ (@oP _ _ _ _ _ _ aa4 (@aK _ _ _ _ _ _ _ _ wJ (pv 3) (@aj _ _ _ _ _ _ _ _ _ _ _ C_ways_by_cut hr (by lia) rfl (@aa _ _ _ _ _ (pv 1) (@aa _ _ _ _ _ (pv 2) (@aa _ _ _ _ _ (pv 5) (@aa _ _ _ _ _ (@aC _ _ _ _ _ _ _ _ bz (pv 4) (pv 5)) ac (by rfl)) (by rfl)) (by rfl)) (by rfl)) (by decide) (by rfl) (by rfl)) (aN _)) (@ag _ _ _ _ _ (@nG _ _ (3) _ _ _ _ _ _ (bP).nd rfl (Or.inl rfl) (@aj _ _ _ _ _ _ _ _ _ _ _ C_ways_by_cut hr (by lia) rfl (@aa _ _ _ _ _ (pv 1) (@aa _ _ _ _ _ (pv 2) (@aa _ _ _ _ _ (pv 5) (@aa _ _ _ _ _ (@aC _ _ _ _ _ _ _ _ bz (pv 4) (pv 5)) ac (by rfl)) (by rfl)) (by rfl)) (by rfl)) (by decide) (by rfl) (by rfl)) xJ (by first|exact .inl rfl|exact .inr rfl|assumption)) (@ak _ _ _ (@nG _ _ (5) _ _ _ _ _ _ (bP).nd rfl (Or.inl rfl) ai qM (by first|exact .inl rfl|exact .inr rfl|assumption))))) (@ag _ _ _ _ _ (@cy _ _ _ _ _ _ (@aA _ _ _ _ _ _ _ _ _ jH rfl B.idivmod PyProof.Rows.boot_divmod (@aa _ _ _ _ _ (pv 3) (@aa _ _ _ _ _ (@aI _ _ _ _ _ _ _ aR (pv 2) (@aC _ _ _ _ _ _ _ _ bz (pv 4) (pv 5)) (fun _ _=>rfl)) ac (by rfl)) (by rfl)) (by decide) (by decide) (by rfl) (by rfl)) (@cz _ _ _ _ _ _ rfl (@az _ _ _ _ _ (@ao _ _ (6) _ (bP).nd rfl (Or.inl rfl) (.inl rfl)) (@az _ _ _ _ _ (@ao _ _ (7) _ (bP).nd rfl (Or.inl rfl) (.inl rfl)) a8 (by rfl)) (by rfl)) (by rfl) (by rfl)) (by rfl) (by rfl) (by rfl)) (@ag _ _ _ _ _ (@cy _ _ _ _ _ _ (@aA _ _ _ _ _ _ _ _ _ jH rfl B.idivmod PyProof.Rows.boot_divmod (@aa _ _ _ _ _ (pv 6) (@aa _ _ _ _ _ (@aI _ _ _ _ _ _ _ aR (pv 2) (pv 5) (fun _ _=>rfl)) ac (by rfl)) (by rfl)) (by decide) (by decide) (by rfl) (by rfl)) (@cz _ _ _ _ _ _ rfl (@az _ _ _ _ _ (@ao _ _ (8) _ (bP).nd rfl (Or.inl rfl) (.inl rfl)) (@az _ _ _ _ _ (@ao _ _ (9) _ (bP).nd rfl (Or.inl rfl) (.inl rfl)) a8 (by rfl)) (by rfl)) (by rfl) (by rfl)) (by rfl) (by rfl) (by rfl)) (@ag _ _ _ _ _ (@aH _ _ (10) _ _ _ _ (bP).nd rfl (Or.inl rfl) (@aj _ _ _ _ _ _ _ _ _ _ _ C_way_at hr (by lia) rfl (@aa _ _ _ _ _ (@eJ _ _ _ _ _ _ _ _ _ _ gy (pv 0) gC (@gB _ _ _ (pv 5))) (@aa _ _ _ _ _ (pv 1) (@aa _ _ _ _ _ (pv 2) (@aa _ _ _ _ _ (pv 9) ac (by rfl)) (by rfl)) (by rfl)) (by rfl)) (by decide) (by rfl) (by rfl)) (by rfl) (by first|exact .inl rfl|exact .inr rfl|assumption)) (@ag _ _ _ _ _ (@aH _ _ (11) _ _ _ _ (bP).nd rfl (Or.inl rfl) (@aj _ _ _ _ _ _ _ _ _ _ _ C_way_at hr (by lia) rfl (@aa _ _ _ _ _ (@eJ _ _ _ _ _ _ _ _ _ _ gy (pv 0) (@gB _ _ _ (pv 5)) gC) (@aa _ _ _ _ _ (pv 1) (@aa _ _ _ _ _ (pv 2) (@aa _ _ _ _ _ (pv 7) ac (by rfl)) (by rfl)) (by rfl)) (by rfl)) (by decide) (by rfl) (by rfl)) (by rfl) (by first|exact .inl rfl|exact .inr rfl|assumption)) (@ak _ _ _ (@au _ _ _ _ (@aY _ _ _ _ _ (@aa _ _ _ _ _ (@aI _ _ _ _ _ _ _ xI (pv 1) (pv 8) (fun _ _=>rfl)) (@aa _ _ _ _ _ (pv 10) (@aa _ _ _ _ _ (pv 11) ac (by rfl)) (by rfl)) (by rfl))))))))))))),?_⟩;have zl:(aD gs).length=gs.length:=dL gs;refine ⟨_,rfl,pr,_,rfl,.inl (SqL.of hr'),?_⟩;rw [aaf,wy.nums_len];cases wy with
    | num a =>
      refine ⟨_,rfl,rfl,true,congrArg V.bl (decide_eq_true rfl),bV ?_⟩;exact ⟨_,rfl,pr,_,_,_,rfl,rfl,SqL.of hr',rfl,q _ _ (Same.refl _) rfl⟩
    | node g l r =>
    have l1:=l.size_pos;have r1:=r.size_pos;have hnk:l.size+r.size≤k+1:=hnk;have hn:l.size+r.size≤n+1:=hn;have h9:l.size+r.size≤9:=by lia
    obtain ⟨N,hN⟩:∃ N,N=l.size+r.size:=⟨_,rfl⟩
    show _;have eN:(Wy.node g l r).size=N:=by rw [hN];rfl
    rw [eN];refine ⟨_,rfl,rfl,false,congrArg V.bl (decide_eq_false (fun e=>by injection e with e;lia)),bi ?_⟩;have bd:=gX gs.length hz;obtain ⟨a0,a1⟩:=Wy.nr_bd hz l hwi.2.1 (by lia);obtain ⟨c0,c1⟩:=Wy.nr_bd hz r hwi.2.2 (by lia);obtain ⟨i1,ig⟩:=kS hwi.1;obtain ⟨x0,hx0⟩:∃ x0,x0=(((gs.idxOf g:Nat):Int) * cn gs.length l.size+l.nr gs) * cn gs.length r.size+r.nr gs:=⟨_,rfl⟩
    obtain ⟨e0,e1,e2,e3,e4,e5⟩:=qD (i:=((gs.idxOf g:Nat):Int)) (s:=gs.length) (by lia) (by lia) a0 a1 c0 c1;rw [← hx0] at e0 e1 e2 e3;have enr:(Wy.node g l r).nr gs=prs gs.length N (l.size - 1)+x0:=by rw [hN,hx0];rfl
    rw [enr];obtain ⟨p0,hp0⟩:∃ p0,p0=prs gs.length N (l.size - 1):=⟨_,rfl⟩
    rw [← hp0];refine ⟨fun mm σ H'=>∃ (j:Nat) (x:Int),σ=[some (.ref pr),some (.str (aD gs)),some (.ref pc),some (.int x),some (.int (N:Nat)),some (.int (1+(j:Int))),none,none,none,none,none,none]∧H=H'∧x=p0+x0 - prs gs.length N j∧j≤l.size - 1∧mm=l.size - j,?_,?_⟩
    · exact ⟨_,0,p0+x0,rfl,rfl,by show _=p0+x0 - 0;lia,aaN _,rfl⟩
    rintro mm σ H' ⟨j,x,rfl,rfl,hx,jm,rfl⟩;have e3':(1+(j:Int))=((1+j:Nat):Int):=by lia
    have e2':((N:Nat):Int) - (1+(j:Int))=((N - (1+j):Nat):Int):=by lia
    have at1:atI ((cl gs.length k).map V.int) (1+(j:Int))=some (.int (cn gs.length (1+j))):=by rw [e3'];exact jG hk (by lia)
    have at2:atI ((cl gs.length k).map V.int) (((N:Nat):Int) - (1+(j:Int)))=some (.int (cn gs.length (N - (1+j)))):=by rw [e2'];exact jG hk (by lia)
    have b1:=bd (1+j) (by lia);have b2:=bd (N - (1+j)) (by lia);refine ⟨_,rfl,_,rfl,_,rfl,_,rfl,_,rfl,_,rfl,_,_,rfl,rfl,aD gs,pc,_,_,_,_,_,rfl,by lia,hc,at1,at2,b2.1,b2.2,_,_,rfl,rfl,?_⟩;rw [zl];have hst:prs gs.length N (j+1)=prs gs.length N j+(gs.length:Int) * cn gs.length (1+j) * cn gs.length (N - (1+j)):=rfl;by_cases c:j < l.size - 1
    · have hm:=f_ hz (n:=N) (by lia) (i:=j+1) (j:=l.size - 1) (by lia) (by lia);rw [← hp0,hst] at hm;have cge:x ≥ (gs.length:Int) * cn gs.length (1+j) * cn gs.length (N - (1+j)):=by lia
      refine ⟨true,congrArg V.bl (decide_eq_true cge),bV ⟨fun σ' H'=>∃ m',m' < l.size - j∧∃ (j:Nat) (x:Int),σ'=[some (.ref pr),some (.str (aD gs)),some (.ref pc),some (.int x),some (.int (N:Nat)),some (.int (1+(j:Int))),none,none,none,none,none,none]∧H=H'∧x=p0+x0 - prs gs.length N j∧j≤l.size - 1∧m'=l.size - j,fun _ _ h=>h,?_⟩⟩;refine ⟨_,rfl,_,rfl,_,rfl,_,rfl,_,rfl,_,rfl,_,_,rfl,rfl,aD gs,pc,_,_,_,_,_,rfl,by lia,hc,at1,at2,b2.1,b2.2,_,_,rfl,rfl,?_⟩;rw [zl];refine ⟨_,rfl,_,_,rfl,rfl,l.size - (j+1),by lia,j+1,x - (gs.length:Int) * cn gs.length (1+j) * cn gs.length (N - (1+j)),?_,rfl,by rw [hst];lia,by lia,rfl⟩;have e5:(1+(j:Int))+1=1+((j+1:Nat):Int):=by lia
      show [_,_,_,_,_,some (V.int ((1+(j:Int))+1)),_,_,_,_,_,_]=_;rw [e5]
    have ej:j=l.size - 1:=by lia
    have ex:x=x0:=by rw [hx,ej,← hp0];lia
    have eA:1+j=l.size:=by lia
    have eC:N - (1+j)=r.size:=by lia
    rw [eC] at at2 b2 ⊢;rw [eA] at at1 b1 ⊢;have cl':¬ (x ≥ (gs.length:Int) * cn gs.length l.size * cn gs.length r.size):=by rw [ex];lia
    refine ⟨false,congrArg V.bl (decide_eq_false cl'),bi ?_⟩;clear cl' hx;subst ex;have A0:0 < cn gs.length l.size:=by lia
    have C0:0 < cn gs.length r.size:=by lia
    have eL:l.nums=(l.nums++r.nums).take l.size:=by rw [← l.nums_len,List.take_left]
    have eR:r.nums=(l.nums++r.nums).drop l.size:=by rw [← l.nums_len,List.drop_left]
    refine ⟨_,rfl,_,rfl,_,rfl,_,rfl,_,_,rfl,rfl,pc,_,_,_,rfl,rfl,SqL.of hc,at2,x,cn gs.length r.size,rfl,⟨C0,by lia⟩,fun t1 n1=>?_⟩;rw [e2,e3];have g1:=Same.new n1 (.tup [.int (((gs.idxOf g:Nat):Int) * cn gs.length l.size+l.nr gs),.int (r.nr gs)]);refine ⟨t1,_,rfl,SqT.of af,rfl,_,_,rfl,_,_,rfl,rfl,?_⟩;refine ⟨_,rfl,_,rfl,_,rfl,pc,_,_,_,rfl,rfl,SqL.of (g1 _ _ hc),at1,((gs.idxOf g:Nat):Int) * cn gs.length l.size+l.nr gs,cn gs.length l.size,rfl,⟨A0,by lia⟩,fun t2 n2=>?_⟩;rw [e4,e5];have g2:=g1.trans (Same.new n2 (.tup [.int ((gs.idxOf g:Nat):Int),.int (l.nr gs)]));refine ⟨t2,_,rfl,SqT.of af,rfl,_,_,rfl,_,_,rfl,rfl,?_⟩;have ln:(l.nums++r.nums).length=l.size+r.size:=by rw [aap,l.nums_len,r.nums_len]
    have hr2:H pr=some (.lst ((l.nums++r.nums).map V.int)):=hr';refine ⟨_,rfl,_,rfl,_,rfl,pr,_,rfl,SqL.of (g2 _ _ hr2),fun s1 m1=>?_⟩;rw [e3',eA,mO _ l.size (by rw [aaf];lia),← List.map_take,← eL];have g3:=g2.trans (Same.new m1 (.lst (l.nums.map V.int)));refine ⟨_,rfl,_,rfl,_,rfl,gs,s1,pc,l,k,rfl,hz,af,g3 _ _ hc,hk,by lia,by lia,hwi.2.1,fun lv H4 g4 hlv=>?_⟩;have G4:=g3.trans g4;refine ⟨_,rfl,_,rfl,_,rfl,pr,_,rfl,SqL.of (G4 _ _ hr2),fun s2 m2=>?_⟩;rw [tI _ l.size (by rw [aaf];lia),← List.map_drop,← eR];have s5:=Same.new m2 (.lst (r.nums.map V.int));have g5:=G4.trans s5;refine ⟨_,rfl,_,rfl,_,rfl,gs,s2,pc,r,k,rfl,hz,af,g5 _ _ hc,hk,by lia,by lia,hwi.2.2,fun rv H6 g6 hrv=>?_⟩;have G6:=g5.trans g6;have hat:atI (aD gs).cps.toList ((gs.idxOf g:Nat):Int)=some g.code:=iN (by rw [cF,aaL,ig];rfl);refine ⟨_,rfl,_,rfl,aD gs,_,g.code,rfl,rfl,bM (by lia),hat,_,rfl,_,rfl,(by show 3≤sizeLine;decide),fun t7 n7=>?_⟩;have s7:=Same.new n7 (.tup [.str ⟨#[g.code]⟩,lv,rv]);refine q _ _ (G6.trans s7) ⟨t7,lv,rv,rfl,?_,hlv.mono (Tups.of ((s5.trans g6).trans s7)),hrv.mono (Tups.of s7)⟩;rw [af,fS]
end
open PySem L2
inductive Tr where
  | lf
  | nd (l r:Tr)
def Tr.size:Tr→Nat
  | .lf=>1
  | .nd l r=>l.size+r.size
theorem Tr.size_pos:∀ t:Tr,1≤t.size
  | .lf=>aag _
  | .nd l r=>by have:=l.size_pos;show 1≤l.size+r.size;lia
def Tr.all:Tr→Int→List (Int × Int)
  | .lf,b=>[(b,b)]
  | .nd l r,b=>(b,b+((l.size+r.size:Nat):Int) - 1) :: (l.all b++r.all (b+(l.size:Int)))
theorem Tr.top (t:Tr) (b:Int):(b,b+(t.size:Int) - 1)∈t.all b:=by
  cases t with
  | lf=>show (b,b+1 - 1)∈[(b,b)];rw [Int.add_sub_cancel];simp
  | nd l r=>exact aai
theorem Tr.all_in:∀ (t:Tr) (b:Int) (q:Int × Int),q∈t.all b→b≤q.1∧q.1≤q.2∧q.2≤b+(t.size:Int) - 1
  | .lf,b,q,h=>by
    have h:q=(b,b):=by simpa [Tr.all] using h
    subst h;show b≤b∧b≤b∧b≤b+1 - 1;lia
  | .nd l r,b,q,h=>by
    have pl:=l.size_pos;have pr:=r.size_pos;show _∧_∧q.2≤b+((l.size+r.size:Nat):Int) - 1;rcases aam.mp h with h|h
    · subst h;simp only;lia
    · rcases aan.mp h with h|h
      · have:=l.all_in b q h;lia
      · have:=r.all_in _ q h;lia
def cJ (o h:Int × Int):Prop:=(o.1 < h.1∧h.1≤o.2∧o.2 < h.2)∨(h.1 < o.1∧o.1≤h.2∧h.2 < o.2)
instance (o h:Int × Int):Decidable (cJ o h):=by unfold cJ;infer_instance
theorem Tr.part_iff:∀ (t:Tr) (b:Int) (h:Int × Int),b≤h.1→h.1 < h.2→h.2≤b+(t.size:Int) - 1→(h∈t.all b↔∀ q∈t.all b,¬ cJ q h)
  | .lf,b,h,h1,h2,h3=>by
    have h3:h.2≤b+1 - 1:=h3;lia
  | .nd l r,b,h,h1,h2,h3=>by
    have h3:h.2≤b+((l.size+r.size:Nat):Int) - 1:=h3;have pl:=l.size_pos;have pr:=r.size_pos;constructor
    · intro hm q hq;have qi:=Tr.all_in (.nd l r) b q hq;have qi2:q.2≤b+((l.size+r.size:Nat):Int) - 1:=qi.2.2;rcases aam.mp hm with e|hm
      · subst e;unfold cJ;simp only;lia
      · rcases aan.mp hm with hl|hr
        · have li:=l.all_in b h hl;rcases aam.mp hq with e|hq
          · subst e;unfold cJ;simp only;lia
          · rcases aan.mp hq with hq|hq
            · exact (l.part_iff b h h1 h2 li.2.2).mp hl q hq
            · have ri:=r.all_in _ q hq;unfold cJ;lia
        · have ri:=r.all_in _ h hr;rcases aam.mp hq with e|hq
          · subst e;unfold cJ;simp only;lia
          · rcases aan.mp hq with hq|hq
            · have li:=l.all_in _ q hq;unfold cJ;lia
            · exact (r.part_iff _ h ri.1 h2 ri.2.2).mp hr q hq
    · intro hc;by_cases e:h=(b,b+((l.size+r.size:Nat):Int) - 1)
      · rw [e];exact aai
      · refine aae _ (List.mem_append.mpr ?_);by_cases c1:h.2 < b+(l.size:Int)
        · exact .inl ((l.part_iff b h h1 h2 (by lia)).mpr fun q hq=>hc q (aae _ (aaw _ hq)))
        · by_cases c2:b+(l.size:Int)≤h.1
          · exact .inr ((r.part_iff _ h c2 h2 (by lia)).mpr fun q hq=>hc q (aae _ (aab _ hq)))
          · exfalso
            by_cases c3:b < h.1
            · exact hc _ (aae _ (aaw _ (l.top b))) (by unfold cJ;simp only;lia)
            · refine hc _ (aae _ (aab _ (r.top _))) ?_;have : h.2≠b+((l.size+r.size:Nat):Int) - 1:=fun z=>e (by
                obtain ⟨x,y⟩:=h;simp only at *;have : x=b:=by lia
                rw [this,z])
              unfold cJ;simp only;lia
def AV (L:List (Int × Int)) (b:Int) (n:Nat):Prop:=∃ t:Tr,t.size=n∧∀ q∈t.all b,q∉L
theorem xS (L:List (Int × Int)) (b:Int):AV L b 1↔(b,b)∉L:=by
  constructor
  · rintro ⟨t,h1,h2⟩;cases t with
    | lf=>exact h2 _ (by simp [Tr.all])
    | nd l r=>have:=l.size_pos;have:=r.size_pos;have : l.size+r.size=1:=h1;lia
  · intro h;exact ⟨.lf,rfl,fun q hq=>by simp [Tr.all] at hq;rw [hq];exact h⟩
theorem xU (L:List (Int × Int)) (b:Int) (n:Nat) (hn:2≤n):AV L b n↔(b,b+(n:Int) - 1)∉L∧∃ k:Nat,1≤k∧k < n∧AV L b k∧AV L (b+(k:Int)) (n - k):=by
  constructor
  · rintro ⟨t,h1,h2⟩;cases t with
    | lf=>have : 1=n:=h1;lia
    | nd l r =>
      have pl:=l.size_pos;have pr:=r.size_pos;have h1:l.size+r.size=n:=h1;refine ⟨?_,l.size,by lia,by lia,⟨l,rfl,fun q hq=>h2 q (aae _ (aaw _ hq))⟩,⟨r,by lia,fun q hq=>h2 q (aae _ (aab _ hq))⟩⟩;have:=h2 (b,b+((l.size+r.size:Nat):Int) - 1) aai;rw [h1] at this;exact this
  · rintro ⟨h0,k,k1,k2,⟨l,e1,a1⟩,⟨r,e2,a2⟩⟩;refine ⟨.nd l r,by show l.size+r.size=n;lia,fun q hq=>?_⟩;rcases aam.mp hq with e|hq
    · rw [e,e1,e2,show k+(n - k)=n by lia];exact h0
    · rcases aan.mp hq with hq|hq
      · exact a1 q hq
      · rw [e1] at hq;exact a2 q hq
def lob (hs bs:List (Int × Int)) (q:Int × Int):Bool:=decide (q∈bs) || hs.any fun h=>decide (cJ q h)
def lo (n:Nat) (hs bs:List (Int × Int)):List (Int × Int):=(sfl n n).filter (lob hs bs)
def Wy.tr:Wy→Tr
  | .num _=>.lf
  | .node _ l r=>.nd l.tr r.tr
theorem Wy.tr_size:∀ w:Wy,w.tr.size=w.size
  | .num _=>rfl
  | .node g l r=>by show l.tr.size+r.tr.size=l.size+r.size;rw [l.tr_size,r.tr_size]
theorem jrow_at {c L R:Int} {j:Jt}:∀ {gs:List Sg} {st:Int},j∈dH c L R gs st↔∃ (i:Nat) (g:Sg),gs[i]?=some g∧j=(c,g,st+(i:Int) * (L * R),R)
  | [],st=>by simp [dH]
  | g :: gs,st=>by
    show j∈(c,g,st,R) :: dH c L R gs (st+L * R)↔_;have ar:∀ i:Nat,st+L * R+(i:Int) * (L * R)=st+((i+1:Nat):Int) * (L * R):=fun i=>by
      rw [acd,abk];simp only [Int.natCast_one,abl];lia
    rw [aam,jrow_at];constructor
    · rintro (rfl|⟨i,g',h,rfl⟩)
      · exact ⟨0,g,rfl,by simp⟩
      · exact ⟨i+1,g',by simpa using h,by rw [ar]⟩
    · rintro ⟨i,g',h,rfl⟩;cases i with
      | zero =>
        have e:g=g':=by simpa using h
        subst e;exact .inl (by simp)
      | succ i=>exact .inr ⟨i,g',by simpa using h,by rw [ar]⟩
def gW (q:Int × Int) (m:Nat):List Int:=(aaI m).map fun (k:Nat)=>q.1+(k:Int)
theorem qO (q:Int × Int) (m:Nat):gW q (m+1)=gW q m++[q.1+(m:Int)]:=by
  unfold gW;rw [List.range_succ,aaJ];rfl
theorem n0 {gs:List Sg} {q:Int × Int} {n:Nat} (hn:(q.2 - q.1+1).toNat=n) (hq:q.1≤q.2):∀ m,m≤n - 1→jst gs q (gW q m)=prs gs.length n m∧∀ j,j∈dJ gs q (gW q m) 0↔∃ k:Nat,k < m∧j∈dH (q.1+(k:Int)) (cn gs.length (1+k)) (cn gs.length (n - (1+k))) gs (prs gs.length n k)
  | 0,_=>⟨rfl,fun j=>by simp [gW,dJ]⟩
  | m+1,h=>by
    obtain ⟨i1,i2⟩:=n0 hn hq m (by lia);have e1:Lw gs.length q (q.1+(m:Int))=cn gs.length (1+m):=by
      unfold Lw;rw [show (q.1+(m:Int) - q.1+1).toNat=1+m by lia]
    have e2:Rw gs.length q (q.1+(m:Int))=cn gs.length (n - (1+m)):=by
      unfold Rw;rw [show (q.2 - (q.1+(m:Int))).toNat=n - (1+m) by lia]
    rw [qO];constructor
    · have : jst gs q (gW q m++[q.1+(m:Int)])=jst gs q (gW q m)+(gs.length:Int) * (Lw gs.length q (q.1+(m:Int)) * Rw gs.length q (q.1+(m:Int))):=by
        simp [jst,aaJ,List.sum_append]
      rw [this,i1,e1,e2,← acb];rfl
    · intro j;rw [jr,List.mem_append,i2,i1,e1,e2,Int.zero_add];constructor
      · rintro (⟨k,hk,h⟩|h)
        · exact ⟨k,by lia,h⟩
        · exact ⟨m,by lia,h⟩
      · rintro ⟨k,hk,hj⟩;by_cases c:k=m
        · rw [c] at hj;exact .inr hj
        · exact .inl ⟨k,by lia,hj⟩
theorem n_ {ns:List Int} {gs:List Sg} {L:Int × Int→List (Int × Int)} {q:Int × Int} {n:Nat} (hn:(q.2 - q.1+1).toNat=n) (hq:q.1 < q.2) {x:Int × Int}:x∈fnd ns gs L q↔∃ k:Nat,k < n - 1∧∃ (i:Nat) (g:Sg),gs[i]?=some g∧∃ a∈L (q.1,q.1+(k:Int)),∃ b∈L (q.1+(k:Int)+1,q.2),
    x=(g.op a.1 b.1,prs gs.length n k+(i:Int) * (cn gs.length (1+k) * cn gs.length (n - (1+k)))+a.2 * cn gs.length (n - (1+k))+b.2):=by
  have ec:aQ q=gW q (n - 1):=by
    unfold aQ gW;rw [show (q.2 - q.1).toNat=n - 1 by lia]
  unfold fnd;rw [if_neg (by lia),ec];unfold fO jp2 jp1;simp only [aaG,aaC];constructor
  · rintro ⟨j,hj,a,ha,b,hb,rfl⟩;obtain ⟨k,hk,hj⟩:=((n0 hn (by lia) (n - 1) (aag _)).2 j).mp hj;obtain ⟨i,g,hg,rfl⟩:=jrow_at.mp hj;exact ⟨k,hk,i,g,hg,a,ha,b,hb,rfl⟩
  · rintro ⟨k,hk,i,g,hg,a,ha,b,hb,rfl⟩;exact ⟨_,((n0 hn (by lia) (n - 1) (aag _)).2 _).mpr ⟨k,hk,jrow_at.mpr ⟨i,g,hg,rfl⟩⟩,a,ha,b,hb,rfl⟩
theorem lu (f:Nat→Int):∀ n k,k≤n→f (aG (fun i=>[f i]) n)≤f k
  | 0,k,h=>by
    obtain rfl:k=0:=by lia
    exact aav _
  | n+1,k,h=>by
    have ih:=lu f n;have e:aG (fun i=>[f i]) (n+1)=if HT.lexLt [f (n+1)] [f (aG (fun i=>[f i]) n)]=true then n+1 else aG (fun i=>[f i]) n:=rfl
    rw [e,xx];generalize aG (fun i=>[f i]) n=b at ih ⊢;by_cases c:decide (f (n+1) < f b)=true
    · rw [if_pos c];have c:=of_decide_eq_true c;by_cases hk:k=n+1
      · rw [hk];exact aav _
      · have:=ih k (by lia);lia
    · rw [if_neg c];have c:¬ f (n+1) < f b:=fun z=>c (decide_eq_true z);by_cases hk:k=n+1
      · rw [hk];lia
      · exact ih k (by lia)
theorem jB {ps:List (Int × Int)} (h:ps≠[]):∃ f a b,fN ps=[f,a,b]∧(∀ x∈fN ps,x∈ps)∧∀ x∈ps,f.2≤x.2:=by
  have l:0 < ps.length:=ab0.mpr h;refine ⟨_,_,_,rfl,cD h,fun x hx=>?_⟩;obtain ⟨k,hk,e⟩:=aa0 hx;have ek:ps.getD k (0,0)=x:=by rw [aau,aac hk,e];rfl
  have e1:aG (bS pE ps) (ps.length - 1)=aG (fun i=>[(ps.getD i (0,0)).2]) (ps.length - 1):=cf _ fun i hi=>dv pE (by lia);rw [e1,← ek];exact lu (fun i=>(ps.getD i (0,0)).2) (ps.length - 1) k (by lia)
def Kpt (ns:List Int) (gs:List Sg) (lo:List (Int × Int)) (q:Int × Int) (w:Wy):Prop:=w.nums=slice ns q∧w.within gs∧∀ p∈w.tr.all q.1,p∉lo
theorem cr {ns:List Int} {gs:List Sg} {lo:List (Int × Int)} {q:Int × Int} {w:Wy} (h0:0≤q.1) (h1:q.1≤q.2) (h2:q.2 < ns.length) (h:Kpt ns gs lo q w):w.size=(q.2 - q.1+1).toNat:=by
  rw [← cB h0 h1 h2,← h.1,w.nums_len]
theorem kN {ns:List Int} {gs:List Sg} {lo:List (Int × Int)} {q:Int × Int} {g:Sg} {l r:Wy} (h0:0≤q.1) (h1:q.1≤q.2) (h2:q.2 < ns.length) (h:Kpt ns gs lo q (.node g l r)) :
    q∉lo∧g∈gs∧∃ k:Nat,k+1=l.size∧q.1+(k:Int) < q.2∧Kpt ns gs lo (q.1,q.1+(k:Int)) l∧Kpt ns gs lo (q.1+(k:Int)+1,q.2) r:=by
  have hs:=cr h0 h1 h2 h;have hs:l.size+r.size=(q.2 - q.1+1).toNat:=hs;have pl:=l.size_pos;have pr:=r.size_pos;obtain ⟨e,hw,hl⟩:=h;have e:l.nums++r.nums=slice ns q:=e;obtain ⟨k,hk⟩:∃ k:Nat,k+1=l.size:=⟨l.size - 1,by lia⟩
  have hc:q.1+(k:Int) < q.2:=by lia
  have hsp:=mh (ns:=ns) (q:=q) (c:=q.1+(k:Int)) h0 (by lia) hc;rw [← e] at hsp;obtain ⟨e1,e2⟩:=List.append_inj hsp (by rw [cB (q:=(q.1,q.1+(k:Int))) h0 (by simp only;lia) (by simp only;lia),l.nums_len];simp only;lia);have top:(q.1,q.1+((l.tr.size+r.tr.size:Nat):Int) - 1)=q:=by
    rw [l.tr_size,r.tr_size];obtain ⟨a,b⟩:=q;simp only at *;congr 1;lia
  refine ⟨?_,hw.1,k,hk,hc,⟨e1.symm,hw.2.1,fun p hp=>hl p ?_⟩,⟨e2.symm,hw.2.2,fun p hp=>hl p ?_⟩⟩
  · have:=hl _ (aai (a:=(q.1,q.1+((l.tr.size+r.tr.size:Nat):Int) - 1)) (l:=l.tr.all q.1++r.tr.all (q.1+(l.tr.size:Int))))
    rwa [top] at this
  · exact aae _ (aaw _ hp)
  · refine aae _ (aab _ ?_);rw [l.tr_size,← hk];have : q.1+(k:Int)+1=q.1+((k+1:Nat):Int):=by lia
    rw [← this];exact hp
theorem pB {ns:List Int} {gs:List Sg} {lo:List (Int × Int)} {q:Int × Int} {g:Sg} {l r:Wy} {k:Nat} (h0:0≤q.1) (h2:q.2 < ns.length) (hc:q.1+(k:Int) < q.2) (hq:q∉lo) (hg:g∈gs) (hl:Kpt ns gs lo (q.1,q.1+(k:Int)) l) (hr:Kpt ns gs lo (q.1+(k:Int)+1,q.2) r):Kpt ns gs lo q (.node g l r)∧l.size=k+1∧l.size+r.size=(q.2 - q.1+1).toNat:=by
  have sl:=cr (q:=(q.1,q.1+(k:Int))) h0 (by simp only;lia) (by simp only;lia) hl;have sr:=cr (q:=(q.1+(k:Int)+1,q.2)) (by simp only;lia) (by simp only;lia) h2 hr;simp only at sl sr;have top:(q.1,q.1+((l.tr.size+r.tr.size:Nat):Int) - 1)=q:=by
    rw [l.tr_size,r.tr_size];obtain ⟨a,b⟩:=q;simp only at *;congr 1;lia
  refine ⟨⟨?_,⟨hg,hl.2.1,hr.2.1⟩,fun p hp=>?_⟩,by lia,by lia⟩
  · show l.nums++r.nums=_;rw [hl.1,hr.1,mh (ns:=ns) (q:=q) (c:=q.1+(k:Int)) h0 (by lia) hc]
  · rcases aam.mp hp with e|hp
    · rw [e,top];exact hq
    · rcases aan.mp hp with hp|hp
      · exact hl.2.2 p hp
      · rw [l.tr_size,show q.1+(l.size:Int)=q.1+(k:Int)+1 by lia] at hp;exact hr.2.2 p hp
theorem jz {ns:List Int} {gs:List Sg} {lo:List (Int × Int)} {L:Int × Int→List (Int × Int)} (hs:gs.length≤3) (nd:gs.Nodup) (h9:ns.length≤9) (hL:∀ q:Int × Int,0≤q.1→q.1≤q.2→q.2 < ns.length→fL ns gs lo L q):∀ (m:Nat) (q:Int × Int),0≤q.1→q.1≤q.2→q.2 < ns.length→(q.2 - q.1).toNat=m →
    (∀ x∈L q,∃ w,Kpt ns gs lo q w∧x=(w.wv,w.nr gs))∧∀ w,Kpt ns gs lo q w→∃ f dY,L q=f :: dY∧f.2≤w.nr gs:=by
  intro m
  induction m using Nat.strongRecOn with
  | _ m ih =>
    intro q h0 h1 h2 hm;have he:=hL q h0 h1 h2;unfold fL at he;obtain ⟨n,hn⟩:∃ n,(q.2 - q.1+1).toNat=n:=⟨_,rfl⟩
    by_cases e:q.1=q.2
    · have ef:fnd ns gs L q=[(ns.getD q.1.toNat 0,0)]:=by unfold fnd;rw [if_pos e]
      have es:=gx h0 e h2;constructor
      · intro x hx;by_cases c:q∈lo
        · rw [he,if_neg (fun z=>z.2 c)] at hx;cases hx
        · rw [he,if_pos ⟨by rw [ef];simp,c⟩] at hx;have:=cD (by rw [ef];simp) x hx;rw [ef] at this;rw [aaj.mp this];refine ⟨.num (ns.getD q.1.toNat 0),⟨es.symm,trivial,fun p hp=>?_⟩,rfl⟩;have : p=(q.1,q.1):=by simpa [Wy.tr,Tr.all] using hp
          rw [this];have : (q.1,q.1)=q:=by
            obtain ⟨a,b⟩:=q;simp only at *;rw [e]
          rw [this];exact c
      · intro w hw;have hz:=cr h0 h1 h2 hw;have c:q∉lo:=by
          have:=hw.2.2 _ (w.tr.top q.1);rw [w.tr_size,hz] at this;have eq:(q.1,q.1+(((q.2 - q.1+1).toNat:Nat):Int) - 1)=q:=by
            obtain ⟨a,b⟩:=q;simp only at *;congr 1;lia
          rwa [eq] at this
        obtain ⟨f,a,b,hp,hin,hmin⟩:=jB (ps:=fnd ns gs L q) (by rw [ef];simp);refine ⟨f,[a,b],by rw [he,if_pos ⟨by rw [ef];simp,c⟩,hp],?_⟩;have hf:=hin f (by rw [hp];simp);rw [ef] at hf;rw [aaj.mp hf];exact (w.nr_bd hs hw.2.1 (by lia)).1
    · have hlt:q.1 < q.2:=by lia
      have sub1:∀ k:Nat,k < n - 1→_:=fun k hk=>ih k (by lia) (q.1,q.1+(k:Int)) h0 (by simp only;lia) (by simp only;lia) (by simp only;lia);have sub2:∀ k:Nat,k < n - 1→_:=fun k hk=>ih (q.2 - (q.1+(k:Int)+1)).toNat (by lia) (q.1+(k:Int)+1,q.2) (by simp only;lia) (by simp only;lia) h2 rfl;constructor
      · intro x hx;by_cases c:fnd ns gs L q≠[]∧q∉lo
        · rw [he,if_pos c] at hx;have hxm:=cD c.1 x hx;obtain ⟨k,hk,i,g,hg,a,ha,b,hb,rfl⟩:=(n_ hn hlt).mp hxm;obtain ⟨wl,kl,rfl⟩:=(sub1 k hk).1 a ha;obtain ⟨wr,kr,rfl⟩:=(sub2 k hk).1 b hb;obtain ⟨kj,zl,zs⟩:=pB h0 h2 (by lia) c.2 (aax hg) kl kr;refine ⟨.node g wl wr,kj,?_⟩;have ei:gs.idxOf g=i:=by
            have h1:=(aak.mp hg)
            obtain ⟨hi,hgi⟩:=h1;rw [← hgi];exact ab6 nd i hi
          have zr:wr.size=n - (1+k):=by lia
          show (_,_)=((Wy.node g wl wr).wv,prs gs.length (wl.size+wr.size) (wl.size - 1)+((((gs.idxOf g:Nat):Int) * cn gs.length wl.size+wl.nr gs) * cn gs.length wr.size+wr.nr gs))
          rw [ei,zs,hn,zl,zr,show k+1 - 1=k by lia,show k+1=1+k by lia];congr 1;show _+_+wl.nr gs * _+wr.nr gs=_;rw [abk,acb];lia
        · rw [he,if_neg c] at hx;cases hx
      · intro w hw;cases w with
        | num i =>
          have:=cr h0 h1 h2 hw;have : 1=(q.2 - q.1+1).toNat:=this;lia
        | node g l r =>
          obtain ⟨c,hg,k,hk,hc,kl,kr⟩:=kN h0 h1 h2 hw;have hkn:k < n - 1:=by lia
          obtain ⟨fl,rl,el,ll⟩:=(sub1 k hkn).2 l kl;obtain ⟨fr,rr,er,lr⟩:=(sub2 k hkn).2 r kr;obtain ⟨i1,ig⟩:=kS hg;have zs:=cr h0 h1 h2 hw;have zs:l.size+r.size=(q.2 - q.1+1).toNat:=zs;have zr:r.size=n - (1+k):=by lia
          have hx:=(n_ (ns:=ns) (gs:=gs) (L:=L) hn hlt).mpr ⟨k,hkn,gs.idxOf g,g,ig,fl,by rw [el];simp,fr,by rw [er];simp,rfl⟩;have hne:fnd ns gs L q≠[]:=acf hx;obtain ⟨f,a,b,hp,hin,hmin⟩:=jB hne;refine ⟨f,[a,b],by rw [he,if_pos ⟨hne,c⟩,hp],?_⟩;refine ab5 (hmin _ hx) ?_;show prs gs.length n k+((gs.idxOf g:Nat):Int) * (cn gs.length (1+k) * cn gs.length (n - (1+k)))+fl.2 * cn gs.length (n - (1+k))+fr.2≤prs gs.length (l.size+r.size) (l.size - 1)+((((gs.idxOf g:Nat):Int) * cn gs.length l.size+l.nr gs) * cn gs.length r.size+r.nr gs);rw [zs,hn,← hk,zr,show k+1 - 1=k by lia,show k+1=1+k by lia,abk,acb];have c0:=(gX gs.length hs (n - (1+k)) (by lia)).1;have:=aaD ll c0;lia
open PySem L2
def Bd (n:Nat):Int:=10 ^ (4 * n)
theorem lz (n:Nat):0 < Bd n:=by unfold Bd;exact Int.pow_pos (by decide)
theorem vC (a b:Nat):Bd a * Bd b=Bd (a+b):=by
  unfold Bd;rw [← Int.pow_add];congr 1;lia
theorem vD {a b:Nat} (h:a≤b):Bd a≤Bd b:=by
  obtain ⟨c,rfl⟩:=Nat.exists_eq_add_of_le h;rw [← vC];have:=lz a;have h2:1≤Bd c:=lz c
  calc Bd a=Bd a * 1:=(Int.mul_one _).symm
    _≤Bd a * Bd c:=abL h2 (abJ this)
theorem qW {n:Nat} (h:n≤10) {x:Int} (h0:0≤x) (h1:x≤Bd n):x.natAbs < 2 ^ 4000:=by
  have a:=vD h;have b:Bd 10 < 2 ^ 4000:=by decide +kernel
  have c:((x.natAbs:Nat):Int)=x:=by lia
  have d:((2 ^ 4000:Nat):Int)=2 ^ 4000:=Int.natCast_pow 2 4000;have e:((x.natAbs:Nat):Int) < ((2 ^ 4000:Nat):Int):=by rw [c,d];lia
  exact Int.ofNat_lt.mp e
structure Ck (L:List (Int × Int)) (p:Int × Int) (v:Int):Prop where
  nn:0≤v
  le:v * 100≤Bd (p.2 - p.1+1).toNat
  iff:0 < v↔AV L p.1 (p.2 - p.1+1).toNat
theorem pY:∀ l:List Int,(∀ x∈l,0≤x)→0≤l.sum
  | [],_=>by simp
  | a :: r,h=>by
    have:=pY r fun x hx=>h x (aae _ hx);have:=h a aai;rw [abz];lia
theorem jx:∀ l:List Int,(∀ x∈l,0≤x)→(0 < l.sum↔∃ x∈l,0 < x)
  | [],_=>by simp
  | a :: r,h=>by
    have ih:=jx r fun x hx=>h x (aae _ hx);have h1:=pY r fun x hx=>h x (aae _ hx);have h2:=h a aai;rw [abz];constructor
    · intro z;by_cases c:0 < a
      · exact ⟨a,aai,c⟩
      · obtain ⟨x,hx,hx2⟩:=ih.mp (by lia);exact ⟨x,aae _ hx,hx2⟩
    · rintro ⟨x,hx,hx2⟩;rcases aam.mp hx with e|hx
      · subst e;lia
      · have:=ih.mpr ⟨x,hx,hx2⟩;lia
theorem tS (B:Int):∀ l:List Int,(∀ x∈l,x≤B)→l.sum≤(l.length:Int) * B
  | [],_=>by simp
  | a :: r,h=>by
    have ih:=tS B r fun x hx=>h x (aae _ hx);have:=h a aai;rw [abz,aaS];have e:((r.length+1:Nat):Int) * B=(r.length:Int) * B+B:=by rw [Int.natCast_succ,abk,abl]
    rw [e];lia
theorem gn {a b:Int} (ha:0≤a) (hb:0≤b):0 < a * b↔0 < a∧0 < b:=by
  constructor
  · intro h;refine ⟨?_,?_⟩
    · rcases Int.lt_or_eq_of_le ha with h1|h1
      · exact h1
      · rw [← h1] at h;simp at h
    · rcases Int.lt_or_eq_of_le hb with h1|h1
      · exact h1
      · rw [← h1] at h;simp at h
  · intro ⟨h1,h2⟩;exact Int.mul_pos h1 h2
theorem Ck.join {L:List (Int × Int)} {p:Int × Int} {xs:List Int} {s:Int} (h1:0≤p.1) (h2:p.1 < p.2) (h3:p.2 < 9) (hL:p∉L) (hs:1≤s∧s≤3) (hx:Paired (fun c x=>∃ a b,x=a * b∧Ck L (p.1,c) a∧Ck L (c+1,p.2) b) (aQ p) xs) :
    (xs.sum).natAbs < 2 ^ 4000∧Ck L p (s * xs.sum):=by
  have hlen:xs.length≤8:=by have:=hx.length;rw [← this];simp [aQ];lia
  have hall:∀ x∈xs,0≤x∧x * 10000≤Bd (p.2 - p.1+1).toNat:=fun x hm=>by
    obtain ⟨j,hj,e⟩:=aa0 hm;have hxj:xs[j]?=some x:=by rw [aac hj,e]
    obtain ⟨c,hc,a,b,rfl,ha,hb⟩:=Paired.at hx hxj;have hcm:c∈aQ p:=aax hc;unfold aQ at hcm;obtain ⟨k,hk,rfl⟩:=aaC.mp hcm;have hk:=aaB.mp hk;refine ⟨abe ha.nn hb.nn,?_⟩;have e1:=ha.le;have e2:=hb.le;simp only at e1 e2;have e3:Bd (p.1+(k:Int) - p.1+1).toNat * Bd (p.2 - (p.1+(k:Int)+1)+1).toNat=Bd (p.2 - p.1+1).toNat:=by
      rw [vC];congr 1;lia
    rw [← e3];have z1:0≤a * 100:=abe ha.nn (by decide);have z2:0≤b * 100:=abe hb.nn (by decide)
    calc a * b * 10000=(a * 100) * (b * 100):=by rw [acb,acb];congr 1;lia
      _≤Bd (p.1+(k:Int) - p.1+1).toNat * (b * 100):=aaD e1 z2
      _≤_:=abL e2 (abJ (lz _))
  have nn:=pY xs fun x hm=>(hall x hm).1;have hB:=lz (p.2 - p.1+1).toNat;have sle:xs.sum * 10000≤8 * Bd (p.2 - p.1+1).toNat:=by
    have hle:=tS (Bd (p.2 - p.1+1).toNat) (xs.map (· * 10000)) fun y hy=>by
      obtain ⟨x,hx,rfl⟩:=aaC.mp hy;exact (hall x hx).2
    have e:(xs.map (· * 10000)).sum=xs.sum * 10000:=by
      clear hle nn hall hx hlen
      induction xs with
      | nil=>rfl
      | cons a r ih=>rw [aaO,abz,abz,ih,abk]
    rw [e,aaf] at hle;refine ab5 hle (aaD (by lia) (abJ hB))
  have sB:xs.sum≤Bd (p.2 - p.1+1).toNat:=by lia
  refine ⟨qW (n:=(p.2 - p.1+1).toNat) (by lia) nn sB,abe (by lia) nn,?_,?_⟩
  · have : s * xs.sum≤3 * xs.sum:=aaD hs.2 nn;lia
  · rw [gn (by lia) nn];have hn:2≤(p.2 - p.1+1).toNat:=by lia
    rw [xU L p.1 _ hn,jx xs fun x hm=>(hall x hm).1];have ep:(p.1,p.1+((p.2 - p.1+1).toNat:Int) - 1)=p:=by
      obtain ⟨a,b⟩:=p;simp only at *;congr 1;lia
    rw [ep];constructor
    · rintro ⟨_,x,hm,hx0⟩;refine ⟨hL,?_⟩;obtain ⟨j,hj,e⟩:=aa0 hm;have hxj:xs[j]?=some x:=by rw [aac hj,e]
      obtain ⟨c,hc,a,b,rfl,ha,hb⟩:=Paired.at hx hxj;have hcm:c∈aQ p:=aax hc;unfold aQ at hcm;obtain ⟨k,hk,rfl⟩:=aaC.mp hcm;have hk:=aaB.mp hk;obtain ⟨ha0,hb0⟩:=(gn ha.nn hb.nn).mp hx0;have A1:=ha.iff.mp ha0;have A2:=hb.iff.mp hb0;simp only at A1 A2;refine ⟨k+1,by lia,by lia,?_,?_⟩
      · rw [show (p.1+(k:Int) - p.1+1).toNat=k+1 by lia] at A1;exact A1
      · rw [show p.1+(k:Int)+1=p.1+((k+1:Nat):Int) by lia,show (p.2 - (p.1+((k+1:Nat):Int))+1).toNat=(p.2 - p.1+1).toNat - (k+1) by lia] at A2;exact A2
    · rintro ⟨_,k,k1,k2,A1,A2⟩;refine ⟨by lia,?_⟩;have hc:(aQ p)[k - 1]?=some (p.1+((k - 1:Nat):Int)):=by
        unfold aQ;rw [aaL,List.getElem?_range (by lia)];rfl
      have hj:k - 1 < xs.length:=by
        have:=hx.length;rw [← this];simp [aQ];lia
      obtain ⟨c,hc',a,b,e,ha,hb⟩:=Paired.at hx (aac hj);rw [hc] at hc';cases hc';refine ⟨xs[k - 1],aa8 hj,?_⟩;rw [e,gn ha.nn hb.nn];refine ⟨ha.iff.mpr ?_,hb.iff.mpr ?_⟩
      · simp only;rw [show (p.1+((k - 1:Nat):Int) - p.1+1).toNat=k by lia];exact A1
      · simp only;rw [show p.1+((k - 1:Nat):Int)+1=p.1+(k:Int) by lia,show (p.2 - (p.1+(k:Int))+1).toNat=(p.2 - p.1+1).toNat - k by lia];exact A2
theorem Ck.out {L:List (Int × Int)} {p:Int × Int} (h2:p.1≤p.2) (hL:p∈L):Ck L p 0:=by
  refine ⟨aav _,by have:=lz (p.2 - p.1+1).toNat;lia,⟨fun h=>absurd h (by decide),fun h=>?_⟩⟩
  exfalso
  obtain ⟨t,h1,h2⟩:=h;have:=t.top p.1;rw [h1] at this;have ep:(p.1,p.1+((p.2 - p.1+1).toNat:Int) - 1)=p:=by
    obtain ⟨a,b⟩:=p;simp only at *;congr 1;lia
  rw [ep] at this;exact h2 p this hL
theorem Ck.one {L:List (Int × Int)} {p:Int × Int} (h2:p.1=p.2) (hL:p∉L):Ck L p 1:=by
  have e:(p.2 - p.1+1).toNat=1:=by lia
  refine ⟨by decide,by rw [e];decide,⟨fun _=>?_,fun _=>by decide⟩⟩;rw [e,xS];have : (p.1,p.1)=p:=by
    obtain ⟨a,b⟩:=p;simp only at *;rw [h2]
  rw [this];exact hL
def kZ (s:Nat) (L:List (Int × Int)):Nat→Int × Int→Int
  | 0,_=>0
  | m+1,q=>if q∈L then 0 else if q.1=q.2 then 1 else (s:Int) * ((aQ q).map fun c=>kZ s L m (q.1,c) * kZ s L m (c+1,q.2)).sum
theorem gH (s:Nat) (L:List (Int × Int)):∀ (m m':Nat) (q:Int × Int),q.1≤q.2→(q.2 - q.1+1).toNat≤m→(q.2 - q.1+1).toNat≤m'→kZ s L m q=kZ s L m' q
  | 0,m',q,h,h1,h2=>by lia
  | m+1,0,q,h,h1,h2=>by lia
  | m+1,m'+1,q,h,h1,h2=>by
    unfold kZ;by_cases c:q∈L
    · rw [if_pos c,if_pos c]
    rw [if_neg c,if_neg c];by_cases e:q.1=q.2
    · rw [if_pos e,if_pos e]
    rw [if_neg e,if_neg e];congr 2;refine ab2 fun c hc=>?_;have hc:=fK hc;rw [gH s L m m' (q.1,c) (by simp only;lia) (by simp only;lia) (by simp only;lia),gH s L m m' (c+1,q.2) (by simp only;lia) (by simp only;lia) (by simp only;lia)]
def cnt (s:Nat) (L:List (Int × Int)) (q:Int × Int):Int:=kZ s L 10 q
theorem rS {s:Nat} {L:List (Int × Int)} {q:Int × Int} (h:q∈L):cnt s L q=0:=by
  unfold cnt kZ;rw [if_pos h]
theorem rT {s:Nat} {L:List (Int × Int)} {q:Int × Int} (h:q∉L) (e:q.1=q.2):cnt s L q=1:=by
  unfold cnt kZ;rw [if_neg h,if_pos e]
theorem rV {s:Nat} {L:List (Int × Int)} {q:Int × Int} (h:q∉L) (e:q.1 < q.2) (h9:q.2 - q.1 < 9):cnt s L q=(s:Int) * ((aQ q).map fun c=>cnt s L (q.1,c) * cnt s L (c+1,q.2)).sum:=by
  have : cnt s L q=(s:Int) * ((aQ q).map fun c=>kZ s L 9 (q.1,c) * kZ s L 9 (c+1,q.2)).sum:=by
    unfold cnt;rw [kZ,if_neg h,if_neg (by lia)]
  rw [this];congr 2;refine ab2 fun c hc=>?_;have hc:=fK hc;unfold cnt;rw [gH s L 9 10 (q.1,c) (by simp only;lia) (by simp only;lia) (by simp only;lia),gH s L 9 10 (c+1,q.2) (by simp only;lia) (by simp only;lia) (by simp only;lia)]
def CkE (s:Nat) (L:List (Int × Int)) (p:Int × Int) (v:Int):Prop:=Ck L p v∧v=cnt s L p
def CsE (s:Nat) (L:List (Int × Int)) (kvs:List (List Key × V)) (ps:List (Int × Int)):Prop:=∀ p∈ps,∃ v,cE kvs (ky p)=some (.int v)∧CkE s L p v
theorem CsE.put {s:Nat} {L:List (Int × Int)} {kvs:List (List Key × V)} {ps:List (Int × Int)} {p:Int × Int} {v:Int} (h:CsE s L kvs ps) (c:CkE s L p v):CsE s L (eE kvs (ky p) (.int v)) (ps++[p]):=fun q hq=>by
  rw [j7];by_cases e:ky q=ky p
  · rw [if_pos e];have:=kM e;subst this;exact ⟨v,rfl,c⟩
  · rw [if_neg e];rcases aan.mp hq with hq|hq
    · exact h q hq
    · exact absurd (by rw [aaj.mp hq]) e
theorem oj {s:Nat} {L:List (Int × Int)} {p:Int × Int}:∀ {cs xs:List Int},Paired (fun c x=>∃ a b,x=a * b∧CkE s L (p.1,c) a∧CkE s L (c+1,p.2) b) cs xs→Paired (fun c x=>∃ a b,x=a * b∧Ck L (p.1,c) a∧Ck L (c+1,p.2) b) cs xs∧xs=cs.map fun c=>cnt s L (p.1,c) * cnt s L (c+1,p.2)
  | _,_,.nil=>⟨.nil,rfl⟩
  | _,_,.cons r t=>by
    obtain ⟨a,b,rfl,c1,c2⟩:=r;obtain ⟨i1,i2⟩:=oj t;exact ⟨.cons ⟨a,b,rfl,c1.1,c2.1⟩ i1,by rw [aaO,← i2,c1.2,c2.2]⟩
section
variable {P:Program} {w:World} {K:aaa} {mg:Str→Option Value} {base:Heap} {f:Addr} {fd:FuncData}
def nz:Sp:=fun vs H Q _=>∃ p q x y,vs=[x,y]∧PairIn H p x∧PairIn H q y∧Q (.bl (decide (cJ p q))) H
abbrev ii:Stmt:=top 61
theorem oJ:FnScope ["one","other"] ["one","other"] (am ii):=⟨rfl,rfl,rfl,by decide +kernel,rfl,by decide +kernel,by decide +kernel⟩
theorem o7 (F:Fun K "do_cross" "do_cross" ii f fd):FnOk P w K mg base CX0 1 f fd ["one","other"] nz:=by
  refine F.ok oJ (fun vs H Q E h=>?_) (fun cdv A outer s H vs Q E hr h=>?_)
  · obtain ⟨p,q,x,y,rfl,_⟩:=h;rfl
  obtain ⟨p,q,x,y,rfl,⟨a,rfl,ha⟩,⟨b,rfl,hb⟩,qq⟩:=h;refine ⟨_,(@ak _ _ _ (@au _ _ _ _ (@ym _ _ _ _ _ _ _ (@jf _ _ _ _ _ _ _ _ _ _ _ _ _ _ _ _ jC gl jC (@aI _ _ _ _ _ _ _ aT (pv 0) ai (fun _ _=>rfl)) (@aI _ _ _ _ _ _ _ aT (pv 1) ai (fun _ _=>rfl)) (@aI _ _ _ _ _ _ _ aT (pv 0) ai (fun _ _=>rfl)) (@aI _ _ _ _ _ _ _ aT (pv 1) ai (fun _ _=>rfl)) (by with_unfolding_all rfl)) (@fC _ _ _ _ _ (@jf _ _ _ _ _ _ _ _ _ _ _ _ _ _ _ _ jC gl jC (@aI _ _ _ _ _ _ _ aT (pv 1) ai (fun _ _=>rfl)) (@aI _ _ _ _ _ _ _ aT (pv 0) ai (fun _ _=>rfl)) (@aI _ _ _ _ _ _ _ aT (pv 1) ai (fun _ _=>rfl)) (@aI _ _ _ _ _ _ _ aT (pv 0) ai (fun _ _=>rfl)) (by with_unfolding_all rfl)))))),?_⟩;have c1:∀ k:Bool,decide (cJ p q)=k→Q (.bl k) H:=fun k h=>by rw [← h];exact qq
  refine yK (A:=¬ (p.1 < q.1∧q.1≤p.2∧p.2 < q.2)→_) ?second fun second=>⟨_,rfl,a,_,_,_,rfl,rfl,SqT.of ha,rfl,_,rfl,b,_,_,_,rfl,rfl,SqT.of hb,rfl,_,_,rfl,rfl,_,rfl,dI (fun h1=>⟨_,rfl,a,_,_,_,rfl,rfl,SqT.of ha,rfl,_,_,rfl,rfl,_,rfl,dI (fun h2=>⟨_,rfl,b,_,_,_,rfl,rfl,SqT.of hb,rfl,_,_,rfl,rfl,_,rfl,dI (fun h3=>?_) (fun h3=>second fun z=>h3 (decide_eq_true z.2.2))⟩) (fun h2=>⟨_,rfl,bi (second fun z=>h2 (decide_eq_true z.2.1))⟩)⟩) (fun h1=>⟨_,rfl,bi (second fun z=>h1 (decide_eq_true z.1))⟩)⟩
  case second =>
    intro hn;refine ⟨_,rfl,b,_,_,_,rfl,rfl,SqT.of hb,rfl,_,rfl,a,_,_,_,rfl,rfl,SqT.of ha,rfl,_,_,rfl,rfl,_,rfl,dI (fun h1=>⟨_,rfl,b,_,_,_,rfl,rfl,SqT.of hb,rfl,_,_,rfl,rfl,_,rfl,dI (fun h2=>⟨_,rfl,a,_,_,_,rfl,rfl,SqT.of ha,rfl,_,_,rfl,rfl,?_⟩) (fun h2=>c1 _ (decide_eq_false fun z=>z.elim hn fun z=>h2 (decide_eq_true z.2.1)))⟩) (fun h1=>c1 _ (decide_eq_false fun z=>z.elim hn fun z=>h1 (decide_eq_true z.1)))⟩;have h1:q.1 < p.1:=of_decide_eq_true h1;have h2:p.1≤q.2:=of_decide_eq_true h2;refine c1 _ ?_;show decide (cJ p q)=decide (q.2 < p.2);by_cases z:q.2 < p.2
    · rw [decide_eq_true z];exact decide_eq_true (.inr ⟨h1,h2,z⟩)
    · rw [decide_eq_false z];exact decide_eq_false fun y=>y.elim hn fun y=>z y.2.2
  exact c1 _ (decide_eq_true (.inl ⟨of_decide_eq_true h1,of_decide_eq_true h2,of_decide_eq_true h3⟩))
def sg:Sp:=fun vs H Q _=>∃ (n:Nat) (hs bs:List (Int × Int)) (v:V),vs=[.int n,v]∧n≤9∧HdIn H hs bs v∧hs.length≤100∧∀ a us H',Same H H'→H a=none→H' a=some (.lst us)→PairsIn H' (lo n hs bs) us→Q (.ref a) H'
abbrev db:Stmt:=top 60
theorem cK:FnScope ["many","holds","held","barred"] ["many","holds"] (am db):=⟨rfl,rfl,rfl,by decide +kernel,rfl,by decide +kernel,by decide +kernel⟩
theorem o3 (F:Fun K "list_left_out" "list_left_out" db f fd) (B:Bu K mg) (C_shorter_first:Cal P w K mg base "shorter_first" 1 ["many"] sf) (C_do_cross:Cal P w K mg base "do_cross" 1 ["one","other"] nz):FnOk P w K mg base CX0 2 f fd ["many","holds"] sg:=by
  refine F.ok cK (fun vs H Q E h=>?_) (fun cdv A outer s H vs Q E hr h=>?_)
  · obtain ⟨n,hs,bs,v,rfl,_⟩:=h;rfl
  obtain ⟨n,hs,bs,v,rfl,h9,⟨a,x,y,rfl,ha,⟨ah,uh,rfl,eah,ph⟩,⟨ab,ub,rfl,eab,pb⟩⟩,hl,q⟩:=h;refine ⟨_,(@ag _ _ _ _ _ (@cy _ _ _ _ _ _ (pv 1) (@cz _ _ _ _ _ _ rfl (@az _ _ _ _ _ (@ao _ _ (2) _ (cK).nd rfl (Or.inr rfl) (.inl rfl)) (@az _ _ _ _ _ (@ao _ _ (3) _ (cK).nd rfl (Or.inr rfl) (.inl rfl)) a8 (by rfl)) (by rfl)) (by rfl) (by rfl)) (by rfl) (by rfl) (by rfl)) (@ak _ _ _ (@au _ _ _ _ (@xm _ ("stretch") _ _ _ _ _ _ _ (["stretch","barred","held"]) ([none,some 3,some 2]) _ _ _ _ rfl (@bO _ _ _ _ (@aj _ _ _ _ _ _ _ _ _ _ _ C_shorter_first hr (by lia) rfl (@aa _ _ _ _ _ (pv 0) ac (by rfl)) (by decide) (by rfl) (by rfl))) rfl ⟨rfl,⟨rfl,trivial⟩⟩ ⟨⟨rfl,Or.inl rfl,Or.inl rfl⟩,⟨⟨rfl,Or.inl rfl,Or.inl rfl⟩,trivial⟩⟩ (fun _ _ _ _=>⟨(@ao _ _ (0) _ (show aaM (["stretch","barred","held"]:List Str) by decide +kernel) rfl (Or.inr rfl) (by first|exact .inl rfl|exact .inr rfl|assumption)),(@gc _ _ _ (@PW.pt _ _ _ (@iD _ _ _ _ _ _ _ (@aK _ _ _ _ _ _ _ _ (@kC _ _ rfl hr.units) (pv 0) (pv 1) (by with_unfolding_all rfl)) (@fZ _ _ _ _ (@bQ _ _ _ (@aA _ _ _ _ _ _ _ _ _ (@tK _ _ rfl rfl) rfl B.iany PyProof.Rows.boot_any (@aa _ _ _ _ _ (@gf _ _ _ _ _ _ _ _ (["other","stretch"]) ([none,some 0]) _ _ _ _ rfl (@ua _ _ _ _ _ rfl (pv 2)) rfl ⟨rfl,trivial⟩ ⟨⟨rfl,Or.inl rfl,Or.inl rfl⟩,trivial⟩ (fun _ _ _ _=>⟨(@ao _ _ (0) _ (show aaM (["other","stretch"]:List Str) by decide +kernel) rfl (Or.inl rfl) (.inr rfl)),bt,(@aj _ _ _ _ _ _ _ _ _ _ _ C_do_cross hr (by lia) rfl (@aa _ _ _ _ _ (pv 1) (@aa _ _ _ _ _ (pv 0) ac (by rfl)) (by rfl)) (by decide) (by rfl) (by rfl))⟩) (by rfl) (by rfl) (by rfl) (by rfl) (by intro _;rfl)) ac (by rfl)) (by decide) (by decide) (by rfl) (by rfl)) (by intro _;rfl)))))),(pv 0)⟩) (by intro _ _;rfl) (by intro _;rfl) (by rfl) (by rfl) (by rfl) (by rfl) (by intro _;rfl))))),?_⟩;refine ⟨_,rfl,a,_,rfl,SqT.of ha,rfl,_,_,rfl,_,_,rfl,rfl,?_⟩;refine ⟨_,rfl,n,rfl,h9,fun pl us H1 s1 _ el hus=>?_⟩;refine ⟨pl,rfl,⟨_,SqL.of el⟩,?_⟩;have lus:=hus.length;have l81:=iz n n;have l81':n * n≤9 * 9:=abn h9 h9;have lh:=ph.length;refine eV (Trn.list (xs:=us)) (fun i ys H'=>Same H1 H'∧PairsIn H' (((sfl n n).take i).filter (lob hs bs)) ys) ⟨Same.refl _,.nil⟩ (fun i ys H' hi z=>⟨SqL.of (z.1 _ _ el),aJ (by have:=z.2.length;have h2:=abx (lob hs bs) ((sfl n n).take i);rw [aas] at h2;lia)⟩) (fun i x ys H0 H' hi hx z Nx nx=>?_) (fun ys H' z p5 n5=>?_)
  · obtain ⟨rfl,hx⟩:=hx;obtain ⟨S,hp⟩:=z;obtain ⟨r,hri,hrr0⟩:=bu hus hx;have hrr:=PairIn.mono (Tups.of S) hrr0;have SS:=s1.trans S;have etake:((sfl n n).take (i+1)).filter (lob hs bs)=((sfl n n).take i).filter (lob hs bs)++(if lob hs bs r=true then [r] else []):=by
      rw [aaP,hri,List.filter_append];by_cases c:lob hs bs r=true
      · rw [if_pos c];simp [c]
      · rw [if_neg c];simp [c]
    refine ⟨_,rfl,_,rfl,r,ab,_,_,hrr,rfl,SqL.of (SS _ _ eab),PairsIn.mono (Tups.of SS) pb,_,rfl,dI (fun c=>?_) (fun c=>?_)⟩
    · have c:r∈bs:=of_decide_eq_true c;have hb:lob hs bs r=true:=by unfold lob;rw [decide_eq_true c];rfl
      refine ⟨_,rfl,nx _ _ ⟨S,?_⟩⟩;rw [etake,if_pos hb];exact PairsIn.snoc hp hrr
    · have c:r∉bs:=fun z=>c (decide_eq_true z);refine ⟨_,rfl,ah,rfl,⟨_,SqL.of (SS _ _ eah)⟩,?_⟩;refine eV (Trn.list (xs:=uh)) (fun j zs H2=>H2=H'∧zs=((hs.take j).map fun h=>decide (cJ r h)).map V.bl) ⟨rfl,rfl⟩ (fun j zs H2 hj z=>by rw [z.1,z.2];exact ⟨SqL.of (SS _ _ eah),aJ (by simp;lia)⟩) (fun j y zs H0 H2 hj hy z Ny ny=>?_) (fun zs H2 z p6 n6=>?_)
      · obtain ⟨rfl,hy⟩:=hy;obtain ⟨rfl,rfl⟩:=z;obtain ⟨o,ho1,ho2⟩:=bu (PairsIn.mono (Tups.of SS) ph) hy;refine ⟨_,rfl,_,rfl,r,o,_,_,rfl,hrr,ho2,ny _ _ ⟨rfl,?_⟩⟩;rw [aaP,ho1,aaJ,aaJ];rfl
      obtain ⟨rfl,rfl⟩:=z;rw [← lh,aaQ];have s6:=Same.new n6 (.lst ((hs.map fun h=>decide (cJ r h)).map V.bl));refine ⟨p6,_,rfl,SqL.of af,?_⟩;have eb:(hs.map fun h=>decide (cJ r h)).any id=lob hs bs r:=by
        unfold lob;rw [decide_eq_false c,List.any_map,Bool.false_or];rfl
      rw [eb];generalize upd H2 p6 (.lst ((hs.map fun h=>decide (cJ r h)).map V.bl))=H3 at s6 ⊢;refine ⟨_,rfl,?_⟩;cases hb:lob hs bs r with
      | true =>
        refine bV ⟨_,rfl,nx _ _ ⟨S.trans s6,?_⟩⟩;rw [etake,if_pos hb];exact PairsIn.snoc (PairsIn.mono (Tups.of s6) hp) (PairIn.mono (Tups.of s6) hrr)
      | false =>
        refine bi (nx _ _ ⟨S.trans s6,?_⟩);rw [etake,if_neg (by rw [hb];decide),abD];exact PairsIn.mono (Tups.of s6) hp
  · obtain ⟨S,hp⟩:=z;rw [← lus,aaQ] at hp;have s5:=Same.new n5 (.lst ys);exact q p5 ys _ ((s1.trans S).trans s5) ((s1.trans S).free n5) af (PairsIn.mono (Tups.of s5) hp)
end
section
variable {P:Program} {w:World} {K:aaa} {mg:Str→Option Value} {base:Heap} {f:Addr} {fd:FuncData}
def tY:Sp:=fun vs H Q _=>∃ (n:Nat) (gs:List Sg) (l:Addr) (L:List (Int × Int)) (us:List V),vs=[.int n,.str (aD gs),.ref l]∧1≤n∧n≤9∧1≤gs.length∧gs.length≤3∧H l=some (.lst us)∧PairsIn H L us ∧
  ∀ H',Same H H'→Q (.int (cnt gs.length L (0,(n:Int) - 1))) H'
abbrev ft:Stmt:=top 62
theorem dR:FnScope ["many","signs","left_out","counts","stretch"] ["many","signs","left_out"] (am ft):=⟨rfl,rfl,rfl,by decide +kernel,rfl,by decide +kernel,by decide +kernel⟩
theorem lZ (F:Fun K "count_kept" "count_kept" ft f fd) (B:Bu K mg) (C_shorter_first:Cal P w K mg base "shorter_first" 1 ["many"] sf) (C_cuts_of:Cal P w K mg base "cuts_of" 1 ["stretch"] ni):FnOk P w K mg base CX0 2 f fd ["many","signs","left_out"] tY:=by
  refine F.ok dR (fun vs H Q E h=>?_) (fun cdv A outer s H vs Q E hr h=>?_)
  · obtain ⟨n,gs,l,L,us,rfl,_⟩:=h;rfl
  obtain ⟨n,gs,l,L,us,rfl,h1,h9,g1,g3,el,hL,q⟩:=h;refine ⟨_,(@ag _ _ _ _ _ (@aH _ _ (3) _ _ _ _ (dR).nd rfl (Or.inr rfl) oT (by rfl) (by first|exact .inl rfl|exact .inr rfl|assumption)) (@ag _ _ _ _ _ (@fz _ _ _ _ _ _ _ _ aa4 rfl (@bO _ _ _ _ (@aj _ _ _ _ _ _ _ _ _ _ _ C_shorter_first hr (by lia) rfl (@aa _ _ _ _ _ (pv 0) ac (by rfl)) (by decide) (by rfl) (by rfl))) (@ao _ _ (4) _ (dR).nd rfl (Or.inl rfl) (.inl rfl)) (@ak _ _ _ (@bh _ _ _ _ _ _ _ _ (@aK _ _ _ _ _ _ _ _ (@kC _ _ rfl hr.units) (pv 4) (pv 2) (by with_unfolding_all rfl)) (@ak _ _ _ (@jW _ _ _ _ _ _ _ _ _ (u1 hr.units) (pv 3) (pv 4) ai rfl)) (@ak _ _ _ (@bh _ _ _ _ _ _ _ _ (@aK _ _ _ _ _ _ _ _ eQ (@aI _ _ _ _ _ _ _ aT (pv 4) ai (fun _ _=>rfl)) (@aI _ _ _ _ _ _ _ aT (pv 4) ai (fun _ _=>rfl)) (aN _)) (@ak _ _ _ (@jW _ _ _ _ _ _ _ _ _ (u1 hr.units) (pv 3) (pv 4) ai rfl)) (@ak _ _ _ (@jW _ _ _ _ _ _ _ _ _ (u1 hr.units) (pv 3) (pv 4) (@aC _ _ _ _ _ _ _ _ iF (@aA _ _ _ _ _ _ _ _ _ iM rfl B.ilen aay (@aa _ _ _ _ _ (pv 1) ac (by rfl)) (by decide) (by decide) (by rfl) (by rfl)) (@aA _ _ _ _ _ _ _ _ _ (@pS _ rfl) rfl B.isum PyProof.Rows.boot_sum (@aa _ _ _ _ _ (@gf _ _ _ _ _ _ _ _ (["before","behind","counts"]) ([none,none,some 3]) _ _ _ _ rfl (@bO _ _ _ _ (@aj _ _ _ _ _ _ _ _ _ _ _ C_cuts_of hr (by lia) rfl (@aa _ _ _ _ _ (pv 4) ac (by rfl)) (by decide) (by rfl) (by rfl))) rfl ⟨rfl,trivial⟩ ⟨⟨rfl,Or.inl rfl,Or.inl rfl⟩,trivial⟩ (fun _ _ _ _=>⟨(@fB _ _ _ _ _ _ (2) rfl rfl (@az _ _ _ _ _ (@ao _ _ (0) _ (show aaM (["before","behind","counts"]:List Str) by decide +kernel) rfl (Or.inl rfl) (.inr rfl)) (@az _ _ _ _ _ (@ao _ _ (1) _ (show aaM (["before","behind","counts"]:List Str) by decide +kernel) rfl (Or.inl rfl) (.inr rfl)) a8 (by rfl)) (by rfl)) (by rfl) (by rfl)),bt,(@aC _ _ _ _ _ _ _ _ iF (@dN _ _ _ _ _ _ (u1 hr.units) (pv 2) (pv 0) (fun _ _=>rfl)) (@dN _ _ _ _ _ _ (u1 hr.units) (pv 2) (pv 1) (fun _ _=>rfl)))⟩) (by rfl) (by rfl) (by rfl) (by rfl) (by intro _;rfl)) ac (by rfl)) (by decide) (by decide) (by rfl) (by rfl))) rfl)))))) (by intro _;rfl)) (@ak _ _ _ (@au _ _ _ _ (@dN _ _ _ _ _ _ (u1 hr.units) (pv 3) (@aY _ _ _ _ _ (@aa _ _ _ _ _ ai (@aa _ _ _ _ _ (@aC _ _ _ _ _ _ _ _ bz (pv 0) ai) ac (by rfl)) (by rfl))) (fun _ _=>rfl)))))),?_⟩;refine fun pd nd=>?_;have sd:=Same.new nd (.dT []);have ed:upd H pd (.dT []) pd=some (.dT []):=af;generalize upd H pd (.dT [])=H0 at sd ed ⊢;refine ⟨_,rfl,n,rfl,h9,fun pl ss H1 s1 npl epl hss=>?_⟩;have lss:=hss.length;have l81:=iz n n;have l81':n * n≤9 * 9:=abn h9 h9;have hgl:=kh gs;have npd:pl≠pd:=fun e=>by rw [e,ed] at npl;cases npl
  have gd:∀ p∈sfl n n,0≤p.1∧p.1≤p.2∧p.2 < n:=fun p hp=>by
    unfold sfl sfR at hp;rw [aaG] at hp;obtain ⟨m,hm,hp⟩:=hp;rw [aaC] at hp;obtain ⟨f,hf,rfl⟩:=hp;rw [List.mem_range] at hf;simp only;lia
  refine ⟨pl,rfl,⟨_,SqL.of epl⟩,kU (xs:=ss) (fun i σ H'=>∃ c kvs,σ=[some (.int n),some (.str (aD gs)),some (.ref l),some (.ref pd),c]∧H' pd=some (.dT kvs)∧kvs.length≤i∧CsE gs.length L kvs ((sfl n n).take i)∧But pd H1 H') ⟨_,[],rfl,s1 _ _ ed,aag _,fun p hp=>by simp at hp,But.refl⟩ ?_ ?_ ?_⟩
  · rintro i σ H' _ ⟨_,_,rfl,_,_,_,bb⟩;exact SqL.of (bb _ _ npd epl)
  · rintro i x σ H' hx ⟨c,kvs,rfl,ek,lk,hk,bb⟩;obtain ⟨p,hpi,hpx⟩:=bu hss hx;have hpm:=gd p (aax hpi);have ilt:i < ss.length:=(aak.mp hx).1;have TB:Tups H1 H':=fun b xs hb=>bb b _ (fun e=>by rw [e,s1 _ _ ed] at hb;cases hb) hb;have hpx':=PairIn.mono TB hpx;have T0:Tups H H':=(Tups.of (sd.trans s1)).trans TB;have nld:l≠pd:=aF el nd;have el':H' l=some (.lst us):=bb _ _ nld ((sd.trans s1) _ _ el);have etake:(sfl n n).take (i+1)=(sfl n n).take i++[p]:=by rw [aaP,hpi];rfl
    have fin:∀ (v:Int) (H2:Hp),CkE gs.length L p v→But pd H' H2→H2 pd=some (.dT kvs)→∃ H3,DPut H2 pd x (.int v) H3∧∃ c' kvs',[some (V.int n),some (.str (aD gs)),some (.ref l),some (.ref pd),some x]=[some (.int n),some (.str (aD gs)),some (.ref l),some (.ref pd),c']∧H3 pd=some (.dT kvs')∧kvs'.length≤i+1∧CsE gs.length L kvs' ((sfl n n).take (i+1))∧But pd H1 H3:=fun v H2 ck b2 e2=>by
      have T2:Tups H' H2:=fun b xs hb=>b2 b _ (fun e=>by rw [e,ek] at hb;cases hb) hb;obtain ⟨b,rfl,hb⟩:=PairIn.key (PairIn.mono T2 hpx');refine ⟨_,DPut.t (k:=ky p) e2 hb (aJ (by lia)),_,_,rfl,af,?_,?_,?_⟩
      · have:=cX kvs (ky p) (.int v);lia
      · rw [etake];exact hk.put ck
      · exact (bb.trans b2).trans But.put
    refine ⟨_,rfl,_,rfl,p,l,us,L,hpx',rfl,SqL.of el',PairsIn.mono T0 hL,_,rfl,dI (fun cm=>?_) (fun cm=>?_)⟩
    · have cm:p∈L:=of_decide_eq_true cm;obtain ⟨H3,d3,w3⟩:=fin 0 H' ⟨Ck.out hpm.2.1 cm,(rS cm).symm⟩ But.refl ek;exact ⟨_,rfl,_,rfl,pd,H3,rfl,d3,w3⟩
    · have cm:p∉L:=fun z=>cm (decide_eq_true z);obtain ⟨a,rfl,ha⟩:=hpx';refine ⟨_,rfl,a,_,_,_,rfl,rfl,SqT.of ha,rfl,_,rfl,a,_,_,_,rfl,rfl,SqT.of ha,rfl,rfl,_,rfl,dI (fun ce=>?_) (fun ce=>?_)⟩
      · have ce:V.int p.1=V.int p.2:=of_decide_eq_true ce;injection ce with ce
        obtain ⟨H3,d3,w3⟩:=fin 1 H' ⟨Ck.one ce cm,(rT cm ce).symm⟩ But.refl ek;exact ⟨_,rfl,_,rfl,pd,H3,rfl,d3,w3⟩
      · have ce:p.1≠p.2:=fun z=>ce (by rw [z];exact decide_eq_true rfl);refine ⟨_,rfl,_,rfl,bM (by lia),?_⟩;refine ⟨_,rfl,p,_,rfl,⟨a,rfl,ha⟩,hpm.1,hpm.2.1,by lia,fun pc cs H2 s2 npc epc hcs=>?_⟩;have ek2:=s2 _ _ ek;refine ⟨pc,rfl,⟨_,SqL.of epc⟩,?_⟩;have lcs:=hcs.length;have lcu:(aQ p).length≤9:=by simp [aQ];lia
        refine eV (Trn.list (xs:=cs)) (fun j ys H3=>H3=H2∧∃ xs:List Int,ys=xs.map V.int∧Paired (fun c x=>∃ a b,x=a * b∧CkE gs.length L (p.1,c) a∧CkE gs.length L (c+1,p.2) b) ((aQ p).take j) xs) ⟨rfl,[],rfl,.nil⟩ (fun j ys H3 hj z=>by obtain ⟨rfl,xs,rfl,hx⟩:=z;exact ⟨SqL.of epc,aJ (by have:=hx.length;rw [aaf,← this,aas];lia)⟩) (fun j y ys H0' H3 hj hy z Nx nx=>?_) (fun ys H3 z p5 n5=>?_)
        · obtain ⟨rfl,hy⟩:=hy;obtain ⟨rfl,xs,rfl,hxs⟩:=z;obtain ⟨c,hc,b,y1,y2,rfl,hb,hy1,hy2⟩:=Paired.at hcs hy;have hcm:c∈aQ p:=aax hc;unfold aQ at hcm;obtain ⟨k,hk',rfl⟩:=aaC.mp hcm;have hk':=aaB.mp hk';have m1:=eY (q:=(p.1,p.1+(k:Int))) h9 hpi (by simp only;lia) (by simp only;lia);have m2:=eY (q:=(p.1+(k:Int)+1,p.2)) h9 hpi (by simp only;lia) (by simp only;lia);obtain ⟨v1,hv1,c1⟩:=hk _ m1;obtain ⟨v2,hv2,c2⟩:=hk _ m2;obtain ⟨b1,rfl,hb1⟩:=PairIn.key hy1;obtain ⟨b2,rfl,hb2⟩:=PairIn.key hy2;refine ⟨b,_,rfl,SqT.of hb,rfl,_,_,rfl,_,_,rfl,rfl,?_⟩;refine ⟨_,rfl,_,rfl,pd,.int v1,rfl,by rw [← hv1];exact DGet.t (k:=ky (p.1,p.1+(k:Int))) ek2 hb1,_,rfl,_,rfl,pd,.int v2,rfl,by rw [← hv2];exact DGet.t (k:=ky (p.1+(k:Int)+1,p.2)) ek2 hb2,_,_,rfl,rfl,⟨?_,?_⟩,nx _ _ ⟨rfl,xs++[v1 * v2],by rw [aaJ];rfl,?_⟩⟩
          · exact qW (n:=10) (aag _) c1.1.nn (by have:=c1.1.le;have:=c1.1.nn;have:=vD (a:=((p.1,p.1+(k:Int)).2 - (p.1,p.1+(k:Int)).1+1).toNat) (b:=10) (by simp only;lia);lia)
          · exact qW (n:=10) (aag _) c2.1.nn (by have:=c2.1.le;have:=c2.1.nn;have:=vD (a:=((p.1+(k:Int)+1,p.2).2 - (p.1+(k:Int)+1,p.2).1+1).toNat) (b:=10) (by simp only;lia);lia)
          · rw [aaP,hc];exact Paired.snoc hxs ⟨v1,v2,rfl,c1,c2⟩
        · obtain ⟨rfl,xs,rfl,hxs⟩:=z;rw [← lcs,aaQ] at hxs;have hj:=Ck.join (s:=(gs.length:Int)) hpm.1 (by lia) (by lia) cm ⟨by lia,by lia⟩ (oj hxs).1;have s5:=Same.new n5 (.lst (xs.map V.int));refine ⟨p5,_,rfl,SqL.of af,_,_,rfl,rfl,⟨?_,hj.1⟩,?_⟩
          · rw [hgl];have : ((gs.length:Nat):Int).natAbs=gs.length:=by lia
            rw [this];exact abA g3 (by decide +kernel)
          obtain ⟨H4,d4,w4⟩:=fin _ _ ⟨hj.2,by rw [rV cm (by lia) (by lia),← (oj hxs).2]⟩ ((But.of s2).trans (But.of s5)) (s5 _ _ ek2);rw [hgl];exact ⟨_,rfl,_,rfl,pd,H4,rfl,d4,w4⟩
  · rintro σ H' ⟨c,kvs,rfl,ek,lk,hk,bb⟩;rw [← lss,aaQ] at hk;have hm:=dM n 0 (n - 1) (by lia) (by lia);obtain ⟨v,hv,ck⟩:=hk _ hm;refine ⟨_,rfl,_,rfl,_,_,rfl,rfl,(by show 2≤sizeLine;decide),fun t ht=>?_⟩;have st:=Same.new ht (.tup [.int 0,.int ((n:Int) - 1)]);have ek2:=st _ _ ek;have ey:(((0:Nat):Int),((n - 1:Nat):Int))=(0,(n:Int) - 1):=by congr 1;lia
    rw [ey] at hv ck;refine ⟨pd,.int v,rfl,by rw [← hv];exact DGet.t (k:=ky (0,(n:Int) - 1)) ek2 af,?_⟩;rw [ck.2];refine q _ ?_
    · have S1:Same H (upd H' t (.tup [.int 0,.int ((n:Int) - 1)])):=fun b o hb=>st _ _ (bb b o (aF hb nd) ((sd.trans s1) _ _ hb));exact S1
end
open PySem L2
def Wy.pl:Wy→Int→List (Int × Int)
  | .num _,_=>[]
  | .node _ l r,b=>(b,b+(l.size:Int)+(r.size:Int) - 1) :: (l.pl b++r.pl (b+(l.size:Int)))
def KW (hs bs:List (Int × Int)) (w:Wy):Prop:=(∀ h∈hs,h∈w.pl 0)∧∀ b∈bs,b∉w.pl 0
instance (hs bs:List (Int × Int)) (w:Wy):Decidable (KW hs bs w):=by unfold KW;infer_instance
theorem Wy.pl_iff:∀ (w:Wy) (b:Int) (q:Int × Int),q∈w.pl b↔q∈w.tr.all b∧q.1 < q.2
  | .num _,b,q=>by
    constructor
    · intro h;exact absurd h (abw)
    · rintro ⟨h,h2⟩;have : q=(b,b):=by simpa [Wy.tr,Tr.all] using h
      subst this;simp only at h2;lia
  | .node g l r,b,q=>by
    have i1:=l.pl_iff b q;have i2:=r.pl_iff (b+(l.size:Int)) q;have zl:=l.size_pos;have zr:=r.size_pos;show q∈(b,b+(l.size:Int)+(r.size:Int) - 1) :: (l.pl b++r.pl (b+(l.size:Int)))↔q∈(b,b+((l.tr.size+r.tr.size:Nat):Int) - 1) :: (l.tr.all b++r.tr.all (b+(l.tr.size:Int)))∧q.1 < q.2;rw [l.tr_size,r.tr_size,aam,aam,List.mem_append,List.mem_append,i1,i2,show b+(l.size:Int)+(r.size:Int) - 1=b+((l.size+r.size:Nat):Int) - 1 by lia];constructor
    · rintro (h|h|h)
      · exact ⟨.inl h,by rw [h];simp only;lia⟩
      · exact ⟨.inr (.inl h.1),h.2⟩
      · exact ⟨.inr (.inr h.1),h.2⟩
    · rintro ⟨h|h|h,h2⟩
      · exact .inl h
      · exact .inr (.inl ⟨h,h2⟩)
      · exact .inr (.inr ⟨h,h2⟩)
theorem xD (hs bs:List (Int × Int)) (h1:∀ h∈hs,h.1 < h.2) (h2:∀ h∈bs,h.1 < h.2) (w:Wy):KW hs bs w↔(∀ h∈hs,h∈w.tr.all 0)∧∀ q∈w.tr.all 0,q∉bs:=by
  unfold KW;constructor
  · rintro ⟨a,b⟩;exact ⟨fun h hh=>((w.pl_iff 0 h).mp (a h hh)).1,fun q hq hb=>b q hb ((w.pl_iff 0 q).mpr ⟨hq,h2 q hb⟩)⟩
  · rintro ⟨a,b⟩;exact ⟨fun h hh=>(w.pl_iff 0 h).mpr ⟨a h hh,h1 h hh⟩,fun q hq hb=>b q ((w.pl_iff 0 q).mp hb).1 hq⟩
theorem xT {n:Nat} {hs bs:List (Int × Int)} (hg:∀ h∈hs,Gp n h) (t:Tr) (ht:t.size=n):(∀ q∈t.all 0,q∉lo n hs bs)↔(∀ h∈hs,h∈t.all 0)∧∀ q∈t.all 0,q∉bs:=by
  have hin:∀ q∈t.all 0,q∈sfl n n:=fun q hq=>by
    have:=t.all_in 0 q hq;rw [ht] at this;have z:=dM n q.1.toNat q.2.toNat (by lia) (by lia);have e:((q.1.toNat:Int),(q.2.toNat:Int))=q:=by
      obtain ⟨a,b⟩:=q;simp only at *;rw [show (a.toNat:Int)=a by lia,show (b.toNat:Int)=b by lia]
    rw [e] at z;exact z
  have st:∀ q∈t.all 0,(q∉lo n hs bs↔q∉bs∧∀ h∈hs,¬ cJ q h):=fun q hq=>by
    unfold lo;rw [abP];unfold lob;simp only [aca,decide_eq_true_eq,List.any_eq_true];constructor
    · intro z;exact ⟨fun y=>z ⟨hin q hq,.inl y⟩,fun h hh y=>z ⟨hin q hq,.inr ⟨h,hh,y⟩⟩⟩
    · rintro ⟨z1,z2⟩ ⟨_,y|⟨h,hh,y⟩⟩
      · exact z1 y
      · exact z2 h hh y
  constructor
  · intro z;refine ⟨fun h hh=>?_,fun q hq=>((st q hq).mp (z q hq)).1⟩;obtain ⟨g1,g2,g3⟩:=hg h hh;exact (t.part_iff 0 h g1 g2 (by rw [ht];lia)).mpr fun q hq=>((st q hq).mp (z q hq)).2 h hh
  · rintro ⟨z1,z2⟩ q hq;refine (st q hq).mpr ⟨z2 q hq,fun h hh=>?_⟩;obtain ⟨g1,g2,g3⟩:=hg h hh;exact (t.part_iff 0 h g1 g2 (by rw [ht];lia)).mp (z1 h hh) q hq
theorem uK {gs:List Sg} (nd:gs.Nodup):gs.Pairwise fun a b=>gs.idxOf a < gs.idxOf b:=by
  rw [List.pairwise_iff_getElem];intro i j hi hj hij;rw [ab6 nd i hi,ab6 nd j hj];exact hij
theorem dO {gs:List Sg} {g:Sg} {l r:Wy} {n k:Nat} (hl:l.size=k+1) (hr:l.size+r.size=n):(Wy.node g l r).nr gs=prs gs.length n k+((((gs.idxOf g:Nat):Int) * cn gs.length (k+1)+l.nr gs) * cn gs.length (n - (k+1))+r.nr gs):=by
  show prs gs.length (l.size+r.size) (l.size - 1)+_=_;rw [hr,hl,show r.size=n - (k+1) by lia];rfl
theorem jZ {gs:List Sg} (hs:gs.length≤3) (nd:gs.Nodup):∀ (n:Nat) (ns:List Int),1≤ns.length→ns.length≤n→n≤9→(aw n gs ns).Pairwise fun v w=>v.nr gs < w.nr gs
  | 0,ns,h1,h2,_=>by lia
  | n+1,ns,h1,h2,h9=>by
    unfold aw;by_cases c:ns.length=1
    · rw [if_pos c];obtain ⟨a,rfl⟩:=List.length_eq_one_iff.mp c;simp
    rw [if_neg c];have mem1:∀ k,k < ns.length - 1→∀ l∈aw n gs (ns.take (k+1)),l.size=k+1∧l.within gs:=fun k hk l hl=>by
      obtain ⟨e,w⟩:=(dg gs l n (ns.take (k+1)) (by rw [aas];lia) (by rw [aas];lia)).mp hl;refine ⟨?_,w⟩;rw [← l.nums_len,e,aas];lia
    have mem2:∀ k,k < ns.length - 1→∀ r∈aw n gs (ns.drop (k+1)),r.size=ns.length - (k+1)∧r.within gs:=fun k hk r hr=>by
      obtain ⟨e,w⟩:=(dg gs r n (ns.drop (k+1)) (by rw [aaY];lia) (by rw [aaY];lia)).mp hr;refine ⟨?_,w⟩;rw [← r.nums_len,e,aaY]
    have inN:∀ k,k < ns.length - 1→∀ w∈awC (aw n gs) gs ns (k+1),prs gs.length ns.length k≤w.nr gs∧w.nr gs < prs gs.length ns.length (k+1):=fun k hk w hw=>by
      unfold awC at hw;obtain ⟨g,hg,hw⟩:=aaG.mp hw;obtain ⟨l,hl,hw⟩:=aaG.mp hw;obtain ⟨r,hr,rfl⟩:=aaC.mp hw;obtain ⟨l1,l2⟩:=mem1 k hk l hl;obtain ⟨r1,r2⟩:=mem2 k hk r hr;have bl:=l.nr_bd hs l2 (by lia);have br:=r.nr_bd hs r2 (by lia);rw [l1] at bl;rw [r1] at br;obtain ⟨i1,_⟩:=kS hg;obtain ⟨e0,e1,_⟩:=qD (i:=((gs.idxOf g:Nat):Int)) (s:=gs.length) (by lia) (by lia) bl.1 bl.2 br.1 br.2;rw [dO (n:=ns.length) l1 (by lia)];show _∧_ < prs gs.length ns.length k+(gs.length:Int) * cn gs.length (1+k) * cn gs.length (ns.length - (1+k));rw [Nat.add_comm 1 k];lia
    rw [acs];refine ⟨fun k hk=>?_,?_⟩
    · have hk:=aaB.mp hk;unfold awC;rw [acs];refine ⟨fun g hg=>?_,(uK nd).imp ?_⟩
      · rw [acs];refine ⟨fun l hl=>?_,?_⟩
        · rw [List.pairwise_map];obtain ⟨l1,l2⟩:=mem1 k hk l hl;have ih:=jZ hs nd n (ns.drop (k+1)) (by rw [aaY];lia) (by rw [aaY];lia) (by lia);refine ih.imp_of_mem fun {r r'} hr hr' h=>?_;rw [dO (n:=ns.length) l1 (by have:=(mem2 k hk r hr).1;lia),dO (n:=ns.length) l1 (by have:=(mem2 k hk r' hr').1;lia)];lia
        · have ih:=jZ hs nd n (ns.take (k+1)) (by rw [aas];lia) (by rw [aas];lia) (by lia);refine ih.imp_of_mem fun {l l'} hl hl' h x hx y hy=>?_;obtain ⟨r,hr,rfl⟩:=aaC.mp hx;obtain ⟨r',hr',rfl⟩:=aaC.mp hy;obtain ⟨l1,l2⟩:=mem1 k hk l hl;obtain ⟨l1',l2'⟩:=mem1 k hk l' hl';obtain ⟨r1,r2⟩:=mem2 k hk r hr;obtain ⟨r1',r2'⟩:=mem2 k hk r' hr';have br:=r.nr_bd hs r2 (by lia);have br':=r'.nr_bd hs r2' (by lia);rw [r1] at br;rw [dO (n:=ns.length) l1 (by lia),dO (n:=ns.length) l1' (by lia)];have:=aaD (show ((gs.idxOf g:Nat):Int) * cn gs.length (k+1)+l.nr gs+1≤((gs.idxOf g:Nat):Int) * cn gs.length (k+1)+l'.nr gs by lia) (show 0≤cn gs.length (ns.length - (k+1)) by lia);rw [abk _ 1,abl] at this;lia
      · intro g g' hgg x hx y hy;obtain ⟨l,hl,hx⟩:=aaG.mp hx;obtain ⟨r,hr,rfl⟩:=aaC.mp hx;obtain ⟨l',hl',hy⟩:=aaG.mp hy;obtain ⟨r',hr',rfl⟩:=aaC.mp hy;obtain ⟨l1,l2⟩:=mem1 k hk l hl;obtain ⟨l1',l2'⟩:=mem1 k hk l' hl';obtain ⟨r1,r2⟩:=mem2 k hk r hr;obtain ⟨r1',r2'⟩:=mem2 k hk r' hr';have br:=r.nr_bd hs r2 (by lia);have br':=r'.nr_bd hs r2' (by lia);have bl:=l.nr_bd hs l2 (by lia);have bl':=l'.nr_bd hs l2' (by lia);rw [r1] at br;rw [l1] at bl;rw [dO (n:=ns.length) l1 (by lia),dO (n:=ns.length) l1' (by lia)];have m1:=aaD (show ((gs.idxOf g:Nat):Int)+1≤((gs.idxOf g':Nat):Int) by lia) (show 0≤cn gs.length (k+1) by lia);rw [abk,abl] at m1;have:=aaD (show ((gs.idxOf g:Nat):Int) * cn gs.length (k+1)+l.nr gs+1≤((gs.idxOf g':Nat):Int) * cn gs.length (k+1)+l'.nr gs by lia) (show 0≤cn gs.length (ns.length - (k+1)) by lia);rw [abk _ 1,abl] at this;lia
    · refine (List.pairwise_lt_range (n:=ns.length - 1)).imp_of_mem fun {k k'} hk hk' h x hx y hy=>?_;have hk:=aaB.mp hk;have hk':=aaB.mp hk';have a:=inN k hk x hx;have b:=inN k' hk' y hy;have:=f_ hs (n:=ns.length) (by lia) (i:=k+1) (j:=k') (by lia) (by lia);lia
open PySem L2
def lexLe (x y:Int × Int):Prop:=x.1 < y.1∨(x.1=y.1∧x.2≤y.2)
theorem lexLe.refl (x:Int × Int):lexLe x x:=.inr ⟨rfl,aav _⟩
theorem lexLe.trans {x y z:Int × Int} (h:lexLe x y) (g:lexLe y z):lexLe x z:=by unfold lexLe at *;lia
theorem jv (f:Nat→Int × Int):∀ n k,k≤n→lexLe (f (aG (fun i=>[(f i).1,(f i).2]) n)) (f k)
  | 0,k,h=>by
    obtain rfl:k=0:=by lia
    exact lexLe.refl _
  | n+1,k,h=>by
    have ih:=jv f n;have e:aG (fun i=>[(f i).1,(f i).2]) (n+1)=if HT.lexLt [(f (n+1)).1,(f (n+1)).2] [(f (aG (fun i=>[(f i).1,(f i).2]) n)).1,(f (aG (fun i=>[(f i).1,(f i).2]) n)).2]=true then n+1 else aG (fun i=>[(f i).1,(f i).2]) n:=rfl
    rw [e,yq];generalize aG (fun i=>[(f i).1,(f i).2]) n=b at ih ⊢;by_cases c:(decide ((f (n+1)).1 < (f b).1) || (decide ((f (n+1)).1=(f b).1) && decide ((f (n+1)).2 < (f b).2)))=true
    · rw [if_pos c];simp only [aca,aa6,decide_eq_true_eq] at c;by_cases hk:k=n+1
      · rw [hk];exact lexLe.refl _
      · have:=ih k (by lia);unfold lexLe at *;lia
    · rw [if_neg c];simp only [aca,aa6,decide_eq_true_eq] at c;by_cases hk:k=n+1
      · rw [hk];unfold lexLe;lia
      · exact ih k (by lia)
def Cov (gs:List Sg) (S:Wy→Prop) (ps:List (Int × Int)):Prop:=(∀ p∈ps,∃ w,S w∧p=(w.wv,w.nr gs))∧∀ k:Int,(k=0∨k=1∨k=-1)→∀ w,S w→∃ p∈ps,lexLe (k * p.1,p.2) (k * w.wv,w.nr gs)
def Mon (φ:Int→Int):Prop:=(∀ x y,x < y→φ x < φ y)∨(∀ x y,x < y→φ y < φ x)∨∀ x y,φ x=φ y
theorem gG (k:Int):Mon fun x=>k * x:=by
  rcases Int.lt_trichotomy k 0 with h|h|h
  · exact .inr (.inl fun x y hxy=>Int.mul_lt_mul_of_neg_left hxy h)
  · subst h;exact .inr (.inr fun x y=>by simp)
  · exact .inl fun x y hxy=>Int.mul_lt_mul_of_pos_left hxy h
theorem pi {φ ψ:Int→Int} (h:Mon φ) (g:Mon ψ):Mon fun x=>φ (ψ x):=by
  rcases g with g|g|g
  · rcases h with h|h|h
    · exact .inl fun x y z=>h _ _ (g _ _ z)
    · exact .inr (.inl fun x y z=>h _ _ (g _ _ z))
    · exact .inr (.inr fun x y=>h _ _)
  · rcases h with h|h|h
    · exact .inr (.inl fun x y z=>h _ _ (g _ _ z))
    · exact .inl fun x y z=>h _ _ (g _ _ z)
    · exact .inr (.inr fun x y=>h _ _)
  · exact .inr (.inr fun x y=>by show φ (ψ x)=φ (ψ y);rw [g x y])
theorem uw (g:Sg) (b:Int):Mon fun a=>g.op a b:=by
  cases g with
  | plus=>exact .inl fun x y h=>by show x+b < y+b;lia
  | minus=>exact .inl fun x y h=>by show x - b < y - b;lia
  | times =>
    have:=gG b;have e:(fun x:Int=>b * x)=fun a=>Sg.times.op a b:=by funext x;exact Int.mul_comm b x
    rw [e] at this;exact this
theorem sV (g:Sg) (a:Int):Mon fun b=>g.op a b:=by
  cases g with
  | plus=>exact .inl fun x y h=>by show a+x < a+y;lia
  | minus=>exact .inr (.inl fun x y h=>by show a - y < a - x;lia)
  | times=>exact gG a
theorem pQ {gs:List Sg} {S:Wy→Prop} {ps:List (Int × Int)} (h:Cov gs S ps) {φ:Int→Int} (m:Mon φ) {w:Wy} (hw:S w):∃ p∈ps,lexLe (φ p.1,p.2) (φ w.wv,w.nr gs):=by
  rcases m with m|m|m
  · obtain ⟨p,hp,le⟩:=h.2 1 (.inr (.inl rfl)) w hw;refine ⟨p,hp,?_⟩;rcases le with le|⟨e,le⟩
    · exact .inl (m _ _ (by simpa using le))
    · exact .inr ⟨by have : p.1=w.wv:=by simpa using e
                     simp only [this],le⟩
  · obtain ⟨p,hp,le⟩:=h.2 (-1) (.inr (.inr rfl)) w hw;refine ⟨p,hp,?_⟩;rcases le with le|⟨e,le⟩
    · exact .inl (m _ _ (by simp only at le;lia))
    · exact .inr ⟨by have : p.1=w.wv:=by simp only at e;lia
                     simp only [this],le⟩
  · obtain ⟨p,hp,le⟩:=h.2 0 (.inl rfl) w hw;refine ⟨p,hp,.inr ⟨m _ _,?_⟩⟩;rcases le with le|⟨_,le⟩
    · simp at le
    · exact le
theorem vf {gs:List Sg} {S1 S2:Wy→Prop} {ps1 ps2:List (Int × Int)} (h1:Cov gs S1 ps1) (h2:Cov gs S2 ps2) (g:Sg) {l r:Wy} (hl:S1 l) (hr:S2 r) (k B C:Int) (hC:0≤C) :
    ∃ p1∈ps1,∃ p2∈ps2,lexLe (k * g.op p1.1 p2.1,B+p1.2 * C+p2.2) (k * g.op l.wv r.wv,B+l.nr gs * C+r.nr gs):=by
  obtain ⟨p1,m1,a⟩:=pQ h1 (pi (gG k) (uw g r.wv)) hl;obtain ⟨p2,m2,b⟩:=pQ h2 (pi (gG k) (sV g p1.1)) hr;refine ⟨p1,m1,p2,m2,?_⟩;unfold lexLe at *;simp only at *;rcases a with a|⟨ae,an⟩
  · left;rcases b with b|⟨be,_⟩ <;> lia
  · rcases b with b|⟨be,bn⟩
    · left;lia
    · right;have:=aaD an hC;lia
theorem jA {ps:List (Int × Int)} (h:ps≠[]):∃ f a b,fN ps=[f,a,b]∧∀ x∈ps,lexLe (0 * f.1,f.2) (0 * x.1,x.2)∧lexLe (1 * a.1,a.2) (1 * x.1,x.2)∧lexLe (-1 * b.1,b.2) (-1 * x.1,x.2):=by
  have l:0 < ps.length:=ab0.mpr h;refine ⟨_,_,_,rfl,fun x hx=>?_⟩;obtain ⟨k,hk,e⟩:=aa0 hx;have ek:ps.getD k (0,0)=x:=by rw [aau,aac hk,e];rfl
  rw [← ek];refine ⟨?_,?_,?_⟩
  · have e1:aG (bS pE ps) (ps.length - 1)=aG (fun i=>[(ps.getD i (0,0)).2]) (ps.length - 1):=cf _ fun i hi=>dv pE (by lia);rw [e1];have:=lu (fun i=>(ps.getD i (0,0)).2) (ps.length - 1) k (by lia);exact .inr ⟨by simp,this⟩
  · have e1:aG (bS gR ps) (ps.length - 1)=aG (fun i=>[(ps.getD i (0,0)).1,(ps.getD i (0,0)).2]) (ps.length - 1):=cf _ fun i hi=>dv gR (by lia);rw [e1];have:=jv (fun i=>ps.getD i (0,0)) (ps.length - 1) k (by lia);rw [abl,abl];exact this
  · have e1:aG (bS qJ ps) (ps.length - 1)=aG (fun i=>[(-(ps.getD i (0,0)).1,(ps.getD i (0,0)).2).1,(-(ps.getD i (0,0)).1,(ps.getD i (0,0)).2).2]) (ps.length - 1):=cf _ fun i hi=>dv qJ (by lia);rw [e1];have:=jv (fun i=>(-(ps.getD i (0,0)).1,(ps.getD i (0,0)).2)) (ps.length - 1) k (by lia);rw [Int.neg_mul,Int.neg_mul,abl,abl];exact this
theorem sK {ns:List Int} {gs:List Sg} {lo:List (Int × Int)} {L:Int × Int→List (Int × Int)} (hs:gs.length≤3) (nd:gs.Nodup) (h9:ns.length≤9) (hL:∀ q:Int × Int,0≤q.1→q.1≤q.2→q.2 < ns.length→fL ns gs lo L q):∀ (m:Nat) (q:Int × Int),0≤q.1→q.1≤q.2→q.2 < ns.length→(q.2 - q.1).toNat=m →
    Cov gs (Kpt ns gs lo q) (L q):=by
  intro m
  induction m using Nat.strongRecOn with
  | _ m ih =>
    intro q h0 h1 h2 hm;have he:=hL q h0 h1 h2;refine ⟨(jz hs nd h9 hL _ q h0 h1 h2 hm).1,?_⟩;obtain ⟨n,hn⟩:∃ n,(q.2 - q.1+1).toNat=n:=⟨_,rfl⟩
    have key:q∉lo→∀ k:Int,(k=0∨k=1∨k=-1)→∀ w,Kpt ns gs lo q w→∃ x∈fnd ns gs L q,lexLe (k * x.1,x.2) (k * w.wv,w.nr gs):=by
      intro c k hk w hw;by_cases e:q.1=q.2
      · have ef:fnd ns gs L q=[(ns.getD q.1.toNat 0,0)]:=by unfold fnd;rw [if_pos e]
        have es:=gx h0 e h2;rw [ef];refine ⟨_,aaj.mpr rfl,?_⟩;cases w with
        | num i =>
          have : [i]=slice ns q:=hw.1;rw [es] at this;have hi:i=ns.getD q.1.toNat 0:=by simpa using this
          rw [← hi];exact lexLe.refl _
        | node g l r =>
          have hz:=cr h0 h1 h2 hw;have hz:l.size+r.size=(q.2 - q.1+1).toNat:=hz;have:=l.size_pos;have:=r.size_pos;lia
      · have hlt:q.1 < q.2:=by lia
        cases w with
        | num i =>
          have:=cr h0 h1 h2 hw;have : 1=(q.2 - q.1+1).toNat:=this;lia
        | node g l r =>
          obtain ⟨_,hg,j,hj,hc,kl,kr⟩:=kN h0 h1 h2 hw;have hjn:j < n - 1:=by lia
          have c1:=ih j (by lia) (q.1,q.1+(j:Int)) h0 (by simp only;lia) (by simp only;lia) (by simp only;lia);have c2:=ih (q.2 - (q.1+(j:Int)+1)).toNat (by lia) (q.1+(j:Int)+1,q.2) (by simp only;lia) (by simp only;lia) h2 rfl;obtain ⟨i1,ig⟩:=kS hg;have zs:=cr h0 h1 h2 hw;have zs:l.size+r.size=(q.2 - q.1+1).toNat:=zs;have c0:=(gX gs.length hs (n - (1+j)) (by lia)).1;obtain ⟨p1,m1,p2,m2,le⟩:=vf c1 c2 g kl kr k (prs gs.length n j+((gs.idxOf g:Nat):Int) * (cn gs.length (1+j) * cn gs.length (n - (1+j)))) (cn gs.length (n - (1+j))) c0;refine ⟨_,(n_ (ns:=ns) (gs:=gs) (L:=L) hn hlt).mpr ⟨j,hjn,gs.idxOf g,g,ig,p1,m1,p2,m2,rfl⟩,?_⟩;have en:(Wy.node g l r).nr gs=prs gs.length n j+((gs.idxOf g:Nat):Int) * (cn gs.length (1+j) * cn gs.length (n - (1+j)))+l.nr gs * cn gs.length (n - (1+j))+r.nr gs:=by
            rw [dO (n:=n) (k:=j) (by lia) (by lia),show j+1=1+j by lia,abk,acb];lia
          rw [en];exact le
    intro k hk w hw;have c:q∉lo:=by
      have hz:=cr h0 h1 h2 hw;have:=hw.2.2 _ (w.tr.top q.1);rw [w.tr_size,hz] at this;have eq:(q.1,q.1+(((q.2 - q.1+1).toNat:Nat):Int) - 1)=q:=by
        obtain ⟨a,b⟩:=q;simp only at *;congr 1;lia
      rwa [eq] at this
    obtain ⟨x,hx,le⟩:=key c k hk w hw;have hne:fnd ns gs L q≠[]:=acf hx;obtain ⟨f,a,b,e,al⟩:=jA hne;unfold fL at he;rw [he,if_pos ⟨hne,c⟩,e];obtain ⟨t1,t2,t3⟩:=al x hx;rcases hk with rfl|rfl|rfl
    · exact ⟨f,by simp,t1.trans le⟩
    · exact ⟨a,by simp,t2.trans le⟩
    · exact ⟨b,by simp,t3.trans le⟩
def Bst (gs:List Sg) (S:Wy→Prop) (k:Int) (w:Wy):Prop:=S w∧∀ w',S w'→lexLe (k * w.wv,w.nr gs) (k * w'.wv,w'.nr gs)
theorem gE {ns:List Int} {gs:List Sg} {lo:List (Int × Int)} {L:Int × Int→List (Int × Int)} (hs:gs.length≤3) (nd:gs.Nodup) (h9:ns.length≤9) (hL:∀ q:Int × Int,0≤q.1→q.1≤q.2→q.2 < ns.length→fL ns gs lo L q) {q:Int × Int} (h0:0≤q.1) (h1:q.1≤q.2) (h2:q.2 < ns.length) :
    (L q=[]∧∀ w,¬ Kpt ns gs lo q w)∨∃ f a b,L q=[(f.wv,f.nr gs),(a.wv,a.nr gs),(b.wv,b.nr gs)]∧Bst gs (Kpt ns gs lo q) 0 f∧Bst gs (Kpt ns gs lo q) 1 a∧Bst gs (Kpt ns gs lo q) (-1) b:=by
  have hc:=sK hs nd h9 hL _ q h0 h1 h2 rfl;have he:=hL q h0 h1 h2;unfold fL at he;by_cases c:fnd ns gs L q≠[]∧q∉lo
  · rw [if_pos c] at he;obtain ⟨f,a,b,e,al⟩:=jA c.1;rw [e] at he;obtain ⟨wf,kf,ef⟩:=hc.1 f (by rw [he];simp);obtain ⟨wa,ka,ea⟩:=hc.1 a (by rw [he];simp);obtain ⟨wb,kb,eb⟩:=hc.1 b (by rw [he];simp);have inf:∀ p∈L q,p∈fnd ns gs L q:=fun p hp=>cD c.1 p (by rw [e];rw [he] at hp;exact hp);refine .inr ⟨wf,wa,wb,by rw [he,ef,ea,eb],⟨kf,fun w hw=>?_⟩,⟨ka,fun w hw=>?_⟩,⟨kb,fun w hw=>?_⟩⟩
    · obtain ⟨p,hp,le⟩:=hc.2 0 (.inl rfl) w hw;have:=(al p (inf p hp)).1.trans le;rw [ef] at this;exact this
    · obtain ⟨p,hp,le⟩:=hc.2 1 (.inr (.inl rfl)) w hw;have:=(al p (inf p hp)).2.1.trans le;rw [ea] at this;exact this
    · obtain ⟨p,hp,le⟩:=hc.2 (-1) (.inr (.inr rfl)) w hw;have:=(al p (inf p hp)).2.2.trans le;rw [eb] at this;exact this
  · rw [if_neg c] at he;refine .inl ⟨he,fun w hw=>?_⟩;obtain ⟨p,hp,_⟩:=hc.2 0 (.inl rfl) w hw;rw [he] at hp;cases hp
open PySem L2
section
variable {P:Program} {w:World} {K:aaa} {mg:Str→Option Value} {base:Heap} {f:Addr} {fd:FuncData}
theorem kB {H:Hp} {p0 p1 p2:Int × Int} {xs:List V} (h:PairsIn H [p0,p1,p2] xs):∃ x0 x1 x2,xs=[x0,x1,x2]∧PairIn H p0 x0∧PairIn H p1 x1∧PairIn H p2 x2:=by
  cases h with
  | cons a h =>
  cases h with
  | cons b h =>
  cases h with
  | cons c h =>
  cases h;exact ⟨_,_,_,rfl,a,b,c⟩
def iU (T:Addr):Sp:=fun vs H Q _=>∃ (a:Addr) (ns:List Int) (gs:List Sg) (hs bs:List (Int × Int)) (v:V),vs=[.ref a,.str (aD gs),v]∧H a=some (.lst (ns.map V.int))∧1≤ns.length∧ns.length≤9∧1≤gs.length∧gs.length≤3∧cY gs∧iP ns∧HdIn H hs bs v∧Gs ns.length hs∧Gs ns.length bs∧LT T H ∧
  ∀ t xs (L:Int × Int→List (Int × Int)) H',But T H H'→LT T H'→H' t=some (.tup xs)→PairsIn H' (L (0,(ns.length:Int) - 1)) xs→(∀ q:Int × Int,0≤q.1→q.1≤q.2→q.2 < ns.length→fL ns gs (lo ns.length hs bs) L q)→Q (.ref t) H'
abbrev e_:Stmt:=top 63
theorem lF:FnScope ["row","signs","holds"] ["row","signs","holds"] (am e_):=⟨rfl,rfl,rfl,by decide +kernel,rfl,by decide +kernel,by decide +kernel⟩
theorem lN {T:Addr} (F:Fun K "picks_held" "picks_held" e_ f fd) (B:Bu K mg) (C_need_holds:Cal P w K mg base "need_holds" 5 ["row","signs","thing"] cA) (C_list_left_out:Cal P w K mg base "list_left_out" 2 ["many","holds"] sg) (C_picks_by_stretch:Cal P w K mg base "picks_by_stretch" 5 ["row","signs","left_out"] (mf (K:=K) T)):FnOk P w K mg base CX0 6 f fd ["row","signs","holds"] (iU T):=by
  refine F.ok lF (fun vs H Q E h=>?_) (fun cdv A outer s H vs Q E hr h=>?_)
  · obtain ⟨a,ns,gs,hs,bs,v,rfl,_⟩:=h;rfl
  obtain ⟨a,ns,gs,hs,bs,v,rfl,ea,h1,h9,g1,g3,sp,sm,hv,ghs,gbs,hT,q⟩:=h;refine ⟨_,(@ag _ _ _ _ _ (@aX _ _ _ _ (@aj _ _ _ _ _ _ _ _ _ _ _ C_need_holds hr (by lia) rfl (@aa _ _ _ _ _ (pv 0) (@aa _ _ _ _ _ (pv 1) (@aa _ _ _ _ _ (pv 2) ac (by rfl)) (by rfl)) (by rfl)) (by decide) (by rfl) (by rfl)) (by rfl)) (@ak _ _ _ (@au _ _ _ _ (@dN _ _ _ _ _ _ (u1 hr.units) (@aj _ _ _ _ _ _ _ _ _ _ _ C_picks_by_stretch hr (by lia) rfl (@aa _ _ _ _ _ (pv 0) (@aa _ _ _ _ _ (pv 1) (@aa _ _ _ _ _ (@aj _ _ _ _ _ _ _ _ _ _ _ C_list_left_out hr (by lia) rfl (@aa _ _ _ _ _ (@aA _ _ _ _ _ _ _ _ _ aB rfl B.ilen aay (@aa _ _ _ _ _ (pv 0) ac (by rfl)) (by decide) (by decide) (by rfl) (by rfl)) (@aa _ _ _ _ _ (pv 2) ac (by rfl)) (by rfl)) (by decide) (by rfl) (by rfl)) ac (by rfl)) (by rfl)) (by rfl)) (by decide) (by rfl) (by rfl)) (@aY _ _ _ _ _ (@aa _ _ _ _ _ ai (@aa _ _ _ _ _ (@aC _ _ _ _ _ _ _ _ bz (@aA _ _ _ _ _ _ _ _ _ aB rfl B.ilen aay (@aa _ _ _ _ _ (pv 0) ac (by rfl)) (by decide) (by decide) (by rfl) (by rfl)) ai) ac (by rfl)) (by rfl))) (fun _ _=>rfl))))),?_⟩;have hl:(ns.map V.int).length=ns.length:=aaf _;refine ⟨_,rfl,_,rfl,_,rfl,a,ns,gs,hs,bs,v,rfl,ea,h1,h9,sp,hv,ghs,gbs,fun H1 s1=>?_⟩;refine ⟨_,rfl,_,rfl,_,rfl,a,_,rfl,.inl (SqL.of (s1 _ _ ea)),?_⟩;rw [hl];refine ⟨_,rfl,ns.length,hs,bs,v,rfl,h9,hv.mono s1,by have:=ghs.1;lia,fun l us H2 s2 nl el hL=>?_⟩;have S2:=s1.trans s2;have hT2:LT T H2:=by obtain ⟨tp,h⟩:=hT;exact ⟨tp,S2 _ _ h.tab,h.tri,fun pos' cv hc=>by obtain ⟨d,e1,e2⟩:=h.cds pos' cv hc;exact ⟨d,e1,S2 _ _ e2⟩⟩
  refine ⟨a,ns,gs,l,us,_,rfl,S2 _ _ ea,h1,h9,g1,g3,sm,.inl el,hL,hT2,fun pk kvs L H3 b3 hT3 nk ek hks hq=>?_⟩;have naT:a≠T:=fun e=>by obtain ⟨tp,h⟩:=hT;rw [e,h.tab] at ea;cases ea
  refine ⟨_,rfl,a,_,rfl,.inl (SqL.of (b3 _ _ naT (S2 _ _ ea))),_,_,rfl,rfl,?_⟩;rw [hl];refine ⟨(by show 2≤sizeLine;decide),fun k1 nk1=>?_⟩;have sk:=Same.new nk1 (.tup [.int 0,.int ((ns.length:Int) - 1)]);have inS:∀ q:Int × Int,0≤q.1→q.1≤q.2→q.2 < ns.length→q∈sfl ns.length ns.length:=fun q h0 h1 h2=>by
    have:=dM ns.length q.1.toNat q.2.toNat (by lia) (by lia)
    rwa [show ((q.1.toNat:Nat):Int)=q.1 by lia,show ((q.2.toNat:Nat):Int)=q.2 by lia] at this
  obtain ⟨⟨t,xs,v1,v2,v3⟩,_⟩:=hq (0,(ns.length:Int) - 1) (inS _ (aav _) (by simp only;lia) (by simp only;lia));refine ⟨pk,.ref t,rfl,by rw [← v1];exact DGet.t (k:=ky (0,(ns.length:Int) - 1)) (sk _ _ ek) af,?_⟩;refine q t xs L _ ((But.of S2).trans (b3.trans (But.of sk))) ?_ (sk _ _ v2) (PairsIn.mono (Tups.of sk) v3) fun q h0 h1 h2=>(hq q (inS q h0 h1 h2)).2;obtain ⟨tp,h⟩:=hT3;exact ⟨tp,sk _ _ h.tab,h.tri,fun pos' cv hc=>by obtain ⟨d,e1,e2⟩:=h.cds pos' cv hc;exact ⟨d,e1,sk _ _ e2⟩⟩
def fQ:Sp:=fun vs H Q _=>∃ (a t:Addr) (gs:List Sg) (wy:Wy) (x:V),vs=[.ref a,.str (aD gs),.ref t]∧H a=some (.lst (wy.nums.map V.int))∧wy.size≤9∧gs.length≤3∧wy.within gs∧H t=some (.tup [x,.int (wy.nr gs)])∧∀ v H',Same H H'→WyIn H' wy v→Q v H'
abbrev eZ:Stmt:=top 64
theorem lC:FnScope ["row","signs","pick"] ["row","signs","pick"] (am eZ):=⟨rfl,rfl,rfl,by decide +kernel,rfl,by decide +kernel,by decide +kernel⟩
theorem lL (F:Fun K "way_picked" "way_picked" eZ f fd) (B:Bu K mg) (C_way_at:Cal P w K mg base "way_at" 11 ["row","signs","counts","number"] (gZ 9)) (C_counts_up_to:Cal P w K mg base "counts_up_to" 2 ["signs","many"] jy):FnOk P w K mg base CX0 12 f fd ["row","signs","pick"] fQ:=by
  refine F.ok lC (fun vs H Q E h=>?_) (fun cdv A outer s H vs Q E hr h=>?_)
  · obtain ⟨a,t,gs,wy,x,rfl,_⟩:=h;rfl
  obtain ⟨a,t,gs,wy,x,rfl,ea,h9,g3,hw,et,q⟩:=h;refine ⟨_,(@ak _ _ _ (@au _ _ _ _ (@aj _ _ _ _ _ _ _ _ _ _ _ C_way_at hr (by lia) rfl (@aa _ _ _ _ _ (pv 0) (@aa _ _ _ _ _ (pv 1) (@aa _ _ _ _ _ (@aj _ _ _ _ _ _ _ _ _ _ _ C_counts_up_to hr (by lia) rfl (@aa _ _ _ _ _ (pv 1) (@aa _ _ _ _ _ (@aA _ _ _ _ _ _ _ _ _ aB rfl B.ilen aay (@aa _ _ _ _ _ (pv 0) ac (by rfl)) (by decide) (by decide) (by rfl) (by rfl)) ac (by rfl)) (by rfl)) (by decide) (by rfl) (by rfl)) (@aa _ _ _ _ _ (@aI _ _ _ _ _ _ _ aT (pv 2) ai (fun _ _=>rfl)) ac (by rfl)) (by rfl)) (by rfl)) (by rfl)) (by decide) (by rfl) (by rfl)))),?_⟩;have zl:(aD gs).length=gs.length:=dL gs;have z1:=wy.size_pos;refine ⟨_,rfl,_,rfl,_,rfl,_,rfl,a,_,rfl,.inl (SqL.of ea),?_⟩;rw [aaf,wy.nums_len];refine ⟨aD gs,(wy.size:Nat),rfl,by lia,by lia,by lia,fun pc H1 s1 npc epc=>?_⟩;rw [zl] at epc;refine ⟨_,rfl,t,_,_,_,rfl,rfl,SqT.of (s1 _ _ et),rfl,?_⟩;exact ⟨gs,a,pc,wy,_,rfl,g3,s1 _ _ ea,epc,by lia,by lia,by lia,hw,fun v H2 s2 hv=>q v _ (s1.trans s2) hv⟩
abbrev KQ (ns:List Int) (gs:List Sg) (L:List (Int × Int)):Wy→Prop:=Kpt ns gs L (0,(ns.length:Int) - 1)
def pU (H:Hp) (ns:List Int) (gs:List Sg) (L:List (Int × Int)) (k:Int) (x:V):Prop:=(x=.non∧∀ w,¬ KQ ns gs L w)∨∃ w,Bst gs (KQ ns gs L) k w∧WyIn H w x
def wF (H:Hp) (ns:List Int) (gs:List Sg) (L:List (Int × Int)) (x:V):Prop:=(x=.non∧∀ w,¬ KQ ns gs L w)∨∃ a b p,Bst gs (KQ ns gs L) 1 a∧Bst gs (KQ ns gs L) (-1) b∧x=.ref p∧H p=some (.tup [.int a.wv,.int b.wv])
def jK (T:Addr) (R:Hp→List Int→List Sg→List (Int × Int)→V→Prop):Sp:=fun vs H Q _=>∃ (a:Addr) (ns:List Int) (gs:List Sg) (hs bs:List (Int × Int)) (v:V),vs=[.ref a,.str (aD gs),v]∧H a=some (.lst (ns.map V.int))∧1≤ns.length∧ns.length≤9∧1≤gs.length∧gs.length≤3∧gs.Nodup∧cY gs∧iP ns∧HdIn H hs bs v∧Gs ns.length hs∧Gs ns.length bs∧LT T H ∧
  ∀ x H',But T H H'→LT T H'→R H' ns gs (lo ns.length hs bs) x→Q x H'
theorem LT.mono {T:Addr} {H H':Hp} (h:LT T H) (s:Same H H'):LT T H':=by
  obtain ⟨tp,h⟩:=h;exact ⟨tp,s _ _ h.tab,h.tri,fun pos' cv hc=>by obtain ⟨d,e1,e2⟩:=h.cds pos' cv hc;exact ⟨d,e1,s _ _ e2⟩⟩
theorem LT.ne {T a:Addr} {H:Hp} {o:HO} (h:LT T H) (e:H a=some o) (n:∀ ps,o≠.tbl ps):a≠T:=fun z=>by
  obtain ⟨tp,h⟩:=h;rw [z,h.tab] at e;exact n _ (aaR e).symm
theorem aZ (ns:List Int) (h1:1≤ns.length):slice ns (0,(ns.length:Int) - 1)=ns:=by
  unfold slice;simp only;rw [show (0:Int).toNat=0 from rfl,List.drop_zero,show ((ns.length:Int) - 1 - 0+1).toNat=ns.length by lia,aaQ]
abbrev dX:Stmt:=top 53
theorem fT:FnScope ["row","signs","holds","picks"] ["row","signs","holds"] (am dX):=⟨rfl,rfl,rfl,by decide +kernel,rfl,by decide +kernel,by decide +kernel⟩
theorem kG {T:Addr} (F:Fun K "bounds_held" "bounds_held" dX f fd) (B:Bu K mg) (C_picks_held:Cal P w K mg base "picks_held" 6 ["row","signs","holds"] (iU T)):FnOk P w K mg base CX0 7 f fd ["row","signs","holds"] (jK T wF):=by
  refine F.ok fT (fun vs H Q E h=>?_) (fun cdv A outer s H vs Q E hr h=>?_)
  · obtain ⟨a,ns,gs,hs,bs,v,rfl,_⟩:=h;rfl
  obtain ⟨a,ns,gs,hs,bs,v,rfl,ea,h1,h9,g1,g3,nd,sp,sm,hv,ghs,gbs,hT,q⟩:=h;refine ⟨_,(@ag _ _ _ _ _ (@aH _ _ (3) _ _ _ _ (fT).nd rfl (Or.inl rfl) (@aj _ _ _ _ _ _ _ _ _ _ _ C_picks_held hr (by lia) rfl (@aa _ _ _ _ _ (pv 0) (@aa _ _ _ _ _ (pv 1) (@aa _ _ _ _ _ (pv 2) ac (by rfl)) (by rfl)) (by rfl)) (by decide) (by rfl) (by rfl)) (by rfl) (by first|exact .inl rfl|exact .inr rfl|assumption)) (@ak _ _ _ (@au _ _ _ _ (@eK _ _ _ _ _ _ _ _ (@dG _ _ _ (pv 3) (fun _=>rfl)) (@aY _ _ _ _ _ (@aa _ _ _ _ _ (@aI _ _ _ _ _ _ _ aT (@aI _ _ _ _ _ _ _ aT (pv 3) ai (fun _ _=>rfl)) ai (fun _ _=>rfl)) (@aa _ _ _ _ _ (@aI _ _ _ _ _ _ _ aT (@aI _ _ _ _ _ _ _ aT (pv 3) ai (fun _ _=>rfl)) ai (fun _ _=>rfl)) ac (by rfl)) (by rfl))) kA)))),?_⟩;refine ⟨_,rfl,_,rfl,_,rfl,a,ns,gs,hs,bs,v,rfl,ea,h1,h9,g1,g3,sp,sm,hv,ghs,gbs,hT,fun t xs L H1 b1 hT1 et hx hL=>?_⟩;rcases gE (ns:=ns) (gs:=gs) (lo:=lo ns.length hs bs) g3 nd h9 hL (q:=(0,(ns.length:Int) - 1)) (aav _) (by simp only;lia) (by simp only;lia) with ⟨hl,no⟩|⟨wf,wa,wb,hl,bf,ba,bb⟩
  · rw [hl] at hx;cases hx;exact ⟨_,rfl,false,.inr (.inl ⟨[],SqT.of et,rfl⟩),bi (q _ _ b1 hT1 (.inl ⟨rfl,no⟩))⟩
  · rw [hl] at hx;obtain ⟨x0,x1,x2,rfl,⟨t0,rfl,e0⟩,⟨t1,rfl,e1⟩,⟨t2,rfl,e2⟩⟩:=kB hx;refine ⟨_,rfl,true,.inr (.inl ⟨_,SqT.of et,rfl⟩),bV ⟨_,rfl,t,_,_,_,rfl,rfl,SqT.of et,rfl,t1,_,_,_,rfl,rfl,SqT.of e1,rfl,?_⟩⟩;refine ⟨_,rfl,t,_,_,_,rfl,rfl,SqT.of et,rfl,t2,_,_,_,rfl,rfl,SqT.of e2,rfl,(by show 2≤sizeLine;decide),fun p np=>?_⟩;have s2:=Same.new np (.tup [.int wa.wv,.int wb.wv]);exact q _ _ (b1.trans (But.of s2)) (hT1.mono s2) (.inr ⟨wa,wb,p,ba,bb,rfl,af⟩)
abbrev df:Stmt:=top 54
theorem eB:FnScope ["row","signs","holds","picks"] ["row","signs","holds"] (am df):=⟨rfl,rfl,rfl,by decide +kernel,rfl,by decide +kernel,by decide +kernel⟩
theorem jo {T:Addr} (F:Fun K "greatest_held" "greatest_held" df f fd) (B:Bu K mg) (C_picks_held:Cal P w K mg base "picks_held" 6 ["row","signs","holds"] (iU T)) (C_way_picked:Cal P w K mg base "way_picked" 12 ["row","signs","pick"] fQ):FnOk P w K mg base CX0 13 f fd ["row","signs","holds"] (jK T fun H ns gs L x=>pU H ns gs L (-1) x):=by
  refine F.ok eB (fun vs H Q E h=>?_) (fun cdv A outer s H vs Q E hr h=>?_)
  · obtain ⟨a,ns,gs,hs,bs,v,rfl,_⟩:=h;rfl
  obtain ⟨a,ns,gs,hs,bs,v,rfl,ea,h1,h9,g1,g3,nd,sp,sm,hv,ghs,gbs,hT,q⟩:=h;refine ⟨_,(@ag _ _ _ _ _ (@aH _ _ (3) _ _ _ _ (eB).nd rfl (Or.inl rfl) (@aj _ _ _ _ _ _ _ _ _ _ _ C_picks_held hr (by lia) rfl (@aa _ _ _ _ _ (pv 0) (@aa _ _ _ _ _ (pv 1) (@aa _ _ _ _ _ (pv 2) ac (by rfl)) (by rfl)) (by rfl)) (by decide) (by rfl) (by rfl)) (by rfl) (by first|exact .inl rfl|exact .inr rfl|assumption)) (@ak _ _ _ (@au _ _ _ _ (@eK _ _ _ _ _ _ _ _ (@dG _ _ _ (pv 3) (fun _=>rfl)) (@aj _ _ _ _ _ _ _ _ _ _ _ C_way_picked hr (by lia) rfl (@aa _ _ _ _ _ (pv 0) (@aa _ _ _ _ _ (pv 1) (@aa _ _ _ _ _ (@aI _ _ _ _ _ _ _ aT (pv 3) ai (fun _ _=>rfl)) ac (by rfl)) (by rfl)) (by rfl)) (by decide) (by rfl) (by rfl)) kA)))),?_⟩;have naT:a≠T:=hT.ne ea (fun _ z=>nomatch z);refine ⟨_,rfl,_,rfl,_,rfl,a,ns,gs,hs,bs,v,rfl,ea,h1,h9,g1,g3,sp,sm,hv,ghs,gbs,hT,fun t xs L H1 b1 hT1 et hx hL=>?_⟩;rcases gE (ns:=ns) (gs:=gs) (lo:=lo ns.length hs bs) g3 nd h9 hL (q:=(0,(ns.length:Int) - 1)) (aav _) (by simp only;lia) (by simp only;lia) with ⟨hl,no⟩|⟨wf,wa,wb,hl,bf,ba,bb⟩
  · rw [hl] at hx;cases hx;exact ⟨_,rfl,false,.inr (.inl ⟨[],SqT.of et,rfl⟩),bi (q _ _ b1 hT1 (.inl ⟨rfl,no⟩))⟩
  · rw [hl] at hx;obtain ⟨x0,x1,x2,rfl,⟨t0,rfl,e0⟩,⟨t1,rfl,e1⟩,⟨t2,rfl,e2⟩⟩:=kB hx;have k0:=bb.1;have en:wb.nums=ns:=by rw [k0.1,aZ ns h1]
    have ez:wb.size=ns.length:=by rw [← wb.nums_len,en]
    refine ⟨_,rfl,true,.inr (.inl ⟨_,SqT.of et,rfl⟩),bV ⟨_,rfl,_,rfl,_,rfl,t,_,_,_,rfl,rfl,SqT.of et,rfl,a,t2,gs,wb,_,rfl,by rw [en];exact b1 _ _ naT ea,by lia,g3,k0.2.1,e2,fun x H2 s2 hx2=>?_⟩⟩;exact q x H2 (b1.trans (But.of s2)) (hT1.mono s2) (.inr ⟨wb,bb,hx2⟩)
abbrev fj:Stmt:=top 55
theorem gN:FnScope ["row","signs","holds","picks"] ["row","signs","holds"] (am fj):=⟨rfl,rfl,rfl,by decide +kernel,rfl,by decide +kernel,by decide +kernel⟩
theorem lU {T:Addr} (F:Fun K "least_held" "least_held" fj f fd) (B:Bu K mg) (C_picks_held:Cal P w K mg base "picks_held" 6 ["row","signs","holds"] (iU T)) (C_way_picked:Cal P w K mg base "way_picked" 12 ["row","signs","pick"] fQ):FnOk P w K mg base CX0 13 f fd ["row","signs","holds"] (jK T fun H ns gs L x=>pU H ns gs L 1 x):=by
  refine F.ok gN (fun vs H Q E h=>?_) (fun cdv A outer s H vs Q E hr h=>?_)
  · obtain ⟨a,ns,gs,hs,bs,v,rfl,_⟩:=h;rfl
  obtain ⟨a,ns,gs,hs,bs,v,rfl,ea,h1,h9,g1,g3,nd,sp,sm,hv,ghs,gbs,hT,q⟩:=h;refine ⟨_,(@ag _ _ _ _ _ (@aH _ _ (3) _ _ _ _ (gN).nd rfl (Or.inl rfl) (@aj _ _ _ _ _ _ _ _ _ _ _ C_picks_held hr (by lia) rfl (@aa _ _ _ _ _ (pv 0) (@aa _ _ _ _ _ (pv 1) (@aa _ _ _ _ _ (pv 2) ac (by rfl)) (by rfl)) (by rfl)) (by decide) (by rfl) (by rfl)) (by rfl) (by first|exact .inl rfl|exact .inr rfl|assumption)) (@ak _ _ _ (@au _ _ _ _ (@eK _ _ _ _ _ _ _ _ (@dG _ _ _ (pv 3) (fun _=>rfl)) (@aj _ _ _ _ _ _ _ _ _ _ _ C_way_picked hr (by lia) rfl (@aa _ _ _ _ _ (pv 0) (@aa _ _ _ _ _ (pv 1) (@aa _ _ _ _ _ (@aI _ _ _ _ _ _ _ aT (pv 3) ai (fun _ _=>rfl)) ac (by rfl)) (by rfl)) (by rfl)) (by decide) (by rfl) (by rfl)) kA)))),?_⟩;have naT:a≠T:=hT.ne ea (fun _ z=>nomatch z);refine ⟨_,rfl,_,rfl,_,rfl,a,ns,gs,hs,bs,v,rfl,ea,h1,h9,g1,g3,sp,sm,hv,ghs,gbs,hT,fun t xs L H1 b1 hT1 et hx hL=>?_⟩;rcases gE (ns:=ns) (gs:=gs) (lo:=lo ns.length hs bs) g3 nd h9 hL (q:=(0,(ns.length:Int) - 1)) (aav _) (by simp only;lia) (by simp only;lia) with ⟨hl,no⟩|⟨wf,wa,wb,hl,bf,ba,bb⟩
  · rw [hl] at hx;cases hx;exact ⟨_,rfl,false,.inr (.inl ⟨[],SqT.of et,rfl⟩),bi (q _ _ b1 hT1 (.inl ⟨rfl,no⟩))⟩
  · rw [hl] at hx;obtain ⟨x0,x1,x2,rfl,⟨t0,rfl,e0⟩,⟨t1,rfl,e1⟩,⟨t2,rfl,e2⟩⟩:=kB hx;have k0:=ba.1;have en:wa.nums=ns:=by rw [k0.1,aZ ns h1]
    have ez:wa.size=ns.length:=by rw [← wa.nums_len,en]
    refine ⟨_,rfl,true,.inr (.inl ⟨_,SqT.of et,rfl⟩),bV ⟨_,rfl,_,rfl,_,rfl,t,_,_,_,rfl,rfl,SqT.of et,rfl,a,t1,gs,wa,_,rfl,by rw [en];exact b1 _ _ naT ea,by lia,g3,k0.2.1,e1,fun x H2 s2 hx2=>?_⟩⟩;exact q x H2 (b1.trans (But.of s2)) (hT1.mono s2) (.inr ⟨wa,ba,hx2⟩)
def RwIn (H:Hp) (r:Addr) (ns:List Int) (gs:List Sg):Prop:=H r=some (.lst (ns.map V.int))∧1≤ns.length∧ns.length≤9∧1≤gs.length∧gs.length≤3∧cY gs∧iP ns
def q_ (T:Addr):Sp:=fun vs H Q _=>∃ (r:Addr) (ns:List Int) (gs:List Sg),vs=[.ref r,.str (aD gs)]∧RwIn H r ns gs∧LT T H ∧
  ∀ t xs (L:Int × Int→List (Int × Int)) H',But T H H'→LT T H'→H' t=some (.tup xs)→PairsIn H' (L (0,(ns.length:Int) - 1)) xs→(∀ q∈sfl ns.length ns.length,fL ns gs [] L q)→Q (.ref t) H'
abbrev dB:Stmt:=top 43
theorem jM:FnScope ["row","signs"] ["row","signs"] (am dB):=⟨rfl,rfl,rfl,by decide +kernel,rfl,by decide +kernel,by decide +kernel⟩
theorem jP {T aE:Addr} (F:Fun K "picks_of_row" "picks_of_row" dB f fd) (B:Bu K mg) (hE:∀ H,SqT K H aE []) (C_need_row:Cal P w K mg base "need_row" 3 ["thing"] dq) (C_need_signs:Cal P w K mg base "need_signs" 2 ["thing"] cc)
    (C_picks_by_stretch:wE P w K mg base "picks_by_stretch" 5 ["row","signs","left_out"] (mf (K:=K) T) [.ref aE]):FnOk P w K mg base CX0 6 f fd ["row","signs"] (q_ T):=by
  refine F.ok jM (fun vs H Q E h=>?_) (fun cdv A outer s H vs Q E hr h=>?_)
  · obtain ⟨r,ns,gs,rfl,_⟩:=h;rfl
  obtain ⟨r,ns,gs,rfl,⟨er,h1,h9,g1,g3,hs,sm⟩,hT,q⟩:=h;refine ⟨_,(@ag _ _ _ _ _ (@aX _ _ _ _ (@aj _ _ _ _ _ _ _ _ _ _ _ C_need_row hr (by lia) rfl (@aa _ _ _ _ _ (pv 0) ac (by rfl)) (by decide) (by rfl) (by rfl)) (by rfl)) (@ag _ _ _ _ _ (@aX _ _ _ _ (@aj _ _ _ _ _ _ _ _ _ _ _ C_need_signs hr (by lia) rfl (@aa _ _ _ _ _ (pv 1) ac (by rfl)) (by decide) (by rfl) (by rfl)) (by rfl)) (@ak _ _ _ (@au _ _ _ _ (@dN _ _ _ _ _ _ (u1 hr.units) (@rz _ _ _ _ _ _ _ _ _ _ _ _ C_picks_by_stretch hr (by lia) rfl (@aa _ _ _ _ _ (pv 0) (@aa _ _ _ _ _ (pv 1) ac (by rfl)) (by rfl)) (by decide) (by rfl) (by rfl)) (@aY _ _ _ _ _ (@aa _ _ _ _ _ ai (@aa _ _ _ _ _ (@aC _ _ _ _ _ _ _ _ bz (@aA _ _ _ _ _ _ _ _ _ aB rfl B.ilen aay (@aa _ _ _ _ _ (pv 0) ac (by rfl)) (by decide) (by decide) (by rfl) (by rfl)) ai) ac (by rfl)) (by rfl))) (fun _ _=>rfl)))))),?_⟩;have hl:(ns.map V.int).length=ns.length:=aaf _;refine ⟨_,rfl,r,ns,rfl,er,h1,h9,fun H1 s1=>?_⟩;refine ⟨_,rfl,gs,rfl,hs,?_⟩;have hT1:=hT.mono s1;refine ⟨_,rfl,_,rfl,r,ns,gs,aE,[],[],rfl,s1 _ _ er,h1,h9,g1,g3,sm,.inr hE,.nil,hT1,fun pk kvs L H2 b2 hT2 nk ek hks hq=>?_⟩;have nrT:r≠T:=hT1.ne (s1 _ _ er) (fun _ z=>nomatch z);refine ⟨_,rfl,r,_,rfl,.inl (SqL.of (b2 _ _ nrT (s1 _ _ er))),_,_,rfl,rfl,(by show 2≤sizeLine;decide),fun u nu=>?_⟩;rw [hl];have su:=Same.new nu (.tup [.int 0,.int ((ns.length:Int) - 1)]);have mq:((0:Int),(ns.length:Int) - 1)∈sfl ns.length ns.length:=by
    have:=dM ns.length 0 (ns.length - 1) (by lia) (by lia)
    rwa [show (((ns.length - 1:Nat)):Int)=(ns.length:Int) - 1 by lia] at this
  obtain ⟨⟨t,xs,vt,et,hx⟩,_⟩:=hq _ mq;refine ⟨pk,.ref t,rfl,by rw [← vt];exact DGet.t (k:=ky (0,(ns.length:Int) - 1)) (su _ _ ek) af,?_⟩;exact q t xs L _ (fun b o hb e=>su _ _ (b2 _ _ hb (s1 _ _ e))) (hT2.mono su) (su _ _ et) (PairsIn.mono (Tups.of su) hx) fun q hq'=>(hq q hq').2
theorem gY:∀ gs:List Sg,gs.length≤3→cY gs→gs.Nodup
  | [],_,_=>List.nodup_nil
  | [a],_,_=>by simp
  | [a,b],_,h=>by
    cases a <;> cases b <;> first|decide|exact absurd h (by unfold cY;decide +kernel)
  | [a,b,c],_,h=>by
    cases a <;> cases b <;> cases c <;> first|decide|exact absurd h (by unfold cY;decide +kernel)
  | _ :: _ :: _ :: _ :: _,h,_=>by simp at h
theorem RwIn.picks {H:Hp} {r:Addr} {ns:List Int} {gs:List Sg} (h:RwIn H r ns gs) {L:Int × Int→List (Int × Int)} (hq:∀ q∈sfl ns.length ns.length,fL ns gs [] L q):∃ f a b,L (0,(ns.length:Int) - 1)=[(f.wv,f.nr gs),(a.wv,a.nr gs),(b.wv,b.nr gs)]∧Bst gs (KQ ns gs []) 0 f∧Bst gs (KQ ns gs []) 1 a∧Bst gs (KQ ns gs []) (-1) b:=by
  obtain ⟨_,h1,h9,g1,g3,sp,_⟩:=h;have hL:∀ q:Int × Int,0≤q.1→q.1≤q.2→q.2 < ns.length→fL ns gs [] L q:=fun q a b c=>hq q (by
    have:=dM ns.length q.1.toNat q.2.toNat (by lia) (by lia)
    rwa [show ((q.1.toNat:Nat):Int)=q.1 by lia,show ((q.2.toNat:Nat):Int)=q.2 by lia] at this)
  rcases gE (ns:=ns) (gs:=gs) (lo:=[]) g3 (gY gs g3 sp) h9 hL (q:=(0,(ns.length:Int) - 1)) (aav _) (by simp only;lia) (by simp only;lia) with ⟨hl,no⟩|h
  · exfalso
    obtain ⟨f,a,b,e,_⟩:=rN (fun z=>by rw [z] at g1;simp at g1) hq ns.length (0,(ns.length:Int) - 1) (by simp only;lia) (by simp only;lia) (by simp only;lia) (by simp only;lia);rw [hl] at e;cases e
  · exact h
def sh (T:Addr) (k:Int):Sp:=fun vs H Q _=>∃ (r:Addr) (ns:List Int) (gs:List Sg),vs=[.ref r,.str (aD gs)]∧RwIn H r ns gs∧LT T H∧∀ w x H',But T H H'→LT T H'→Bst gs (KQ ns gs []) k w→WyIn H' w x→Q x H'
abbrev cN:Stmt:=top 40
theorem bY:FnScope ["row","signs","first","least","greatest"] ["row","signs"] (am cN):=⟨rfl,rfl,rfl,by decide +kernel,rfl,by decide +kernel,by decide +kernel⟩
theorem iH {T:Addr} (F:Fun K "first_greatest" "first_greatest" cN f fd) (B:Bu K mg) (C_picks_of_row:Cal P w K mg base "picks_of_row" 6 ["row","signs"] (q_ T)) (C_way_at:Cal P w K mg base "way_at" 11 ["row","signs","counts","number"] (gZ 9)) (C_counts_up_to:Cal P w K mg base "counts_up_to" 2 ["signs","many"] jy):FnOk P w K mg base CX0 12 f fd ["row","signs"] (sh T (-1)):=by
  refine F.ok bY (fun vs H Q E h=>?_) (fun cdv A outer s H vs Q E hr h=>?_)
  · obtain ⟨r,ns,gs,rfl,_⟩:=h;rfl
  obtain ⟨r,ns,gs,rfl,hR,hT,q⟩:=h;refine ⟨_,(@ag _ _ _ _ _ (@cy _ _ _ _ _ _ (@aj _ _ _ _ _ _ _ _ _ _ _ C_picks_of_row hr (by lia) rfl (@aa _ _ _ _ _ (pv 0) (@aa _ _ _ _ _ (pv 1) ac (by rfl)) (by rfl)) (by decide) (by rfl) (by rfl)) (@cz _ _ _ _ _ _ rfl (@az _ _ _ _ _ (@ao _ _ (2) _ (bY).nd rfl (Or.inl rfl) (.inl rfl)) (@az _ _ _ _ _ (@ao _ _ (3) _ (bY).nd rfl (Or.inl rfl) (.inl rfl)) (@az _ _ _ _ _ (@ao _ _ (4) _ (bY).nd rfl (Or.inl rfl) (.inl rfl)) a8 (by rfl)) (by rfl)) (by rfl)) (by rfl) (by rfl)) (by rfl) (by rfl) (by rfl)) (@ak _ _ _ (@au _ _ _ _ (@aj _ _ _ _ _ _ _ _ _ _ _ C_way_at hr (by lia) rfl (@aa _ _ _ _ _ (pv 0) (@aa _ _ _ _ _ (pv 1) (@aa _ _ _ _ _ (@aj _ _ _ _ _ _ _ _ _ _ _ C_counts_up_to hr (by lia) rfl (@aa _ _ _ _ _ (pv 1) (@aa _ _ _ _ _ (@aA _ _ _ _ _ _ _ _ _ aB rfl B.ilen aay (@aa _ _ _ _ _ (pv 0) ac (by rfl)) (by decide) (by decide) (by rfl) (by rfl)) ac (by rfl)) (by rfl)) (by decide) (by rfl) (by rfl)) (@aa _ _ _ _ _ (@aI _ _ _ _ _ _ _ aT (pv 4) ai (fun _ _=>rfl)) ac (by rfl)) (by rfl)) (by rfl)) (by rfl)) (by decide) (by rfl) (by rfl))))),?_⟩;refine ⟨_,rfl,_,rfl,r,ns,gs,rfl,hR,hT,fun t xs L H1 b1 hT1 et hx hq=>?_⟩;obtain ⟨wf,wa,wb,hl,bf,ba,bb⟩:=hR.picks hq;obtain ⟨er,h1,h9,g1,g3,sp,sm⟩:=hR;have nrT:r≠T:=hT.ne er (fun _ z=>nomatch z);rw [hl] at hx;obtain ⟨x0,x1,x2,rfl,⟨t0,rfl,e0⟩,⟨t1,rfl,e1⟩,⟨t2,rfl,e2⟩⟩:=kB hx;have k0:=bb.1;have en:wb.nums=ns:=by rw [k0.1,aZ ns h1]
  have ez:wb.size=ns.length:=by rw [← wb.nums_len,en]
  have zl:(aD gs).length=gs.length:=dL gs;refine ⟨t,_,rfl,SqT.of et,rfl,_,_,rfl,_,_,rfl,_,_,rfl,rfl,?_⟩;have er1:=b1 _ _ nrT er;refine ⟨_,rfl,_,rfl,_,rfl,_,rfl,r,_,rfl,.inl (SqL.of er1),?_⟩;rw [aaf,← ez];refine ⟨aD gs,(wb.size:Nat),rfl,by lia,by lia,by lia,fun pc H2 s2 npc epc=>?_⟩;rw [zl] at epc;refine ⟨_,rfl,t2,_,_,_,rfl,rfl,SqT.of (s2 _ _ e2),rfl,?_⟩;exact ⟨gs,r,pc,wb,_,rfl,g3,by rw [en];exact s2 _ _ er1,epc,by lia,by lia,by lia,k0.2.1,fun v H3 s3 hv=>q wb v _ (b1.trans (But.of (s2.trans s3))) (hT1.mono (s2.trans s3)) bb hv⟩
abbrev dW:Stmt:=top 41
theorem cG:FnScope ["row","signs","first","least","greatest"] ["row","signs"] (am dW):=⟨rfl,rfl,rfl,by decide +kernel,rfl,by decide +kernel,by decide +kernel⟩
theorem kF {T:Addr} (F:Fun K "first_least" "first_least" dW f fd) (B:Bu K mg) (C_picks_of_row:Cal P w K mg base "picks_of_row" 6 ["row","signs"] (q_ T)) (C_way_at:Cal P w K mg base "way_at" 11 ["row","signs","counts","number"] (gZ 9)) (C_counts_up_to:Cal P w K mg base "counts_up_to" 2 ["signs","many"] jy):FnOk P w K mg base CX0 12 f fd ["row","signs"] (sh T 1):=by
  refine F.ok cG (fun vs H Q E h=>?_) (fun cdv A outer s H vs Q E hr h=>?_)
  · obtain ⟨r,ns,gs,rfl,_⟩:=h;rfl
  obtain ⟨r,ns,gs,rfl,hR,hT,q⟩:=h;refine ⟨_,(@ag _ _ _ _ _ (@cy _ _ _ _ _ _ (@aj _ _ _ _ _ _ _ _ _ _ _ C_picks_of_row hr (by lia) rfl (@aa _ _ _ _ _ (pv 0) (@aa _ _ _ _ _ (pv 1) ac (by rfl)) (by rfl)) (by decide) (by rfl) (by rfl)) (@cz _ _ _ _ _ _ rfl (@az _ _ _ _ _ (@ao _ _ (2) _ (cG).nd rfl (Or.inl rfl) (.inl rfl)) (@az _ _ _ _ _ (@ao _ _ (3) _ (cG).nd rfl (Or.inl rfl) (.inl rfl)) (@az _ _ _ _ _ (@ao _ _ (4) _ (cG).nd rfl (Or.inl rfl) (.inl rfl)) a8 (by rfl)) (by rfl)) (by rfl)) (by rfl) (by rfl)) (by rfl) (by rfl) (by rfl)) (@ak _ _ _ (@au _ _ _ _ (@aj _ _ _ _ _ _ _ _ _ _ _ C_way_at hr (by lia) rfl (@aa _ _ _ _ _ (pv 0) (@aa _ _ _ _ _ (pv 1) (@aa _ _ _ _ _ (@aj _ _ _ _ _ _ _ _ _ _ _ C_counts_up_to hr (by lia) rfl (@aa _ _ _ _ _ (pv 1) (@aa _ _ _ _ _ (@aA _ _ _ _ _ _ _ _ _ aB rfl B.ilen aay (@aa _ _ _ _ _ (pv 0) ac (by rfl)) (by decide) (by decide) (by rfl) (by rfl)) ac (by rfl)) (by rfl)) (by decide) (by rfl) (by rfl)) (@aa _ _ _ _ _ (@aI _ _ _ _ _ _ _ aT (pv 3) ai (fun _ _=>rfl)) ac (by rfl)) (by rfl)) (by rfl)) (by rfl)) (by decide) (by rfl) (by rfl))))),?_⟩;refine ⟨_,rfl,_,rfl,r,ns,gs,rfl,hR,hT,fun t xs L H1 b1 hT1 et hx hq=>?_⟩;obtain ⟨wf,wa,wb,hl,bf,ba,bb⟩:=hR.picks hq;obtain ⟨er,h1,h9,g1,g3,sp,sm⟩:=hR;have nrT:r≠T:=hT.ne er (fun _ z=>nomatch z);rw [hl] at hx;obtain ⟨x0,x1,x2,rfl,⟨t0,rfl,e0⟩,⟨t1,rfl,e1⟩,⟨t2,rfl,e2⟩⟩:=kB hx;have k0:=ba.1;have en:wa.nums=ns:=by rw [k0.1,aZ ns h1]
  have ez:wa.size=ns.length:=by rw [← wa.nums_len,en]
  have zl:(aD gs).length=gs.length:=dL gs;refine ⟨t,_,rfl,SqT.of et,rfl,_,_,rfl,_,_,rfl,_,_,rfl,rfl,?_⟩;have er1:=b1 _ _ nrT er;refine ⟨_,rfl,_,rfl,_,rfl,_,rfl,r,_,rfl,.inl (SqL.of er1),?_⟩;rw [aaf,← ez];refine ⟨aD gs,(wa.size:Nat),rfl,by lia,by lia,by lia,fun pc H2 s2 npc epc=>?_⟩;rw [zl] at epc;refine ⟨_,rfl,t1,_,_,_,rfl,rfl,SqT.of (s2 _ _ e1),rfl,?_⟩;exact ⟨gs,r,pc,wa,_,rfl,g3,by rw [en];exact s2 _ _ er1,epc,by lia,by lia,by lia,k0.2.1,fun v H3 s3 hv=>q wa v _ (b1.trans (But.of (s2.trans s3))) (hT1.mono (s2.trans s3)) ba hv⟩
def j_:Sp:=fun vs H Q _=>∃ (a:Addr) (ns:List Int) (gs:List Sg) (hs bs:List (Int × Int)) (v:V),vs=[.ref a,.str (aD gs),v]∧H a=some (.lst (ns.map V.int))∧1≤ns.length∧ns.length≤9∧1≤gs.length∧gs.length≤3∧cY gs∧HdIn H hs bs v∧Gs ns.length hs∧Gs ns.length bs∧∀ H',Same H H'→Q (.int (cnt gs.length (lo ns.length hs bs) (0,(ns.length:Int) - 1))) H'
abbrev de:Stmt:=top 51
theorem iY:FnScope ["row","signs","holds"] ["row","signs","holds"] (am de):=⟨rfl,rfl,rfl,by decide +kernel,rfl,by decide +kernel,by decide +kernel⟩
theorem jn (F:Fun K "how_many_held" "how_many_held" de f fd) (B:Bu K mg) (C_need_holds:Cal P w K mg base "need_holds" 5 ["row","signs","thing"] cA) (C_count_kept:Cal P w K mg base "count_kept" 2 ["many","signs","left_out"] tY) (C_list_left_out:Cal P w K mg base "list_left_out" 2 ["many","holds"] sg):FnOk P w K mg base CX0 6 f fd ["row","signs","holds"] j_:=by
  refine F.ok iY (fun vs H Q E h=>?_) (fun cdv A outer s H vs Q E hr h=>?_)
  · obtain ⟨a,ns,gs,hs,bs,v,rfl,_⟩:=h;rfl
  obtain ⟨a,ns,gs,hs,bs,v,rfl,ea,h1,h9,g1,g3,sp,hv,ghs,gbs,q⟩:=h;refine ⟨_,(@ag _ _ _ _ _ (@aX _ _ _ _ (@aj _ _ _ _ _ _ _ _ _ _ _ C_need_holds hr (by lia) rfl (@aa _ _ _ _ _ (pv 0) (@aa _ _ _ _ _ (pv 1) (@aa _ _ _ _ _ (pv 2) ac (by rfl)) (by rfl)) (by rfl)) (by decide) (by rfl) (by rfl)) (by rfl)) (@ak _ _ _ (@au _ _ _ _ (@aj _ _ _ _ _ _ _ _ _ _ _ C_count_kept hr (by lia) rfl (@aa _ _ _ _ _ (@aA _ _ _ _ _ _ _ _ _ aB rfl B.ilen aay (@aa _ _ _ _ _ (pv 0) ac (by rfl)) (by decide) (by decide) (by rfl) (by rfl)) (@aa _ _ _ _ _ (pv 1) (@aa _ _ _ _ _ (@aj _ _ _ _ _ _ _ _ _ _ _ C_list_left_out hr (by lia) rfl (@aa _ _ _ _ _ (@aA _ _ _ _ _ _ _ _ _ aB rfl B.ilen aay (@aa _ _ _ _ _ (pv 0) ac (by rfl)) (by decide) (by decide) (by rfl) (by rfl)) (@aa _ _ _ _ _ (pv 2) ac (by rfl)) (by rfl)) (by decide) (by rfl) (by rfl)) ac (by rfl)) (by rfl)) (by rfl)) (by decide) (by rfl) (by rfl))))),?_⟩;have hl:(ns.map V.int).length=ns.length:=aaf _;refine ⟨_,rfl,_,rfl,_,rfl,a,ns,gs,hs,bs,v,rfl,ea,h1,h9,sp,hv,ghs,gbs,fun H1 s1=>?_⟩;refine ⟨_,rfl,a,_,rfl,.inl (SqL.of (s1 _ _ ea)),_,rfl,_,rfl,a,_,rfl,.inl (SqL.of (s1 _ _ ea)),?_⟩;rw [hl];refine ⟨_,rfl,ns.length,hs,bs,v,rfl,h9,hv.mono s1,by have:=ghs.1;lia,fun l us H2 s2 nl el hL=>?_⟩;exact ⟨ns.length,gs,l,_,us,rfl,h1,h9,g1,g3,el,hL,fun H3 s3=>q _ ((s1.trans s2).trans s3)⟩
def zp (H:Hp) (ns:List Int) (gs:List Sg) (L:List (Int × Int)) (x:V):Prop:=(x=.non∧∀ w,¬ Kpt ns gs L (0,(ns.length:Int) - 1) w)∨∃ w,Kpt ns gs L (0,(ns.length:Int) - 1) w∧(∀ w',Kpt ns gs L (0,(ns.length:Int) - 1) w'→w.nr gs≤w'.nr gs)∧WyIn H w x
def jV (T:Addr):Sp:=fun vs H Q _=>∃ (a:Addr) (ns:List Int) (gs:List Sg) (hs bs:List (Int × Int)) (v:V),vs=[.ref a,.str (aD gs),v]∧H a=some (.lst (ns.map V.int))∧1≤ns.length∧ns.length≤9∧1≤gs.length∧gs.length≤3∧gs.Nodup∧cY gs∧iP ns∧HdIn H hs bs v∧Gs ns.length hs∧Gs ns.length bs∧LT T H ∧
  ∀ x H',But T H H'→LT T H'→zp H' ns gs (lo ns.length hs bs) x→Q x H'
abbrev fm:Stmt:=top 52
theorem gO:FnScope ["row","signs","holds","picks"] ["row","signs","holds"] (am fm):=⟨rfl,rfl,rfl,by decide +kernel,rfl,by decide +kernel,by decide +kernel⟩
theorem lX {T:Addr} (F:Fun K "first_held" "first_held" fm f fd) (B:Bu K mg) (C_picks_held:Cal P w K mg base "picks_held" 6 ["row","signs","holds"] (iU T)) (C_way_picked:Cal P w K mg base "way_picked" 12 ["row","signs","pick"] fQ):FnOk P w K mg base CX0 13 f fd ["row","signs","holds"] (jV T):=by
  refine F.ok gO (fun vs H Q E h=>?_) (fun cdv A outer s H vs Q E hr h=>?_)
  · obtain ⟨a,ns,gs,hs,bs,v,rfl,_⟩:=h;rfl
  obtain ⟨a,ns,gs,hs,bs,v,rfl,ea,h1,h9,g1,g3,nd,sp,sm,hv,ghs,gbs,hT,q⟩:=h;refine ⟨_,(@ag _ _ _ _ _ (@aH _ _ (3) _ _ _ _ (gO).nd rfl (Or.inl rfl) (@aj _ _ _ _ _ _ _ _ _ _ _ C_picks_held hr (by lia) rfl (@aa _ _ _ _ _ (pv 0) (@aa _ _ _ _ _ (pv 1) (@aa _ _ _ _ _ (pv 2) ac (by rfl)) (by rfl)) (by rfl)) (by decide) (by rfl) (by rfl)) (by rfl) (by first|exact .inl rfl|exact .inr rfl|assumption)) (@ak _ _ _ (@au _ _ _ _ (@eK _ _ _ _ _ _ _ _ (@dG _ _ _ (pv 3) (fun _=>rfl)) (@aj _ _ _ _ _ _ _ _ _ _ _ C_way_picked hr (by lia) rfl (@aa _ _ _ _ _ (pv 0) (@aa _ _ _ _ _ (pv 1) (@aa _ _ _ _ _ (@aI _ _ _ _ _ _ _ aT (pv 3) ai (fun _ _=>rfl)) ac (by rfl)) (by rfl)) (by rfl)) (by decide) (by rfl) (by rfl)) kA)))),?_⟩;have naT:a≠T:=fun e=>by obtain ⟨tp,h⟩:=hT;rw [e,h.tab] at ea;cases ea
  refine ⟨_,rfl,_,rfl,_,rfl,a,ns,gs,hs,bs,v,rfl,ea,h1,h9,g1,g3,sp,sm,hv,ghs,gbs,hT,fun t xs L H1 b1 hT1 et hx hL=>?_⟩;obtain ⟨f1,f2⟩:=jz (ns:=ns) (gs:=gs) (lo:=lo ns.length hs bs) g3 nd h9 hL _ (0,(ns.length:Int) - 1) (aav _) (by simp only;lia) (by simp only;lia) rfl;have lx:=hx.length;cases hl:L (0,(ns.length:Int) - 1) with
  | nil =>
    rw [hl] at hx;cases hx;refine ⟨_,rfl,false,.inr (.inl ⟨[],SqT.of et,rfl⟩),bi (q _ _ b1 hT1 (.inl ⟨rfl,fun w hw=>?_⟩))⟩;obtain ⟨_,_,e,_⟩:=f2 w hw;rw [hl] at e;cases e
  | cons p ps =>
    rw [hl] at hx;cases hx with
    | @cons _ x _ xs' hp hxs =>
    obtain ⟨w0,k0,e0⟩:=f1 p (by rw [hl];simp);obtain ⟨tp,rfl,etp⟩:=hp;rw [e0] at etp;have en:w0.nums=ns:=by rw [k0.1,aZ ns h1]
    have ez:w0.size=ns.length:=by rw [← w0.nums_len,en]
    refine ⟨_,rfl,true,.inr (.inl ⟨_,SqT.of et,rfl⟩),bV ⟨_,rfl,_,rfl,_,rfl,t,_,_,_,rfl,rfl,SqT.of et,(show atI (V.ref tp :: xs') ((0:Nat):Int)=some (.ref tp) from iN rfl),a,tp,gs,w0,_,rfl,by rw [en];exact b1 _ _ naT ea,by lia,g3,k0.2.1,etp,fun x H2 s2 hx2=>?_⟩⟩;refine q x H2 (b1.trans (But.of s2)) ?_ (.inr ⟨w0,k0,fun w' hw'=>?_,hx2⟩)
    · obtain ⟨tp,h⟩:=hT1;exact ⟨tp,s2 _ _ h.tab,h.tri,fun pos' cv hc=>by obtain ⟨d,e1,e2⟩:=h.cds pos' cv hc;exact ⟨d,e1,s2 _ _ e2⟩⟩
    · obtain ⟨f0,r0,e,le⟩:=f2 w' hw';rw [hl] at e;injection e with e _
      rw [← e,e0] at le;exact le
end
open PySem L2
theorem rf {l:List Int} (h:l.Pairwise (· < ·)) (h0:∀ x∈l,0≤x):∀ (i:Nat) (hi:i < l.length),(i:Int)≤l[i]
  | 0,hi=>h0 _ (aa8 hi)
  | i+1,hi=>by
    have a:=rf h h0 i (by lia);have b:=aaX.mp h i (i+1) (by lia) hi (by lia);lia
theorem re {l:List Int} (h:l.Pairwise (· < ·)) (h1:∀ x∈l,x < l.length):∀ (d i:Nat) (hi:i < l.length),i+d+1=l.length→l[i]≤(i:Int)
  | 0,i,hi,e=>by
    have:=h1 _ (aa8 hi);lia
  | d+1,i,hi,e=>by
    have a:=re h h1 d (i+1) (by lia) (by lia);have b:=aaX.mp h i (i+1) hi (by lia) (by lia);lia
theorem vJ {l:List Int} (h:l.Pairwise (· < ·)) (hb:∀ x∈l,0≤x∧x < l.length) (i:Nat) (hi:i < l.length):l[i]=(i:Int):=by
  have a:=rf h (fun x hx=>(hb x hx).1) i hi;have b:=re h (fun x hx=>(hb x hx).2) (l.length - (i+1)) i hi (by lia);lia
theorem wL:∀ s,s≤3→∀ m,m≤9→1≤m→((lw 9 s m:Nat):Int)=cn s m:=by decide +kernel
theorem yE {gs:List Sg} (hs:gs.length≤3) (nd:gs.Nodup) {n:Nat} {ns:List Int} (h1:1≤ns.length) (hn:ns.length≤n) (h9:n≤9) (hl:((aw n gs ns).length:Int)=cn gs.length ns.length) {i:Nat} {w:Wy} (h:(aw n gs ns)[i]?=some w):w.nr gs=(i:Int)∧w.nums=ns∧w.within gs:=by
  obtain ⟨hi,e⟩:=aak.mp h;have hm:=(dg gs w n ns h1 hn).mp (by rw [← e];exact aa8 hi);refine ⟨?_,hm⟩;have r:=jZ hs nd n ns h1 hn h9;have:=vJ (l:=(aw n gs ns).map (Wy.nr gs)) (by rw [List.pairwise_map];exact r) (fun x hx=>by
    obtain ⟨v,hv,rfl⟩:=aaC.mp hx;obtain ⟨v1,v2⟩:=(dg gs v n ns h1 hn).mp hv;have b:=Wy.nr_bd hs v v2 (by rw [← v.nums_len,v1];lia);rw [← v.nums_len,v1,← hl] at b;rw [aaf];exact b) i (by rw [aaf];exact hi)
  rw [List.getElem_map,e] at this;exact this
theorem vV {gs:List Sg} (hs:gs.length≤3) (nd:gs.Nodup) {ns:List Int} (h1:1≤ns.length) (h9:ns.length≤9) {k:Int} (h0:0≤k) (hk:k < cn gs.length ns.length):∃ w:Wy,w.nr gs=k∧w.nums=ns∧w.within gs:=by
  have hl:((aw 9 gs ns).length:Int)=cn gs.length ns.length:=by rw [om];exact wL _ hs _ h9 h1
  have hi:k.toNat < (aw 9 gs ns).length:=by lia
  obtain ⟨a,b⟩:=yE hs nd h1 h9 (aag _) hl (aac hi);exact ⟨_,by rw [a];lia,b⟩
section
variable {P:Program} {w:World} {K:aaa} {mg:Str→Option Value} {base:Heap} {f:Addr} {fd:FuncData}
def g0:Sp:=fun vs H Q _=>∃ n:Int,vs=[.int n]∧1≤n∧n≤9∧Q .non H
abbrev fU:Stmt:=top 20
theorem nC:FnScope ["thing"] ["thing"] (am fU):=⟨rfl,rfl,rfl,by decide +kernel,rfl,by decide +kernel,by decide +kernel⟩
theorem nH (F:Fun K "need_many" "need_many" fU f fd) (C_is_many:Cal P w K mg base "is_many" 2 ["thing"] iw):FnOk P w K mg base CX0 3 f fd ["thing"] g0:=by
  refine F.ok nC (fun vs H Q E h=>?_) (fun cdv A outer s H vs Q E hr h=>?_)
  · obtain ⟨n,rfl,_⟩:=h;rfl
  obtain ⟨n,rfl,h1,h2,q⟩:=h;refine ⟨_,(@ak _ _ _ (@bh _ _ _ _ _ _ _ _ (@cx _ _ _ _ (@bQ _ _ _ (@aj _ _ _ _ _ _ _ _ _ _ _ C_is_many hr (by lia) rfl (@aa _ _ _ _ _ (pv 0) ac (by rfl)) (by decide) (by rfl) (by rfl)) (by intro _;rfl))) (@ak _ _ _ eF) aO)),?_⟩;exact ⟨_,rfl,n,rfl,h1,h2,true,rfl,bi q⟩
def tV:Sp:=fun vs H Q _=>∃ (r:Addr) (wy:Wy) (gs:List Sg),vs=[.ref r,.str (aD gs),.int (wy.nr gs)]∧H r=some (.lst (wy.nums.map V.int))∧wy.size≤9∧gs.length≤3∧cY gs∧wy.within gs∧∀ v H',Same H H'→WyIn H' wy v→Q v H'
abbrev iZ:Stmt:=top 30
theorem km:FnScope ["row","signs","number","counts"] ["row","signs","number"] (am iZ):=⟨rfl,rfl,rfl,by decide +kernel,rfl,by decide +kernel,by decide +kernel⟩
theorem qy (F:Fun K "nth_way" "nth_way" iZ f fd) (B:Bu K mg) (C_need_row:Cal P w K mg base "need_row" 3 ["thing"] dq) (C_need_signs:Cal P w K mg base "need_signs" 2 ["thing"] cc) (C_counts_up_to:Cal P w K mg base "counts_up_to" 2 ["signs","many"] jy) (C_is_whole:Cal P w K mg base "is_whole" 1 ["thing"] (cU K)) (C_way_at:Cal P w K mg base "way_at" 11 ["row","signs","counts","number"] (gZ 9)):FnOk P w K mg base CX0 12 f fd ["row","signs","number"] tV:=by
  refine F.ok km (fun vs H Q E h=>?_) (fun cdv A outer s H vs Q E hr h=>?_)
  · obtain ⟨r,wy,gs,rfl,_⟩:=h;rfl
  obtain ⟨r,wy,gs,rfl,hr',h9,hz,sp,hwi,q⟩:=h;refine ⟨_,(@ag _ _ _ _ _ (@aX _ _ _ _ (@aj _ _ _ _ _ _ _ _ _ _ _ C_need_row hr (by lia) rfl (@aa _ _ _ _ _ (pv 0) ac (by rfl)) (by decide) (by rfl) (by rfl)) (by rfl)) (@ag _ _ _ _ _ (@aX _ _ _ _ (@aj _ _ _ _ _ _ _ _ _ _ _ C_need_signs hr (by lia) rfl (@aa _ _ _ _ _ (pv 1) ac (by rfl)) (by decide) (by rfl) (by rfl)) (by rfl)) (@ag _ _ _ _ _ (@aH _ _ (3) _ _ _ _ (km).nd rfl (Or.inl rfl) (@aj _ _ _ _ _ _ _ _ _ _ _ C_counts_up_to hr (by lia) rfl (@aa _ _ _ _ _ (pv 1) (@aa _ _ _ _ _ (@aA _ _ _ _ _ _ _ _ _ aB rfl B.ilen aay (@aa _ _ _ _ _ (pv 0) ac (by rfl)) (by decide) (by decide) (by rfl) (by rfl)) ac (by rfl)) (by rfl)) (by decide) (by rfl) (by rfl)) (by rfl) (by first|exact .inl rfl|exact .inr rfl|assumption)) (@ag _ _ _ _ _ (@bh _ _ _ _ _ _ _ _ (@PW.pt _ _ _ (@iD _ _ _ _ _ _ _ (@cx _ _ _ _ (@bQ _ _ _ (@aj _ _ _ _ _ _ _ _ _ _ _ C_is_whole hr (by lia) rfl (@aa _ _ _ _ _ (pv 2) ac (by rfl)) (by decide) (by rfl) (by rfl)) (by intro _;rfl))) (@fZ _ _ _ _ (@cx _ _ _ _ (@oO _ _ _ _ _ _ _ _ _ _ _ _ gl jC ai (pv 2) (@aI _ _ _ _ _ _ _ aR (pv 3) (@aA _ _ _ _ _ _ _ _ _ aB rfl B.ilen aay (@aa _ _ _ _ _ (pv 0) ac (by rfl)) (by decide) (by decide) (by rfl) (by rfl)) (fun _ _=>rfl)) (by with_unfolding_all rfl)))))) (@ak _ _ _ eF) aO) (@ak _ _ _ (@au _ _ _ _ (@aj _ _ _ _ _ _ _ _ _ _ _ C_way_at hr (by lia) rfl (@aa _ _ _ _ _ (pv 0) (@aa _ _ _ _ _ (pv 1) (@aa _ _ _ _ _ (pv 3) (@aa _ _ _ _ _ (pv 2) ac (by rfl)) (by rfl)) (by rfl)) (by rfl)) (by decide) (by rfl) (by rfl)))))))),?_⟩;have zl:(aD gs).length=gs.length:=dL gs;have z1:=wy.size_pos;have nl:=wy.nums_len;obtain ⟨b0,b1⟩:=Wy.nr_bd hz wy hwi h9;refine ⟨_,rfl,r,wy.nums,rfl,hr',by lia,by lia,fun H1 g1=>?_⟩;refine ⟨_,rfl,gs,rfl,sp,?_⟩;have hr1:=g1 _ _ hr';refine ⟨_,rfl,_,rfl,r,_,rfl,.inl (SqL.of hr1),?_⟩;rw [aaf,nl];refine ⟨aD gs,(wy.size:Nat),rfl,by lia,by lia,by lia,fun p2 H2 g2 n2 e2=>?_⟩;rw [zl,show ((wy.size:Int) - 1).toNat=wy.size - 1 by lia] at e2;have G2:=g1.trans g2;have hr2:=g2 _ _ hr1;refine ⟨_,rfl,_,_,rfl,.int _,true,rfl,bi ?_⟩;refine ⟨_,rfl,_,_,rfl,rfl,true,congrArg V.bl (decide_eq_true b0),bV ⟨_,rfl,_,rfl,r,_,rfl,.inl (SqL.of hr2),?_⟩⟩;rw [aaf,nl];refine ⟨p2,_,_,_,rfl,rfl,SqL.of e2,jG (by lia) (by lia),?_⟩;refine ⟨_,_,rfl,rfl,true,congrArg V.bl (decide_eq_true b1),bi ?_⟩;exact ⟨_,rfl,_,rfl,_,rfl,_,rfl,gs,r,p2,wy,wy.size - 1,rfl,hz,hr2,e2,by lia,by lia,h9,hwi,fun v H3 g3 hv=>q v H3 (G2.trans g3) hv⟩
def tX:Sp:=fun vs H Q _=>∃ (gs:List Sg) (n:Nat),vs=[.str (aD gs),.int n]∧gs.length≤3∧cY gs∧1≤n∧n≤9∧∀ H',Same H H'→Q (.int (cn gs.length n)) H'
abbrev dc:Stmt:=top 29
theorem iX:FnScope ["signs","many"] ["signs","many"] (am dc):=⟨rfl,rfl,rfl,by decide +kernel,rfl,by decide +kernel,by decide +kernel⟩
theorem jk (F:Fun K "how_many_ways" "how_many_ways" dc f fd) (C_need_signs:Cal P w K mg base "need_signs" 2 ["thing"] cc) (C_need_many:Cal P w K mg base "need_many" 3 ["thing"] g0) (C_counts_up_to:Cal P w K mg base "counts_up_to" 2 ["signs","many"] jy):FnOk P w K mg base CX0 4 f fd ["signs","many"] tX:=by
  refine F.ok iX (fun vs H Q E h=>?_) (fun cdv A outer s H vs Q E hr h=>?_)
  · obtain ⟨gs,n,rfl,_⟩:=h;rfl
  obtain ⟨gs,n,rfl,hz,sp,h1,h9,q⟩:=h;refine ⟨_,(@ag _ _ _ _ _ (@aX _ _ _ _ (@aj _ _ _ _ _ _ _ _ _ _ _ C_need_signs hr (by lia) rfl (@aa _ _ _ _ _ (pv 0) ac (by rfl)) (by decide) (by rfl) (by rfl)) (by rfl)) (@ag _ _ _ _ _ (@aX _ _ _ _ (@aj _ _ _ _ _ _ _ _ _ _ _ C_need_many hr (by lia) rfl (@aa _ _ _ _ _ (pv 1) ac (by rfl)) (by decide) (by rfl) (by rfl)) (by rfl)) (@ak _ _ _ (@au _ _ _ _ (@aI _ _ _ _ _ _ _ aR (@aj _ _ _ _ _ _ _ _ _ _ _ C_counts_up_to hr (by lia) rfl (@aa _ _ _ _ _ (pv 0) (@aa _ _ _ _ _ (pv 1) ac (by rfl)) (by rfl)) (by decide) (by rfl) (by rfl)) (pv 1) (fun _ _=>rfl)))))),?_⟩;have zl:(aD gs).length=gs.length:=dL gs;refine ⟨_,rfl,gs,rfl,sp,?_⟩;refine ⟨_,rfl,(n:Int),rfl,by lia,by lia,?_⟩;refine ⟨_,rfl,_,rfl,aD gs,(n:Int),rfl,by lia,by lia,by lia,fun p2 H2 g2 n2 e2=>?_⟩;rw [zl,show ((n:Int) - 1).toNat=n - 1 by lia] at e2;exact ⟨_,rfl,p2,_,_,_,rfl,rfl,SqL.of e2,jG (by lia) (by lia),q _ g2⟩
def nh (n:Nat):Sp:=fun vs H Q _=>∃ (w:Wy) (v:V),vs=[v]∧WyIn H w v∧w.size≤n∧n≤9∧w.bd∧Q (.int w.wv) H
abbrev fo:Stmt:=top 38
theorem cV:FnScope ["way","sign","left","right"] ["way"] (am fo):=⟨rfl,rfl,rfl,by decide +kernel,rfl,by decide +kernel,by decide +kernel⟩
theorem lY (F:Fun K "find_worth" "find_worth" fo f fd) (bF:Binds K fd ["way"] []) (mF:mg "find_worth" = some (.ref f)) (C_is_whole:Cal P w K mg base "is_whole" 1 ["thing"] (cU K)) (C_put_sign:Cal P w K mg base "put_sign" 1 ["left","sign","right"] gw) :
    ∀ n,FnOk P w K mg base CX0 (n+1) f fd ["way"] (nh n):=by
  intro n
  induction n with
  | zero =>
    refine ⟨fun vs H Q E h=>?_,fun A outer s H args us vs Q E _ _ _ _ h=>?_⟩
    · obtain ⟨x,v,rfl,_⟩:=h;rfl
    · obtain ⟨wy,v,_,_,hd,_⟩:=h;have:=wy.size_pos;lia
  | succ n ih =>
    have C_find_worth:Cal P w K mg base "find_worth" (n+1) ["way"] (nh n):=⟨f,fd,ih,bF,F.kp,mF⟩
    refine F.ok cV (fun vs H Q E h=>?_) (fun cdv A outer s H vs Q E hr h=>?_)
    · obtain ⟨x,v,rfl,_⟩:=h;rfl
    obtain ⟨wy,v,rfl,hw,hn,h9,hB,q⟩:=h;refine ⟨_,(@ag _ _ _ _ _ (@bh _ _ _ _ _ _ _ _ (@bQ _ _ _ (@aj _ _ _ _ _ _ _ _ _ _ _ C_is_whole hr (by lia) rfl (@aa _ _ _ _ _ (pv 0) ac (by rfl)) (by decide) (by rfl) (by rfl)) (by intro _;rfl)) (@ak _ _ _ (@au _ _ _ _ (pv 0))) aO) (@ag _ _ _ _ _ (@cy _ _ _ _ _ _ (pv 0) (@cz _ _ _ _ _ _ rfl (@az _ _ _ _ _ (@ao _ _ (1) _ (cV).nd rfl (Or.inl rfl) (.inl rfl)) (@az _ _ _ _ _ (@ao _ _ (2) _ (cV).nd rfl (Or.inl rfl) (.inl rfl)) (@az _ _ _ _ _ (@ao _ _ (3) _ (cV).nd rfl (Or.inl rfl) (.inl rfl)) a8 (by rfl)) (by rfl)) (by rfl)) (by rfl) (by rfl)) (by rfl) (by rfl) (by rfl)) (@ak _ _ _ (@au _ _ _ _ (@aj _ _ _ _ _ _ _ _ _ _ _ C_put_sign hr (by lia) rfl (@aa _ _ _ _ _ (@aj _ _ _ _ _ _ _ _ _ _ _ C_find_worth hr (by lia) rfl (@aa _ _ _ _ _ (pv 2) ac (by rfl)) (by decide) (by rfl) (by rfl)) (@aa _ _ _ _ _ (pv 1) (@aa _ _ _ _ _ (@aj _ _ _ _ _ _ _ _ _ _ _ C_find_worth hr (by lia) rfl (@aa _ _ _ _ _ (pv 3) ac (by rfl)) (by decide) (by rfl) (by rfl)) ac (by rfl)) (by rfl)) (by rfl)) (by decide) (by rfl) (by rfl)))))),?_⟩;cases wy with
    | num i =>
      cases hw;exact ⟨_,rfl,_,"int",rfl,.int i,true,rfl,bV ⟨_,rfl,q⟩⟩
    | node g l r =>
      obtain ⟨a,vl,vr,rfl,ha,hl,hr'⟩:=hw;refine ⟨_,rfl,_,"tuple",rfl,.tup ha,false,rfl,bi ?_⟩;have z:l.size+r.size≤n+1:=hn;have zl:=l.size_pos;have zr:=r.size_pos;refine ⟨_,rfl,a,_,rfl,SqT.of ha,rfl,_,_,rfl,_,_,rfl,_,_,rfl,rfl,?_⟩;refine ⟨_,rfl,l,vl,rfl,hl,by lia,by lia,hB.1,?_⟩;refine ⟨_,rfl,_,rfl,r,vr,rfl,hr',by lia,by lia,hB.2.1,?_⟩;exact ⟨_,g,_,rfl,l.wv_lt hB.1 (by lia),r.wv_lt hB.2.1 (by lia),q⟩
def iR:Sp:=fun vs H Q _=>∃ (w:Wy) (v:V),vs=[v]∧WyIn H w v∧w.size≤9∧w.bd∧∀ H',Same H H'→Q (.int w.wv) H'
abbrev hX:Stmt:=top 36
theorem oA:FnScope ["way"] ["way"] (am hX):=⟨rfl,rfl,rfl,by decide +kernel,rfl,by decide +kernel,by decide +kernel⟩
theorem oW (F:Fun K "worth_of" "worth_of" hX f fd) (C_need_way:Cal P w K mg base "need_way" 3 ["thing"] d_) (C_find_worth:Cal P w K mg base "find_worth" 10 ["way"] (nh 9)):FnOk P w K mg base CX0 11 f fd ["way"] iR:=by
  refine F.ok oA (fun vs H Q E h=>?_) (fun cdv A outer s H vs Q E hr h=>?_)
  · obtain ⟨x,v,rfl,_⟩:=h;rfl
  obtain ⟨wy,v,rfl,hw,h9,hB,q⟩:=h;refine ⟨_,(@ag _ _ _ _ _ (@aX _ _ _ _ (@aj _ _ _ _ _ _ _ _ _ _ _ C_need_way hr (by lia) rfl (@aa _ _ _ _ _ (pv 0) ac (by rfl)) (by decide) (by rfl) (by rfl)) (by rfl)) (@ak _ _ _ (@au _ _ _ _ (@aj _ _ _ _ _ _ _ _ _ _ _ C_find_worth hr (by lia) rfl (@aa _ _ _ _ _ (pv 0) ac (by rfl)) (by decide) (by rfl) (by rfl))))),?_⟩;refine ⟨_,rfl,wy,v,rfl,hw,h9,fun H1 g1=>?_⟩;exact ⟨_,rfl,wy,v,rfl,hw.mono (Tups.of g1),h9,by decide,hB,q H1 g1⟩
end
open PySem L2
def Wys (ns:List Int) (gs:List Sg) (w:Wy):Prop:=w.nums=ns∧w.within gs
def IsX (ns:List Int) (gs:List Sg) (k v:Int):Prop:=(∃ w,Wys ns gs w∧w.wv=v)∧∀ w,Wys ns gs w→k * v≤k * w.wv
theorem IsX.uniq {ns:List Int} {gs:List Sg} {k v v':Int} (hk:k=1∨k=-1) (h:IsX ns gs k v) (h':IsX ns gs k v'):v=v':=by
  obtain ⟨⟨w,hw,rfl⟩,h1⟩:=h;obtain ⟨⟨w',hw',rfl⟩,h2⟩:=h';have a:=h1 w' hw';have b:=h2 w hw;rcases hk with rfl|rfl <;> lia
theorem kpt_wys {ns:List Int} {gs:List Sg} {q:Int × Int} {w:Wy}:Kpt ns gs [] q w↔Wys (slice ns q) gs w :=
  ⟨fun h=>⟨h.1,h.2.1⟩,fun h=>⟨h.1,h.2,fun _ _ z=>nomatch z⟩⟩
theorem rY {ns:List Int} {gs:List Sg} (h1:1≤ns.length) {k:Int} {w:Wy} (h:Bst gs (KQ ns gs []) k w):IsX ns gs k w.wv∧Wys ns gs w∧∀ w',Wys ns gs w'→k * w'.wv=k * w.wv→w.nr gs≤w'.nr gs:=by
  have e:=aZ ns h1;have hw:=kpt_wys.mp h.1;rw [e] at hw;have le:∀ w',Wys ns gs w'→lexLe (k * w.wv,w.nr gs) (k * w'.wv,w'.nr gs):=fun w' h'=>h.2 w' (kpt_wys.mpr (by rw [e];exact h'));refine ⟨⟨⟨w,hw,rfl⟩,fun w' h'=>?_⟩,hw,fun w' h' e'=>?_⟩
  · have:=le w' h';unfold lexLe at this;simp only at this;lia
  · have:=le w' h';unfold lexLe at this;simp only at this;lia
theorem vd {q:Int × Int} {k:Nat} (h:q.1+(k:Int) < q.2):q.1+(k:Int)∈aQ q:=by
  unfold aQ;exact aaC.mpr ⟨k,aaB.mpr (by lia),rfl⟩
theorem xM {ns:List Int} {gs:List Sg} (hg:gs≠[]):∀ (n:Nat) (q:Int × Int),0≤q.1→q.1≤q.2→q.2 < ns.length→(q.2 - q.1).toNat≤n→IsX (slice ns q) gs 1 (En ns gs q).1∧IsX (slice ns q) gs (-1) (En ns gs q).2
  | n,q,h0,h1,h2,hn=>by
    by_cases c:q.1=q.2
    · rw [vA ns gs c,gx h0 c h2];have one:∀ w,Wys [ns.getD q.1.toNat 0] gs w→w=.num (ns.getD q.1.toNat 0):=fun w hw=>by
        cases w with
        | num i=>have:=hw.1;simp only [Wy.nums,List.cons.injEq,and_true] at this;rw [this]
        | node g l r =>
          have:=congrArg abZ hw.1;rw [(Wy.node g l r).nums_len] at this;have : l.size+r.size=1:=this;have:=l.size_pos;have:=r.size_pos;lia
      refine ⟨⟨⟨.num _,⟨rfl,trivial⟩,rfl⟩,fun w hw=>?_⟩,⟨⟨.num _,⟨rfl,trivial⟩,rfl⟩,fun w hw=>?_⟩⟩
      · rw [one w hw];exact aav _
      · rw [one w hw];exact aav _
    · have lt:q.1 < q.2:=by lia
      match n,hn with
      | 0,hn=>lia
      | n+1,hn =>
      rw [vB ns gs lt];have ne:=wj (E:=En ns gs) lt hg;obtain ⟨m1,m2⟩:=nN ne;obtain ⟨x1,x2⟩:=nU ne;have ih:∀ c∈aQ q,(IsX (slice ns (q.1,c)) gs 1 (En ns gs (q.1,c)).1∧IsX (slice ns (q.1,c)) gs (-1) (En ns gs (q.1,c)).2)∧(IsX (slice ns (c+1,q.2)) gs 1 (En ns gs (c+1,q.2)).1∧IsX (slice ns (c+1,q.2)) gs (-1) (En ns gs (c+1,q.2)).2):=fun c hc=>by
        have:=fK hc;exact ⟨xM hg n (q.1,c) h0 (by simp only;lia) (by simp only;lia) (by simp only;lia),xM hg n (c+1,q.2) (by simp only;lia) (by simp only;lia) h2 (by simp only;lia)⟩
      have att:∀ v∈bW (En ns gs) gs q,∃ w,Wys (slice ns q) gs w∧w.wv=v:=fun v hv=>by
        obtain ⟨c,hc,g,hg',a,b,ha,hb,rfl⟩:=mem_corn.mp hv;obtain ⟨⟨i1,i2⟩,i3,i4⟩:=ih c hc;have ci:=fK hc;obtain ⟨l,hl,el⟩:∃ l,Wys (slice ns (q.1,c)) gs l∧l.wv=a:=by
          rcases ha with rfl|rfl
          · exact i1.1
          · exact i2.1
        obtain ⟨r,hr,er⟩:∃ r,Wys (slice ns (c+1,q.2)) gs r∧r.wv=b:=by
          rcases hb with rfl|rfl
          · exact i3.1
          · exact i4.1
        have ek:q.1+(((c - q.1).toNat:Nat):Int)=c:=by lia
        have:=pB (ns:=ns) (gs:=gs) (lo:=[]) (q:=q) (g:=g) (l:=l) (r:=r) (k:=(c - q.1).toNat) h0 h2 (by lia) (fun z=>nomatch z) hg' (by rw [ek];exact kpt_wys.mpr hl) (by rw [ek];exact kpt_wys.mpr hr);exact ⟨.node g l r,kpt_wys.mp this.1,by show g.op l.wv r.wv=_;rw [el,er]⟩
      have cor:∀ w,Wys (slice ns q) gs w→(∃ v∈bW (En ns gs) gs q,v≤w.wv)∧∃ v∈bW (En ns gs) gs q,w.wv≤v:=fun w hw=>by
        cases w with
        | num i =>
          have:=congrArg abZ hw.1;rw [cB h0 h1 h2] at this;have : 1=(q.2 - q.1+1).toNat:=this;lia
        | node g l r =>
          obtain ⟨_,hg',k,_,hk,hl,hr⟩:=kN h0 h1 h2 (kpt_wys.mpr hw);have hc:=vd hk;obtain ⟨⟨i1,i2⟩,i3,i4⟩:=ih _ hc;have b1:=i1.2 l (kpt_wys.mp hl);have b2:=i2.2 l (kpt_wys.mp hl);have b3:=i3.2 r (kpt_wys.mp hr);have b4:=i4.2 r (kpt_wys.mp hr);obtain ⟨a,b,ha,hb,le⟩:=mP g (x:=l.wv) (y:=r.wv) (lx:=(En ns gs (q.1,q.1+(k:Int))).1) (ux:=(En ns gs (q.1,q.1+(k:Int))).2) (ly:=(En ns gs (q.1+(k:Int)+1,q.2)).1) (uy:=(En ns gs (q.1+(k:Int)+1,q.2)).2) ⟨by lia,by lia⟩ ⟨by lia,by lia⟩;obtain ⟨a',b',ha',hb',ge⟩:=mQ g (x:=l.wv) (y:=r.wv) (lx:=(En ns gs (q.1,q.1+(k:Int))).1) (ux:=(En ns gs (q.1,q.1+(k:Int))).2) (ly:=(En ns gs (q.1+(k:Int)+1,q.2)).1) (uy:=(En ns gs (q.1+(k:Int)+1,q.2)).2) ⟨by lia,by lia⟩ ⟨by lia,by lia⟩;exact ⟨⟨_,mem_corn.mpr ⟨_,hc,g,hg',a,b,ha,hb,rfl⟩,le⟩,⟨_,mem_corn.mpr ⟨_,hc,g,hg',a',b',ha',hb',rfl⟩,ge⟩⟩
      refine ⟨⟨att _ m1,fun w hw=>?_⟩,⟨att _ x1,fun w hw=>?_⟩⟩
      · obtain ⟨⟨v,hv,le⟩,_⟩:=cor w hw;have:=m2 v hv;simp only;lia
      · obtain ⟨_,v,hv,ge⟩:=cor w hw;have:=x2 v hv;simp only;lia
def Wy.rev:Wy→Wy
  | .num i=>.num i
  | .node g l r=>.node g r.rev l.rev
def Wy.neg:Wy→Wy
  | .num i=>.num (0 - i)
  | .node g l r=>.node g l.neg r.neg
section
variable {P:Program} {w:World} {K:aaa} {mg:Str→Option Value} {base:Heap} {f:Addr} {fd:FuncData}
end
open PySem L2
theorem qg {ns:List Int} {q:Int × Int} {k:Nat} (h0:0≤q.1) (h:q.1+(k:Int)≤q.2):(slice ns q).take (k+1)=slice ns (q.1,q.1+(k:Int)):=by
  unfold slice;simp only;rw [List.take_take,show min (k+1) (q.2 - q.1+1).toNat=(q.1+(k:Int) - q.1+1).toNat by lia]
theorem qh {ns:List Int} {q:Int × Int} {k:Nat} (h0:0≤q.1) (h:q.1+(k:Int) < q.2):(slice ns q).drop (k+1)=slice ns (q.1+(k:Int)+1,q.2):=by
  unfold slice;simp only;rw [List.drop_take,List.drop_drop,show q.1.toNat+(k+1)=(q.1+(k:Int)+1).toNat by lia,show (q.2 - q.1+1).toNat - (k+1)=(q.2 - (q.1+(k:Int)+1)+1).toNat by lia]
def av (lo:List (Int × Int)) (b:Int) (w:Wy):Bool:=decide (∀ p∈w.tr.all b,p∉lo)
theorem wt (lo:List (Int × Int)) (b:Int) (g:Sg) (l r:Wy):av lo b (.node g l r)=(decide ((b,b+((l.size+r.size:Nat):Int) - 1)∉lo) && (av lo b l && av lo (b+(l.size:Int)) r)):=by
  unfold av;rw [aa3];simp only [aa6,decide_eq_true_eq];show (∀ p∈(b,b+((l.tr.size+r.tr.size:Nat):Int) - 1) :: (l.tr.all b++r.tr.all (b+(l.tr.size:Int))),p∉lo)↔_;rw [l.tr_size,r.tr_size];simp only [aam,List.mem_append];constructor
  · intro h;exact ⟨h _ (.inl rfl),fun p hp=>h p (.inr (.inl hp)),fun p hp=>h p (.inr (.inr hp))⟩
  · rintro ⟨h1,h2,h3⟩ p (rfl|hp|hp)
    · exact h1
    · exact h2 p hp
    · exact h3 p hp
theorem rJ {α β:Type} (f:α→List β) (p:α→Bool) (c:Nat):∀ (ls:List α),(∀ l∈ls,(f l).length=if p l=true then c else 0)→(ls.flatMap f).length=(ls.filter p).length * c
  | [],_=>by simp
  | l :: ls,h=>by
    have ih:=rJ f p c ls fun l' hl'=>h l' (aae _ hl');rw [abS,aap,ih,h l aai];by_cases e:p l=true
    · rw [List.filter_cons_of_pos e,if_pos e,aaS,act];lia
    · rw [List.filter_cons_of_neg e,if_neg e];lia
theorem ir (s:Int) (f:Nat→Nat) (F:Nat→Int):∀ (l:List Nat),(∀ k∈l,((f k:Nat):Int)=s * F k)→(((l.map f).sum:Nat):Int)=s * (l.map F).sum
  | [],_=>by simp
  | k :: l,h=>by
    have ih:=ir s f F l fun k' hk'=>h k' (aae _ hk');rw [aaO,aaO,abz,abz,acd,ih,h k aai,Int.mul_add]
theorem xR {gs:List Sg} {ns:List Int} {q:Int × Int} {n:Nat} (h0:0≤q.1) (h1:q.1≤q.2) (h2:q.2 < ns.length) (hn:(q.2 - q.1+1).toNat≤n) {w:Wy} (hw:w∈aw n gs (slice ns q)):q∈w.tr.all q.1:=by
  have sl:=cB h0 h1 h2;obtain ⟨e,_⟩:=(dg gs w n (slice ns q) (by lia) (by lia)).mp hw;have hz:w.size=(q.2 - q.1+1).toNat:=by rw [← w.nums_len,e,sl]
  have:=w.tr.top q.1;rw [w.tr_size,hz] at this;have eq:(q.1,q.1+(((q.2 - q.1+1).toNat:Nat):Int) - 1)=q:=by
    obtain ⟨a,b⟩:=q;simp only at *;congr 1;lia
  rwa [eq] at this
theorem iJ {gs:List Sg} {lo:List (Int × Int)} {ns:List Int}:∀ (n:Nat) (q:Int × Int),0≤q.1→q.1≤q.2→q.2 < ns.length→(q.2 - q.1+1).toNat≤n→n≤9→((((aw n gs (slice ns q)).filter (av lo q.1)).length:Nat):Int)=cnt gs.length lo q
  | 0,q,h0,h1,h2,hn,_=>by lia
  | n+1,q,h0,h1,h2,hn,h9=>by
    have sl:=cB h0 h1 h2;by_cases c:q∈lo
    · have en:(aw (n+1) gs (slice ns q)).filter (av lo q.1)=[]:=List.filter_eq_nil_iff.mpr fun w hw z=>by
        have z:∀ p∈w.tr.all q.1,p∉lo:=of_decide_eq_true z;exact z q (xR h0 h1 h2 hn hw) c
      rw [rS c,en];rfl
    by_cases e:q.1=q.2
    · rw [rT c e];unfold aw;rw [gx h0 e h2,if_pos (show [ns.getD q.1.toNat 0].length=1 from rfl)];have ea:av lo q.1 (.num (ns.getD q.1.toNat 0))=true:=by
        refine decide_eq_true fun p hp=>?_;have : p=(q.1,q.1):=by simpa [Wy.tr,Tr.all] using hp
        rw [this];have : (q.1,q.1)=q:=by
          obtain ⟨a,b⟩:=q;simp only at *;rw [e]
        rw [this];exact c
      rw [aaO,List.map_nil,List.filter_cons_of_pos ea];rfl
    have hlt:q.1 < q.2:=by lia
    rw [rV c hlt (by lia)];unfold aw;rw [if_neg (by lia),List.filter_flatMap,List.length_flatMap];have ec:(aQ q).map (fun c=>cnt gs.length lo (q.1,c) * cnt gs.length lo (c+1,q.2))=(aaI ((slice ns q).length - 1)).map fun (k:Nat)=>cnt gs.length lo (q.1,q.1+(k:Int)) * cnt gs.length lo (q.1+(k:Int)+1,q.2):=by
      unfold aQ;rw [List.map_map,sl,show (q.2 - q.1+1).toNat - 1=(q.2 - q.1).toNat by lia];rfl
    rw [ec];refine ir _ _ _ _ fun k hk=>?_;have hk:=aaB.mp hk;have i1:=iJ (gs:=gs) (lo:=lo) (ns:=ns) n (q.1,q.1+(k:Int)) h0 (by simp only;lia) (by simp only;lia) (by simp only;lia) (by lia);have i2:=iJ (gs:=gs) (lo:=lo) (ns:=ns) n (q.1+(k:Int)+1,q.2) (by simp only;lia) (by simp only;lia) h2 (by simp only;lia) (by lia);simp only at i1 i2;rw [← i1,← i2];unfold awC;rw [List.filter_flatMap,qg h0 (by lia),qh h0 (by lia)];have s1:=cB (ns:=ns) (q:=(q.1,q.1+(k:Int))) h0 (by simp only;lia) (by simp only;lia);have s2:=cB (ns:=ns) (q:=(q.1+(k:Int)+1,q.2)) (by simp only;lia) (by simp only;lia) h2;simp only at s1 s2;rw [io gs _ (((aw n gs (slice ns (q.1,q.1+(k:Int)))).filter (av lo q.1)).length * ((aw n gs (slice ns (q.1+(k:Int)+1,q.2))).filter (av lo (q.1+(k:Int)+1))).length) (fun g hg=>?_)]
    · rw [Int.natCast_mul,Int.natCast_mul]
    rw [List.filter_flatMap];refine rJ _ (av lo q.1) _ _ fun l hl=>?_;obtain ⟨el,_⟩:=(dg gs l n _ (by lia) (by lia)).mp hl;have zl:l.size=k+1:=by rw [← l.nums_len,el,s1];lia
    rw [List.filter_map,aaf];have cong:∀ r∈aw n gs (slice ns (q.1+(k:Int)+1,q.2)),(av lo q.1 ∘ fun r=>Wy.node g l r) r=(av lo q.1 l && av lo (q.1+(k:Int)+1) r):=fun r hr=>by
      obtain ⟨er,_⟩:=(dg gs r n _ (by lia) (by lia)).mp hr;have zr:r.size=(q.2 - (q.1+(k:Int)+1)+1).toNat:=by rw [← r.nums_len,er,s2]
      show av lo q.1 (.node g l r)=_;rw [wt,zl,zr];have eq:(q.1,q.1+((k+1+(q.2 - (q.1+(k:Int)+1)+1).toNat:Nat):Int) - 1)=q:=by
        obtain ⟨a,b⟩:=q;simp only at *;congr 1;lia
      rw [eq,decide_eq_true c,Bool.true_and,show q.1+((k+1:Nat):Int)=q.1+(k:Int)+1 by lia]
    rw [List.filter_congr cong];by_cases a:av lo q.1 l=true
    · rw [if_pos a,a];simp
    · have a':av lo q.1 l=false:=by simpa using a
      rw [if_neg a,a'];simp
theorem uF {n:Nat} {hs bs:List (Int × Int)} (h1:∀ h∈hs,Gp n h) (h2:∀ h∈bs,Gp n h) {w:Wy} (hw:w.size=n):decide (KW hs bs w)=av (lo n hs bs) 0 w:=by
  unfold av;rw [aa3,decide_eq_true_eq,decide_eq_true_eq,xD hs bs (fun h hh=>(h1 h hh).2.1) (fun h hh=>(h2 h hh).2.1) w,xT h1 w.tr (by rw [w.tr_size,hw])]
theorem xB {gs:List Sg} {ns:List Int} {hs bs:List (Int × Int)} {n:Nat} (hn:1≤ns.length) (hn2:ns.length≤n) (h9:n≤9) (h1:∀ h∈hs,Gp ns.length h) (h2:∀ h∈bs,Gp ns.length h) :
    ((((aw n gs ns).filter fun w=>decide (KW hs bs w)).length:Nat):Int)=cnt gs.length (lo ns.length hs bs) (0,(ns.length:Int) - 1):=by
  have e:=iJ (gs:=gs) (lo:=lo ns.length hs bs) (ns:=ns) n (0,(ns.length:Int) - 1) (aav _) (by simp only;lia) (by simp only;lia) (by simp only;lia) h9;rw [aZ ns hn] at e;rw [← e,List.filter_congr fun w hw=>uF h1 h2 (by rw [← w.nums_len,((dg gs w n ns hn hn2).mp hw).1])]
theorem xC {gs:List Sg} {ns:List Int} {hs bs:List (Int × Int)} {n:Nat} (hn:1≤ns.length) (hn2:ns.length≤n) (h1:∀ h∈hs,Gp ns.length h) (h2:∀ h∈bs,Gp ns.length h) {w:Wy} :
    w∈(aw n gs ns).filter (fun w=>decide (KW hs bs w))↔Kpt ns gs (lo ns.length hs bs) (0,(ns.length:Int) - 1) w:=by
  rw [abP,dg gs w n ns hn hn2];unfold Kpt;rw [aZ ns hn];constructor
  · rintro ⟨⟨a,b⟩,c⟩;rw [uF h1 h2 (by rw [← w.nums_len,a])] at c;exact ⟨a,b,of_decide_eq_true c⟩
  · rintro ⟨a,b,c⟩;refine ⟨⟨a,b⟩,?_⟩;rw [uF h1 h2 (by rw [← w.nums_len,a])];exact decide_eq_true c
theorem v7 {ns:List Int} {gs:List Sg} {L:List (Int × Int)} {q:Int × Int} (h9:ns.length≤9) (h0:0≤q.1) (h1:q.1≤q.2) (h2:q.2 < ns.length):0 < cnt gs.length L q↔∃ w,Kpt ns gs L q w:=by
  have sl:=cB h0 h1 h2;have e:=iJ (gs:=gs) (lo:=L) (ns:=ns) 9 q h0 h1 h2 (by lia) (by decide);rw [← e];have mm:∀ w,w∈(aw 9 gs (slice ns q)).filter (av L q.1)↔Kpt ns gs L q w:=fun w=>by
    rw [abP,dg gs w 9 (slice ns q) (by lia) (by lia)];unfold Kpt av;rw [decide_eq_true_eq];exact and_assoc
  constructor
  · intro z;obtain ⟨w,hw⟩:=List.exists_mem_of_length_pos (l:=(aw 9 gs (slice ns q)).filter (av L q.1)) (by lia);exact ⟨w,(mm w).mp hw⟩
  · rintro ⟨w,hw⟩;have:=List.length_pos_of_mem ((mm w).mpr hw);lia
theorem uG {ns:List Int} {gs:List Sg} {L:List (Int × Int)} (hs:gs.length≤3) (nd:gs.Nodup) (h1:1≤ns.length) (h9:ns.length≤9) {v w:Wy} (hv:Kpt ns gs L (0,(ns.length:Int) - 1) v) (hw:Kpt ns gs L (0,(ns.length:Int) - 1) w) (e:v.nr gs=w.nr gs):v=w:=by
  have pw:=jZ hs nd 9 ns h1 h9 (by decide);have mv:v∈aw 9 gs ns:=(dg gs v 9 ns h1 h9).mpr ⟨by rw [hv.1,aZ ns h1],hv.2.1⟩;have mw:w∈aw 9 gs ns:=(dg gs w 9 ns h1 h9).mpr ⟨by rw [hw.1,aZ ns h1],hw.2.1⟩;obtain ⟨i,hi,rfl⟩:=aa0 mv;obtain ⟨j,hj,rfl⟩:=aa0 mw;rcases Nat.lt_trichotomy i j with c|c|c
  · have:=aaX.mp pw i j hi hj c;lia
  · subst c;rfl
  · have:=aaX.mp pw j i hj hi c;lia
theorem rD {hs bs:List (Int × Int)} {one:Int × Int} {w:Wy}:(KW (one :: hs) bs w↔KW hs bs w∧one∈w.pl 0)∧(KW hs (bs++[one]) w↔KW hs bs w∧one∉w.pl 0):=by
  unfold KW;constructor
  · constructor
    · rintro ⟨a,b⟩;exact ⟨⟨fun h hh=>a h (aae _ hh),b⟩,a one aai⟩
    · rintro ⟨⟨a,b⟩,c⟩;exact ⟨fun h hh=>(aam.mp hh).elim (fun e=>e ▸ c) (a h),b⟩
  · constructor
    · rintro ⟨a,b⟩;exact ⟨⟨a,fun h hh=>b h (aaw _ hh)⟩,b one (aab _ aai)⟩
    · rintro ⟨⟨a,b⟩,c⟩;exact ⟨a,fun h hh=>(aan.mp hh).elim (b h) (fun e=>(aaj.mp e) ▸ c)⟩
theorem xA {hs bs hs' bs':List (Int × Int)} (h:∀ q,q∈hs↔q∈hs') (k:∀ q,q∈bs↔q∈bs') {w:Wy}:KW hs bs w↔KW hs' bs' w:=by
  unfold KW;constructor
  · rintro ⟨a,b⟩;exact ⟨fun q hq=>a q ((h q).mpr hq),fun q hq=>b q ((k q).mpr hq)⟩
  · rintro ⟨a,b⟩;exact ⟨fun q hq=>a q ((h q).mp hq),fun q hq=>b q ((k q).mp hq)⟩
theorem pI {α:Type} (p q:α→Bool):∀ l:List α,(l.filter fun x=>p x && q x).length+(l.filter fun x=>p x && !q x).length=(l.filter p).length
  | []=>rfl
  | a :: l=>by
    have ih:=pI p q l;simp only [List.filter_cons];cases p a <;> cases q a <;> simp <;> lia
section
variable {gs:List Sg} {ns:List Int} {hs bs:List (Int × Int)}
def ck (gs:List Sg) (n:Nat) (hs bs:List (Int × Int)):Int:=cnt gs.length (lo n hs bs) (0,(n:Int) - 1)
theorem ip (h1:1≤ns.length) (h9:ns.length≤9) (g1:∀ h∈hs,Gp ns.length h) (g2:∀ h∈bs,Gp ns.length h):ck gs ns.length hs bs=(((aw 9 gs ns).filter fun w=>decide (KW hs bs w)).length:Nat):=(xB h1 h9 (aag 9) g1 g2).symm
theorem rW {n:Nat} (h1:1≤n) (h9:n≤9) (g1:∀ h∈hs,Gp n h) (g2:∀ h∈bs,Gp n h):0≤ck gs n hs bs:=by
  have e:=ip (gs:=gs) (ns:=aao n 0) (hs:=hs) (bs:=bs) (by rw [aa1];exact h1) (by rw [aa1];exact h9) (by rw [aa1];exact g1) (by rw [aa1];exact g2);rw [aa1] at e;lia
theorem j0 {n:Int} {one:Int × Int} (g:Gp n one) (g1:∀ h∈hs,Gp n h):∀ h∈one :: hs,Gp n h:=fun h hh=>(aam.mp hh).elim (fun e=>e ▸ g) (g1 h)
theorem qV {n:Int} {one:Int × Int} (g:Gp n one) (g1:∀ h∈hs,Gp n h):∀ h∈hs++[one],Gp n h:=fun h hh=>(aan.mp hh).elim (g1 h) (fun e=>(aaj.mp e) ▸ g)
theorem rX {n:Nat} (h1:1≤n) (h9:n≤9) {one:Int × Int} (g:Gp n one) (g1:∀ h∈hs,Gp n h) (g2:∀ h∈bs,Gp n h):ck gs n (one :: hs) bs+ck gs n hs (bs++[one])=ck gs n hs bs:=by
  obtain ⟨ns,rfl⟩:∃ ns:List Int,ns.length=n:=⟨aao n 0,aa1⟩
  rw [ip h1 h9 (j0 g g1) g2,ip h1 h9 g1 (qV g g2),ip h1 h9 g1 g2,← pI (fun w=>decide (KW hs bs w)) (fun w=>decide (one∈w.pl 0)) (aw 9 gs ns)];have e1:(fun w=>decide (KW (one :: hs) bs w))=fun w=>decide (KW hs bs w) && decide (one∈w.pl 0):=by
    funext w;rw [aa3,decide_eq_true_eq,aa6,decide_eq_true_eq,decide_eq_true_eq,rD.1]
  have e2:(fun w=>decide (KW hs (bs++[one]) w))=fun w=>decide (KW hs bs w) && !decide (one∈w.pl 0):=by
    funext w;rw [aa3,decide_eq_true_eq,aa6,decide_eq_true_eq,Bool.not_eq_true',decide_eq_false_iff_not,rD.2]
  rw [e1,e2];lia
theorem vm {n:Nat} (h1:1≤n) (h9:n≤9) (g1:∀ h∈hs,Gp n h) (g2:∀ h∈bs,Gp n h) {hs' bs':List (Int × Int)} (h:∀ q,q∈hs↔q∈hs') (k:∀ q,q∈bs↔q∈bs'):ck gs n hs' bs'=ck gs n hs bs:=by
  obtain ⟨ns,rfl⟩:∃ ns:List Int,ns.length=n:=⟨aao n 0,aa1⟩
  rw [ip h1 h9 g1 g2,ip h1 h9 (fun q hq=>g1 q ((h q).mpr hq)) (fun q hq=>g2 q ((k q).mpr hq))];have e:(fun w=>decide (KW hs' bs' w))=fun w=>decide (KW hs bs w):=by
    funext w;rw [aa3,decide_eq_true_eq,decide_eq_true_eq,xA h k]
  rw [e]
theorem wo (hs3:gs.length≤3) (h1:1≤ns.length) (h9:ns.length≤9):ck gs ns.length [] []=cn gs.length ns.length:=by
  rw [ip h1 h9 (fun h z=>by cases z) (fun h z=>by cases z),List.filter_eq_self.mpr (fun w _=>decide_eq_true (show KW [] [] w from ⟨fun h z=>(by cases z),fun h z=>(by cases z)⟩)),om];exact wL _ hs3 _ h9 h1
theorem nW (n:Nat):lo n [] []=[]:=by
  unfold lo;rw [List.filter_eq_nil_iff];intro q _;simp [lob]
theorem jY (hs3:gs.length≤3) (nd:gs.Nodup) (h1:1≤ns.length) (h9:ns.length≤9) {L:List (Int × Int)} {k:Int} {v w:Wy} (hv:Bst gs (KQ ns gs L) k v) (hw:Bst gs (KQ ns gs L) k w):v=w:=by
  refine uG hs3 nd h1 h9 hv.1 hw.1 ?_;have a:=hv.2 w hw.1;have b:=hw.2 v hv.1;unfold lexLe at a b;simp only at a b;lia
end
def Wy.strs:Wy→Int→List (Int × Int)
  | .num _,_=>[]
  | .node _ l r,f=>(f,f+l.size+r.size - 1) :: l.strs f++r.strs (f+l.size)
theorem Wy.strs_len:∀ (w:Wy) (f:Int),(w.strs f).length+1=w.size
  | .num _,_=>rfl
  | .node _ l r,f=>by
    have a:=l.strs_len f;have b:=r.strs_len (f+l.size);show ((f,f+l.size+r.size - 1) :: l.strs f++r.strs (f+l.size)).length+1=l.size+r.size;rw [aap,aaS];lia
theorem Wy.strs_in:∀ (w:Wy) (f:Int) (p:Int × Int),p∈w.strs f→f≤p.1∧p.1 < p.2∧p.2 < f+w.size
  | .num _,_,_,h=>nomatch h
  | .node _ l r,f,p,h=>by
    have zl:=l.size_pos;have zr:=r.size_pos;have e:((l.size+r.size:Nat):Int)=l.size+r.size:=by lia
    show f≤p.1∧p.1 < p.2∧p.2 < f+((l.size+r.size:Nat):Int);have h':p∈(f,f+(l.size:Int)+r.size - 1) :: l.strs f++r.strs (f+l.size):=h;rcases aan.mp h' with h1|h1
    · rcases aam.mp h1 with rfl|h1
      · refine ⟨aav _,?_,?_⟩ <;> (dsimp only;lia)
      · have:=l.strs_in f p h1;lia
    · have:=r.strs_in _ p h1;lia
theorem Wy.strs_nodup:∀ (w:Wy) (f:Int),(w.strs f).Nodup
  | .num _,_=>List.nodup_nil
  | .node _ l r,f=>by
    have zl:=l.size_pos;have zr:=r.size_pos;show ((f,f+(l.size:Int)+r.size - 1) :: l.strs f++r.strs (f+l.size)).Nodup;refine List.nodup_append.mpr ⟨List.nodup_cons.mpr ⟨fun h=>?_,l.strs_nodup f⟩,r.strs_nodup _,fun p hp q hq e=>?_⟩
    · have:=l.strs_in f _ h;dsimp only at this;lia
    · subst e;have b:=r.strs_in _ p hq;rcases aam.mp hp with rfl|hp
      · dsimp only at b;lia
      · have:=l.strs_in f p hp;lia
theorem Wy.strs_fine (w:Wy) (f:Int) (h0:0≤f) (h1:f+w.size < 1000):vz (w.strs f) :=
  ⟨fun p hp=>by have:=w.strs_in f p hp;lia,w.strs_nodup f⟩
theorem PairsIn.len {H:Hp} {ps:List (Int × Int)} {vs:List V} (a:PairsIn H ps vs):ps.length=vs.length:=aa9 a
theorem mW:∀ (w:Wy) (b:Int),w.strs b=w.pl b
  | .num _,_=>rfl
  | .node g l r,b=>by
    show (b,b+(l.size:Int)+(r.size:Int) - 1) :: l.strs b++r.strs (b+l.size)=(b,b+(l.size:Int)+(r.size:Int) - 1) :: (l.pl b++r.pl (b+(l.size:Int)));rw [mW l b,mW r _];rfl
def jT (n:Nat):List (Int × Int):=(aaI n).flatMap fun i=>(aaI (n - i)).map fun (k:Nat)=>((i:Int),((i+k:Nat):Int))
def uB (n:Nat):List (Int × Int):=(aaI n).flatMap fun i=>(aaI (n - 1 - i)).map fun (k:Nat)=>((i:Int),((i+1+k:Nat):Int))
theorem mD:∀ n,n≤9→(jT n).Perm (sfl n n):=by decide +kernel
theorem s_:∀ n,n≤9→((jT n).map fA).Pairwise (· < ·):=by decide +kernel
theorem oy:∀ n,n≤9→vz (sfl n n):=by unfold vz;decide +kernel
theorem qI:∀ n,n≤9→(jT n).filter (fun q=>decide (q.1 < q.2))=uB n:=by decide +kernel
def gK (gs:List Sg) (n:Nat) (hs bs:List (Int × Int)):List (Int × Int):=(uB n).filter fun q=>decide (0 < ck gs n (q :: hs) bs)
def jD (gs:List Sg) (n:Nat) (hs bs:List (Int × Int)):List (Int × Int):=(gK gs n hs bs).filter fun q=>decide (ck gs n hs (bs++[q])=0)
theorem uA {n i j:Nat} (h:i < j) (h2:j < n):((i:Int),(j:Int))∈uB n:=by
  unfold uB;rw [aaG];refine ⟨i,aaB.mpr (by lia),?_⟩;rw [aaC];exact ⟨j - (i+1),aaB.mpr (by lia),by rw [show i+1+(j - (i+1))=j by lia]⟩
theorem wA {n:Nat} (h9:n≤9) {q:Int × Int} (g:Gp n q):q∈uB n:=by
  obtain ⟨a,b⟩:=q;obtain ⟨g1,g2,g3⟩:=g;simp only at g1 g2 g3;obtain ⟨i,rfl⟩:=Int.eq_ofNat_of_zero_le g1;obtain ⟨j,rfl⟩:=Int.eq_ofNat_of_zero_le (show 0≤b by lia);exact uA (by lia) (by lia)
theorem wm {gs:List Sg} {hs bs:List (Int × Int)} {n:Nat} (h1:1≤n) (h9:n≤9) {one:Int × Int} (g:Gp n one) (g1:∀ h∈hs,Gp n h) (g2:∀ h∈bs,Gp n h):cnt gs.length (lo n (hs++[one]) bs) (0,(n:Int) - 1)=ck gs n (one :: hs) bs :=
  vm h1 h9 (j0 g g1) g2 (fun q=>by simp [or_comm]) (fun q=>Iff.rfl)
theorem mE (n:Nat):∀ p∈jT n,0≤p.1∧p.1≤p.2∧p.2 < n:=fun p hp=>by
  unfold jT at hp;rw [aaG] at hp;obtain ⟨m,hm,hp⟩:=hp;rw [aaC] at hp;obtain ⟨f,hf,rfl⟩:=hp;rw [List.mem_range] at hf hm;simp only;lia
theorem kL:∀ n,n≤9→(jT n).length≤45:=by decide +kernel
theorem sY (n:Nat) (hn:n≤9) (gs:List Sg) (hs bs:List (Int × Int)):∀ p∈gK gs n hs bs,Gp n p:=fun p hp=>by
  unfold gK at hp;have hp:=(List.mem_filter.mp hp).1;rw [← qI n hn,abP] at hp;have:=mE n p hp.1;have h2:p.1 < p.2:=of_decide_eq_true hp.2;exact ⟨this.1,h2,this.2.2⟩
theorem uz (n:Nat) (hn:n≤9) (gs:List Sg) (hs bs:List (Int × Int)):(gK gs n hs bs).length≤45:=by
  unfold gK;refine aaV (abx _ _) ?_;rw [← qI n hn];exact aaV (abx _ _) (kL n hn)
theorem wz {n:Int} {ps:List (Int × Int)} {p:Int × Int} (h:∀ q∈ps,Gp n q) (g:Gp n p):∀ q∈ps++[p],Gp n q:=fun q hq=>by
  rcases aan.mp hq with hq|hq
  · exact h q hq
  · rw [aaj.mp hq];exact g
section
variable {P:Program} {w:World} {K:aaa} {mg:Str→Option Value} {base:Heap} {f:Addr} {fd:FuncData}
def mY (n:Nat):Sp:=fun vs H Q _=>∃ (w:Wy) (v:V) (fi:Int),vs=[v,.int fi]∧WyIn H w v∧w.size≤20∧w.deep≤n∧∀ p us H',Same H H'→H p=none→H' p=some (.lst us)→PairsIn H' (w.strs fi) us→Q (.ref p) H'
abbrev cM:Stmt:=top 26
theorem bc:FnScope ["way","first","sign","left","right","cut","last"] ["way","first"] (am cM):=⟨rfl,rfl,rfl,by decide +kernel,rfl,by decide +kernel,by decide +kernel⟩
theorem iG (F:Fun K "list_stretches" "list_stretches" cM f fd) (bF:Binds K fd ["way","first"] []) (mF:mg "list_stretches" = some (.ref f)) (B:Bu K mg) (C_is_whole:Cal P w K mg base "is_whole" 1 ["thing"] (cU K))
    (C_list_numbers:Cal P w K mg base "list_numbers" 21 ["way"] (j9 20)):∀ n,FnOk P w K mg base CX0 (n+22) f fd ["way","first"] (mY n):=by
  intro n
  induction n with
  | zero =>
    refine ⟨fun vs H Q E h=>?_,fun A outer s H args us vs Q E _ _ _ _ h=>?_⟩
    · obtain ⟨x,v,fi,rfl,_⟩:=h;rfl
    · obtain ⟨wy,v,fi,_,_,_,hd,_⟩:=h;cases wy <;> exact absurd hd (by simp [Wy.deep])
  | succ n ih =>
    have C_list_stretches:Cal P w K mg base "list_stretches" (n+22) ["way","first"] (mY n):=⟨f,fd,ih,bF,F.kp,mF⟩
    refine F.ok bc (fun vs H Q E h=>?_) (fun cdv A outer s H vs Q E hr h=>?_)
    · obtain ⟨x,v,fi,rfl,_⟩:=h;rfl
    obtain ⟨wy,v,fi,rfl,hw,h20,hd,q⟩:=h;refine ⟨_,(@ag _ _ _ _ _ (@bh _ _ _ _ _ _ _ _ (@bQ _ _ _ (@aj _ _ _ _ _ _ _ _ _ _ _ C_is_whole hr (by lia) rfl (@aa _ _ _ _ _ (pv 0) ac (by rfl)) (by decide) (by rfl) (by rfl)) (by intro _;rfl)) (@ak _ _ _ (@au _ _ _ _ (@aV _ _ _ _ ac))) aO) (@ag _ _ _ _ _ (@cy _ _ _ _ _ _ (pv 0) (@cz _ _ _ _ _ _ rfl (@az _ _ _ _ _ (@ao _ _ (2) _ (bc).nd rfl (Or.inl rfl) (.inl rfl)) (@az _ _ _ _ _ (@ao _ _ (3) _ (bc).nd rfl (Or.inl rfl) (.inl rfl)) (@az _ _ _ _ _ (@ao _ _ (4) _ (bc).nd rfl (Or.inl rfl) (.inl rfl)) a8 (by rfl)) (by rfl)) (by rfl)) (by rfl) (by rfl)) (by rfl) (by rfl) (by rfl)) (@ag _ _ _ _ _ (@aH _ _ (5) _ _ _ _ (bc).nd rfl (Or.inl rfl) (@aC _ _ _ _ _ _ _ _ bU (pv 1) (@aA _ _ _ _ _ _ _ _ _ aB rfl B.ilen aay (@aa _ _ _ _ _ (@aj _ _ _ _ _ _ _ _ _ _ _ C_list_numbers hr (by lia) rfl (@aa _ _ _ _ _ (pv 3) ac (by rfl)) (by decide) (by rfl) (by rfl)) ac (by rfl)) (by decide) (by decide) (by rfl) (by rfl))) (by rfl) (by first|exact .inl rfl|exact .inr rfl|assumption)) (@ag _ _ _ _ _ (@aH _ _ (6) _ _ _ _ (bc).nd rfl (Or.inl rfl) (@aC _ _ _ _ _ _ _ _ bz (@aC _ _ _ _ _ _ _ _ bU (pv 5) (@aA _ _ _ _ _ _ _ _ _ aB rfl B.ilen aay (@aa _ _ _ _ _ (@aj _ _ _ _ _ _ _ _ _ _ _ C_list_numbers hr (by lia) rfl (@aa _ _ _ _ _ (pv 4) ac (by rfl)) (by decide) (by rfl) (by rfl)) ac (by rfl)) (by decide) (by decide) (by rfl) (by rfl))) ai) (by rfl) (by first|exact .inl rfl|exact .inr rfl|assumption)) (@ak _ _ _ (@au _ _ _ _ (@aC _ _ _ _ _ _ _ _ cQ (@aC _ _ _ _ _ _ _ _ cQ (@aV _ _ _ _ (@aa _ _ _ _ _ (@aY _ _ _ _ _ (@aa _ _ _ _ _ (pv 1) (@aa _ _ _ _ _ (pv 6) ac (by rfl)) (by rfl))) ac (by rfl))) (@aj _ _ _ _ _ _ _ _ _ _ _ C_list_stretches hr (by lia) rfl (@aa _ _ _ _ _ (pv 3) (@aa _ _ _ _ _ (pv 1) ac (by rfl)) (by rfl)) (by decide) (by rfl) (by rfl))) (@aj _ _ _ _ _ _ _ _ _ _ _ C_list_stretches hr (by lia) rfl (@aa _ _ _ _ _ (pv 4) (@aa _ _ _ _ _ (pv 5) ac (by rfl)) (by rfl)) (by decide) (by rfl) (by rfl))))))))),?_⟩;cases wy with
    | num i =>
      cases hw;refine ⟨_,rfl,_,"int",rfl,.int i,true,rfl,bV ⟨(by show 0≤sizeLine;decide),fun p hp=>?_⟩⟩;exact q p _ _ (Same.new hp _) hp af .nil
    | node g l r =>
      obtain ⟨a,vl,vr,rfl,ha,hl,hr'⟩:=hw;refine ⟨_,rfl,_,"tuple",rfl,.tup ha,false,rfl,bi ?_⟩;have d:max l.deep r.deep+1≤n+1:=hd;have z:l.size+r.size≤20:=h20;have zl:=l.size_pos;have zr:=r.size_pos;have dl:=l.deep_le;have dr:=r.deep_le;refine ⟨_,rfl,a,_,rfl,SqT.of ha,rfl,_,_,rfl,_,_,rfl,_,_,rfl,rfl,?_⟩;refine ⟨_,rfl,_,rfl,l,vl,rfl,hl,by lia,by lia,fun p1 H1 g1 n1 e1=>⟨p1,_,rfl,.inl (SqL.of e1),_,_,rfl,rfl,?_⟩⟩;refine ⟨_,rfl,_,rfl,r,vr,rfl,hr'.mono (Tups.of g1),by lia,by lia,fun p2 H2 g2 n2 e2=>⟨p2,_,rfl,.inl (SqL.of e2),_,_,rfl,rfl,_,_,rfl,rfl,?_⟩⟩;rw [aaf,aaf,l.nums_len,r.nums_len];refine ⟨_,rfl,_,rfl,(by show 2≤sizeLine;decide),fun p3 n3=>⟨(by show 1≤sizeLine;decide),fun p4 n4=>?_⟩⟩;have g3:=Same.new n3 (.tup [.int fi,.int (fi+(l.size:Int)+(r.size:Int) - 1)]);have g4:=Same.new n4 (.lst [.ref p3]);have G4:=((g1.trans g2).trans g3).trans g4;refine ⟨_,rfl,_,rfl,l,vl,fi,rfl,hl.mono (Tups.of G4),by lia,by lia,fun p5 us5 H5 g5 n5 e5 i5=>?_⟩;have l5:=PairsIn.len i5;have sl:=l.strs_len fi;have sr:=r.strs_len (fi+l.size);refine ⟨p4,p5,_,_,rfl,rfl,g5 _ _ af,e5,bM (by show 1+us5.length≤1000;lia),fun p6 n6=>?_⟩;have g6:=Same.new n6 (.lst ([.ref p3]++us5));have G6:=(G4.trans g5).trans g6;refine ⟨_,rfl,_,rfl,r,vr,fi+l.size,rfl,hr'.mono (Tups.of G6),by lia,by lia,fun p7 us7 H7 g7 n7 e7 i7=>?_⟩;have l7:=PairsIn.len i7;refine ⟨p6,p7,_,_,rfl,rfl,g7 _ _ af,e7,bM (by rw [aap,aby];lia),fun p8 n8=>?_⟩;have g8:=Same.new n8 (.lst ([.ref p3]++us5++us7));have G8:=(G6.trans g7).trans g8;refine q p8 _ _ G8 ((G6.trans g7).free n8) af ?_;have c3:PairIn (upd H7 p8 (.lst ([.ref p3]++us5++us7))) (fi,fi+(l.size:Int)+(r.size:Int) - 1) (.ref p3):=⟨p3,rfl,g8 _ _ (g7 _ _ (g6 _ _ (g5 _ _ (g4 _ _ af))))⟩
      exact PairsIn.app (.cons c3 (PairsIn.mono (Tups.of ((g6.trans g7).trans g8)) i5)) (PairsIn.mono (Tups.of g8) i7)
def dQ:Sp:=fun vs H Q _=>∃ w v,vs=[v]∧WyIn H w v∧w.size≤9∧∀ p qs us H',Same H H'→H p=none→H' p=some (.lst us)→PairsIn H' qs us→qs.Perm (w.pl 0)→(qs.map fA).Pairwise (· < ·)→Q (.ref p) H'
abbrev dA:Stmt:=top 25
theorem jL:FnScope ["way"] ["way"] (am dA):=⟨rfl,rfl,rfl,by decide +kernel,rfl,by decide +kernel,by decide +kernel⟩
theorem jO (F:Fun K "stretches_of" "stretches_of" dA f fd) (B:Bu K mg) (C_need_way:Cal P w K mg base "need_way" 3 ["thing"] d_) (C_list_stretches:Cal P w K mg base "list_stretches" 42 ["way","first"] (mY 20)) :
    FnOk P w K mg base CX0 43 f fd ["way"] dQ:=by
  refine F.ok jL (fun vs H Q E h=>?_) (fun cdv A outer s H vs Q E hr h=>?_)
  · obtain ⟨x,v,rfl,_⟩:=h;rfl
  obtain ⟨wy,v,rfl,hw,h9,q⟩:=h;refine ⟨_,(@ag _ _ _ _ _ (@aX _ _ _ _ (@aj _ _ _ _ _ _ _ _ _ _ _ C_need_way hr (by lia) rfl (@aa _ _ _ _ _ (pv 0) ac (by rfl)) (by decide) (by rfl) (by rfl)) (by rfl)) (@ak _ _ _ (@au _ _ _ _ (@aA _ _ _ _ _ _ _ _ _ (@iL _ rfl) rfl B.isorted PyProof.Rows.boot_sorted (@aa _ _ _ _ _ (@aj _ _ _ _ _ _ _ _ _ _ _ C_list_stretches hr (by lia) rfl (@aa _ _ _ _ _ (pv 0) (@aa _ _ _ _ _ ai ac (by rfl)) (by rfl)) (by decide) (by rfl) (by rfl)) ac (by rfl)) (by decide) (by decide) (by rfl) (by rfl))))),?_⟩;refine ⟨_,rfl,wy,v,rfl,hw,h9,fun H1 g1=>?_⟩;have dl:=wy.deep_le;refine ⟨_,rfl,wy,v,0,rfl,hw.mono (Tups.of g1),by lia,by lia,fun p us H2 g2 n2 e2 i2=>?_⟩;have sl:=wy.strs_len 0;refine ⟨p,us,wy.strs 0,rfl,e2,i2,by lia,wy.strs_fine 0 (aav _) (by lia),fun p3 qs us3 n3 pm pw i3=>?_⟩;exact q p3 qs us3 _ ((g1.trans g2).trans (Same.new n3 _)) ((g1.trans g2).free n3) af (PairsIn.mono (Tups.of (Same.new n3 _)) i3) (by rw [← mW];exact pm) pw
def mX:Sp:=fun vs H Q _=>∃ (n:Nat) (gs:List Sg) (hs bs:List (Int × Int)) (v:V),vs=[.int n,.str (aD gs),v]∧1≤n∧n≤9∧1≤gs.length∧gs.length≤3∧HdIn H hs bs v∧Gs n hs∧Gs n bs ∧
  ∀ a us H',Same H H'→H a=none→H' a=some (.lst us)→PairsIn H' (gK gs n hs bs) us→Q (.ref a) H'
abbrev dU:Stmt:=top 59
theorem dy:FnScope ["many","signs","holds","held","barred"] ["many","signs","holds"] (am dU):=⟨rfl,rfl,rfl,by decide +kernel,rfl,by decide +kernel,by decide +kernel⟩
theorem kE (F:Fun K "list_may_be" "list_may_be" dU f fd) (B:Bu K mg) (C_shorter_first:Cal P w K mg base "shorter_first" 1 ["many"] sf) (C_list_left_out:Cal P w K mg base "list_left_out" 2 ["many","holds"] sg) (C_count_kept:Cal P w K mg base "count_kept" 2 ["many","signs","left_out"] tY):FnOk P w K mg base CX0 3 f fd ["many","signs","holds"] mX:=by
  refine F.ok dy (fun vs H Q E h=>?_) (fun cdv A outer s H vs Q E hr h=>?_)
  · obtain ⟨n,gs,hs,bs,v,rfl,_⟩:=h;rfl
  obtain ⟨n,gs,hs,bs,v,rfl,h1,h9,g1,g3,⟨a,x,y,rfl,ha,⟨ah,uh,rfl,eah,ph⟩,⟨ab,ub,rfl,eab,pb⟩⟩,gh,gb,q⟩:=h;refine ⟨_,(@ag _ _ _ _ _ (@cy _ _ _ _ _ _ (pv 2) (@cz _ _ _ _ _ _ rfl (@az _ _ _ _ _ (@ao _ _ (3) _ (dy).nd rfl (Or.inr rfl) (.inl rfl)) (@az _ _ _ _ _ (@ao _ _ (4) _ (dy).nd rfl (Or.inr rfl) (.inl rfl)) a8 (by rfl)) (by rfl)) (by rfl) (by rfl)) (by rfl) (by rfl) (by rfl)) (@ak _ _ _ (@au _ _ _ _ (@gf _ _ _ _ _ _ _ _ (["first","last","many","signs","barred","held"]) ([none,none,some 0,some 1,some 4,some 3]) _ _ _ _ rfl (@bO _ _ _ _ (@aA _ _ _ _ _ _ _ _ _ (@iL _ rfl) rfl B.isorted PyProof.Rows.boot_sorted (@aa _ _ _ _ _ (@aj _ _ _ _ _ _ _ _ _ _ _ C_shorter_first hr (by lia) rfl (@aa _ _ _ _ _ (pv 0) ac (by rfl)) (by decide) (by rfl) (by rfl)) ac (by rfl)) (by decide) (by decide) (by rfl) (by rfl))) rfl ⟨rfl,⟨rfl,⟨rfl,⟨rfl,trivial⟩⟩⟩⟩ ⟨⟨rfl,Or.inl rfl,Or.inl rfl⟩,⟨⟨rfl,Or.inl rfl,Or.inl rfl⟩,⟨⟨rfl,Or.inl rfl,Or.inl rfl⟩,⟨⟨rfl,Or.inl rfl,Or.inl rfl⟩,trivial⟩⟩⟩⟩ (fun _ _ _ _=>⟨(@fB _ _ _ _ _ _ (2) rfl rfl (@az _ _ _ _ _ (@ao _ _ (0) _ (show aaM (["first","last","many","signs","barred","held"]:List Str) by decide +kernel) rfl (Or.inl rfl) (.inr rfl)) (@az _ _ _ _ _ (@ao _ _ (1) _ (show aaM (["first","last","many","signs","barred","held"]:List Str) by decide +kernel) rfl (Or.inl rfl) (.inr rfl)) a8 (by rfl)) (by rfl)) (by rfl) (by rfl)),(@gc _ _ _ (@PW.pt _ _ _ (@jb _ _ _ _ _ _ _ (@aK _ _ _ _ _ _ _ _ jC (pv 0) (pv 1) (aN _)) (@iE _ _ _ _ (@sy _ _ _ _ rfl (@aj _ _ _ _ _ _ _ _ _ _ _ C_count_kept hr (by lia) rfl (@aa _ _ _ _ _ (pv 2) (@aa _ _ _ _ _ (pv 3) (@aa _ _ _ _ _ (@aj _ _ _ _ _ _ _ _ _ _ _ C_list_left_out hr (by lia) rfl (@aa _ _ _ _ _ (pv 2) (@aa _ _ _ _ _ (@aY _ _ _ _ _ (@aa _ _ _ _ _ (@aC _ _ _ _ _ _ _ _ cQ (pv 5) (@aV _ _ _ _ (@aa _ _ _ _ _ (@aY _ _ _ _ _ (@aa _ _ _ _ _ (pv 0) (@aa _ _ _ _ _ (pv 1) ac (by rfl)) (by rfl))) ac (by rfl)))) (@aa _ _ _ _ _ (pv 4) ac (by rfl)) (by rfl))) ac (by rfl)) (by rfl)) (by decide) (by rfl) (by rfl)) ac (by rfl)) (by rfl)) (by rfl)) (by decide) (by rfl) (by rfl)) (fun _=>rfl)))))),(@aY _ _ _ _ _ (@aa _ _ _ _ _ (pv 0) (@aa _ _ _ _ _ (pv 1) ac (by rfl)) (by rfl)))⟩) (by rfl) (by rfl) (by rfl) (by rfl) (by intro _;rfl))))),?_⟩;refine ⟨_,rfl,a,_,rfl,SqT.of ha,rfl,_,_,rfl,_,_,rfl,rfl,?_⟩;refine ⟨_,rfl,n,rfl,h9,fun pl ss H1 s1 npl epl hss=>?_⟩;have lss:=hss.length;have lsf:(sfl n n).length≤45:=by rw [← (mD n h9).length_eq];exact kL n h9
  refine ⟨pl,ss,sfl n n,rfl,epl,hss,by lia,oy n h9,fun pq qs vs' nq hperm hrise hqs=>?_⟩;have eqs:qs=jT n:=sO hperm (mD n h9) (oy n h9) hrise (s_ n h9);subst eqs;have sq:=Same.new nq (.lst vs');have eq:upd H1 pq (.lst vs') pq=some (.lst vs'):=af;have hqs2:=PairsIn.mono (Tups.of sq) hqs;have S2:=s1.trans sq;generalize upd H1 pq (.lst vs')=H2 at sq eq hqs2 S2 ⊢;have lq:=hqs.length;have la:=kL n h9;have lh:=ph.length;have lb:=pb.length;have c1:=gh.1;have c2:=gb.1;refine ⟨pq,rfl,⟨_,SqL.of eq⟩,?_⟩;refine eV (Trn.list (xs:=vs')) (fun i ys H'=>Same H2 H'∧PairsIn H' (((jT n).take i).filter fun r=>decide (r.1 < r.2) && decide (0 < ck gs n (r :: hs) bs)) ys) ⟨Same.refl _,.nil⟩ (fun i ys H' hi z=>⟨SqL.of (z.1 _ _ eq),aJ (by have:=z.2.length;have h2:=abx (fun r=>decide (r.1 < r.2) && decide (0 < ck gs n (r :: hs) bs)) ((jT n).take i);rw [aas] at h2;lia)⟩) (fun i z ys H0 H' hi hz zz Nx nx=>?_) (fun ys H' zz p5 n5=>?_)
  · obtain ⟨rfl,hz⟩:=hz;obtain ⟨S,hp⟩:=zz;obtain ⟨r,hri,b,rfl,hb⟩:=bu (PairsIn.mono (Tups.of S) hqs2) hz;have rg:=mE n r (aax hri);have etake:∀ k:Bool,(decide (r.1 < r.2) && decide (0 < ck gs n (r :: hs) bs))=k→(((jT n).take (i+1)).filter fun r=>decide (r.1 < r.2) && decide (0 < ck gs n (r :: hs) bs))=(((jT n).take i).filter fun r=>decide (r.1 < r.2) && decide (0 < ck gs n (r :: hs) bs))++(if k=true then [r] else []):=fun k hk=>by
      rw [aaP,hri,List.filter_append];cases k with
      | true=>simp [hk]
      | false=>simp [hk]
    have SS:=S2.trans S;refine ⟨b,_,rfl,SqT.of hb,rfl,_,_,rfl,_,_,rfl,rfl,?_⟩;refine ⟨_,rfl,_,rfl,_,_,rfl,rfl,_,rfl,dI (fun c=>?_) (fun c=>?_)⟩
    · have c:r.1 < r.2:=of_decide_eq_true c;have gr:Gp n r:=⟨rg.1,c,rg.2.2⟩
      have t2:(2:Nat)≤sizeLine:=by decide
      refine ⟨_,rfl,_,rfl,_,rfl,_,rfl,_,rfl,_,rfl,t2,fun t ht=>⟨(by show 1≤sizeLine;decide),fun u hu=>?_⟩⟩;have st:=Same.new ht (.tup [.int r.1,.int r.2]);have su:=Same.new hu (.lst [.ref t]);have S3:=SS.trans (st.trans su);refine ⟨ah,u,_,_,rfl,rfl,S3 _ _ eah,af,bM (by show _+1≤1000;lia),fun v1 hv1=>?_⟩;have sv:=Same.new hv1 (.lst (uh++[.ref t]));refine ⟨_,rfl,t2,fun w1 hw1=>?_⟩;have sw:=Same.new hw1 (.tup [.ref v1,.ref ab]);have S4:=(st.trans su).trans (sv.trans sw);have S5:=SS.trans S4;refine ⟨n,hs++[r],bs,_,rfl,h9,⟨w1,_,_,rfl,af,⟨v1,_,rfl,sw _ _ af,PairsIn.snoc (PairsIn.mono (Tups.of S5) ph) ⟨t,rfl,sw _ _ (sv _ _ (su _ _ af))⟩⟩,⟨ab,ub,rfl,S5 _ _ eab,PairsIn.mono (Tups.of S5) pb⟩⟩,by simp;lia,fun pa lus H6 s6 npa epa hlo=>?_⟩;refine ⟨n,gs,pa,lo n (hs++[r]) bs,lus,rfl,h1,h9,g1,g3,epa,hlo,fun H7 s7=>?_⟩;rw [wm h1 h9 gr gh.2 gb.2];have v0:=rW (gs:=gs) h1 h9 (j0 gr gh.2) gb.2;generalize hv:ck gs n (r :: hs) bs=v at v0 ⊢;have S7:=(S4.trans s6).trans s7;by_cases vp:0 < v
      · refine ⟨true,?_,bV ?_⟩
        · show true=(v != 0)
          simp;lia
        have hk:(decide (r.1 < r.2) && decide (0 < ck gs n (r :: hs) bs))=true:=by rw [decide_eq_true c,hv,decide_eq_true vp];rfl
        refine ⟨_,rfl,_,rfl,t2,fun o ho=>nx _ _ ⟨(S.trans S7).trans (Same.new ho _),?_⟩⟩;rw [etake true hk,if_pos rfl];exact PairsIn.snoc (PairsIn.mono (Tups.of (S7.trans (Same.new ho _))) hp) ⟨o,rfl,af⟩
      · refine ⟨false,?_,bi ?_⟩
        · show false=(v != 0)
          simp;lia
        have hk:(decide (r.1 < r.2) && decide (0 < ck gs n (r :: hs) bs))=false:=by rw [hv,decide_eq_false vp];simp
        refine nx _ _ ⟨S.trans S7,?_⟩;rw [etake false hk,if_neg (by decide),abD];exact PairsIn.mono (Tups.of S7) hp
    · have c:¬ r.1 < r.2:=fun z=>c (decide_eq_true z);have hk:(decide (r.1 < r.2) && decide (0 < ck gs n (r :: hs) bs))=false:=by rw [decide_eq_false c];rfl
      refine bi (nx _ _ ⟨S,?_⟩);rw [etake false hk,if_neg (by decide),abD];exact hp
  · obtain ⟨S,hp⟩:=zz;rw [← lq,aaQ] at hp;have em:((jT n).filter fun r=>decide (r.1 < r.2) && decide (0 < ck gs n (r :: hs) bs))=gK gs n hs bs:=by
      unfold gK;rw [← qI n h9,List.filter_filter];congr 1;funext r;rw [Bool.and_comm]
    rw [em] at hp;have s5:=Same.new n5 (.lst ys);exact q p5 ys _ ((S2.trans S).trans s5) ((S2.trans S).free n5) af (PairsIn.mono (Tups.of s5) hp)
def tW:Sp:=fun vs H Q _=>∃ (a:Addr) (ns:List Int) (gs:List Sg) (hs bs:List (Int × Int)) (v:V),vs=[.ref a,.str (aD gs),v]∧H a=some (.lst (ns.map V.int))∧1≤ns.length∧ns.length≤9∧1≤gs.length∧gs.length≤3∧cY gs∧HdIn H hs bs v∧Gs ns.length hs∧Gs ns.length bs ∧
  ∀ p us H',Same H H'→H p=none→H' p=some (.lst us)→PairsIn H' (gK gs ns.length hs bs) us→Q (.ref p) H'
abbrev dC:Stmt:=top 56
theorem jN:FnScope ["row","signs","holds"] ["row","signs","holds"] (am dC):=⟨rfl,rfl,rfl,by decide +kernel,rfl,by decide +kernel,by decide +kernel⟩
theorem jQ (F:Fun K "may_be_parts" "may_be_parts" dC f fd) (B:Bu K mg) (C_need_holds:Cal P w K mg base "need_holds" 5 ["row","signs","thing"] cA) (C_list_may_be:Cal P w K mg base "list_may_be" 3 ["many","signs","holds"] mX):FnOk P w K mg base CX0 6 f fd ["row","signs","holds"] tW:=by
  refine F.ok jN (fun vs H Q E h=>?_) (fun cdv A outer s H vs Q E hr h=>?_)
  · obtain ⟨a,ns,gs,hs,bs,v,rfl,_⟩:=h;rfl
  obtain ⟨a,ns,gs,hs,bs,v,rfl,ea,h1,h9,g1,g3,sp,hd,gh,gb,q⟩:=h;refine ⟨_,(@ag _ _ _ _ _ (@aX _ _ _ _ (@aj _ _ _ _ _ _ _ _ _ _ _ C_need_holds hr (by lia) rfl (@aa _ _ _ _ _ (pv 0) (@aa _ _ _ _ _ (pv 1) (@aa _ _ _ _ _ (pv 2) ac (by rfl)) (by rfl)) (by rfl)) (by decide) (by rfl) (by rfl)) (by rfl)) (@ak _ _ _ (@au _ _ _ _ (@aj _ _ _ _ _ _ _ _ _ _ _ C_list_may_be hr (by lia) rfl (@aa _ _ _ _ _ (@aA _ _ _ _ _ _ _ _ _ aB rfl B.ilen aay (@aa _ _ _ _ _ (pv 0) ac (by rfl)) (by decide) (by decide) (by rfl) (by rfl)) (@aa _ _ _ _ _ (pv 1) (@aa _ _ _ _ _ (pv 2) ac (by rfl)) (by rfl)) (by rfl)) (by decide) (by rfl) (by rfl))))),?_⟩;have hl:(ns.map V.int).length=ns.length:=aaf _;refine ⟨_,rfl,_,rfl,_,rfl,a,ns,gs,hs,bs,v,rfl,ea,h1,h9,sp,hd,gh,gb,fun H1 s1=>?_⟩;refine ⟨_,rfl,a,_,rfl,.inl (SqL.of (s1 _ _ ea)),_,rfl,_,rfl,?_⟩;rw [hl];exact ⟨ns.length,gs,hs,bs,v,rfl,h1,h9,g1,g3,hd.mono s1,gh,gb,fun p us H2 s2 np ep hp=>q p us H2 (s1.trans s2) (s1.free np) ep hp⟩
def qd:Sp:=fun vs H Q _=>∃ (a:Addr) (ns:List Int) (gs:List Sg) (hs bs:List (Int × Int)) (v:V),vs=[.ref a,.str (aD gs),v]∧H a=some (.lst (ns.map V.int))∧1≤ns.length∧ns.length≤9∧1≤gs.length∧gs.length≤3∧cY gs∧HdIn H hs bs v∧Gs ns.length hs∧Gs ns.length bs ∧
  ∀ p us H',Same H H'→H p=none→H' p=some (.lst us)→PairsIn H' (jD gs ns.length hs bs) us→Q (.ref p) H'
abbrev c_:Stmt:=top 57
theorem cg:FnScope ["row","signs","holds","held","barred","many"] ["row","signs","holds"] (am c_):=⟨rfl,rfl,rfl,by decide +kernel,rfl,by decide +kernel,by decide +kernel⟩
theorem jj (F:Fun K "must_be_parts" "must_be_parts" c_ f fd) (B:Bu K mg) (C_need_holds:Cal P w K mg base "need_holds" 5 ["row","signs","thing"] cA) (C_list_may_be:Cal P w K mg base "list_may_be" 3 ["many","signs","holds"] mX) (C_list_left_out:Cal P w K mg base "list_left_out" 2 ["many","holds"] sg) (C_count_kept:Cal P w K mg base "count_kept" 2 ["many","signs","left_out"] tY):FnOk P w K mg base CX0 6 f fd ["row","signs","holds"] qd:=by
  refine F.ok cg (fun vs H Q E h=>?_) (fun cdv A outer s H vs Q E hr h=>?_)
  · obtain ⟨a,ns,gs,hs,bs,v,rfl,_⟩:=h;rfl
  obtain ⟨a,ns,gs,hs,bs,v,rfl,ea,h1,h9,g1,g3,sp,hd,gh,gb,q⟩:=h;refine ⟨_,(@ag _ _ _ _ _ (@aX _ _ _ _ (@aj _ _ _ _ _ _ _ _ _ _ _ C_need_holds hr (by lia) rfl (@aa _ _ _ _ _ (pv 0) (@aa _ _ _ _ _ (pv 1) (@aa _ _ _ _ _ (pv 2) ac (by rfl)) (by rfl)) (by rfl)) (by decide) (by rfl) (by rfl)) (by rfl)) (@ag _ _ _ _ _ (@cy _ _ _ _ _ _ (pv 2) (@cz _ _ _ _ _ _ rfl (@az _ _ _ _ _ (@ao _ _ (3) _ (cg).nd rfl (Or.inr rfl) (.inl rfl)) (@az _ _ _ _ _ (@ao _ _ (4) _ (cg).nd rfl (Or.inr rfl) (.inl rfl)) a8 (by rfl)) (by rfl)) (by rfl) (by rfl)) (by rfl) (by rfl) (by rfl)) (@ag _ _ _ _ _ (@aH _ _ (5) _ _ _ _ (cg).nd rfl (Or.inr rfl) (@aA _ _ _ _ _ _ _ _ _ aB rfl B.ilen aay (@aa _ _ _ _ _ (pv 0) ac (by rfl)) (by decide) (by decide) (by rfl) (by rfl)) (by rfl) (by first|exact .inl rfl|exact .inr rfl|assumption)) (@ak _ _ _ (@au _ _ _ _ (@gf _ _ _ _ _ _ _ _ (["stretch","many","signs","held","barred"]) ([none,some 5,some 1,some 3,some 4]) _ _ _ _ rfl (@bO _ _ _ _ (@aj _ _ _ _ _ _ _ _ _ _ _ C_list_may_be hr (by lia) rfl (@aa _ _ _ _ _ (pv 5) (@aa _ _ _ _ _ (pv 1) (@aa _ _ _ _ _ (pv 2) ac (by rfl)) (by rfl)) (by rfl)) (by decide) (by rfl) (by rfl))) rfl ⟨rfl,⟨rfl,⟨rfl,⟨rfl,trivial⟩⟩⟩⟩ ⟨⟨rfl,Or.inl rfl,Or.inl rfl⟩,⟨⟨rfl,Or.inl rfl,Or.inl rfl⟩,⟨⟨rfl,Or.inl rfl,Or.inl rfl⟩,⟨⟨rfl,Or.inl rfl,Or.inl rfl⟩,trivial⟩⟩⟩⟩ (fun _ _ _ _=>⟨(@ao _ _ (0) _ (show aaM (["stretch","many","signs","held","barred"]:List Str) by decide +kernel) rfl (Or.inl rfl) (.inr rfl)),(@gc _ _ _ (@aK _ _ _ _ _ _ _ _ eQ (@aj _ _ _ _ _ _ _ _ _ _ _ C_count_kept hr (by lia) rfl (@aa _ _ _ _ _ (pv 1) (@aa _ _ _ _ _ (pv 2) (@aa _ _ _ _ _ (@aj _ _ _ _ _ _ _ _ _ _ _ C_list_left_out hr (by lia) rfl (@aa _ _ _ _ _ (pv 1) (@aa _ _ _ _ _ (@aY _ _ _ _ _ (@aa _ _ _ _ _ (pv 3) (@aa _ _ _ _ _ (@aC _ _ _ _ _ _ _ _ cQ (pv 4) (@aV _ _ _ _ (@aa _ _ _ _ _ (pv 0) ac (by rfl)))) ac (by rfl)) (by rfl))) ac (by rfl)) (by rfl)) (by decide) (by rfl) (by rfl)) ac (by rfl)) (by rfl)) (by rfl)) (by decide) (by rfl) (by rfl)) ai (aN _))),(pv 0)⟩) (by rfl) (by rfl) (by rfl) (by rfl) (by intro _;rfl))))))),?_⟩;have hl:(ns.map V.int).length=ns.length:=aaf _;refine ⟨_,rfl,_,rfl,_,rfl,a,ns,gs,hs,bs,v,rfl,ea,h1,h9,sp,hd,gh,gb,fun H1 s1=>?_⟩;have hd1:=hd.mono s1;have hd10:=hd1;obtain ⟨av,x,y,rfl,hav,⟨ah,uh,rfl,eah,ph⟩,⟨ab,ub,rfl,eab,pb⟩⟩:=hd1;refine ⟨_,rfl,av,_,rfl,SqT.of hav,rfl,_,_,rfl,_,_,rfl,rfl,?_⟩;refine ⟨_,rfl,a,_,rfl,.inl (SqL.of (s1 _ _ ea)),?_⟩;rw [hl];refine ⟨_,rfl,_,rfl,_,rfl,ns.length,gs,hs,bs,_,rfl,h1,h9,g1,g3,hd10,gh,gb,fun pm ms H2 s2 npm epm hpm=>?_⟩;have S2:=s2;have lm:=hpm.length;have lm45:=uz ns.length h9 gs hs bs;have lb:=pb.length;have c2:=gb.1;have c1:=gh.1;refine ⟨pm,rfl,⟨_,SqL.of epm⟩,?_⟩;refine eV (Trn.list (xs:=ms)) (fun i ys H'=>Same H2 H'∧PairsIn H' (((gK gs ns.length hs bs).take i).filter fun r=>decide (ck gs ns.length hs (bs++[r])=0)) ys) ⟨Same.refl _,.nil⟩ (fun i ys H' hi z=>⟨SqL.of (z.1 _ _ epm),aJ (by have:=z.2.length;have h2:=abx (fun r=>decide (ck gs ns.length hs (bs++[r])=0)) ((gK gs ns.length hs bs).take i);rw [aas] at h2;lia)⟩) (fun i z ys H0 H' hi hz zz Nx nx=>?_) (fun ys H' zz p5 n5=>?_)
  · obtain ⟨rfl,hz⟩:=hz;obtain ⟨S,hp⟩:=zz;obtain ⟨r,hri,hrr0⟩:=bu (PairsIn.mono (Tups.of S) hpm) hz;have hrr:=hrr0;obtain ⟨b,rfl,hb⟩:=hrr0;have etake:∀ k:Bool,decide (ck gs ns.length hs (bs++[r])=0)=k→(((gK gs ns.length hs bs).take (i+1)).filter fun r=>decide (ck gs ns.length hs (bs++[r])=0))=(((gK gs ns.length hs bs).take i).filter fun r=>decide (ck gs ns.length hs (bs++[r])=0))++(if k=true then [r] else []):=fun k hk=>by
      rw [aaP,hri,List.filter_append];cases k with
      | true=>simp only [Option.toList_some,List.filter_cons,hk,List.filter_nil,if_true]
      | false=>simp only [Option.toList_some,List.filter_cons,hk,List.filter_nil,ab9,if_false]
    have SS:=s2.trans S;have t2:(2:Nat)≤sizeLine:=by decide
    refine ⟨_,rfl,_,rfl,_,rfl,_,rfl,_,rfl,_,rfl,(by show 1≤sizeLine;decide),fun u hu=>?_⟩;have su:=Same.new hu (.lst [.ref b]);refine ⟨ab,u,_,_,rfl,rfl,(SS.trans su) _ _ eab,af,bM (by show _+1≤1000;lia),fun v1 hv1=>⟨t2,fun w1 hw1=>?_⟩⟩;have sv:=Same.new hv1 (.lst (ub++[.ref b]));have sw:=Same.new hw1 (.tup [.ref ah,.ref v1]);have S4:=su.trans (sv.trans sw);have S5:=SS.trans S4;refine ⟨ns.length,hs,bs++[r],_,rfl,h9,⟨w1,_,_,rfl,af,⟨ah,uh,rfl,S5 _ _ eah,PairsIn.mono (Tups.of S5) ph⟩,⟨v1,_,rfl,sw _ _ af,PairsIn.snoc (PairsIn.mono (Tups.of S5) pb) (PairIn.mono (Tups.of S4) hrr)⟩⟩,by lia,fun pa lus H6 s6 npa epa hlo=>?_⟩;refine ⟨ns.length,gs,pa,lo ns.length hs (bs++[r]),lus,rfl,h1,h9,g1,g3,epa,hlo,fun H7 s7=>?_⟩;have v0:=rW (gs:=gs) h1 h9 gh.2 (qV (sY _ h9 gs hs bs r (aax hri)) gb.2);have hv:cnt gs.length (lo ns.length hs (bs++[r])) (0,(ns.length:Int) - 1)=ck gs ns.length hs (bs++[r]):=rfl;rw [hv];clear hv;generalize hv:ck gs ns.length hs (bs++[r])=v at v0 ⊢;have S7:=(S4.trans s6).trans s7;refine ⟨rfl,_,rfl,?_⟩;by_cases vp:0 < v
    · rw [decide_eq_false (by intro z;injection z with z;lia)];have hk:decide (ck gs ns.length hs (bs++[r])=0)=false:=by rw [hv];exact decide_eq_false (by lia)
      refine bi (nx _ _ ⟨S.trans S7,?_⟩);rw [etake false hk,if_neg (by decide),abD];exact PairsIn.mono (Tups.of S7) hp
    · rw [decide_eq_true (by congr 1;lia)];have hk:decide (ck gs ns.length hs (bs++[r])=0)=true:=by rw [hv];exact decide_eq_true (by lia)
      refine bV ⟨_,rfl,nx _ _ ⟨S.trans S7,?_⟩⟩;rw [etake true hk,if_pos rfl];exact PairsIn.snoc (PairsIn.mono (Tups.of S7) hp) (PairIn.mono (Tups.of S7) hrr)
  · obtain ⟨S,hp⟩:=zz;rw [← lm,aaQ] at hp;have s5:=Same.new n5 (.lst ys);refine q p5 ys _ ((s1.trans (s2.trans S)).trans s5) ((s1.trans (s2.trans S)).free n5) af ?_;have:=PairsIn.mono (Tups.of s5) hp;unfold jD;exact this
end
open PySem L2
def cW:Wy→PyData
  | .num i=>.int i
  | .node g l r=>.tuple [.str g.str,cW l,cW r]
theorem WyIn.dat {H:Hp}:∀ {w:Wy} {v:V},WyIn H w v→Dat H (cW w) v
  | .num i,v,h=>by
    simp only [cW,Dat];exact h
  | .node g l r,v,h=>by
    obtain ⟨a,vl,vr,rfl,ha,hl,hr⟩:=h;simp only [cW,Dat,DatAll];exact ⟨a,_,rfl,ha,_,_,rfl,rfl,_,_,rfl,WyIn.dat hl,_,_,rfl,WyIn.dat hr,rfl⟩
theorem fP:∀ w:Wy,(cW w).depth≤w.deep
  | .num i=>by simp [cW,PyData.depth]
  | .node g l r=>by
    have a:=fP l;have b:=fP r;simp only [cW,PyData.depth,PyData.depthAll];show max 0 (max (cW l).depth (max (cW r).depth 0))+1≤max l.deep r.deep+1;lia
theorem eX:∀ w:Wy,(cW w).canLay0=true
  | .num i=>by simp [cW,PyData.canLay0]
  | .node g l r=>by
    have e:(PyData.str g.str).canLay0=true:=by cases g <;> decide +kernel
    simp only [cW,PyData.canLay0,PyData.canLayAll0,eX l,eX r,Bool.and_true];simpa [PyData.canLay0] using e
def eU (wl pf:Addr) (H:Hp):Hp:=off pf (off wl H)
theorem um {wl pf:Addr} {H H':Hp} (b:But wl H H'):Same (eU wl pf H) (eU wl pf H'):=iI (But.of (iI b))
theorem ui {wl pf:Addr} {H:Hp} {o:HO}:Same (eU wl pf H) (eU wl pf (upd H pf o)):=iI fun b u ne h=>by
  by_cases c:b=wl
  · subst c;have : off b H b=none:=by simp [off]
    rw [this] at h;cases h
  · rw [gm c] at h ⊢;rw [aq ne];exact h
theorem uk {wl pf p:Addr} {H:Hp} {o:HO} (h1:p≠wl) (h2:p≠pf):eU wl pf (upd H p o) p=some o:=by
  unfold eU;rw [gm h2,gm h1,af]
theorem fD {H:Hp}:∀ {ps:List (Int × Int)} {us:List V} (n:Nat),PairsIn H ps us→PairsIn H (ps.take n) (us.take n)
  | _,_,0,_=>by simpa using (Paired.nil:PairsIn H [] [])
  | _,_,n+1,.nil=>by simpa using (Paired.nil:PairsIn H [] [])
  | _,_,n+1,.cons a b=>by
    rw [List.take_succ_cons,List.take_succ_cons];exact .cons a (fD n b)
theorem PairsIn.but {w:Addr} {H H':Hp} {M:Int} {ps:List (Int × Int)} {us:List V} (hw:Wel H w M) (b:But w H H') (h:PairsIn H ps us):PairsIn H' ps us:=PairsIn.mono (hw.tups b) h
theorem zk {a b c d:Int} {k:Int} (h0:0≤k) (h1:k < 4) (P:Int→Prop) (pa:P a) (pb:P b) (pc:P c) (pd:P d):∃ z,atI [V.int a,.int b,.int c,.int d] k=some (.int z)∧P z:=by
  have : k=0∨k=1∨k=2∨k=3:=by lia
  rcases this with rfl|rfl|rfl|rfl
  · exact ⟨a,rfl,pa⟩
  · exact ⟨b,rfl,pb⟩
  · exact ⟨c,rfl,pc⟩
  · exact ⟨d,rfl,pd⟩
theorem vq (n:Nat):(aaI n).all (fun _=>true)=true:=by simp
theorem wk:∀ s:Nat,s≤3→∀ n:Nat,n≤9→0≤cn s n∧(1≤s∧1≤n→0 < cn s n):=by decide +kernel
theorem LT.tups {T:Addr} {H H':Hp} (h:LT T H) (b:But T H H'):Tups H H':=fun c xs e=>b c _ (h.ne e (fun _ z=>nomatch z)) e
section
variable {P:Program} {w:World} {K:aaa} {mg:Str→Option Value} {base:Heap} {f:Addr} {fd:FuncData}
def qZ:Sp:=fun vs H Q _=>∃ (w:Addr) (n M:Int),vs=[.ref w,.int n]∧2≤n∧n≤9∧Wel H w M∧M < 999990000∧∀ p v H',But w H H'→Wel H' w (M+2)→Gp n p→PairIn H' p v→Q v H'
abbrev dF:Stmt:=top 70
theorem fM:FnScope ["well","many","i"] ["well","many"] (am dF):=⟨rfl,rfl,rfl,by decide +kernel,rfl,by decide +kernel,by decide +kernel⟩
theorem qx (F:Fun K "_law_stretch" "_law_stretch" dF f fd) (C__law_draw:Cal P w K mg base "_law_draw" 2 ["well","many"] g_):FnOk P w K mg base CX0 3 f fd ["well","many"] qZ:=by
  refine F.ok fM (fun vs H Q E h=>?_) (fun cdv A outer s H vs Q E hr h=>?_)
  · obtain ⟨x,n,M,rfl,_⟩:=h;rfl
  obtain ⟨wl,n,M,rfl,n2,n9,hw,hM,q⟩:=h;refine ⟨_,(@ag _ _ _ _ _ (@aH _ _ (2) _ _ _ _ (fM).nd rfl (Or.inl rfl) (@aj _ _ _ _ _ _ _ _ _ _ _ C__law_draw hr (by lia) rfl (@aa _ _ _ _ _ (pv 0) (@aa _ _ _ _ _ (@aC _ _ _ _ _ _ _ _ bz (pv 1) ai) ac (by rfl)) (by rfl)) (by decide) (by rfl) (by rfl)) (by rfl) (by first|exact .inl rfl|exact .inr rfl|assumption)) (@ak _ _ _ (@au _ _ _ _ (@aY _ _ _ _ _ (@aa _ _ _ _ _ (pv 2) (@aa _ _ _ _ _ (@aC _ _ _ _ _ _ _ _ bU (@aC _ _ _ _ _ _ _ _ bU (pv 2) ai) (@aj _ _ _ _ _ _ _ _ _ _ _ C__law_draw hr (by lia) rfl (@aa _ _ _ _ _ (pv 0) (@aa _ _ _ _ _ (@aC _ _ _ _ _ _ _ _ bz (@aC _ _ _ _ _ _ _ _ bz (pv 1) ai) (pv 2)) ac (by rfl)) (by rfl)) (by decide) (by rfl) (by rfl))) ac (by rfl)) (by rfl)))))),?_⟩;refine ⟨_,rfl,_,rfl,_,_,rfl,rfl,wl,n - 1,M,rfl,by lia,by lia,hw,by lia,fun r1 H1 a1 b1 k1 w1=>?_⟩;refine ⟨_,rfl,_,rfl,_,_,rfl,rfl,_,rfl,_,rfl,_,_,rfl,rfl,_,rfl,_,_,rfl,rfl,wl,n - 1 - r1,_,rfl,by lia,by lia,w1,by lia,fun r2 H2 a2 b2 k2 w2=>⟨_,_,rfl,rfl,(by show 2≤sizeLine;decide),fun t ht=>?_⟩⟩;exact q (r1,r1+1+r2) _ _ ((k1.trans k2).trans (But.new ht _)) ((w2.keep (Same.new ht _) (aav _)).more (by lia)) ⟨a1,by show r1 < r1+1+r2;lia,by show r1+1+r2 < n;lia⟩ ⟨t,rfl,af⟩
def ng:Sp:=fun vs H Q _=>∃ (w:Addr) (n M:Int),vs=[.ref w,.int n]∧1≤n∧n≤9∧Wel H w M∧M < 999900000∧∀ ps qs v H',But w H H'→Wel H' w (M+1000)→ps.length≤7→qs.length≤7→(∀ p∈ps,Gp n p)→(∀ p∈qs,Gp n p)→HdIn (off w H') ps qs v→Q v H'
abbrev fw:Stmt:=top 71
theorem cq:FnScope ["well","many","found","k","some"] ["well","many"] (am fw):=⟨rfl,rfl,rfl,by decide +kernel,rfl,by decide +kernel,by decide +kernel⟩
theorem nJ (F:Fun K "_law_holds" "_law_holds" fw f fd) (B:Bu K mg) (C__law_draw:Cal P w K mg base "_law_draw" 2 ["well","many"] g_) (C__law_stretch:Cal P w K mg base "_law_stretch" 3 ["well","many"] qZ):FnOk P w K mg base CX0 4 f fd ["well","many"] ng:=by
  refine F.ok cq (fun vs H Q E h=>?_) (fun cdv A outer s H vs Q E hr h=>?_)
  · obtain ⟨x,n,M,rfl,_⟩:=h;rfl
  obtain ⟨wl,n,M,rfl,n1,n9,hw,hM,q⟩:=h;refine ⟨_,(@ag _ _ _ _ _ (@aH _ _ (2) _ _ _ _ (cq).nd rfl (Or.inl rfl) (@aV _ _ _ _ ac) (by rfl) (by first|exact .inl rfl|exact .inr rfl|assumption)) (@ag _ _ _ _ _ (@fz _ _ _ _ _ _ _ _ aa4 rfl (@eI _ _ _ _ _ _ rfl B.irange (@aa _ _ _ _ _ ai ac (by rfl)) (by rfl)) (@ao _ _ (3) _ (cq).nd rfl (Or.inl rfl) (.inl rfl)) (@ag _ _ _ _ _ (@aH _ _ (4) _ _ _ _ (cq).nd rfl (Or.inl rfl) (@aV _ _ _ _ ac) (by rfl) (by first|exact .inl rfl|exact .inr rfl|assumption)) (@rh _ _ _ _ _ (@bh _ _ _ _ _ _ _ _ (@aK _ _ _ _ _ _ _ _ mC (pv 1) ai (aN _)) (@ak _ _ _ (@rj _ (4) _ _ _ _ _ _ _ _ _ _ (["turn","well","many"]) ([none,some 0,some 1]) _ _ _ _ (cq).nd rfl (Or.inl rfl) rfl (@eI _ _ _ _ _ _ rfl B.irange (@aa _ _ _ _ _ (@aI _ _ _ _ _ _ _ aR (@aV _ _ _ _ (@aa _ _ _ _ _ ai (@aa _ _ _ _ _ ai (@aa _ _ _ _ _ ai (@aa _ _ _ _ _ (@aj _ _ _ _ _ _ _ _ _ _ _ C__law_draw hr (by lia) rfl (@aa _ _ _ _ _ (pv 0) (@aa _ _ _ _ _ ai ac (by rfl)) (by rfl)) (by decide) (by rfl) (by rfl)) ac (by rfl)) (by rfl)) (by rfl)) (by rfl))) (@aj _ _ _ _ _ _ _ _ _ _ _ C__law_draw hr (by lia) rfl (@aa _ _ _ _ _ (pv 0) (@aa _ _ _ _ _ ai ac (by rfl)) (by rfl)) (by decide) (by rfl) (by rfl)) (fun _ _=>rfl)) ac (by rfl)) (by rfl)) rfl ⟨rfl,⟨rfl,trivial⟩⟩ ⟨⟨rfl,Or.inl rfl,Or.inl rfl⟩,⟨⟨rfl,Or.inl rfl,Or.inl rfl⟩,trivial⟩⟩ (fun _ _ _ _=>⟨(@ao _ _ (0) _ (show aaM (["turn","well","many"]:List Str) by decide +kernel) rfl (Or.inl rfl) (.inr rfl)),bt,(@aj _ _ _ _ _ _ _ _ _ _ _ C__law_stretch hr (by lia) rfl (@aa _ _ _ _ _ (pv 1) (@aa _ _ _ _ _ (pv 2) ac (by rfl)) (by rfl)) (by decide) (by rfl) (by rfl))⟩) (by rfl) (by rfl) (by rfl) (by rfl) (by intro _;rfl) (by rfl) (by first|exact .inl rfl|exact .inr rfl|assumption))) aO) (@ak _ _ _ (@aX _ _ _ _ (@mr _ _ _ _ _ _ _ _ _ _ _ _ aa2 abc abd du (pv 2) (@aa _ _ _ _ _ (@aC _ _ _ _ _ _ _ _ cQ (pv 4) (@eJ _ _ _ _ _ _ _ _ _ _ gy (pv 4) gC (@gB _ _ _ (@mo _ _ _ _ _ _ _ _ _ mR rfl B.iint acv (@aa _ _ _ _ _ (@bZ _ _ _ _ _ _ _ _ eQ (@aj _ _ _ _ _ _ _ _ _ _ _ C__law_draw hr (by lia) rfl (@aa _ _ _ _ _ (pv 0) (@aa _ _ _ _ _ ai ac (by rfl)) (by rfl)) (by decide) (by rfl) (by rfl)) ai (aN _)) ac (by rfl)) (by decide) (by decide) (by rfl) (by rfl))))) ac (by rfl)) (by rfl) (by rfl) (by rfl) (by rfl) (by rfl)) (by rfl))))) (by intro _;rfl)) (@ak _ _ _ (@au _ _ _ _ (@aY _ _ _ _ _ (@aa _ _ _ _ _ (@aI _ _ _ _ _ _ _ aR (pv 2) ai (fun _ _=>rfl)) (@aa _ _ _ _ _ (@aI _ _ _ _ _ _ _ aR (pv 2) ai (fun _ _=>rfl)) ac (by rfl)) (by rfl))))))),?_⟩;refine ⟨aaN _,fun pf nf=>?_⟩;have nfw:=hw.ne nf;refine ⟨2,rfl,by decide,by decide,jt (n:=2) (fun k σ H'=>∃ (l:List (List (Int × Int))) (us:List V) (c4 c5:Option V),σ=[some (.ref wl),some (.int n),some (.ref pf),c4,c5]∧H' pf=some (.lst us)∧l.length=k∧Paired (fun ps v=>(ps.length≤7∧∀ p∈ps,Gp n p)∧StIn (eU wl pf H') ps v) l us∧But wl H H'∧Wel H' wl (M+100 * k)) ⟨[],[],_,_,rfl,af,rfl,.nil,But.new nf _,(hw.keep (Same.new nf _) (aav _)).more (by lia)⟩ ?_ ?_⟩
  · rintro k σ K0 hk ⟨l,us,c4,c5,rfl,ef,hl,hp,bb,w0⟩;refine ⟨aaN _,fun ps0 ns0=>?_⟩;have nps0:=w0.ne ns0;have nps0f:ps0≠pf:=fun e=>by rw [e,ef] at ns0;cases ns0
    have w1:=w0.keep (Same.new ns0 (.lst [])) (aav _);have b1:But wl K0 (upd K0 ps0 (.lst [])):=But.new ns0 _;have e1:upd K0 ps0 (.lst []) ps0=some (.lst []):=af;generalize upd K0 ps0 (.lst [])=K1 at w1 b1 e1 ⊢;refine ⟨fun σ K6=>∃ (p6:Addr) (ys:List V) (ps:List (Int × Int)),σ=[some (.ref wl),some (.int n),some (.ref pf),some (.int (0+(k:Int))),some (.ref p6)]∧K6 p6=some (.lst ys)∧PairsIn K6 ps ys∧ps.length≤6∧(∀ p∈ps,Gp n p)∧But wl K0 K6∧Wel K6 wl (M+100 * k+20)∧p6≠wl,?_,?_⟩
    · by_cases cn:n=1
      · subst cn;exact ⟨_,rfl,_,_,rfl,rfl,false,rfl,bi ⟨ps0,[],[],rfl,e1,.nil,by decide,(fun p z=>by simp at z),b1,w1.more (by lia),nps0⟩⟩
      · refine ⟨_,rfl,_,_,rfl,rfl,true,congrArg V.bl (decide_eq_true (by lia)),bV ?_⟩;refine ⟨_,rfl,wl,7,_,rfl,by decide,by decide,w1,by lia,fun r1 K2 a1 c1 b2 w2=>⟨(by show 4≤sizeLine;decide),fun p3 n3=>?_⟩⟩;have n3w:=w2.ne n3;have w3:=w2.keep (Same.new n3 (.lst [.int 0,.int 1,.int 2,.int r1])) (aav _);have b3:But wl K2 (upd K2 p3 (.lst [.int 0,.int 1,.int 2,.int r1])):=But.new n3 _;have e3:upd K2 p3 (.lst [.int 0,.int 1,.int 2,.int r1]) p3=some (.lst [.int 0,.int 1,.int 2,.int r1]):=af;generalize upd K2 p3 (.lst [.int 0,.int 1,.int 2,.int r1])=K3 at w3 b3 e3 ⊢;refine ⟨_,rfl,wl,4,_,rfl,by decide,by decide,w3,by lia,fun r2 K4 a2 c2 b4 w4=>?_⟩;obtain ⟨m,hm1,hm2,hm3⟩:=zk (a:=0) (b:=1) (c:=2) (d:=r1) a2 c2 (fun z=>0≤z∧z≤6) (by lia) (by lia) (by lia) (by lia);refine ⟨p3,_,_,_,rfl,rfl,SqL.of (b4 _ _ n3w e3),hm1,m,rfl,by lia,by lia,?_⟩;refine eV (Trn.range (lo:=0) (n:=m.toNat)) (fun i ys H'=>But wl K4 H'∧Wel H' wl (M+100 * k+2+2 * i)∧∃ ps,ps.length=i∧(∀ p∈ps,Gp n p)∧PairsIn H' ps ys) ⟨But.refl,w4.more (by lia),[],rfl,(fun p z=>by simp at z),.nil⟩ (fun i ys H' hi p=>by obtain ⟨_,_,ps,h1,_,h2⟩:=p;exact ⟨trivial,aJ (by have:=h2.length;lia)⟩) (fun i x ys H0 H' hi hx p Nx nx=>?_) (fun ys K5 p p6 n6=>?_)
        · obtain ⟨rfl,rfl⟩:=hx;obtain ⟨bx,wx,ps,h1,h2,h3⟩:=p;refine ⟨_,rfl,_,rfl,wl,n,_,rfl,by lia,n9,wx,by lia,fun p v H5 b5 w5 gp pp=>nx _ _ ⟨bx.trans b5,w5.more (by lia),ps++[p],by simp [h1],wz h2 gp,PairsIn.snoc (PairsIn.but wx b5 h3) pp⟩⟩
        obtain ⟨b5,w5,ps,h1,h2,h3⟩:=p;have n6w:=w5.ne n6;have s6:=Same.new n6 (.lst ys);exact ⟨p6,ys,ps,rfl,af,PairsIn.mono (Tups.of s6) h3,by lia,h2,((((b1.trans b2).trans b3).trans b4).trans b5).trans (But.of s6),(w5.keep s6 (aav _)).more (by lia),n6w⟩
    rintro σ K6 ⟨p6,ys,ps,rfl,e6,h6,l6,h2,B6,w6,n6w⟩;have ef6:=B6 _ _ nfw ef;refine ⟨_,rfl,.inl ⟨rfl,_,SqL.of ef6⟩,_,rfl,_,rfl,_,rfl,wl,4,_,rfl,by decide,by decide,w6,by lia,fun r7 K7 a7 c7 b7 w7=>?_⟩;refine ⟨rfl,.inr ⟨_,rfl,_,rfl,p6,_,rfl,SqL.of (b7 _ _ n6w e6),fun p8 n8=>?_⟩⟩;have ec:∃ c:Nat,c≤1∧(if decide (V.int r7=V.int 0)=true then (1:Int) else 0)=(c:Int):=by
      split
      · exact ⟨1,aag _,rfl⟩
      · exact ⟨0,by decide,rfl⟩
    obtain ⟨c,hc1,hc2⟩:=ec;rw [hc2,pP];have h7:=PairsIn.but w6 b7 h6;have lys:=h6.length;have b8:But wl K7 (upd K7 p8 (.lst (ys.take c))):=But.new n8 _;have w8:=w7.keep (Same.new n8 (.lst (ys.take c))) (aav _);have e8:upd K7 p8 (.lst (ys.take c)) p8=some (.lst (ys.take c)):=af;have h8:=PairsIn.mono (Tups.of (Same.new n8 (.lst (ys.take c)))) h7;generalize upd K7 p8 (.lst (ys.take c))=K8 at b8 w8 e8 h8 ⊢;refine ⟨p6,p8,_,_,rfl,rfl,(b7.trans b8) _ _ n6w e6,e8,bM (by rw [aas];lia),fun p9 n9'=>?_⟩;have n9w:=w8.ne n9';have ef8:=((B6.trans b7).trans b8) _ _ nfw ef;have npf9:p9≠pf:=fun e=>by rw [e,ef8] at n9';cases n9'
    have b9:But wl K8 (upd K8 p9 (.lst (ys++ys.take c))):=But.new n9' _;have w9:=w8.keep (Same.new n9' (.lst (ys++ys.take c))) (aav _);have e9:eU wl pf (upd K8 p9 (.lst (ys++ys.take c))) p9=some (.lst (ys++ys.take c)):=uk n9w npf9;have h9:=PairsIn.mono (Tups.of (Same.new n9' (.lst (ys++ys.take c)))) (PairsIn.app h8 (fD c h8));generalize upd K8 p9 (.lst (ys++ys.take c))=K9 at b9 w9 e9 h9 ⊢;have B9:=((B6.trans b7).trans b8).trans b9;have ef9:=B9 _ _ nfw ef;have lus:=hp.length;have T9:∀ c xs,K9 c=some (.tup xs)→eU wl pf K9 c=some (.tup xs):=fun c xs hc=>by
      unfold eU;rw [gm (fun e=>by rw [e,ef9] at hc;cases hc),gm (fun e=>by obtain ⟨_,_,z,_⟩:=w9;rw [e,z] at hc;cases hc)];exact hc
    refine ⟨pf,_,_,rfl,rfl,ef9,aJ (by lia),?_⟩;have o9:Same (eU wl pf K9) (eU wl pf (upd K9 pf (.lst (us++[.ref p9])))):=ui;refine ⟨l++[ps++ps.take c],us++[.ref p9],_,_,rfl,af,by simp [hl],?_,?_,?_⟩
    · refine Paired.app (Paired.mapP hp fun a b h=>⟨h.1,h.2.mono ((um B9).trans o9)⟩) (.cons ⟨⟨by rw [aap,aas];lia,fun x hx=>?_⟩,StIn.mono o9 ⟨p9,_,rfl,e9,PairsIn.mono T9 h9⟩⟩ .nil);rcases aan.mp hx with hx|hx
      · exact h2 x hx
      · exact h2 x (abT hx)
    · exact fun c o nc hc=>by
        by_cases z:c=pf
        · subst z;rw [nf] at hc;cases hc
        · rw [aq z];exact (bb.trans B9) c o nc hc
    · have:=w9.more (M':=M+100 * ((k+1:Nat):Int)) (by lia);obtain ⟨wa,wb,we,wf,wg⟩:=this;exact ⟨wa,wb,by rw [aq (ab3 nfw)];exact we,wf,wg⟩
  · rintro σ K1 ⟨l,us,c4,c5,rfl,ef,hl,hp,bb,w1⟩
    match l,us,hl,hp with
    | [ps,qs],[x,y],_,.cons ⟨g1,h1⟩ (.cons ⟨g2,h2⟩ .nil) =>
      refine ⟨_,rfl,pf,_,_,_,rfl,rfl,SqL.of ef,rfl,_,rfl,pf,_,_,_,rfl,rfl,SqL.of ef,rfl,(by show 2≤sizeLine;decide),fun t ht=>?_⟩;have st:=Same.new ht (.tup [x,y]);have tw:=w1.ne ht;have S:Same (eU wl pf K1) (off wl (upd K1 t (.tup [x,y]))):=off_le.trans (iI (But.of st));refine q ps qs (.ref t) _ (bb.trans (But.new ht _)) ((w1.keep st (aav _)).more (by lia)) g1.1 g2.1 g1.2 g2.2 ⟨t,x,y,rfl,?_,h1.mono S,h2.mono S⟩;rw [gm tw,af]
def xf (T:Addr):Sp:=fun vs H Q _=>∃ (r:Addr) (ns:List Int) (gs:List Sg),vs=[.ref r,.str (aD gs)]∧RwIn H r ns gs∧LT T H∧∀ H',But T H H'→LT T H'→Q (.bl true) H'
theorem neW {w:Wy}:(if true=true then !PyData.eqv (cW w) (cW w) else PyData.eqv (cW w) (cW w))=false:=by
  rw [abV _ (eX w)];rfl
abbrev cI:Stmt:=top 72
theorem dz:FnScope ["row","signs","none"] ["row","signs"] (am cI):=⟨rfl,rfl,rfl,by decide +kernel,rfl,by decide +kernel,by decide +kernel⟩
theorem lW {T:Addr} (F:Fun K "_law_free_right" "_law_free_right" cI f fd) (B:Bu K mg) (C_how_many_held:Cal P w K mg base "how_many_held" 6 ["row","signs","holds"] j_) (C_how_many_ways:Cal P w K mg base "how_many_ways" 4 ["signs","many"] tX) (C_first_held:Cal P w K mg base "first_held" 13 ["row","signs","holds"] (jV T)) (C_nth_way:Cal P w K mg base "nth_way" 12 ["row","signs","number"] tV)
    (C_greatest_held:Cal P w K mg base "greatest_held" 13 ["row","signs","holds"] (jK T fun H ns gs L x=>pU H ns gs L (-1) x)) (C_first_greatest:Cal P w K mg base "first_greatest" 12 ["row","signs"] (sh T (-1))) (C_least_held:Cal P w K mg base "least_held" 13 ["row","signs","holds"] (jK T fun H ns gs L x=>pU H ns gs L 1 x)) (C_first_least:Cal P w K mg base "first_least" 12 ["row","signs"] (sh T 1))
    (C_bounds_held:Cal P w K mg base "bounds_held" 7 ["row","signs","holds"] (jK T wF)) (C_bounds_of:Cal P w K mg base "bounds_of" 6 ["row","signs"] (kg T)):FnOk P w K mg base CX0 14 f fd ["row","signs"] (xf T):=by
  refine F.ok dz (fun vs H Q E h=>?_) (fun cdv A outer s H vs Q E hr h=>?_)
  · obtain ⟨r,ns,gs,rfl,_⟩:=h;rfl
  obtain ⟨r,ns,gs,rfl,hR,hT,q⟩:=h;refine ⟨_,(@ag _ _ _ _ _ (@aH _ _ (2) _ _ _ _ (dz).nd rfl (Or.inl rfl) (@aY _ _ _ _ _ (@aa _ _ _ _ _ (@aV _ _ _ _ ac) (@aa _ _ _ _ _ (@aV _ _ _ _ ac) ac (by rfl)) (by rfl))) (by rfl) (by first|exact .inl rfl|exact .inr rfl|assumption)) (@ag _ _ _ _ _ (@bh _ _ _ _ _ _ _ _ (@aK _ _ _ _ _ _ _ _ mz (@aj _ _ _ _ _ _ _ _ _ _ _ C_how_many_held hr (by lia) rfl (@aa _ _ _ _ _ (pv 0) (@aa _ _ _ _ _ (pv 1) (@aa _ _ _ _ _ (pv 2) ac (by rfl)) (by rfl)) (by rfl)) (by decide) (by rfl) (by rfl)) (@aj _ _ _ _ _ _ _ _ _ _ _ C_how_many_ways hr (by lia) rfl (@aa _ _ _ _ _ (pv 1) (@aa _ _ _ _ _ (@aA _ _ _ _ _ _ _ _ _ aB rfl B.ilen aay (@aa _ _ _ _ _ (pv 0) ac (by rfl)) (by decide) (by decide) (by rfl) (by rfl)) ac (by rfl)) (by rfl)) (by decide) (by rfl) (by rfl)) (aN _)) (@ak _ _ _ (@au _ _ _ _ di)) aO) (@ag _ _ _ _ _ (@bh _ _ _ _ _ _ _ _ (@aK _ _ _ _ _ _ _ _ (@qv _ hr.units) (@aj _ _ _ _ _ _ _ _ _ _ _ C_first_held hr (by lia) rfl (@aa _ _ _ _ _ (pv 0) (@aa _ _ _ _ _ (pv 1) (@aa _ _ _ _ _ (pv 2) ac (by rfl)) (by rfl)) (by rfl)) (by decide) (by rfl) (by rfl)) (@aj _ _ _ _ _ _ _ _ _ _ _ C_nth_way hr (by lia) rfl (@aa _ _ _ _ _ (pv 0) (@aa _ _ _ _ _ (pv 1) (@aa _ _ _ _ _ ai ac (by rfl)) (by rfl)) (by rfl)) (by decide) (by rfl) (by rfl)) (aN _)) (@ak _ _ _ (@au _ _ _ _ di)) aO) (@ag _ _ _ _ _ (@bh _ _ _ _ _ _ _ _ (@aK _ _ _ _ _ _ _ _ (@qv _ hr.units) (@aj _ _ _ _ _ _ _ _ _ _ _ C_greatest_held hr (by lia) rfl (@aa _ _ _ _ _ (pv 0) (@aa _ _ _ _ _ (pv 1) (@aa _ _ _ _ _ (pv 2) ac (by rfl)) (by rfl)) (by rfl)) (by decide) (by rfl) (by rfl)) (@aj _ _ _ _ _ _ _ _ _ _ _ C_first_greatest hr (by lia) rfl (@aa _ _ _ _ _ (pv 0) (@aa _ _ _ _ _ (pv 1) ac (by rfl)) (by rfl)) (by decide) (by rfl) (by rfl)) (aN _)) (@ak _ _ _ (@au _ _ _ _ di)) aO) (@ag _ _ _ _ _ (@bh _ _ _ _ _ _ _ _ (@aK _ _ _ _ _ _ _ _ (@qv _ hr.units) (@aj _ _ _ _ _ _ _ _ _ _ _ C_least_held hr (by lia) rfl (@aa _ _ _ _ _ (pv 0) (@aa _ _ _ _ _ (pv 1) (@aa _ _ _ _ _ (pv 2) ac (by rfl)) (by rfl)) (by rfl)) (by decide) (by rfl) (by rfl)) (@aj _ _ _ _ _ _ _ _ _ _ _ C_first_least hr (by lia) rfl (@aa _ _ _ _ _ (pv 0) (@aa _ _ _ _ _ (pv 1) ac (by rfl)) (by rfl)) (by decide) (by rfl) (by rfl)) (aN _)) (@ak _ _ _ (@au _ _ _ _ di)) aO) (@ak _ _ _ (@au _ _ _ _ (@bZ _ _ _ _ _ _ _ _ (@qw _ hr.units) (@aj _ _ _ _ _ _ _ _ _ _ _ C_bounds_held hr (by lia) rfl (@aa _ _ _ _ _ (pv 0) (@aa _ _ _ _ _ (pv 1) (@aa _ _ _ _ _ (pv 2) ac (by rfl)) (by rfl)) (by rfl)) (by decide) (by rfl) (by rfl)) (@dN _ _ _ _ _ _ (u1 hr.units) (@aj _ _ _ _ _ _ _ _ _ _ _ C_bounds_of hr (by lia) rfl (@aa _ _ _ _ _ (pv 0) (@aa _ _ _ _ _ (pv 1) ac (by rfl)) (by rfl)) (by decide) (by rfl) (by rfl)) (@aY _ _ _ _ _ (@aa _ _ _ _ _ ai (@aa _ _ _ _ _ (@aC _ _ _ _ _ _ _ _ bz (@aA _ _ _ _ _ _ _ _ _ aB rfl B.ilen aay (@aa _ _ _ _ _ (pv 0) ac (by rfl)) (by decide) (by decide) (by rfl) (by rfl)) ai) ac (by rfl)) (by rfl))) (fun _ _=>rfl)) (aN _))))))))),?_⟩;have hR0:=hR;obtain ⟨er,h1,h9,g1,g3,sp,sm⟩:=hR;have nd:=gY gs g3 sp;have nrT:r≠T:=hT.ne er (fun _ z=>nomatch z);have hl:(ns.map V.int).length=ns.length:=aaf _;refine ⟨(by show 0≤sizeLine;decide),fun q1 m1=>⟨(by show 0≤sizeLine;decide),fun q2 m2=>⟨(by show 2≤sizeLine;decide),fun q3 m3=>?_⟩⟩⟩;have k1:=Same.new m1 (.lst []);have k2:=Same.new m2 (.lst []);have k3:=Same.new m3 (.tup [.ref q1,.ref q2]);have e3:upd (upd (upd H q1 (.lst [])) q2 (.lst [])) q3 (.tup [.ref q1,.ref q2]) q3=some (.tup [.ref q1,.ref q2]):=af;have e2:=k3 _ _ (show _=some (HO.lst []) from af);have e1:=k3 _ _ (k2 _ _ (show _=some (HO.lst []) from af));have G:=(k1.trans k2).trans k3;generalize upd (upd (upd H q1 (.lst [])) q2 (.lst [])) q3 (.tup [.ref q1,.ref q2])=HA at G e1 e2 e3 ⊢;have hTA:=hT.mono G;have n3T:q3≠T:=hTA.ne e3 (fun _ z=>nomatch z);have n2T:q2≠T:=hTA.ne e2 (fun _ z=>nomatch z);have n1T:q1≠T:=hTA.ne e1 (fun _ z=>nomatch z);have erA:=G _ _ er;have G0:Gs ns.length []:=⟨by decide,fun _ z=>by cases z⟩
  have hdA:∀ {H':Hp},But T HA H'→HdIn H' [] [] (.ref q3):=fun b=>⟨q3,_,_,rfl,b _ _ n3T e3,⟨q1,_,rfl,b _ _ n1T e1,.nil⟩,⟨q2,_,rfl,b _ _ n2T e2,.nil⟩⟩
  refine ⟨_,rfl,_,rfl,_,rfl,r,ns,gs,[],[],_,rfl,erA,h1,h9,g1,g3,sp,hdA But.refl,G0,G0,fun HB sB=>?_⟩;have bB:But T HA HB:=But.of sB;have hTB:=hTA.mono sB;have erB:=sB _ _ erA;refine ⟨_,rfl,_,rfl,r,_,rfl,.inl (SqL.of erB),gs,ns.length,by rw [hl];rfl,g3,sp,h1,h9,fun HC sC=>?_⟩;have ef:cnt gs.length (lo ns.length [] []) (0,(ns.length:Int) - 1)=cn gs.length ns.length:=wo g3 h1 h9;rw [ef];have bC:=bB.trans (But.of sC);have hTC:=hTB.mono sC;have erC:=sC _ _ erB;refine ⟨rfl,_,rfl,dI (fun zz=>absurd zz (by simp)) (fun _=>?_)⟩;refine ⟨_,rfl,_,rfl,_,rfl,r,ns,gs,[],[],_,rfl,erC,h1,h9,g1,g3,nd,sp,sm,hdA bC,G0,G0,hTC,fun x HD bD hTD fr=>?_⟩;have bD':=bC.trans bD;have erD:=bD _ _ nrT erC;obtain ⟨w0,w1,w2,w3⟩:=vV (gs:=gs) g3 nd h1 h9 (k:=0) (aav _) ((wk gs.length g3 ns.length h9).2 ⟨g1,h1⟩);have s0:w0.size=ns.length:=by rw [← w0.nums_len,w2]
  refine ⟨_,rfl,_,rfl,r,w0,gs,by rw [w1];rfl,by rw [w2];exact erD,by lia,g3,sp,w3,fun y HE sE hy=>?_⟩;have bE:=bD'.trans (But.of sE);have hTE:=hTD.mono sE;have erE:=sE _ _ erD;have kq0:KQ ns gs [] w0:=kpt_wys.mpr ⟨by rw [aZ ns h1];exact w2,w3⟩;rw [nW] at fr;rcases fr with ⟨rfl,no⟩|⟨wf,kf,lf,hf⟩
  · exact absurd kq0 (no w0)
  have ef2:wf=w0:=uG g3 nd h1 h9 kf kq0 (by have a:=lf w0 kq0;have b:=(Wy.nr_bd g3 wf kf.2.1 (by rw [← wf.nums_len,kf.1,aZ ns h1];exact h9)).1;lia);subst ef2;have dw:=wf.deep_le;refine ⟨_,_,(hf.mono (Tups.of sE)).dat,hy.dat,eX _,eX _,by have:=fP wf;lia,?_⟩;rw [neW];refine ⟨false,rfl,bi ?_⟩;refine ⟨_,rfl,_,rfl,_,rfl,r,ns,gs,[],[],_,rfl,erE,h1,h9,g1,g3,nd,sp,sm,hdA bE,G0,G0,hTE,fun x1 HF bF' hTF bs1=>?_⟩;have bF:=bE.trans bF';have erF:=bF' _ _ nrT erE;rw [nW] at bs1;rcases bs1 with ⟨rfl,no⟩|⟨w1,hg1,hx1⟩
  · exact absurd kq0 (no wf)
  refine ⟨_,rfl,_,rfl,r,ns,gs,rfl,⟨erF,h1,h9,g1,g3,sp,sm⟩,hTF,fun w' y1 HG bG' hTG hb hy=>?_⟩;have bG:=bF.trans bG';have erG:=bG' _ _ nrT erF;have e1:=jY g3 nd h1 h9 hg1 hb;subst e1;have z1:w1.size=ns.length:=by rw [← w1.nums_len,hg1.1.1,aZ ns h1]
  refine ⟨_,_,(hx1.mono (hTF.tups bG')).dat,hy.dat,eX _,eX _,by have:=fP w1;have:=w1.deep_le;lia,?_⟩;rw [neW];refine ⟨false,rfl,bi ?_⟩;refine ⟨_,rfl,_,rfl,_,rfl,r,ns,gs,[],[],_,rfl,erG,h1,h9,g1,g3,nd,sp,sm,hdA bG,G0,G0,hTG,fun x2 HI bI' hTI bs2=>?_⟩;have bI:=bG.trans bI';have erI:=bI' _ _ nrT erG;rw [nW] at bs2;rcases bs2 with ⟨rfl,no⟩|⟨w2,hg2,hx2⟩
  · exact absurd kq0 (no wf)
  refine ⟨_,rfl,_,rfl,r,ns,gs,rfl,⟨erI,h1,h9,g1,g3,sp,sm⟩,hTI,fun w' y2 HJ bJ' hTJ hb hy=>?_⟩;have bJ:=bI.trans bJ';have erJ:=bJ' _ _ nrT erI;have e2:=jY g3 nd h1 h9 hg2 hb;subst e2;have z2:w2.size=ns.length:=by rw [← w2.nums_len,hg2.1.1,aZ ns h1]
  refine ⟨_,_,(hx2.mono (hTI.tups bJ')).dat,hy.dat,eX _,eX _,by have:=fP w2;have:=w2.deep_le;lia,?_⟩;rw [neW];refine ⟨false,rfl,bi ?_⟩;refine ⟨_,rfl,_,rfl,_,rfl,r,ns,gs,[],[],_,rfl,erJ,h1,h9,g1,g3,nd,sp,sm,hdA bJ,G0,G0,hTJ,fun x3 HK bK' hTK bn=>?_⟩;have bK:=bJ.trans bK';have erK:=bK' _ _ nrT erJ;rw [nW] at bn;rcases bn with ⟨rfl,no⟩|⟨wa,wb,p,ha,hb,rfl,ep⟩
  · exact absurd kq0 (no wf)
  refine ⟨_,rfl,_,rfl,r,ns,gs,rfl,erK,h1,h9,g1,g3,sp,sm,hTK,fun pb kvs HL bL' hTL npb epb hbd=>?_⟩;have bL:=bK.trans bL';have erL:=bL' _ _ nrT erK;have ep':=bL' _ _ (hTK.ne ep (fun _ z=>nomatch z)) ep;have mq:((0:Int),(ns.length:Int) - 1)∈sfl ns.length ns.length:=by
    have:=dM ns.length 0 (ns.length - 1) (by lia) (by lia)
    rwa [show (((ns.length - 1:Nat)):Int)=(ns.length:Int) - 1 by lia] at this
  obtain ⟨t,vt,e_t⟩:=hbd.get (gz _ h9) mq;have hne:gs≠[]:=fun z=>by rw [z] at g1;simp at g1
  obtain ⟨y1,y2⟩:=xM (ns:=ns) hne _ (0,(ns.length:Int) - 1) (aav _) (by simp only;lia) (by simp only;lia) (aag _);rw [aZ ns h1] at y1 y2;have f1:=y1.uniq (.inl rfl) (rY h1 ha).1;have f2:=y2.uniq (.inr rfl) (rY h1 hb).1;rw [f1,f2] at e_t;refine ⟨_,rfl,r,_,rfl,.inl (SqL.of erL),_,_,rfl,rfl,(by show 2≤sizeLine;decide),fun u nu=>?_⟩;rw [hl];have su:=Same.new nu (.tup [.int 0,.int ((ns.length:Int) - 1)]);refine ⟨pb,.ref t,rfl,by rw [← vt];exact DGet.t (k:=ky (0,(ns.length:Int) - 1)) (su _ _ epb) af,?_⟩;have dp:∀ {c:Addr},HL c=some (.tup [.int wa.wv,.int wb.wv])→Dat (upd HL u (.tup [.int 0,.int ((ns.length:Int) - 1)])) (.tuple [.int wa.wv,.int wb.wv]) (.ref c):=fun {c} e=>by
    simp only [Dat,DatAll];exact ⟨c,_,rfl,su _ _ e,_,_,rfl,rfl,_,_,rfl,rfl,rfl⟩
  refine ⟨_,_,dp ep',dp e_t,rfl,rfl,by simp [PyData.depth,PyData.depthAll],?_⟩;have ee:(if false=true then !PyData.eqv (.tuple [.int wa.wv,.int wb.wv]) (.tuple [.int wa.wv,.int wb.wv]) else PyData.eqv (.tuple [.int wa.wv,.int wb.wv]) (.tuple [.int wa.wv,.int wb.wv]))=true:=abV _ rfl;rw [ee];exact q _ ((But.of G).trans (bL.trans (But.of su))) (hTL.mono su)
end
open PySem L2
theorem HdIn.butT {T:Addr} {H H':Hp} {hs bs:List (Int × Int)} {v:V} (h:HdIn H hs bs v) (hT:LT T H) (b:But T H H'):HdIn H' hs bs v:=by
  obtain ⟨a,x,y,rfl,ea,⟨ax,us,rfl,eax,hpx⟩,⟨ay,vs,rfl,eay,hpy⟩⟩:=h;have tt:=hT.tups b;exact ⟨a,_,_,rfl,tt _ _ ea,⟨ax,us,rfl,b _ _ (hT.ne eax (fun _ z=>nomatch z)) eax,PairsIn.mono tt hpx⟩,⟨ay,vs,rfl,b _ _ (hT.ne eay (fun _ z=>nomatch z)) eay,PairsIn.mono tt hpy⟩⟩
theorem uU {K:aaa} {H:Hp} {ns:List Int}:∀ (j:Nat) x y,(ns.map V.int)[j]?=some x→(ns.map V.int)[j]?=some y→EqR K H 0 x y true:=fun j x y hx hy=>by
  rw [hx] at hy;cases hy;obtain ⟨i,_,rfl⟩:=aaC.mp (aax hx);have:=EqR.flat (K:=K) (H:=H) (n:=0) (x:=.int i) (y:=.int i) rfl rfl;rw [pJ (x:=.int i) rfl] at this;exact this
section
variable {P:Program} {w:World} {K:aaa} {mg:Str→Option Value} {base:Heap} {f:Addr} {fd:FuncData}
def w_ (T:Addr):Sp:=fun vs H Q _=>∃ (r:Addr) (ns:List Int) (gs:List Sg) (hs bs:List (Int × Int)) (v:V),vs=[.ref r,.str (aD gs),v]∧RwIn H r ns gs∧HdIn H hs bs v∧Gs ns.length hs∧Gs ns.length bs∧LT T H∧∀ H',But T H H'→LT T H'→Q (.bl true) H'
abbrev cH:Stmt:=top 73
theorem bq:FnScope ["row","signs","holds","some","both","way","parts"] ["row","signs","holds"] (am cH):=⟨rfl,rfl,rfl,by decide +kernel,rfl,by decide +kernel,by decide +kernel⟩
theorem lM {T:Addr} (F:Fun K "_law_told_right" "_law_told_right" cH f fd) (B:Bu K mg) (C_how_many_held:Cal P w K mg base "how_many_held" 6 ["row","signs","holds"] j_) (C_first_held:Cal P w K mg base "first_held" 13 ["row","signs","holds"] (jV T))
    (C_greatest_held:Cal P w K mg base "greatest_held" 13 ["row","signs","holds"] (jK T fun H ns gs L x=>pU H ns gs L (-1) x)) (C_least_held:Cal P w K mg base "least_held" 13 ["row","signs","holds"] (jK T fun H ns gs L x=>pU H ns gs L 1 x))
    (C_bounds_held:Cal P w K mg base "bounds_held" 7 ["row","signs","holds"] (jK T wF)) (C_stretches_of:Cal P w K mg base "stretches_of" 43 ["way"] dQ) (C_numbers_of:Cal P w K mg base "numbers_of" 22 ["way"] fR) (C_worth_of:Cal P w K mg base "worth_of" 11 ["way"] iR):FnOk P w K mg base CX0 44 f fd ["row","signs","holds"] (w_ T):=by
  refine F.ok bq (fun vs H Q E h=>?_) (fun cdv A outer s H vs Q E hr h=>?_)
  · obtain ⟨r,ns,gs,hs,bs,v,rfl,_⟩:=h;rfl
  obtain ⟨r,ns,gs,hs,bs,v,rfl,hR,hd,gh,gb,hT,q⟩:=h;refine ⟨_,(@ag _ _ _ _ _ (@aH _ _ (3) _ _ _ _ (bq).nd rfl (Or.inl rfl) (@aV _ _ _ _ (@aa _ _ _ _ _ (@aj _ _ _ _ _ _ _ _ _ _ _ C_first_held hr (by lia) rfl (@aa _ _ _ _ _ (pv 0) (@aa _ _ _ _ _ (pv 1) (@aa _ _ _ _ _ (pv 2) ac (by rfl)) (by rfl)) (by rfl)) (by decide) (by rfl) (by rfl)) (@aa _ _ _ _ _ (@aj _ _ _ _ _ _ _ _ _ _ _ C_least_held hr (by lia) rfl (@aa _ _ _ _ _ (pv 0) (@aa _ _ _ _ _ (pv 1) (@aa _ _ _ _ _ (pv 2) ac (by rfl)) (by rfl)) (by rfl)) (by decide) (by rfl) (by rfl)) (@aa _ _ _ _ _ (@aj _ _ _ _ _ _ _ _ _ _ _ C_greatest_held hr (by lia) rfl (@aa _ _ _ _ _ (pv 0) (@aa _ _ _ _ _ (pv 1) (@aa _ _ _ _ _ (pv 2) ac (by rfl)) (by rfl)) (by rfl)) (by decide) (by rfl) (by rfl)) ac (by rfl)) (by rfl)) (by rfl))) (by rfl) (by first|exact .inl rfl|exact .inr rfl|assumption)) (@ag _ _ _ _ _ (@aH _ _ (4) _ _ _ _ (bq).nd rfl (Or.inl rfl) (@aj _ _ _ _ _ _ _ _ _ _ _ C_bounds_held hr (by lia) rfl (@aa _ _ _ _ _ (pv 0) (@aa _ _ _ _ _ (pv 1) (@aa _ _ _ _ _ (pv 2) ac (by rfl)) (by rfl)) (by rfl)) (by decide) (by rfl) (by rfl)) (by rfl) (by first|exact .inl rfl|exact .inr rfl|assumption)) (@ag _ _ _ _ _ (@bh _ _ _ _ _ _ _ _ (@aK _ _ _ _ _ _ _ _ eQ (@aj _ _ _ _ _ _ _ _ _ _ _ C_how_many_held hr (by lia) rfl (@aa _ _ _ _ _ (pv 0) (@aa _ _ _ _ _ (pv 1) (@aa _ _ _ _ _ (pv 2) ac (by rfl)) (by rfl)) (by rfl)) (by decide) (by rfl) (by rfl)) ai (aN _)) (@ak _ _ _ (@au _ _ _ _ (@bZ _ _ _ _ _ _ _ _ (@qw _ hr.units) (@aC _ _ _ _ _ _ _ _ cQ (pv 3) (@aV _ _ _ _ (@aa _ _ _ _ _ (pv 4) ac (by rfl)))) (@aC _ _ _ _ _ _ _ _ qr (@aV _ _ _ _ (@aa _ _ _ _ _ kA ac (by rfl))) ai) (aN _)))) aO) (@ag _ _ _ _ _ (@fz _ _ _ _ _ _ _ _ aa4 rfl (@bO _ _ _ _ (pv 3)) (@ao _ _ (5) _ (bq).nd rfl (Or.inl rfl) (.inl rfl)) (@ag _ _ _ _ _ (@aH _ _ (6) _ _ _ _ (bq).nd rfl (Or.inr rfl) (@aj _ _ _ _ _ _ _ _ _ _ _ C_stretches_of hr (by lia) rfl (@aa _ _ _ _ _ (pv 5) ac (by rfl)) (by decide) (by rfl) (by rfl)) (by rfl) (by first|exact .inl rfl|exact .inr rfl|assumption)) (@ag _ _ _ _ _ (@bh _ _ _ _ _ _ _ _ (@PW.pt _ _ _ (@iD _ _ _ _ _ _ _ (@aK _ _ _ _ _ _ _ _ (@qu _ hr.units) (@aj _ _ _ _ _ _ _ _ _ _ _ C_numbers_of hr (by lia) rfl (@aa _ _ _ _ _ (pv 5) ac (by rfl)) (by decide) (by rfl) (by rfl)) (pv 0) (aN _)) (@fZ _ _ _ _ (@aK _ _ _ _ _ _ _ _ (@qu _ hr.units) (@gf _ _ _ _ _ _ _ _ (["one","parts"]) ([none,some 6]) _ _ _ _ rfl (@bO _ _ _ _ (@aI _ _ _ _ _ _ _ aT (pv 2) ai (fun _ _=>rfl))) rfl ⟨rfl,trivial⟩ ⟨⟨rfl,Or.inl rfl,Or.inl rfl⟩,trivial⟩ (fun _ _ _ _=>⟨(@ao _ _ (0) _ (show aaM (["one","parts"]:List Str) by decide +kernel) rfl (Or.inl rfl) (.inr rfl)),(@gc _ _ _ (@aK _ _ _ _ _ _ _ _ (@my _ _ rfl hr.units) (pv 0) (pv 1) (by with_unfolding_all rfl))),(pv 0)⟩) (by rfl) (by rfl) (by rfl) (by rfl) (by intro _;rfl)) (@aV _ _ _ _ ac) (aN _))))) (@ak _ _ _ (@au _ _ _ _ di)) aO) (@ak _ _ _ (@bh _ _ _ _ _ _ _ _ (@aK _ _ _ _ _ _ _ _ (@qu _ hr.units) (@gf _ _ _ _ _ _ _ _ (["one","parts"]) ([none,some 6]) _ _ _ _ rfl (@bO _ _ _ _ (@aI _ _ _ _ _ _ _ aT (pv 2) ai (fun _ _=>rfl))) rfl ⟨rfl,trivial⟩ ⟨⟨rfl,Or.inl rfl,Or.inl rfl⟩,trivial⟩ (fun _ _ _ _=>⟨(@ao _ _ (0) _ (show aaM (["one","parts"]:List Str) by decide +kernel) rfl (Or.inl rfl) (.inr rfl)),(@gc _ _ _ (@aK _ _ _ _ _ _ _ _ (@kC _ _ rfl hr.units) (pv 0) (pv 1) (by with_unfolding_all rfl))),(pv 0)⟩) (by rfl) (by rfl) (by rfl) (by rfl) (by intro _;rfl)) (@aV _ _ _ _ ac) (aN _)) (@ak _ _ _ (@au _ _ _ _ di)) aO)))) (by intro _;rfl)) (@ak _ _ _ (@au _ _ _ _ (@d5 _ _ _ _ _ _ _ (@bZ _ _ _ _ _ _ _ _ (@qw _ hr.units) (pv 4) (@aY _ _ _ _ _ (@aa _ _ _ _ _ (@aj _ _ _ _ _ _ _ _ _ _ _ C_worth_of hr (by lia) rfl (@aa _ _ _ _ _ (@aI _ _ _ _ _ _ _ aR (pv 3) ai (fun _ _=>rfl)) ac (by rfl)) (by decide) (by rfl) (by rfl)) (@aa _ _ _ _ _ (@aj _ _ _ _ _ _ _ _ _ _ _ C_worth_of hr (by lia) rfl (@aa _ _ _ _ _ (@aI _ _ _ _ _ _ _ aR (pv 3) ai (fun _ _=>rfl)) ac (by rfl)) (by decide) (by rfl) (by rfl)) ac (by rfl)) (by rfl))) (aN _)) (@fC _ _ _ _ _ (@oU _ _ _ _ _ _ _ _ _ _ _ _ gl gl (@aI _ _ _ _ _ _ _ aT (pv 4) ai (fun _ _=>rfl)) (@aj _ _ _ _ _ _ _ _ _ _ _ C_worth_of hr (by lia) rfl (@aa _ _ _ _ _ (@aI _ _ _ _ _ _ _ aR (pv 3) ai (fun _ _=>rfl)) ac (by rfl)) (by decide) (by rfl) (by rfl)) (@aI _ _ _ _ _ _ _ aT (pv 4) ai (fun _ _=>rfl)) (by with_unfolding_all rfl)))))))))),?_⟩;obtain ⟨er,h1,h9,g1,g3,sp,sm⟩:=hR;have nd:=gY gs g3 sp;have nrT:r≠T:=hT.ne er (fun _ z=>nomatch z);have kp:∀ w,KQ ns gs (lo ns.length hs bs) w→(∀ p∈hs,p∈w.pl 0)∧∀ p∈bs,p∉w.pl 0:=fun w hw=>of_decide_eq_true (List.mem_filter.mp ((xC (n:=9) h1 h9 gh.2 gb.2).mpr hw)).2;have pos:=v7 (ns:=ns) (gs:=gs) (L:=lo ns.length hs bs) (q:=(0,(ns.length:Int) - 1)) h9 (aav _) (by simp only;lia) (by simp only;lia);refine ⟨_,rfl,_,rfl,_,rfl,r,ns,gs,hs,bs,v,rfl,er,h1,h9,g1,g3,nd,sp,sm,hd,gh,gb,hT,fun x1 HA bA hTA f1=>?_⟩;have erA:=bA _ _ nrT er;have hdA:=hd.butT hT bA;refine ⟨_,rfl,_,rfl,_,rfl,r,ns,gs,hs,bs,v,rfl,erA,h1,h9,g1,g3,nd,sp,sm,hdA,gh,gb,hTA,fun x2 HB bB hTB f2=>?_⟩;have erB:=bB _ _ nrT erA;have hdB:=hdA.butT hTA bB;refine ⟨_,rfl,_,rfl,_,rfl,r,ns,gs,hs,bs,v,rfl,erB,h1,h9,g1,g3,nd,sp,sm,hdB,gh,gb,hTB,fun x3 HC bC hTC f3=>?_⟩;have erC:=bC _ _ nrT erB;have hdC:=hdB.butT hTB bC;refine ⟨(by show 3≤sizeLine;decide),fun ps m1=>?_⟩;have k1:=Same.new m1 (.lst [x1,x2,x3]);have eps:upd HC ps (.lst [x1,x2,x3]) ps=some (.lst [x1,x2,x3]):=af;generalize upd HC ps (.lst [x1,x2,x3])=HD at k1 eps ⊢;have hTD:=hTC.mono k1;have erD:=k1 _ _ erC;have hdD:=hdC.mono k1;have npT:ps≠T:=hTD.ne eps (fun _ z=>nomatch z);refine ⟨_,rfl,_,rfl,_,rfl,r,ns,gs,hs,bs,v,rfl,erD,h1,h9,g1,g3,nd,sp,sm,hdD,gh,gb,hTD,fun x4 HE bE hTE f4=>?_⟩;have erE:=bE _ _ nrT erD;have hdE:=hdD.butT hTD bE;have epsE:=bE _ _ npT eps;refine ⟨_,rfl,_,rfl,_,rfl,r,ns,gs,hs,bs,v,rfl,erE,h1,h9,g1,g3,sp,hdE,gh,gb,fun HF sF=>?_⟩;have hTF:=hTE.mono sF;have erF:=sF _ _ erE;have hdF:=hdE.mono sF;have epsF:=sF _ _ epsE;have bF:But T H HF:=(((bA.trans bB).trans bC).trans (But.of k1)).trans (bE.trans (But.of sF));refine ⟨rfl,_,rfl,?_⟩;by_cases c0:cnt gs.length (lo ns.length hs bs) (0,(ns.length:Int) - 1)=0
  · rw [c0,decide_eq_true rfl];have none':∀ w,¬ KQ ns gs (lo ns.length hs bs) w:=fun w hw=>by
      have:=pos.mpr ⟨w,hw⟩;lia
    have e1:x1=.non:=f1.elim (fun z=>z.1) (fun ⟨w,hw,_⟩=>absurd hw (none' w));have e2:x2=.non:=f2.elim (fun z=>z.1) (fun ⟨w,hw,_⟩=>absurd hw.1 (none' w));have e3:x3=.non:=f3.elim (fun z=>z.1) (fun ⟨w,hw,_⟩=>absurd hw.1 (none' w));have e4:x4=.non:=f4.elim (fun z=>z.1) (fun ⟨a,_,_,ha,_⟩=>absurd ha.1 (none' a));subst e1 e2 e3 e4;refine bV ?_;refine ⟨_,rfl,_,rfl,(by show 1≤sizeLine;decide),fun q1 n1=>⟨ps,q1,_,_,rfl,rfl,(Same.new n1 _) _ _ epsF,af,(by show 4≤sizeLine;decide),fun q2 n2=>⟨(by show 1≤sizeLine;decide),fun q3 n3=>⟨q3,4,_,rfl,rfl,af,by decide,by decide,(by show 1 * 4≤sizeLine;decide),fun q4 n4=>?_⟩⟩⟩⟩;have k2:=Same.new n1 (.lst [.non]);have k3:=Same.new n2 (.lst ([.non,.non,.non]++[.non]));have k4:=Same.new n3 (.lst [.non]);have k5:=Same.new n4 (.lst (aao (4:Int).toNat [V.non]).flatten);have KK:=((k2.trans k3).trans k4).trans k5;have da:∀ {H':Hp} {c:Addr},H' c=some (.lst [.non,.non,.non,.non])→Dat H' (.list [.none,.none,.none,.none]) (.ref c):=fun {H' c} e=>by
      simp only [Dat,DatAll];exact ⟨c,_,rfl,e,_,_,rfl,rfl,_,_,rfl,rfl,_,_,rfl,rfl,_,_,rfl,rfl,rfl⟩
    refine ⟨_,_,da (k5 _ _ (k4 _ _ af)),da af,rfl,rfl,by simp [PyData.depth,PyData.depthAll],?_⟩;have ee:(if false=true then !PyData.eqv (.list [.none,.none,.none,.none]) (.list [.none,.none,.none,.none]) else PyData.eqv (.list [.none,.none,.none,.none]) (.list [.none,.none,.none,.none]))=true:=abV _ rfl;rw [ee];exact q _ (bF.trans (But.of KK)) (hTF.mono KK)
  rw [decide_eq_false (by intro z;injection z with z;exact c0 z)];refine bi ?_;have some':∃ w,KQ ns gs (lo ns.length hs bs) w:=by
    refine pos.mp ?_;have:=rW (gs:=gs) h1 h9 gh.2 gb.2;unfold ck at this;lia
  obtain ⟨w0,kw0⟩:=some';obtain ⟨w1,kw1,le1,hx1⟩:∃ w,KQ ns gs (lo ns.length hs bs) w∧(∀ w',KQ ns gs (lo ns.length hs bs) w'→w.nr gs≤w'.nr gs)∧WyIn HA w x1:=f1.elim (fun z=>absurd kw0 (z.2 w0)) id;obtain ⟨w2,kw2,hx2⟩:∃ w,Bst gs (KQ ns gs (lo ns.length hs bs)) 1 w∧WyIn HB w x2:=f2.elim (fun z=>absurd kw0 (z.2 w0)) id;obtain ⟨w3,kw3,hx3⟩:∃ w,Bst gs (KQ ns gs (lo ns.length hs bs)) (-1) w∧WyIn HC w x3:=f3.elim (fun z=>absurd kw0 (z.2 w0)) id;obtain ⟨wa,wb,p4,hwa,hwb,rfl,ep4⟩:∃ a b p,Bst gs (KQ ns gs (lo ns.length hs bs)) 1 a∧Bst gs (KQ ns gs (lo ns.length hs bs)) (-1) b∧x4=.ref p∧HE p=some (.tup [.int a.wv,.int b.wv]):=f4.elim (fun z=>absurd kw0 (z.2 w0)) id;have ea:=jY g3 nd h1 h9 hwa kw2;have eb:=jY g3 nd h1 h9 hwb kw3;subst ea eb;have tDF:Tups HC HF:=(Tups.of k1).trans ((hTD.tups bE).trans (Tups.of sF));have hx3':=hx3.mono tDF;have hx2':=hx2.mono ((hTB.tups bC).trans tDF);have hx1':=hx1.mono ((hTA.tups bB).trans ((hTB.tups bC).trans tDF));have ep4':=sF _ _ ep4;have n4T:p4≠T:=hTF.ne ep4' (fun _ z=>nomatch z);have kwn:∀ {w},KQ ns gs (lo ns.length hs bs) w→w.nums=ns∧w.size=ns.length:=fun {w} k=>by
    have e:w.nums=ns:=by rw [k.1,aZ ns h1]
    exact ⟨e,by rw [← w.nums_len,e]⟩
  have kbd:∀ {w},KQ ns gs (lo ns.length hs bs) w→w.bd:=fun {w} k=>w.bd_of (by rw [(kwn k).1];exact sm);have ways:∀ y∈([x1,x2,x3]:List V),∃ w,KQ ns gs (lo ns.length hs bs) w∧WyIn HF w y:=fun y hy=>by
    simp only [aam,abw,or_false] at hy;rcases hy with rfl|rfl|rfl
    · exact ⟨w1,kw1,hx1'⟩
    · exact ⟨wa,kw2.1,hx2'⟩
    · exact ⟨wb,kw3.1,hx3'⟩
  obtain ⟨a,x,y,rfl,ha,⟨ah,uh,rfl,eah,ph⟩,⟨ab,ub,rfl,eab,pb⟩⟩:=hdF;have lh:=ph.length;have lb:=pb.length;have lh4:=gh.1;have lb4:=gb.1;refine ⟨_,rfl,ps,rfl,⟨_,SqL.of epsF⟩,uQ (Trn.list (xs:=[x1,x2,x3])) (fun i σ H'=>∃ c5 c6,σ=[some (.ref r),some (.str (aD gs)),some (.ref a),some (.ref ps),some (.ref p4),c5,c6]∧Same HF H') ⟨_,_,rfl,Same.refl _⟩ (fun i σ H' hi z=>?_) (fun i y σ HG' HG hi it z=>?_) (fun σ HM z=>?_)⟩
  · obtain ⟨_,_,rfl,S⟩:=z;exact SqL.of (S _ _ epsF)
  · obtain ⟨c5,c6,rfl,S⟩:=z;obtain ⟨rfl,hy⟩:=it;obtain ⟨w,kw,hw⟩:=ways y (aax hy);obtain ⟨wn,ws⟩:=kwn kw;obtain ⟨in1,in2⟩:=kp w kw;have hw:=hw.mono (Tups.of S);refine ⟨_,rfl,w,y,rfl,hw,by lia,fun p qs us HI sI np ep hus pm pw=>?_⟩;refine ⟨_,rfl,w,y,rfl,hw.mono (Tups.of sI),by lia,fun pn HJ sJ npn epn=>?_⟩;rw [wn] at epn;have SJ:=(S.trans sI).trans sJ;refine ⟨_,rfl,0,pn,r,_,_,by decide,rfl,rfl,SqL.of epn,SqL.of (SJ _ _ erF),.inr ⟨fun _=>true,rfl,uU,?_⟩⟩;rw [vq];refine ⟨false,rfl,bi ?_⟩;have hus1:=PairsIn.mono (Tups.of sJ) hus;have ep1:=sJ _ _ ep;refine ⟨_,rfl,a,_,_,_,rfl,rfl,SqT.of (SJ _ _ ha),rfl,ah,rfl,⟨_,SqL.of (SJ _ _ eah)⟩,?_⟩;refine eV (Trn.list (xs:=uh)) (fun i ys H'=>H'=HJ∧ys=[]) ⟨rfl,rfl⟩ (fun i ys H' hi z=>by obtain ⟨rfl,rfl⟩:=z;exact ⟨SqL.of (SJ _ _ eah),aJ (by decide)⟩) (fun i z ys H0 H' hi hz zz Nx nx=>?_) (fun ys H' zz p5 n5=>?_)
    · obtain ⟨rfl,hz⟩:=hz;obtain ⟨rfl,rfl⟩:=zz;obtain ⟨pr,hri,hrr⟩:=bu (PairsIn.mono (Tups.of SJ) ph) hz;refine ⟨_,rfl,_,rfl,pr,p,us,_,hrr,rfl,SqL.of ep1,hus1,_,rfl,dI (fun c=>?_) (fun c=>nx _ _ ⟨rfl,rfl⟩)⟩;exact absurd (pm.mem_iff.mpr (in1 pr (aax hri))) (by simpa using c)
    obtain ⟨rfl,rfl⟩:=zz;refine ⟨(by show 0≤sizeLine;decide),fun p6 n6=>?_⟩;have s6:=(Same.new n5 (.lst [])).trans (Same.new n6 (.lst []));refine neE (SqL.of ((Same.new n6 _) _ _ af)) (SqL.of af) ?_;refine ⟨_,rfl,dI (fun c=>absurd c (by simp)) (fun _=>?_)⟩;generalize upd (upd H' p5 (.lst [])) p6 (.lst [])=HK at s6 ⊢;have SK:=SJ.trans s6;refine ⟨_,rfl,a,_,_,_,rfl,rfl,SqT.of (SK _ _ ha),rfl,ab,rfl,⟨_,SqL.of (SK _ _ eab)⟩,?_⟩;refine eV (Trn.list (xs:=ub)) (fun i ys H'=>H'=HK∧ys=[]) ⟨rfl,rfl⟩ (fun i ys H' hi z=>by obtain ⟨rfl,rfl⟩:=z;exact ⟨SqL.of (SK _ _ eab),aJ (by decide)⟩) (fun i z ys H0 H' hi hz zz Nx nx=>?_) (fun ys H' zz p7 n7=>?_)
    · obtain ⟨rfl,hz⟩:=hz;obtain ⟨rfl,rfl⟩:=zz;obtain ⟨pr,hri,hrr⟩:=bu (PairsIn.mono (Tups.of SK) pb) hz;refine ⟨_,rfl,_,rfl,pr,p,us,_,hrr,rfl,SqL.of (s6 _ _ ep1),PairsIn.mono (Tups.of s6) hus1,_,rfl,dI (fun c=>?_) (fun c=>nx _ _ ⟨rfl,rfl⟩)⟩;exact absurd (pm.mem_iff.mp (of_decide_eq_true c)) (in2 pr (aax hri))
    obtain ⟨rfl,rfl⟩:=zz;refine ⟨(by show 0≤sizeLine;decide),fun p8 n8=>?_⟩;have s8:=(Same.new n7 (.lst [])).trans (Same.new n8 (.lst []));refine neE (SqL.of ((Same.new n8 _) _ _ af)) (SqL.of af) ?_;refine ⟨_,rfl,dI (fun c=>absurd c (by simp)) (fun _=>?_)⟩;exact ⟨_,_,rfl,SK.trans s8⟩
  · obtain ⟨c5,c6,rfl,S⟩:=z;have v1:=kw2.2 w1 kw1;have v2:=kw3.2 w1 kw1;unfold lexLe at v1 v2;simp only at v1 v2;refine ⟨_,rfl,_,rfl,ps,_,_,_,rfl,rfl,SqL.of (S _ _ epsF),rfl,wa,x2,rfl,hx2'.mono (Tups.of S),by have:=(kwn kw2.1).2;lia,kbd kw2.1,fun HN sN=>?_⟩;have SN:=S.trans sN;refine ⟨_,rfl,ps,_,_,_,rfl,rfl,SqL.of (SN _ _ epsF),rfl,wb,x3,rfl,hx3'.mono (Tups.of SN),by have:=(kwn kw3.1).2;lia,kbd kw3.1,fun HP sP=>⟨(by show 2≤sizeLine;decide),fun pt nt=>?_⟩⟩;have st:=Same.new nt (.tup [.int wa.wv,.int wb.wv]);have et:upd HP pt (.tup [.int wa.wv,.int wb.wv]) pt=some (.tup [.int wa.wv,.int wb.wv]):=af;generalize upd HP pt (.tup [.int wa.wv,.int wb.wv])=HR at st et ⊢;have SR:=(SN.trans sP).trans st;have dp:∀ {c:Addr},HR c=some (.tup [.int wa.wv,.int wb.wv])→Dat HR (.tuple [.int wa.wv,.int wb.wv]) (.ref c):=fun {c} e=>by
      simp only [Dat,DatAll];exact ⟨c,_,rfl,e,_,_,rfl,rfl,_,_,rfl,rfl,rfl⟩
    refine ⟨_,_,dp (SR _ _ ep4'),dp et,rfl,rfl,by simp [PyData.depth,PyData.depthAll],?_⟩;have ee:(if false=true then !PyData.eqv (.tuple [.int wa.wv,.int wb.wv]) (.tuple [.int wa.wv,.int wb.wv]) else PyData.eqv (.tuple [.int wa.wv,.int wb.wv]) (.tuple [.int wa.wv,.int wb.wv]))=true:=abV _ rfl;rw [ee];refine ⟨true,rfl,bV ?_⟩;refine ⟨_,rfl,p4,_,_,_,rfl,rfl,SqT.of (SR _ _ ep4'),rfl,?_⟩;refine ⟨_,rfl,ps,_,_,_,rfl,rfl,SqL.of (SR _ _ epsF),rfl,w1,x1,rfl,hx1'.mono (Tups.of SR),by have:=(kwn kw1).2;lia,kbd kw1,fun HU sU=>?_⟩;have SU:=SR.trans sU;refine ⟨_,_,rfl,rfl,true,congrArg V.bl (decide_eq_true (by lia)),bV ⟨_,rfl,p4,_,_,_,rfl,rfl,SqT.of (SU _ _ ep4'),rfl,_,_,rfl,rfl,?_⟩⟩;show Q (.bl (decide (w1.wv≤wb.wv))) HU;rw [decide_eq_true (by lia)];exact q _ (bF.trans (But.of SU)) (hTF.mono SU)
end
open PySem L2
theorem PairsIn.rev {H:Hp} {ps:List (Int × Int)} {vs:List V} (h:PairsIn H ps vs):PairsIn H ps.reverse vs.reverse:=by
  induction h with
  | nil=>exact .nil
  | cons a _ ih=>rw [acm,acm];exact PairsIn.app ih (.cons a .nil)
theorem PairsIn.rep {H:Hp} {ps:List (Int × Int)} {vs:List V} (h:PairsIn H ps vs):∀ n:Nat,PairsIn H (aao n ps).flatten (aao n vs).flatten
  | 0=>.nil
  | n+1=>by
    rw [aba,aba,abr,abr];exact PairsIn.app h (PairsIn.rep h n)
def gu (ps:List (Int × Int)):List (Int × Int):=((aao 40 ps.reverse).flatten).take 40
theorem im {ps:List (Int × Int)} (h:ps.length≤40) (q:Int × Int):q∈ps↔q∈gu ps:=by
  unfold gu;constructor
  · intro hq;rw [aba (n:=39),abr,List.take_append];exact aaw _ (by rw [abh (by rw [ab1];exact h)];exact List.mem_reverse.mpr hq)
  · intro hq;obtain ⟨l,hl,hq⟩:=List.mem_flatten.mp (abT hq);rw [List.eq_of_mem_replicate hl] at hq;exact List.mem_reverse.mp hq
theorem mJ {n:Int} {ps:List (Int × Int)} (g:Gs n ps):Gs n (gu ps):=⟨by unfold gu;rw [aas];lia,fun q hq=>g.2 q ((im g.1 q).mpr hq)⟩
theorem vE:(40:Int).toNat=40:=rfl
theorem yC (X:List V):ju X none (some 40)=X.take 40:=pP X 40
theorem rA {gs:List Sg} {n:Nat} (h9:n≤9) {hs bs:List (Int × Int)} {one:Int × Int} (g:Gp n one):one∈gK gs n hs bs↔0 < ck gs n (one :: hs) bs:=by
  unfold gK;rw [abP,decide_eq_true_eq];exact ⟨fun z=>z.2,fun z=>⟨wA h9 g,z⟩⟩
theorem uv {gs:List Sg} {n:Nat} (h1:1≤n) (h9:n≤9) {hs bs:List (Int × Int)} {one:Int × Int} (g:Gp n one) (g1:∀ h∈hs,Gp n h) (g2:∀ h∈bs,Gp n h):one∈jD gs n hs bs↔0 < ck gs n hs bs∧ck gs n hs (bs++[one])=0:=by
  unfold jD;rw [abP,decide_eq_true_eq,rA h9 g];have:=rX (gs:=gs) h1 h9 g g1 g2;constructor
  · rintro ⟨a,b⟩;exact ⟨by lia,b⟩
  · rintro ⟨a,b⟩;exact ⟨by lia,b⟩
section
variable {P:Program} {w:World} {K:aaa} {mg:Str→Option Value} {base:Heap} {f:Addr} {fd:FuncData}
def xa:Sp:=fun vs H Q _=>∃ (wl r:Addr) (ns:List Int) (gs:List Sg) (hs bs:List (Int × Int)) (v:V) (M:Int),r≠wl∧vs=[.ref wl,.ref r,.str (aD gs),v]∧RwIn H r ns gs∧2≤ns.length∧HdIn (off wl H) hs bs v∧Gs ns.length hs∧Gs ns.length bs∧hs.length≤7∧bs.length≤7∧Wel H wl M∧M < 999990000∧∀ H',But wl H H'→Wel H' wl (M+2)→Q (.bl true) H'
abbrev bX:Stmt:=top 74
theorem aM:FnScope ["well","row","signs","holds","held","barred","many","one","kept_so","kept_else"] ["well","row","signs","holds"] (am bX):=⟨rfl,rfl,rfl,by decide +kernel,rfl,by decide +kernel,by decide +kernel⟩
theorem oY (F:Fun K "_law_one_more_right" "_law_one_more_right" bX f fd) (B:Bu K mg) (C__law_stretch:Cal P w K mg base "_law_stretch" 3 ["well","many"] qZ) (C_how_many_held:Cal P w K mg base "how_many_held" 6 ["row","signs","holds"] j_) (C_may_be_parts:Cal P w K mg base "may_be_parts" 6 ["row","signs","holds"] tW) (C_must_be_parts:Cal P w K mg base "must_be_parts" 6 ["row","signs","holds"] qd):FnOk P w K mg base CX0 7 f fd ["well","row","signs","holds"] xa:=by
  refine F.ok aM (fun vs H Q E h=>?_) (fun cdv A outer s H vs Q E hr h=>?_)
  · obtain ⟨wl,r,ns,gs,hs,bs,v,M,_,rfl,_⟩:=h;rfl
  obtain ⟨wl,r,ns,gs,hs,bs,v,M,nrw,rfl,hR,n2,hd,gh,gb,lh7,lb7,hw,hM,q⟩:=h;refine ⟨_,(@ag _ _ _ _ _ (@cy _ _ _ _ _ _ (pv 3) (@cz _ _ _ _ _ _ rfl (@az _ _ _ _ _ (@ao _ _ (4) _ (aM).nd rfl (Or.inl rfl) (.inl rfl)) (@az _ _ _ _ _ (@ao _ _ (5) _ (aM).nd rfl (Or.inl rfl) (.inl rfl)) a8 (by rfl)) (by rfl)) (by rfl) (by rfl)) (by rfl) (by rfl) (by rfl)) (@ag _ _ _ _ _ (@aH _ _ (6) _ _ _ _ (aM).nd rfl (Or.inl rfl) (@aj _ _ _ _ _ _ _ _ _ _ _ C_how_many_held hr (by lia) rfl (@aa _ _ _ _ _ (pv 1) (@aa _ _ _ _ _ (pv 2) (@aa _ _ _ _ _ (pv 3) ac (by rfl)) (by rfl)) (by rfl)) (by decide) (by rfl) (by rfl)) (by rfl) (by first|exact .inl rfl|exact .inr rfl|assumption)) (@ag _ _ _ _ _ (@aH _ _ (7) _ _ _ _ (aM).nd rfl (Or.inl rfl) (@aj _ _ _ _ _ _ _ _ _ _ _ C__law_stretch hr (by lia) rfl (@aa _ _ _ _ _ (pv 0) (@aa _ _ _ _ _ (@aA _ _ _ _ _ _ _ _ _ aB rfl B.ilen aay (@aa _ _ _ _ _ (pv 1) ac (by rfl)) (by decide) (by decide) (by rfl) (by rfl)) ac (by rfl)) (by rfl)) (by decide) (by rfl) (by rfl)) (by rfl) (by first|exact .inl rfl|exact .inr rfl|assumption)) (@ag _ _ _ _ _ (@aH _ _ (8) _ _ _ _ (aM).nd rfl (Or.inl rfl) (@aj _ _ _ _ _ _ _ _ _ _ _ C_how_many_held hr (by lia) rfl (@aa _ _ _ _ _ (pv 1) (@aa _ _ _ _ _ (pv 2) (@aa _ _ _ _ _ (@aY _ _ _ _ _ (@aa _ _ _ _ _ (@aC _ _ _ _ _ _ _ _ cQ (@aV _ _ _ _ (@aa _ _ _ _ _ (pv 7) ac (by rfl))) (pv 4)) (@aa _ _ _ _ _ (pv 5) ac (by rfl)) (by rfl))) ac (by rfl)) (by rfl)) (by rfl)) (by decide) (by rfl) (by rfl)) (by rfl) (by first|exact .inl rfl|exact .inr rfl|assumption)) (@ag _ _ _ _ _ (@aH _ _ (9) _ _ _ _ (aM).nd rfl (Or.inl rfl) (@aj _ _ _ _ _ _ _ _ _ _ _ C_how_many_held hr (by lia) rfl (@aa _ _ _ _ _ (pv 1) (@aa _ _ _ _ _ (pv 2) (@aa _ _ _ _ _ (@aY _ _ _ _ _ (@aa _ _ _ _ _ (pv 4) (@aa _ _ _ _ _ (@aC _ _ _ _ _ _ _ _ cQ (pv 5) (@aV _ _ _ _ (@aa _ _ _ _ _ (pv 7) ac (by rfl)))) ac (by rfl)) (by rfl))) ac (by rfl)) (by rfl)) (by rfl)) (by decide) (by rfl) (by rfl)) (by rfl) (by first|exact .inl rfl|exact .inr rfl|assumption)) (@ag _ _ _ _ _ (@bh _ _ _ _ _ _ _ _ (@PW.pt _ _ _ (@iD _ _ _ _ _ _ _ (@aK _ _ _ _ _ _ _ _ mz (@aC _ _ _ _ _ _ _ _ bU (pv 8) (pv 9)) (pv 6) (aN _)) (@fZ _ _ _ _ (@aK _ _ _ _ _ _ _ _ mz (@bZ _ _ _ _ _ _ _ _ (@kC _ _ rfl hr.units) (pv 7) (@aj _ _ _ _ _ _ _ _ _ _ _ C_may_be_parts hr (by lia) rfl (@aa _ _ _ _ _ (pv 1) (@aa _ _ _ _ _ (pv 2) (@aa _ _ _ _ _ (pv 3) ac (by rfl)) (by rfl)) (by rfl)) (by decide) (by rfl) (by rfl)) (by with_unfolding_all rfl)) (@bZ _ _ _ _ _ _ _ _ mC (pv 8) ai (aN _)) (aN _))))) (@ak _ _ _ (@au _ _ _ _ di)) aO) (@ag _ _ _ _ _ (@bh _ _ _ _ _ _ _ _ (@aK _ _ _ _ _ _ _ _ mz (@bZ _ _ _ _ _ _ _ _ (@kC _ _ rfl hr.units) (pv 7) (@aj _ _ _ _ _ _ _ _ _ _ _ C_must_be_parts hr (by lia) rfl (@aa _ _ _ _ _ (pv 1) (@aa _ _ _ _ _ (pv 2) (@aa _ _ _ _ _ (pv 3) ac (by rfl)) (by rfl)) (by rfl)) (by decide) (by rfl) (by rfl)) (by with_unfolding_all rfl)) (@d5 _ _ _ _ _ _ _ (@bZ _ _ _ _ _ _ _ _ mC (pv 6) ai (aN _)) (@fC _ _ _ _ _ (@bZ _ _ _ _ _ _ _ _ eQ (pv 9) ai (aN _)))) (aN _)) (@ak _ _ _ (@au _ _ _ _ di)) aO) (@ag _ _ _ _ _ (@bh _ _ _ _ _ _ _ _ (@aK _ _ _ _ _ _ _ _ mz (@aj _ _ _ _ _ _ _ _ _ _ _ C_how_many_held hr (by lia) rfl (@aa _ _ _ _ _ (pv 1) (@aa _ _ _ _ _ (pv 2) (@aa _ _ _ _ _ (@aY _ _ _ _ _ (@aa _ _ _ _ _ (@eJ _ _ _ _ _ _ _ _ _ _ gy (@aC _ _ _ _ _ _ _ _ qr (@ue _ _ _ _ _ _ _ (pv 4) (@oS _ _ _ _ _ _ j8 ai)) ai) gC (@gB _ _ _ ai)) (@aa _ _ _ _ _ (@eJ _ _ _ _ _ _ _ _ _ _ gy (@aC _ _ _ _ _ _ _ _ qr (@ue _ _ _ _ _ _ _ (pv 5) (@oS _ _ _ _ _ _ j8 ai)) ai) gC (@gB _ _ _ ai)) ac (by rfl)) (by rfl))) ac (by rfl)) (by rfl)) (by rfl)) (by decide) (by rfl) (by rfl)) (pv 6) (aN _)) (@ak _ _ _ (@au _ _ _ _ di)) aO) (@ak _ _ _ (@au _ _ _ _ (@bZ _ _ _ _ _ _ _ _ eQ (@aj _ _ _ _ _ _ _ _ _ _ _ C_how_many_held hr (by lia) rfl (@aa _ _ _ _ _ (@gf _ _ _ _ _ _ _ _ (["number"]) ([none]) _ _ _ _ rfl (@bO _ _ _ _ (pv 1)) rfl trivial trivial (fun _ _ _ _=>⟨(@ao _ _ (0) _ (show aaM (["number"]:List Str) by decide +kernel) rfl (Or.inl rfl) (.inr rfl)),bt,(@aC _ _ _ _ _ _ _ _ bz ai (pv 0))⟩) (by rfl) (by rfl) (by rfl) (by rfl) (by intro _;rfl)) (@aa _ _ _ _ _ (pv 2) (@aa _ _ _ _ _ (pv 3) ac (by rfl)) (by rfl)) (by rfl)) (by decide) (by rfl) (by rfl)) (pv 6) (aN _)))))))))))),?_⟩;obtain ⟨er,h1,h9,g1,g3,sp,sm⟩:=hR;have hl:(ns.map V.int).length=ns.length:=aaf _;have hd0:=hd.mono off_le;obtain ⟨a,x,y,rfl,ha,⟨ah,uh,rfl,eah,ph⟩,⟨ab,ub,rfl,eab,pb⟩⟩:=hd;refine ⟨_,rfl,a,_,rfl,SqT.of (off_le _ _ ha),rfl,_,_,rfl,_,_,rfl,rfl,?_⟩;refine ⟨_,rfl,_,rfl,_,rfl,r,ns,gs,hs,bs,_,rfl,er,h1,h9,g1,g3,sp,hd0,gh,gb,fun HA sA=>?_⟩;have erA:=sA _ _ er;refine ⟨_,rfl,_,rfl,r,_,rfl,.inl (SqL.of erA),?_⟩;rw [hl];refine ⟨wl,ns.length,M,rfl,by lia,by lia,hw.keep sA (aav _),by lia,fun one v1 HB bB wB gone hone=>?_⟩;have SO:Same (off wl H) HB:=(iI ((But.of sA).trans bB)).trans off_le;have eahB:=SO _ _ eah;have eabB:=SO _ _ eab;have phB:=PairsIn.mono (Tups.of SO) ph;have pbB:=PairsIn.mono (Tups.of SO) pb;have hdB:HdIn HB hs bs (.ref a):=⟨a,_,_,rfl,SO _ _ ha,⟨ah,uh,rfl,eahB,phB⟩,⟨ab,ub,rfl,eabB,pbB⟩⟩
  have erB:=bB _ _ nrw erA;have lh:=phB.length;have lb:=pbB.length;have t2:(2:Nat)≤sizeLine:=by decide
  have t1:(1:Nat)≤sizeLine:=by decide
  have em:cnt gs.length (lo ns.length hs bs) (0,(ns.length:Int) - 1)=ck gs ns.length hs bs:=rfl;rw [em];refine ⟨_,rfl,_,rfl,_,rfl,t1,fun q1 n1=>⟨_,rfl,q1,ah,_,_,rfl,rfl,af,(Same.new n1 _) _ _ eahB,bM (by show 1+uh.length≤1000;lia),fun q2 n2'=>⟨_,rfl,t2,fun q3 n3=>?_⟩⟩⟩;have k1:=Same.new n1 (.lst [v1]);have k2:=Same.new n2' (.lst ([v1]++uh));have k3:=Same.new n3 (.tup [.ref q2,.ref ab]);have e3:upd (upd (upd HB q1 (.lst [v1])) q2 (.lst ([v1]++uh))) q3 (.tup [.ref q2,.ref ab]) q3=some (.tup [.ref q2,.ref ab]):=af;have e2:=k3 _ _ (show _=some (HO.lst ([v1]++uh)) from af);have G3:=(k1.trans k2).trans k3;generalize upd (upd (upd HB q1 (.lst [v1])) q2 (.lst ([v1]++uh))) q3 (.tup [.ref q2,.ref ab])=HC at G3 e3 e2 ⊢;refine ⟨r,ns,gs,one :: hs,bs,_,rfl,G3 _ _ erB,h1,h9,g1,g3,sp,⟨q3,_,_,rfl,e3,⟨q2,_,rfl,e2,.cons (PairIn.mono (Tups.of G3) hone) (PairsIn.mono (Tups.of G3) phB)⟩,⟨ab,ub,rfl,G3 _ _ eabB,PairsIn.mono (Tups.of G3) pbB⟩⟩,⟨by rw [aaS];lia,j0 gone gh.2⟩,gb,fun HD sD=>?_⟩;have SD:=G3.trans sD;have es:cnt gs.length (lo ns.length (one :: hs) bs) (0,(ns.length:Int) - 1)=ck gs ns.length (one :: hs) bs:=rfl;rw [es];refine ⟨_,rfl,_,rfl,_,rfl,_,rfl,_,rfl,t1,fun q4 n4=>⟨ab,q4,_,_,rfl,rfl,(Same.new n4 _) _ _ (SD _ _ eabB),af,bM (by show ub.length+1≤1000;lia),fun q5 n5=>⟨t2,fun q6 n6=>?_⟩⟩⟩;have k4:=Same.new n4 (.lst [v1]);have k5:=Same.new n5 (.lst (ub++[v1]));have k6:=Same.new n6 (.tup [.ref ah,.ref q5]);have e6:upd (upd (upd HD q4 (.lst [v1])) q5 (.lst (ub++[v1]))) q6 (.tup [.ref ah,.ref q5]) q6=some (.tup [.ref ah,.ref q5]):=af;have e5:=k6 _ _ (show _=some (HO.lst (ub++[v1])) from af);have G6:=SD.trans ((k4.trans k5).trans k6);generalize upd (upd (upd HD q4 (.lst [v1])) q5 (.lst (ub++[v1]))) q6 (.tup [.ref ah,.ref q5])=HE at G6 e6 e5 ⊢;refine ⟨r,ns,gs,hs,bs++[one],_,rfl,G6 _ _ erB,h1,h9,g1,g3,sp,⟨q6,_,_,rfl,e6,⟨ah,uh,rfl,G6 _ _ eahB,PairsIn.mono (Tups.of G6) phB⟩,⟨q5,_,rfl,e5,PairsIn.snoc (PairsIn.mono (Tups.of G6) pbB) (PairIn.mono (Tups.of G6) hone)⟩⟩,gh,⟨by rw [aap,aby];lia,qV gone gb.2⟩,fun HF sF=>?_⟩;have SF:=G6.trans sF;have eo:cnt gs.length (lo ns.length hs (bs++[one])) (0,(ns.length:Int) - 1)=ck gs ns.length hs (bs++[one]):=rfl;rw [eo];have more:=rX (gs:=gs) h1 h9 gone gh.2 gb.2;have c0:=rW (gs:=gs) h1 h9 gh.2 gb.2;have mi:=rA (gs:=gs) (hs:=hs) (bs:=bs) h9 gone;have mu:=uv (gs:=gs) h1 h9 gone gh.2 gb.2;generalize hso:ck gs ns.length (one :: hs) bs=so at more mi ⊢;generalize hel:ck gs ns.length hs (bs++[one])=els at more mu ⊢;generalize hma:ck gs ns.length hs bs=many at more mu c0 ⊢;clear em es eo;refine ⟨_,rfl,_,rfl,_,_,rfl,rfl,_,rfl,rfl,_,rfl,?_⟩;refine dI (fun c=>absurd c (by show ¬ (!decide (V.int (so+els)=V.int many))=true;rw [more];simp)) (fun _=>?_);refine ⟨_,rfl,_,rfl,_,rfl,_,rfl,r,ns,gs,hs,bs,_,rfl,SF _ _ erB,h1,h9,g1,g3,sp,hdB.mono SF,gh,gb,fun p us HG sG np ep hp=>?_⟩;have SG:=SF.trans sG;refine ⟨one,p,us,_,PairIn.mono (Tups.of SG) hone,rfl,SqL.of ep,hp,?_⟩;refine ⟨_,rfl,_,_,rfl,rfl,rfl,_,rfl,?_⟩;refine dI (fun c=>absurd c (by rw [show decide (one∈gK gs ns.length hs bs)=decide (0 < so) from decide_eq_decide.mpr mi];simp)) (fun _=>?_);refine ⟨_,rfl,_,rfl,_,rfl,_,rfl,r,ns,gs,hs,bs,_,rfl,SG _ _ erB,h1,h9,g1,g3,sp,hdB.mono SG,gh,gb,fun p' us' HI sI np' ep' hp'=>?_⟩;have SI:=SG.trans sI;refine ⟨one,p',us',_,PairIn.mono (Tups.of SI) hone,rfl,SqL.of ep',hp',?_⟩;refine (fun (tl:(?T:Prop))=>?mn) ?tt
  case mn =>
    by_cases cm:0 < many
    · refine ⟨_,rfl,_,_,rfl,rfl,true,congrArg V.bl (decide_eq_true cm),bV ⟨_,rfl,rfl,rfl,_,rfl,dI (fun c=>?_) (fun _=>?_)⟩⟩
      · refine absurd c ?_;show ¬ (!decide (V.bl (decide (one∈jD gs ns.length hs bs))=V.bl (decide (V.int els=V.int 0))))=true;have : decide (one∈jD gs ns.length hs bs)=decide (V.int els=V.int 0):=decide_eq_decide.mpr (mu.trans ⟨fun z=>by rw [z.2],fun z=>⟨cm,by injection z⟩⟩);rw [this];simp
      · exact tl
    · refine ⟨_,rfl,_,_,rfl,rfl,false,congrArg V.bl (decide_eq_false cm),bi ⟨rfl,_,rfl,dI (fun c=>?_) (fun _=>?_)⟩⟩
      · refine absurd c ?_;show ¬ (!decide (V.bl (decide (one∈jD gs ns.length hs bs))=V.bl false))=true;have : decide (one∈jD gs ns.length hs bs)=false:=decide_eq_false fun z=>cm (mu.mp z).1;rw [this];simp
      · exact tl
  case tt =>
    have eahI:=SI _ _ eahB;have eabI:=SI _ _ eabB;have phI:=PairsIn.mono (Tups.of SI) phB;have pbI:=PairsIn.mono (Tups.of SI) pbB;refine ⟨_,rfl,_,rfl,_,rfl,_,rfl,rfl,ah,uh,rfl,SqL.of eahI,fun p1 m1=>?_⟩;refine ⟨p1,40,_,rfl,rfl,af,by decide,by decide,bM (by rw [ab1,vE];lia),fun p2 m2=>?_⟩;refine ⟨40,rfl,p2,_,rfl,SqL.of af,fun p3 m3=>?_⟩;rw [yC,vE] at *;have k1:=Same.new m1 (.lst uh.reverse);have k2:=Same.new m2 (.lst (aao 40 uh.reverse).flatten);have k3:=Same.new m3 (.lst ((aao 40 uh.reverse).flatten.take 40));have e3:upd (upd (upd HI p1 (.lst uh.reverse)) p2 (.lst (aao 40 uh.reverse).flatten)) p3 (.lst ((aao 40 uh.reverse).flatten.take 40)) p3=some (.lst ((aao 40 uh.reverse).flatten.take 40)):=af;have G3:=(k1.trans k2).trans k3;generalize upd (upd (upd HI p1 (.lst uh.reverse)) p2 (.lst (aao 40 uh.reverse).flatten)) p3 (.lst ((aao 40 uh.reverse).flatten.take 40))=HJ at G3 e3 ⊢;refine ⟨_,rfl,_,rfl,rfl,ab,ub,rfl,SqL.of (G3 _ _ eabI),fun p4 m4=>?_⟩;refine ⟨p4,40,_,rfl,rfl,af,by decide,by decide,bM (by rw [ab1,vE];lia),fun p5 m5=>?_⟩;refine ⟨40,rfl,p5,_,rfl,SqL.of af,fun p6 m6=>⟨t2,fun p7 m7=>?_⟩⟩;rw [yC,vE] at *;have k4:=Same.new m4 (.lst ub.reverse);have k5:=Same.new m5 (.lst (aao 40 ub.reverse).flatten);have k6:=Same.new m6 (.lst ((aao 40 ub.reverse).flatten.take 40));have k7:=Same.new m7 (.tup [.ref p3,.ref p6]);have e7:upd (upd (upd (upd HJ p4 (.lst ub.reverse)) p5 (.lst (aao 40 ub.reverse).flatten)) p6 (.lst ((aao 40 ub.reverse).flatten.take 40))) p7 (.tup [.ref p3,.ref p6]) p7=some (.tup [.ref p3,.ref p6]):=af;have e6:=k7 _ _ (show _=some (HO.lst ((aao 40 ub.reverse).flatten.take 40)) from af);have G7:=((k4.trans k5).trans k6).trans k7;have e3':=G7 _ _ e3;generalize upd (upd (upd (upd HJ p4 (.lst ub.reverse)) p5 (.lst (aao 40 ub.reverse).flatten)) p6 (.lst ((aao 40 ub.reverse).flatten.take 40))) p7 (.tup [.ref p3,.ref p6])=HK at G7 e7 e6 e3' ⊢;have SK:=SI.trans (G3.trans G7);have phK:=fD 40 (PairsIn.rep (PairsIn.rev (PairsIn.mono (Tups.of (G3.trans G7)) phI)) 40);have pbK:=fD 40 (PairsIn.rep (PairsIn.rev (PairsIn.mono (Tups.of (G3.trans G7)) pbI)) 40);refine ⟨r,ns,gs,gu hs,gu bs,_,rfl,SK _ _ erB,h1,h9,g1,g3,sp,⟨p7,_,_,rfl,e7,⟨p3,_,rfl,e3',phK⟩,⟨p6,_,rfl,e6,pbK⟩⟩,mJ gh,mJ gb,fun HL sL=>?_⟩;have SL:=SK.trans sL;have e40:cnt gs.length (lo ns.length (gu hs) (gu bs)) (0,(ns.length:Int) - 1)=many:=(vm (gs:=gs) h1 h9 gh.2 gb.2 (fun q=>im gh.1 q) (fun q=>im gb.1 q)).trans hma;rw [e40];refine ⟨_,rfl,rfl,_,rfl,dI (fun c=>absurd c (by simp)) (fun _=>?_)⟩;refine ⟨_,rfl,r,rfl,⟨_,SqL.of (SL _ _ erB)⟩,eV (Trn.list (xs:=ns.map V.int)) (fun i ys H'=>H'=HL∧ys=((ns.take i).map fun n=>0 - n).map V.int) ⟨rfl,rfl⟩ (fun i ys H' hi z=>by obtain ⟨rfl,rfl⟩:=z;exact ⟨SqL.of (SL _ _ erB),aJ (by rw [aaf,aaf,aas];lia)⟩) (fun i z ys H0 H' hi hz zz Nx nx=>?_) (fun ys H' zz p8 m8=>?_)⟩
    · obtain ⟨rfl,hz⟩:=hz;obtain ⟨rfl,rfl⟩:=zz;rw [aaL] at hz;obtain ⟨c,hc,rfl⟩:=abv.mp hz;refine ⟨_,rfl,_,_,rfl,rfl,nx _ _ ⟨rfl,?_⟩⟩;rw [aaP,hc,aaJ,aaJ];rfl
    obtain ⟨rfl,rfl⟩:=zz;have k8:=Same.new m8 (.lst (((ns.take (ns.map V.int).length).map fun n=>0 - n).map V.int));rw [hl,aaQ] at *;have ln:(ns.map fun n=>0 - n).length=ns.length:=aaf _;refine ⟨_,rfl,_,rfl,p8,ns.map fun n=>0 - n,gs,hs,bs,_,rfl,af,by lia,by lia,g1,g3,sp,(hdB.mono SL).mono k8,by rw [ln];exact gh,by rw [ln];exact gb,fun HM sM=>?_⟩;rw [ln];have eM:cnt gs.length (lo ns.length hs bs) (0,(ns.length:Int) - 1)=many:=hma;rw [eM];have SM:=(SL.trans k8).trans sM;refine ⟨_,rfl,rfl,?_⟩;rw [decide_eq_true rfl];exact q _ ((But.of sA).trans (bB.trans (But.of SM))) (wB.keep SM (aav _))
end
open PySem L2
theorem v9 {w T:Addr} {H:Hp} {ps qs:List (Int × Int)} {v:V} (hT:LT T H) (h:HdIn (off w H) ps qs v):HdIn (eU w T H) ps qs v:=by
  obtain ⟨tp,hT⟩:=hT;have key:∀ c o,off w H c=some o→(∀ z,o≠.tbl z)→eU w T H c=some o:=fun c o e n=>by
    have : c≠T:=fun z=>by
      have e':=off_le _ _ e;rw [z,hT.tab] at e';exact n _ (aaR e').symm
    unfold eU;rw [gm this];exact e
  have tt:Tups (off w H) (eU w T H):=fun c xs e=>key c _ e (fun _ z=>nomatch z);obtain ⟨a,x,y,rfl,ea,⟨ax,us,rfl,eax,hpx⟩,⟨ay,vs,rfl,eay,hpy⟩⟩:=h;exact ⟨a,_,_,rfl,key _ _ ea (fun _ z=>nomatch z),⟨ax,us,rfl,key _ _ eax (fun _ z=>nomatch z),PairsIn.mono tt hpx⟩,⟨ay,vs,rfl,key _ _ eay (fun _ z=>nomatch z),PairsIn.mono tt hpy⟩⟩
theorem ve (ns:List Int) (lo hi:Option Int):∃ ms:List Int,ju (ns.map V.int) lo hi=ms.map V.int∧ms.length≤ns.length:=by
  refine ⟨(ns.drop (HT.sIx ns.length 0 lo)).take (HT.sIx ns.length ns.length hi - HT.sIx ns.length 0 lo),?_,?_⟩
  · unfold ju;rw [aaf,List.map_take,List.map_drop]
  · rw [aas,aaY];lia
theorem LT.well {T wl:Addr} {M:Int} {H H':Hp} (h:LT T H) (w:Wel H wl M) (b:But wl H H'):LT T H':=by
  obtain ⟨x,y,e,_⟩:=w;obtain ⟨tp,h⟩:=h;refine ⟨tp,b _ _ (fun q=>by have z:=h.tab;rw [q,e] at z;cases z) h.tab,h.tri,fun pos' cv hc=>?_⟩;obtain ⟨d,e1,e2⟩:=h.cds pos' cv hc;exact ⟨d,e1,b _ _ (fun q=>by rw [q,e] at e2;cases e2) e2⟩
theorem Wel.keepB {T wl:Addr} {H H':Hp} {M:Int} (h:Wel H wl M) (n:T≠wl) (b:But T H H'):Wel H' wl M:=by
  obtain ⟨x,y,e,h⟩:=h;exact ⟨x,y,b _ _ (ab3 n) e,h⟩
theorem uo {w z:Addr} {H H':Hp} (b:But z H H'):Same (eU w z H) (eU w z H'):=fun c o h=>by
  unfold eU off at h ⊢;by_cases c1:c=z
  · rw [if_pos c1] at h;cases h
  · rw [if_neg c1] at h ⊢;by_cases c2:c=w
    · rw [if_pos c2] at h;cases h
    · rw [if_neg c2] at h ⊢;exact b c o c1 h
section
variable {P:Program} {w:World} {K:aaa} {mg:Str→Option Value} {base:Heap} {f:Addr} {fd:FuncData}
def rd (K:aaa) (T:Addr):Sp:=fun vs H Q _=>∃ (a:Addr) (ns:List Int),vs=[.ref a]∧SqL K H a (ns.map V.int)∧ns.length≤63∧LT T H∧∀ H',Q (.bl true) H'
abbrev iC:Stmt:=top 75
theorem iW:FnScope ["script","cell","well","row","signs","holds"] ["script"] (am iC):=⟨rfl,rfl,rfl,by decide +kernel,rfl,by decide +kernel,by decide +kernel⟩
theorem xr {T:Addr} (F:Fun K "law" "law" iC f fd) (B:Bu K mg) (C__law_well:Cal P w K mg base "_law_well" 1 ["cell"] p_) (C__law_draw:Cal P w K mg base "_law_draw" 2 ["well","many"] g_) (C__law_row:Cal P w K mg base "_law_row" 3 ["well","many"] tU) (C__law_signs:Cal P w K mg base "_law_signs" 3 ["well"] g9) (C__law_holds:Cal P w K mg base "_law_holds" 4 ["well","many"] ng)
    (C__law_free_right:Cal P w K mg base "_law_free_right" 14 ["row","signs"] (xf T)) (C__law_told_right:Cal P w K mg base "_law_told_right" 44 ["row","signs","holds"] (w_ T)) (C__law_one_more_right:Cal P w K mg base "_law_one_more_right" 7 ["well","row","signs","holds"] xa):FnOk P w K mg base CX0 45 f fd ["script"] (rd K T):=by
  refine F.ok iW (fun vs H Q E h=>?_) (fun cdv A outer s H vs Q E hr h=>?_)
  · obtain ⟨a,ns,rfl,_⟩:=h;rfl
  obtain ⟨a,ns,rfl,hS,h63,hT,q⟩:=h;refine ⟨_,(@ag _ _ _ _ _ (@fz _ _ _ _ _ _ _ _ aa4 rfl (@bO _ _ _ _ (@aC _ _ _ _ _ _ _ _ cQ (@aV _ _ _ _ (@aa _ _ _ _ _ ai (@aa _ _ _ _ _ ai ac (by rfl)) (by rfl))) (@eJ _ _ _ _ _ _ _ _ _ _ gy (pv 0) gC (@gB _ _ _ ai)))) (@ao _ _ (1) _ (iW).nd rfl (Or.inl rfl) (.inl rfl)) (@ag _ _ _ _ _ (@aH _ _ (2) _ _ _ _ (iW).nd rfl (Or.inl rfl) (@aj _ _ _ _ _ _ _ _ _ _ _ C__law_well hr (by lia) rfl (@aa _ _ _ _ _ (pv 1) ac (by rfl)) (by decide) (by rfl) (by rfl)) (by rfl) (by first|exact .inl rfl|exact .inr rfl|assumption)) (@ag _ _ _ _ _ (@aH _ _ (3) _ _ _ _ (iW).nd rfl (Or.inl rfl) (@aj _ _ _ _ _ _ _ _ _ _ _ C__law_row hr (by lia) rfl (@aa _ _ _ _ _ (pv 2) (@aa _ _ _ _ _ (@aC _ _ _ _ _ _ _ _ bU ai (@aj _ _ _ _ _ _ _ _ _ _ _ C__law_draw hr (by lia) rfl (@aa _ _ _ _ _ (pv 2) (@aa _ _ _ _ _ ai ac (by rfl)) (by rfl)) (by decide) (by rfl) (by rfl))) ac (by rfl)) (by rfl)) (by decide) (by rfl) (by rfl)) (by rfl) (by first|exact .inl rfl|exact .inr rfl|assumption)) (@ag _ _ _ _ _ (@aH _ _ (4) _ _ _ _ (iW).nd rfl (Or.inl rfl) (@aj _ _ _ _ _ _ _ _ _ _ _ C__law_signs hr (by lia) rfl (@aa _ _ _ _ _ (pv 2) ac (by rfl)) (by decide) (by rfl) (by rfl)) (by rfl) (by first|exact .inl rfl|exact .inr rfl|assumption)) (@ag _ _ _ _ _ (@aH _ _ (5) _ _ _ _ (iW).nd rfl (Or.inl rfl) (@aj _ _ _ _ _ _ _ _ _ _ _ C__law_holds hr (by lia) rfl (@aa _ _ _ _ _ (pv 2) (@aa _ _ _ _ _ (@aA _ _ _ _ _ _ _ _ _ aB rfl B.ilen aay (@aa _ _ _ _ _ (pv 3) ac (by rfl)) (by decide) (by decide) (by rfl) (by rfl)) ac (by rfl)) (by rfl)) (by decide) (by rfl) (by rfl)) (by rfl) (by first|exact .inl rfl|exact .inr rfl|assumption)) (@ag _ _ _ _ _ (@bh _ _ _ _ _ _ _ _ (@PW.pt _ _ _ (@iD _ _ _ _ _ _ _ (@cx _ _ _ _ (@bQ _ _ _ (@aj _ _ _ _ _ _ _ _ _ _ _ C__law_free_right hr (by lia) rfl (@aa _ _ _ _ _ (pv 3) (@aa _ _ _ _ _ (pv 4) ac (by rfl)) (by rfl)) (by decide) (by rfl) (by rfl)) (by intro _;rfl))) (@fZ _ _ _ _ (@cx _ _ _ _ (@bQ _ _ _ (@aj _ _ _ _ _ _ _ _ _ _ _ C__law_told_right hr (by lia) rfl (@aa _ _ _ _ _ (pv 3) (@aa _ _ _ _ _ (pv 4) (@aa _ _ _ _ _ (pv 5) ac (by rfl)) (by rfl)) (by rfl)) (by decide) (by rfl) (by rfl)) (by intro _;rfl)))))) (@ak _ _ _ (@au _ _ _ _ di)) aO) (@ak _ _ _ (@bh _ _ _ _ _ _ _ _ (@PW.pt _ _ _ (@jb _ _ _ _ _ _ _ (@aK _ _ _ _ _ _ _ _ mC (@aA _ _ _ _ _ _ _ _ _ aB rfl B.ilen aay (@aa _ _ _ _ _ (pv 3) ac (by rfl)) (by decide) (by decide) (by rfl) (by rfl)) ai (aN _)) (@iE _ _ _ _ (@cx _ _ _ _ (@bQ _ _ _ (@aj _ _ _ _ _ _ _ _ _ _ _ C__law_one_more_right hr (by lia) rfl (@aa _ _ _ _ _ (pv 2) (@aa _ _ _ _ _ (pv 3) (@aa _ _ _ _ _ (pv 4) (@aa _ _ _ _ _ (pv 5) ac (by rfl)) (by rfl)) (by rfl)) (by rfl)) (by decide) (by rfl) (by rfl)) (by intro _;rfl)))))) (@ak _ _ _ (@au _ _ _ _ di)) aO))))))) (by intro _;rfl)) (@ak _ _ _ (@au _ _ _ _ di))),?_⟩;refine ⟨(by show 2≤sizeLine;decide),fun p1 n1=>?_⟩;have g1:=Same.new n1 (.lst [.int 0,.int 5]);refine ⟨_,rfl,6,rfl,a,_,rfl,g1.seq hS,fun p2 n2=>?_⟩;obtain ⟨ms,em,hm⟩:=ve ns none (some 6);rw [em];have g2:=Same.new n2 (.lst (ms.map V.int));refine ⟨p1,p2,_,_,rfl,rfl,g2 _ _ af,af,bM (by rw [aaf];show 2+ms.length≤1000;lia),fun p3 n3=>?_⟩;have e3:upd (upd (upd H p1 (.lst [.int 0,.int 5])) p2 (.lst (ms.map V.int))) p3 (.lst ([.int 0,.int 5]++ms.map V.int)) p3=_:=af;have g3:=(g1.trans g2).trans (Same.new n3 (.lst ([.int 0,.int 5]++ms.map V.int)));have el:[V.int 0,V.int 5]++ms.map V.int=(0 :: 5 :: ms).map V.int:=rfl;rw [el] at e3 g3 ⊢;revert e3 g3;generalize upd (upd (upd H p1 (.lst [.int 0,.int 5])) p2 (.lst (ms.map V.int))) p3 (.lst ((0 :: 5 :: ms).map V.int))=H3;intro e3 g3;have hT3:=hT.mono g3;have np3:p3≠T:=hT3.ne e3 (fun _ z=>nomatch z);refine ⟨p3,rfl,⟨_,SqL.of e3⟩,uQ (Trn.list (xs:=(0 :: 5 :: ms).map V.int)) (fun i σ H'=>∃ c1 c2 c3 c4 c5,σ=[some (.ref a),c1,c2,c3,c4,c5]∧But T H3 H'∧LT T H') ⟨_,_,_,_,_,rfl,But.refl,hT3⟩ (fun i σ H' hi z=>?_) (fun i x σ H4' H4 hi it z=>?_) (fun σ H' z=>?_)⟩
  · obtain ⟨_,_,_,_,_,rfl,S,_⟩:=z;exact SqL.of (S _ _ np3 e3)
  · obtain ⟨c1,c2,c3,c4,c5,rfl,S4,hT4⟩:=z;obtain ⟨rfl,hx⟩:=it;rw [aaL] at hx;obtain ⟨c,_,rfl⟩:=abv.mp hx;refine ⟨_,rfl,c,rfl,fun wl H5 g5 nw ew=>?_⟩;have hT5:=hT4.mono g5;have nwT:T≠wl:=fun z=>by obtain ⟨tp,h⟩:=hT4;rw [← z,h.tab] at nw;cases nw
    refine ⟨_,rfl,_,rfl,wl,9,_,rfl,by decide,by decide,ew,by lia,fun r1 H6 a1 b1 k6 w6=>⟨_,_,rfl,rfl,wl,1+r1,_,rfl,by lia,by lia,w6,by lia,fun r rs H7 k7 w7 nr er hlen sm=>?_⟩⟩;have n1':1≤rs.length:=by lia
    have n9':rs.length≤9:=by lia
    have nrw:r≠wl:=w6.ne nr;refine ⟨_,rfl,wl,_,rfl,w7,by lia,fun gs H8 g1' g3' sp k8 w8=>?_⟩;have er8:=k8 _ _ nrw er;refine ⟨_,rfl,_,rfl,r,_,rfl,.inl (SqL.of er8),?_⟩;rw [aaf];refine ⟨wl,(rs.length:Int),_,rfl,by lia,by lia,w8,by lia,fun ps qs vh H9 k9 w9 lp lq gp gq hv=>?_⟩;have Gps:Gs rs.length ps:=⟨by lia,gp⟩
    have Gqs:Gs rs.length qs:=⟨by lia,gq⟩
    have b59:But wl H5 H9:=((k6.trans k7).trans k8).trans k9;have hT9:=hT5.well ew b59;have er9:=k9 _ _ nrw er8;have nrT:r≠T:=hT9.ne er9 (fun _ z=>nomatch z);have hv9:=v9 hT9 hv;refine ⟨_,rfl,_,rfl,r,rs,gs,rfl,⟨er9,n1',n9',g1',g3',sp,sm⟩,hT9,fun HA bA hTA=>⟨true,rfl,bi ?_⟩⟩;have erA:=bA _ _ nrT er9;have hvA:=hv9.mono (uo bA);refine ⟨_,rfl,_,rfl,_,rfl,r,rs,gs,ps,qs,vh,rfl,⟨erA,n1',n9',g1',g3',sp,sm⟩,(hvA.mono off_le).mono off_le,Gps,Gqs,hTA,fun HB bB hTB=>⟨true,rfl,bi ?_⟩⟩;have erB:=bB _ _ nrT erA;have hvB:HdIn (off wl HB) ps qs vh:=(hvA.mono (uo bB)).mono off_le;have wB:=(w9.keepB nwT bA).keepB nwT bB;have b3:∀ {H':Hp},But wl HB H'→But T H3 H':=fun {H'} k b o hb e=>by
      have nb:b≠wl:=aF (S4 _ _ hb e) nw;exact k _ _ nb (bB _ _ hb (bA _ _ hb (b59 _ _ nb (g5 _ _ (S4 _ _ hb e)))))
    refine ⟨_,rfl,r,_,rfl,.inl (SqL.of erB),_,_,rfl,rfl,decide ((1:Int) < ((rs.map V.int).length:Nat)),rfl,?_⟩;rw [aaf];by_cases c1':(1:Int) < (rs.length:Nat)
    · refine uH c1' ?_;refine ⟨_,rfl,_,rfl,_,rfl,_,rfl,wl,r,rs,gs,ps,qs,vh,_,nrw,rfl,⟨erB,n1',n9',g1',g3',sp,sm⟩,by lia,hvB,Gps,Gqs,lp,lq,wB,by lia,fun HC bC wC=>⟨true,rfl,bi ?_⟩⟩;exact ⟨_,_,_,_,_,rfl,b3 bC,hTB.well wB bC⟩
    · exact rH c1' ⟨_,_,_,_,_,rfl,b3 But.refl,hTB⟩
  · obtain ⟨_,_,_,_,_,rfl,_⟩:=z;exact q _
end
open PySem L2
theorem us0 {us:List Value} (h:us.length=0):us=[]:=abK.mp h
theorem us1 {us:List Value} (h:us.length=1):∃ a,us=[a]:=by
  cases us with
  | nil=>cases h
  | cons x us=>obtain rfl:=us0 (Nat.succ.inj h);exact ⟨x,rfl⟩
theorem us2 {us:List Value} (h:us.length=2):∃ a b,us=[a,b]:=by
  cases us with
  | nil=>cases h
  | cons x us=>obtain ⟨b,rfl⟩:=us1 (Nat.succ.inj h);exact ⟨x,b,rfl⟩
theorem us3 {us:List Value} (h:us.length=3):∃ a b c,us=[a,b,c]:=by
  cases us with
  | nil=>cases h
  | cons x us=>obtain ⟨b,c,rfl⟩:=us2 (Nat.succ.inj h);exact ⟨x,b,c,rfl⟩
theorem us4 {us:List Value} (h:us.length=4):∃ a b c d,us=[a,b,c,d]:=by
  cases us with
  | nil=>cases h
  | cons x us=>obtain ⟨b,c,d,rfl⟩:=us3 (Nat.succ.inj h);exact ⟨x,b,c,d,rfl⟩
theorem all_mk {l:PySem.W.OpenLaw} {w:World} {K:aaa} {h:Heap} {mg:Str→Option Value} {fa:Addr} (X:K.In h) (G:h.Ns mainGlobals mg) (hfa:mg "law" = some (.ref fa))
    {tM tS1 tS2 tS3:Tok} {cS:Addr} {odS:Option Addr} {nS:Nat} {slS:Array (Option Value)}
    {tMn tMs tP1 tP2 tP3 tP4 tP5 tP6 tP7:Tok} {cP:Addr} {odP:Option Addr} {nP:Nat} {slP:Array (Option Value)}
    {tD aE:Addr} {ocD:Value} {odD odE:Option Addr} {nD nE:Nat} {slD slE:Array (Option Value)}
    {T cL:Addr}
{f0:Addr}
{f1:Addr}
{f2:Addr}
{f3:Addr}
{f4:Addr}
{f5:Addr}
{f6:Addr}
{f7:Addr}
{f8:Addr}
{f9:Addr}
{f10:Addr}
{f11:Addr}
{f12:Addr}
{f13:Addr}
{f14:Addr}
{f15:Addr}
{f16:Addr}
{f17:Addr}
{f18:Addr}
{f19:Addr}
{f20:Addr}
{f21:Addr}
{f22:Addr}
{f23:Addr}
{f24:Addr}
{f25:Addr}
{f26:Addr}
{f27:Addr}
{f28:Addr}
{f29:Addr}
{od30 an30:Option Addr} {sl30:Array (Option Value)} {oc30 kV30 dc30 pm30 cd30 ct30:Value} {f30:Addr}
{f31:Addr}
{od32 an32:Option Addr} {sl32:Array (Option Value)} {oc32 kV32 dc32 pm32 ct32:Value} {f32:Addr}
{f33:Addr}
{f34:Addr}
{f35:Addr}
{f36:Addr}
{f37:Addr}
{f38:Addr}
{f39:Addr}
{f40:Addr}
{f41:Addr}
{f42:Addr}
{f43:Addr}
{f44:Addr}
{f45:Addr}
{f46:Addr}
{f47:Addr}
{f48:Addr}
{f49:Addr}
{f50:Addr}
{f51:Addr}
{f52:Addr}
{f53:Addr}
{f54:Addr}
{f55:Addr}
{f56:Addr}
{f57:Addr}
{od58 an58:Option Addr} {sl58:Array (Option Value)} {oc58 kV58 dc58 pm58 cd58 ct58:Value} {f58:Addr}
    (q0:Fq K "is_whole" ib f0)
    (q1:Fq K "is_row" ku f1)
    (q2:Fq K "is_signs" ic f2)
    (q3:Fq K "is_many" i_ f3)
    (q4:Fq K "is_sign" i6 f4)
    (q5:Fq K "is_way" kt f5)
    (q6:Fq K "need_row" ia f6)
    (q7:Fq K "need_signs" fg f7)
    (q8:Fq K "need_way" h_ f8)
    (q9:Fq K "need_many" fU f9)
    (q10:Fq K "shorter_first" cZ f10)
    (q11:Fq K "cuts_of" ja f11)
    (q12:Fq K "numbers_of" ff f12)
    (q13:Fq K "list_numbers" dD f13)
    (q14:Fq K "stretches_of" dA f14)
    (q15:Fq K "list_stretches" cM f15)
    (q16:Fq K "is_pair" i9 f16)
    (q17:Fq K "how_many_ways" dc f17)
    (q18:Fq K "nth_way" iZ f18)
    (q19:Fq K "counts_up_to" dE f19)
    (q20:Fq K "ways_by_cut" dS f20)
    (q21:Fq K "way_at" kq f21)
    (q22:Fq K "joints_of" fV f22)
    (q23:Fq K "worth_of" hX f23)
    (q24:Fq K "put_sign" hZ f24)
    (q25:Fq K "find_worth" fo f25)
    (q26:Fq K "first_greatest" cN f26)
    (q27:Fq K "first_least" dW f27)
    (q28:Fq K "bounds_of" fW f28)
    (q29:Fq K "picks_of_row" dB f29)
    (a30:aaF K mainGlobals "picks_by_stretch" = some (some (.ref f30))) (l30:K.lookup f30=some ⟨oc30,od30,.func (aaW "picks_by_stretch" "picks_by_stretch" (bw a6) (a9 a6) (am a6) (.ref tD) kV30 dc30 pm30 an30 cd30 ct30),sl30⟩) (c30:abf K cd30 "picks_by_stretch" = true) (k30:aaZ K (.ref f30)=true)
    (q31:Fq K "join_picks" fk f31)
    (a32:aaF K mainGlobals "pick_three" = some (some (.ref f32))) (l32:K.lookup f32=some ⟨oc32,od32,.func (aaW "pick_three" "pick_three" (bw bo) (a9 bo) (am bo) .none kV32 dc32 pm32 an32 (.ref cL) ct32),sl32⟩) (c32:abf K (.ref cL) "pick_three" = true) (k32:aaZ K (.ref f32)=true)
    (q33:Fq K "is_holds" ie f33)
    (q34:Fq K "is_list_of_stretches" bT f34)
    (q35:Fq K "how_many_held" de f35)
    (q36:Fq K "first_held" fm f36)
    (q37:Fq K "bounds_held" dX f37)
    (q38:Fq K "greatest_held" df f38)
    (q39:Fq K "least_held" fj f39)
    (q40:Fq K "may_be_parts" dC f40)
    (q41:Fq K "must_be_parts" c_ f41)
    (q42:Fq K "need_holds" fh f42)
    (q43:Fq K "list_may_be" dU f43)
    (q44:Fq K "list_left_out" db f44)
    (q45:Fq K "do_cross" ii f45)
    (q46:Fq K "count_kept" ft f46)
    (q47:Fq K "picks_held" e_ f47)
    (q48:Fq K "way_picked" eZ f48)
    (q49:Fq K "_law_well" fX f49)
    (q50:Fq K "_law_draw" fY f50)
    (q51:Fq K "_law_row" ij f51)
    (q52:Fq K "_law_signs" fu f52)
    (q53:Fq K "_law_stretch" dF f53)
    (q54:Fq K "_law_holds" fw f54)
    (q55:Fq K "_law_free_right" cI f55)
    (q56:Fq K "_law_told_right" cH f56)
    (q57:Fq K "_law_one_more_right" bX f57)
    (a58:aaF K mainGlobals "law" = some (some (.ref f58))) (l58:K.lookup f58=some ⟨oc58,od58,.func (aaW "law" "law" (bw iC) (a9 iC) (am iC) .none kV58 dc58 pm58 an58 cd58 ct58),sl58⟩) (c58:abf K cd58 "law" = true) (k58:aaZ K (.ref f58)=true)
    (eL:aaF K mainGlobals "len" = some none)
    (eK : aaF K mainGlobals "isinstance" = some none)
    (eJ:aaF K mainGlobals "int" = some none)
    (eF:aaF K mainGlobals "bool" = some none)
    (eU:aaF K mainGlobals "str" = some none)
    (eW:aaF K mainGlobals "tuple" = some none)
    (eM:aaF K mainGlobals "list" = some none)
    (eT:aaF K mainGlobals "sorted" = some none)
    (eP:aaF K mainGlobals "range" = some none)
    (eQ:aaF K mainGlobals "repr" = some none)
    (eI:aaF K mainGlobals "enumerate" = some none)
    (eV:aaF K mainGlobals "sum" = some none)
    (eD:aaF K mainGlobals "all" = some none)
    (eO:aaF K mainGlobals "min" = some none)
    (eN:aaF K mainGlobals "max" = some none)
    (eC:aaF K mainGlobals "abs" = some none)
    (eH:aaF K mainGlobals "divmod" = some none)
    (eG:aaF K mainGlobals "dict" = some none)
    (eS:aaF K mainGlobals "set" = some none)
    (eR:aaF K mainGlobals "reversed" = some none)
    (eE:aaF K mainGlobals "any" = some none)
    (eX:aaF K mainGlobals "zip" = some none)
    (gM:aaF K mainGlobals "MOST_NUMBERS" = some (some (.int 9 tM)))
    (gS:aaF K mainGlobals "SIGNS" = some (some (.ref cS)))
    (lS:K.lookup cS=some ⟨.type "tuple",odS,.seq #[.str "+" tS1,.str "-" tS2,.str "*" tS3] nS,slS⟩)
    (gMn:aaF K mainGlobals "MOST_NUMBERS" = some (some (.int 9 tMn)))
    (gMs:aaF K mainGlobals "MOST_STRETCHES" = some (some (.int 40 tMs)))
    (gP:aaF K mainGlobals "SIGNS_TO_PUT" = some (some (.ref cP)))
    (lP:K.lookup cP=some ⟨.type "tuple",odP,.seq #[.str "+" tP1,.str "-" tP2,.str "*" tP3,.str "+-" tP4,.str "+*" tP5,.str "-*" tP6,.str "+-*" tP7] nP,slP⟩)
    (lD:K.lookup tD=some ⟨ocD,odD,.seq #[.ref aE] nD,slD⟩)
    (lE:K.lookup aE=some ⟨.type "tuple",odE,.seq #[] nE,slE⟩)
    (hC:PySem.W.codeHdIn K cL T=true) :
    ∃ fd:FuncData,(∀ (s:Shared) (v:Value),BindsTo s fd ⟨[v],[]⟩ [("script",v)])∧∀ base:Heap,K.In base→base.Ns mainGlobals mg→base.BuiltinsAt mg T→FnOk l.prog w K mg base CX0 45 fa fd ["script"] (rd K T):=by
  have e:=hfa.symm.trans (abB X G a58);cases e;obtain ⟨_,bK,cT,ea⟩:=q0.use X G (ps:=["thing"]) fun _ _ _ _ _ _ us hl=>by obtain ⟨_,rfl⟩:=us1 hl;rfl
  obtain ⟨_,bG,cK,d6⟩:=q1.use X G (ps:=["thing"]) fun _ _ _ _ _ _ us hl=>by obtain ⟨_,rfl⟩:=us1 hl;rfl
  obtain ⟨_,bI,cQ,d8⟩:=q2.use X G (ps:=["thing"]) fun _ _ _ _ _ _ us hl=>by obtain ⟨_,rfl⟩:=us1 hl;rfl
  obtain ⟨_,bE,cG,d4⟩:=q3.use X G (ps:=["thing"]) fun _ _ _ _ _ _ us hl=>by obtain ⟨_,rfl⟩:=us1 hl;rfl
  obtain ⟨_,bH,cO,d7⟩:=q4.use X G (ps:=["thing"]) fun _ _ _ _ _ _ us hl=>by obtain ⟨_,rfl⟩:=us1 hl;rfl
  obtain ⟨_,bJ,cR,d9⟩:=q5.use X G (ps:=["thing"]) fun _ _ _ _ _ _ us hl=>by obtain ⟨_,rfl⟩:=us1 hl;rfl
  obtain ⟨_,bZ,c7,em⟩:=q6.use X G (ps:=["thing"]) fun _ _ _ _ _ _ us hl=>by obtain ⟨_,rfl⟩:=us1 hl;rfl
  obtain ⟨_,b0,c8,en⟩:=q7.use X G (ps:=["thing"]) fun _ _ _ _ _ _ us hl=>by obtain ⟨_,rfl⟩:=us1 hl;rfl
  obtain ⟨_,b1,c9,eo⟩:=q8.use X G (ps:=["thing"]) fun _ _ _ _ _ _ us hl=>by obtain ⟨_,rfl⟩:=us1 hl;rfl
  obtain ⟨_,bY,c6,el⟩:=q9.use X G (ps:=["thing"]) fun _ _ _ _ _ _ us hl=>by obtain ⟨_,rfl⟩:=us1 hl;rfl
  obtain ⟨_,b9,dm,ew⟩:=q10.use X G (ps:=["many"]) fun _ _ _ _ _ _ us hl=>by obtain ⟨_,rfl⟩:=us1 hl;rfl
  obtain ⟨_,br,cu,dO⟩:=q11.use X G (ps:=["stretch"]) fun _ _ _ _ _ _ us hl=>by obtain ⟨_,rfl⟩:=us1 hl;rfl
  obtain ⟨_,b3,dd,eq⟩:=q12.use X G (ps:=["way"]) fun _ _ _ _ _ _ us hl=>by obtain ⟨_,rfl⟩:=us1 hl;rfl
  obtain ⟨_,bR,c1,eg⟩:=q13.use X G (ps:=["way"]) fun _ _ _ _ _ _ us hl=>by obtain ⟨_,rfl⟩:=us1 hl;rfl
  obtain ⟨_,ca,dn,ex⟩:=q14.use X G (ps:=["way"]) fun _ _ _ _ _ _ us hl=>by obtain ⟨_,rfl⟩:=us1 hl;rfl
  obtain ⟨_,bS,c2,eh⟩:=q15.use X G (ps:=["way","first"]) fun _ _ _ _ _ _ us hl=>by obtain ⟨_,_,rfl⟩:=us2 hl;rfl
  obtain ⟨_,bF,cJ,d5⟩:=q16.use X G (ps:=["thing"]) fun _ _ _ _ _ _ us hl=>by obtain ⟨_,rfl⟩:=us1 hl;rfl
  obtain ⟨_,bB,cD,d1⟩:=q17.use X G (ps:=["signs","many"]) fun _ _ _ _ _ _ us hl=>by obtain ⟨_,_,rfl⟩:=us2 hl;rfl
  obtain ⟨_,b2,da,ep⟩:=q18.use X G (ps:=["row","signs","number"]) fun _ _ _ _ _ _ us hl=>by obtain ⟨_,_,_,rfl⟩:=us3 hl;rfl
  obtain ⟨_,bq,ct,dN⟩:=q19.use X G (ps:=["signs","many"]) fun _ _ _ _ _ _ us hl=>by obtain ⟨_,_,rfl⟩:=us2 hl;rfl
  obtain ⟨_,ce,dt,eA⟩:=q20.use X G (ps:=["signs","counts","left","right"]) fun _ _ _ _ _ _ us hl=>by obtain ⟨_,_,_,_,rfl⟩:=us4 hl;rfl
  obtain ⟨_,cb,dp,ey⟩:=q21.use X G (ps:=["row","signs","counts","number"]) fun _ _ _ _ _ _ us hl=>by obtain ⟨_,_,_,_,rfl⟩:=us4 hl;rfl
  obtain ⟨_,bM,cW,ec⟩:=q22.use X G (ps:=["signs","counts","stretch"]) fun _ _ _ _ _ _ us hl=>by obtain ⟨_,_,_,rfl⟩:=us3 hl;rfl
  obtain ⟨_,cf,du,eB⟩:=q23.use X G (ps:=["way"]) fun _ _ _ _ _ _ us hl=>by obtain ⟨_,rfl⟩:=us1 hl;rfl
  obtain ⟨_,b8,dl,ev⟩:=q24.use X G (ps:=["left","sign","right"]) fun _ _ _ _ _ _ us hl=>by obtain ⟨_,_,_,rfl⟩:=us3 hl;rfl
  obtain ⟨_,bt,cw,dR⟩:=q25.use X G (ps:=["way"]) fun _ _ _ _ _ _ us hl=>by obtain ⟨_,rfl⟩:=us1 hl;rfl
  obtain ⟨_,bu,cx,dT⟩:=q26.use X G (ps:=["row","signs"]) fun _ _ _ _ _ _ us hl=>by obtain ⟨_,_,rfl⟩:=us2 hl;rfl
  obtain ⟨_,bx,cz,dY⟩:=q27.use X G (ps:=["row","signs"]) fun _ _ _ _ _ _ us hl=>by obtain ⟨_,_,rfl⟩:=us2 hl;rfl
  obtain ⟨_,bn,cr,dL⟩:=q28.use X G (ps:=["row","signs"]) fun _ _ _ _ _ _ us hl=>by obtain ⟨_,_,rfl⟩:=us2 hl;rfl
  obtain ⟨_,b7,dk,eu⟩:=q29.use X G (ps:=["row","signs"]) fun _ _ _ _ _ _ us hl=>by obtain ⟨_,_,rfl⟩:=us2 hl;rfl
  have b5:=v_ (st:=a6) l30 c30 k30;have dh:=b5.binds (ps:=["row","signs","left_out"]) (ds:=[]) fun _ _ _ _ _ _ s us KX hl=>match us,hl with|[_,_,_],_=>BindsTo.of_defaults rfl (KX _ _ lD) rfl rfl rfl
  have cg:=b5.binds (ps:=["row","signs","left_out"]) (ds:=[.ref aE]) fun _ _ _ _ _ _ s us KX hl=>by obtain ⟨a,b,rfl⟩:=wU hl;exact BindsTo.of_defaults rfl (KX _ _ lD) rfl rfl rfl
  have es:=abB X G a30;obtain ⟨_,bL,cV,eb⟩:=q31.use X G (ps:=["picks","joints"]) fun _ _ _ _ _ _ us hl=>by obtain ⟨_,_,rfl⟩:=us2 hl;rfl
  have b4:=wc (st:=bo) l32 c32 k32;have dg:Binds K _ ["found"] []:=.all (fun us hl=>match us,hl with|[_],_=>(rfl:bindArgs (aaW "pick_three" "pick_three" (bw bo) (a9 bo) (am bo) .none kV32 dc32 pm32 an32 (.ref cL) ct32) _=_));have er:=abB X G a32;obtain ⟨_,bC,cE,d2⟩:=q33.use X G (ps:=["thing","many"]) fun _ _ _ _ _ _ us hl=>by obtain ⟨_,_,rfl⟩:=us2 hl;rfl
  obtain ⟨_,bD,cF,d3⟩:=q34.use X G (ps:=["thing","many"]) fun _ _ _ _ _ _ us hl=>by obtain ⟨_,_,rfl⟩:=us2 hl;rfl
  obtain ⟨_,bA,cC,d0⟩:=q35.use X G (ps:=["row","signs","holds"]) fun _ _ _ _ _ _ us hl=>by obtain ⟨_,_,_,rfl⟩:=us3 hl;rfl
  obtain ⟨_,bv,cy,dV⟩:=q36.use X G (ps:=["row","signs","holds"]) fun _ _ _ _ _ _ us hl=>by obtain ⟨_,_,_,rfl⟩:=us3 hl;rfl
  obtain ⟨_,bm,cq,dK⟩:=q37.use X G (ps:=["row","signs","holds"]) fun _ _ _ _ _ _ us hl=>by obtain ⟨_,_,_,rfl⟩:=us3 hl;rfl
  obtain ⟨_,bz,cB,dZ⟩:=q38.use X G (ps:=["row","signs","holds"]) fun _ _ _ _ _ _ us hl=>by obtain ⟨_,_,_,rfl⟩:=us3 hl;rfl
  obtain ⟨_,bO,cX,ed⟩:=q39.use X G (ps:=["row","signs","holds"]) fun _ _ _ _ _ _ us hl=>by obtain ⟨_,_,_,rfl⟩:=us3 hl;rfl
  obtain ⟨_,bU,c3,ei⟩:=q40.use X G (ps:=["row","signs","holds"]) fun _ _ _ _ _ _ us hl=>by obtain ⟨_,_,_,rfl⟩:=us3 hl;rfl
  obtain ⟨_,bV,c4,ej⟩:=q41.use X G (ps:=["row","signs","holds"]) fun _ _ _ _ _ _ us hl=>by obtain ⟨_,_,_,rfl⟩:=us3 hl;rfl
  obtain ⟨_,bW,c5,ek⟩:=q42.use X G (ps:=["row","signs","thing"]) fun _ _ _ _ _ _ us hl=>by obtain ⟨_,_,_,rfl⟩:=us3 hl;rfl
  obtain ⟨_,bQ,c0,ef⟩:=q43.use X G (ps:=["many","signs","holds"]) fun _ _ _ _ _ _ us hl=>by obtain ⟨_,_,_,rfl⟩:=us3 hl;rfl
  obtain ⟨_,bP,cY,ee⟩:=q44.use X G (ps:=["many","holds"]) fun _ _ _ _ _ _ us hl=>by obtain ⟨_,_,rfl⟩:=us2 hl;rfl
  obtain ⟨_,bs,cv,dP⟩:=q45.use X G (ps:=["one","other"]) fun _ _ _ _ _ _ us hl=>by obtain ⟨_,_,rfl⟩:=us2 hl;rfl
  obtain ⟨_,bp,cs,dM⟩:=q46.use X G (ps:=["many","signs","left_out"]) fun _ _ _ _ _ _ us hl=>by obtain ⟨_,_,_,rfl⟩:=us3 hl;rfl
  obtain ⟨_,b6,di,et⟩:=q47.use X G (ps:=["row","signs","holds"]) fun _ _ _ _ _ _ us hl=>by obtain ⟨_,_,_,rfl⟩:=us3 hl;rfl
  obtain ⟨_,cd,dr,ez⟩:=q48.use X G (ps:=["row","signs","pick"]) fun _ _ _ _ _ _ us hl=>by obtain ⟨_,_,_,rfl⟩:=us3 hl;rfl
  obtain ⟨_,bl,cp,dJ⟩:=q49.use X G (ps:=["cell"]) fun _ _ _ _ _ _ us hl=>by obtain ⟨_,rfl⟩:=us1 hl;rfl
  obtain ⟨_,bd,ch,dv⟩:=q50.use X G (ps:=["well","many"]) fun _ _ _ _ _ _ us hl=>by obtain ⟨_,_,rfl⟩:=us2 hl;rfl
  obtain ⟨_,bh,cl,dz⟩:=q51.use X G (ps:=["well","many"]) fun _ _ _ _ _ _ us hl=>by obtain ⟨_,_,rfl⟩:=us2 hl;rfl
  obtain ⟨_,bi,cm,dG⟩:=q52.use X G (ps:=["well"]) fun _ _ _ _ _ _ us hl=>by obtain ⟨_,rfl⟩:=us1 hl;rfl
  obtain ⟨_,bj,cn,dH⟩:=q53.use X G (ps:=["well","many"]) fun _ _ _ _ _ _ us hl=>by obtain ⟨_,_,rfl⟩:=us2 hl;rfl
  obtain ⟨_,bf,cj,dx⟩:=q54.use X G (ps:=["well","many"]) fun _ _ _ _ _ _ us hl=>by obtain ⟨_,_,rfl⟩:=us2 hl;rfl
  obtain ⟨_,be,ci,dw⟩:=q55.use X G (ps:=["row","signs"]) fun _ _ _ _ _ _ us hl=>by obtain ⟨_,_,rfl⟩:=us2 hl;rfl
  obtain ⟨_,bk,co,dI⟩:=q56.use X G (ps:=["row","signs","holds"]) fun _ _ _ _ _ _ us hl=>by obtain ⟨_,_,_,rfl⟩:=us3 hl;rfl
  obtain ⟨_,bg,ck,dy⟩:=q57.use X G (ps:=["well","row","signs","holds"]) fun _ _ _ _ _ _ us hl=>by obtain ⟨_,_,_,_,rfl⟩:=us4 hl;rfl
  have bN:=uO (st:=iC) l58 c58 k58;have B:Bu K mg:=⟨aaA X G eL,aaA X G eK,aaA X G eJ,aaA X G eF,aaA X G eU,aaA X G eW,aaA X G eM,aaA X G eT,aaA X G eP,aaA X G eQ,aaA X G eI,aaA X G eV,aaA X G eD,aaA X G eO,aaA X G eN,aaA X G eC,aaA X G eH,aaA X G eG,aaA X G eS,aaA X G eR,aaA X G eE,aaA X G eX⟩
  have B':Co K mg tM cS:=⟨abB X G gM,abB X G gS,fun H=>.inr ⟨_,_,_,lS,rfl,rfl,by show 3≤sizeLine;decide,.cons ⟨_,rfl⟩ (.cons ⟨_,rfl⟩ (.cons ⟨_,rfl⟩ .nil))⟩⟩
  have B3:Ch K mg tMn tMs cP:=⟨abB X G gMn,abB X G gMs,abB X G gP,fun H=>.inr ⟨_,_,_,lP,rfl,rfl,by show 7≤sizeLine;decide,.cons ⟨_,rfl⟩ (.cons ⟨_,rfl⟩ (.cons ⟨_,rfl⟩ (.cons ⟨_,rfl⟩ (.cons ⟨_,rfl⟩ (.cons ⟨_,rfl⟩ (.cons ⟨_,rfl⟩ .nil))))))⟩⟩
  have hE:∀ H,SqT K H aE []:=fun H=>.inr ⟨_,_,_,lE,rfl,rfl,by show 0≤sizeLine;decide,.nil⟩;refine ⟨aaW "law" "law" (bw iC) (a9 iC) (am iC) .none kV58 dc58 pm58 an58 cd58 ct58,fun s v=>.of_eq rfl,fun base KB _ HB=>?_⟩;have Cd:=PySem.W.codeHd_of_K KB hC;have aJ:Cal l.prog w K mg base "is_whole" 1 ["thing"] (cU K):=⟨_,_,o4 bK B,cT,bK.kp,ea⟩
  have aG:Cal l.prog w K mg base "is_sign" 1 ["thing"] qb:=⟨_,_,qz bH B B',cO,bH.kp,d7⟩
  have aI:Cal l.prog w K mg base "is_way" 2 ["thing"] mZ:=⟨_,_,sR bJ B B' aJ aG,cR,bJ.kp,d9⟩
  have aX:Cal l.prog w K mg base "need_way" 3 ["thing"] d_:=⟨_,_,oZ b1 aI,c9,b1.kp,eo⟩
  have aP:Cal l.prog w K mg base "list_numbers" 21 ["way"] (j9 20):=⟨_,_,jR bR c1 eg aJ 20,c1,bR.kp,eg⟩
  have aZ:Cal l.prog w K mg base "numbers_of" 22 ["way"] fR:=⟨_,_,lQ b3 aX aP,dd,b3.kp,eq⟩
  have aj:Cal l.prog w K mg base "_law_well" 1 ["cell"] p_:=⟨_,_,vR bl B,cp,bl.kp,dJ⟩
  have ab:Cal l.prog w K mg base "_law_draw" 2 ["well","many"] g_:=⟨_,_,vT bd,ch,bd.kp,dv⟩
  have af:Cal l.prog w K mg base "_law_row" 3 ["well","many"] tU:=⟨_,_,xq bh B ab,cl,bh.kp,dz⟩
  have ag:Cal l.prog w K mg base "_law_signs" 3 ["well"] g9:=⟨_,_,nI bi ab,cm,bi.kp,dG⟩
  have aF:Cal l.prog w K mg base "is_row" 2 ["thing"] m_:=⟨_,_,sS bG B B3 aJ,cK,bG.kp,d6⟩
  have aV:Cal l.prog w K mg base "need_row" 3 ["thing"] dq:=⟨_,_,o0 bZ aF,c7,bZ.kp,em⟩
  have a5:Cal l.prog w K mg base "shorter_first" 1 ["many"] sf:=⟨_,_,ji b9 B,dm,b9.kp,ew⟩
  have aD:Cal l.prog w K mg base "is_pair" 2 ["thing"] ke:=⟨_,_,qA bF B aJ,cJ,bF.kp,d5⟩
  have aC:Cal l.prog w K mg base "is_many" 2 ["thing"] iw:=⟨_,_,qB bE B B3 aJ,cG,bE.kp,d4⟩
  have aB:Cal l.prog w K mg base "is_list_of_stretches" 3 ["thing","many"] qe:=⟨_,_,vS bD B B3 aD,cF,bD.kp,d3⟩
  have aA:Cal l.prog w K mg base "is_holds" 4 ["thing","many"] iT:=⟨_,_,o6 bC B B3 aC aB,cE,bC.kp,d2⟩
  have aH:Cal l.prog w K mg base "is_signs" 1 ["thing"] iS:=⟨_,_,o5 bI B B3,cQ,bI.kp,d8⟩
  have aW:Cal l.prog w K mg base "need_signs" 2 ["thing"] cc:=⟨_,_,lR b0 aH,c8,b0.kp,en⟩
  have aT:Cal l.prog w K mg base "need_holds" 5 ["row","signs","thing"] cA:=⟨_,_,lT bW B aV aW aA,c5,bW.kp,ek⟩
  have bb:Cal l.prog w K mg base "ways_by_cut" 1 ["signs","counts","left","right"] qY:=⟨_,_,kD ce B,dt,ce.kp,eA⟩
  have ao:Cal l.prog w K mg base "counts_up_to" 2 ["signs","many"] jy:=⟨_,_,jS bq B bb,ct,bq.kp,dN⟩
  have ap:Cal l.prog w K mg base "cuts_of" 1 ["stretch"] ni:=⟨_,_,qC br B,cu,br.kp,dO⟩
  have a4:Cal l.prog w K mg base "put_sign" 1 ["left","sign","right"] gw:=⟨_,_,oX b8,dl,b8.kp,ev⟩
  have aL:Cal l.prog w K mg base "joints_of" 2 ["signs","counts","stretch"] kc:=⟨_,_,nK bM B ap,cW,bM.kp,ec⟩
  have aK:Cal l.prog w K mg base "join_picks" 2 ["picks","joints"] xc:=⟨_,_,lV bL a4,cV,bL.kp,eb⟩
  have a0:Cal l.prog w K mg base "pick_three" 4 ["found"] (qc T):=⟨_,_,lO b4 Cd HB B.imin,dg,b4.kp,er⟩
  have aa:wE l.prog w K mg base "picks_by_stretch" 5 ["row","signs","left_out"] (mf (K:=K) T) [.ref aE]:=⟨_,_,_,dj b5 B ao a5 aL aK a0,cg,.cons rfl .nil,b5.kp,es⟩
  have a1:Cal l.prog w K mg base "picks_by_stretch" 5 ["row","signs","left_out"] (mf (K:=K) T):=⟨_,_,dj b5 B ao a5 aL aK a0,dh,b5.kp,es⟩
  have al:Cal l.prog w K mg base "bounds_of" 6 ["row","signs"] (kg T):=⟨_,_,nM bn B hE aV aW aa,cr,bn.kp,dL⟩
  have a8:Cal l.prog w K mg base "way_at" 11 ["row","signs","counts","number"] (gZ 9):=⟨_,_,sQ cb dp ey B bb 9,dp,cb.kp,ey⟩
  have aq:Cal l.prog w K mg base "do_cross" 1 ["one","other"] nz:=⟨_,_,o7 bs,cv,bs.kp,dP⟩
  have aN:Cal l.prog w K mg base "list_left_out" 2 ["many","holds"] sg:=⟨_,_,o3 bP B a5 aq,cY,bP.kp,ee⟩
  have an:Cal l.prog w K mg base "count_kept" 2 ["many","signs","left_out"] tY:=⟨_,_,lZ bp B a5 ap,cs,bp.kp,dM⟩
  have a2:Cal l.prog w K mg base "picks_held" 6 ["row","signs","holds"] (iU T):=⟨_,_,lN b6 B aT aN a1,di,b6.kp,et⟩
  have ba:Cal l.prog w K mg base "way_picked" 12 ["row","signs","pick"] fQ:=⟨_,_,lL cd B a8 ao,dr,cd.kp,ez⟩
  have ak:Cal l.prog w K mg base "bounds_held" 7 ["row","signs","holds"] (jK T wF):=⟨_,_,kG bm B a2,cq,bm.kp,dK⟩
  have ax:Cal l.prog w K mg base "greatest_held" 13 ["row","signs","holds"] (jK T fun H ns gs L x=>pU H ns gs L (-1) x):=⟨_,_,jo bz B a2 ba,cB,bz.kp,dZ⟩
  have aM:Cal l.prog w K mg base "least_held" 13 ["row","signs","holds"] (jK T fun H ns gs L x=>pU H ns gs L 1 x):=⟨_,_,lU bO B a2 ba,cX,bO.kp,ed⟩
  have a3:Cal l.prog w K mg base "picks_of_row" 6 ["row","signs"] (q_ T):=⟨_,_,jP b7 B hE aV aW aa,dk,b7.kp,eu⟩
  have au:Cal l.prog w K mg base "first_greatest" 12 ["row","signs"] (sh T (-1)):=⟨_,_,iH bu B a3 a8 ao,cx,bu.kp,dT⟩
  have aw:Cal l.prog w K mg base "first_least" 12 ["row","signs"] (sh T 1):=⟨_,_,kF bx B a3 a8 ao,cz,bx.kp,dY⟩
  have ay:Cal l.prog w K mg base "how_many_held" 6 ["row","signs","holds"] j_:=⟨_,_,jn bA B aT an aN,cC,bA.kp,d0⟩
  have av:Cal l.prog w K mg base "first_held" 13 ["row","signs","holds"] (jV T):=⟨_,_,lX bv B a2 ba,cy,bv.kp,dV⟩
  have aU:Cal l.prog w K mg base "need_many" 3 ["thing"] g0:=⟨_,_,nH bY aC,c6,bY.kp,el⟩
  have aY:Cal l.prog w K mg base "nth_way" 12 ["row","signs","number"] tV:=⟨_,_,qy b2 B aV aW ao aJ a8,da,b2.kp,ep⟩
  have az:Cal l.prog w K mg base "how_many_ways" 4 ["signs","many"] tX:=⟨_,_,jk bB aW aU ao,cD,bB.kp,d1⟩
  have ar:Cal l.prog w K mg base "find_worth" 10 ["way"] (nh 9):=⟨_,_,lY bt cw dR aJ a4 9,cw,bt.kp,dR⟩
  have bc:Cal l.prog w K mg base "worth_of" 11 ["way"] iR:=⟨_,_,oW cf aX ar,du,cf.kp,eB⟩
  have aQ:Cal l.prog w K mg base "list_stretches" 42 ["way","first"] (mY 20):=⟨_,_,iG bS c2 eh B aJ aP 20,c2,bS.kp,eh⟩
  have a7:Cal l.prog w K mg base "stretches_of" 43 ["way"] dQ:=⟨_,_,jO ca B aX aQ,dn,ca.kp,ex⟩
  have aO:Cal l.prog w K mg base "list_may_be" 3 ["many","signs","holds"] mX:=⟨_,_,kE bQ B a5 aN an,c0,bQ.kp,ef⟩
  have aR:Cal l.prog w K mg base "may_be_parts" 6 ["row","signs","holds"] tW:=⟨_,_,jQ bU B aT aO,c3,bU.kp,ei⟩
  have aS:Cal l.prog w K mg base "must_be_parts" 6 ["row","signs","holds"] qd:=⟨_,_,jj bV B aT aO aN an,c4,bV.kp,ej⟩
  have ah:Cal l.prog w K mg base "_law_stretch" 3 ["well","many"] qZ:=⟨_,_,qx bj ab,cn,bj.kp,dH⟩
  have ad:Cal l.prog w K mg base "_law_holds" 4 ["well","many"] ng:=⟨_,_,nJ bf B ab ah,cj,bf.kp,dx⟩
  have ac:Cal l.prog w K mg base "_law_free_right" 14 ["row","signs"] (xf T):=⟨_,_,lW be B ay az av aY ax au aM aw ak al,ci,be.kp,dw⟩
  have ai:Cal l.prog w K mg base "_law_told_right" 44 ["row","signs","holds"] (w_ T):=⟨_,_,lM bk B ay av ax aM ak a7 aZ bc,co,bk.kp,dI⟩
  have ae:Cal l.prog w K mg base "_law_one_more_right" 7 ["well","row","signs","holds"] xa:=⟨_,_,oY bg B ah ay aR aS,ck,bg.kp,dy⟩
  exact xr bN B aj ab af ag ad ac ai ae
theorem walk {T c:Addr} {l:PySem.W.OpenLaw} {q:Program} {loose:List Str} {XP:(Str→Option Value)→Heap→Prop} {YP:World→Heap→Prop} {d:DefRec} {K:Params→aaa} (hn:l.most=some 63) (hdf:d.params.defaults=[]) (hi:PyProof.Rows.importsNone q=true)
    (hY:∀ (w:World) (h:Heap),YP w h→(K w.params).In h∧h.get? T=some (PySem.W.tabObj #[])) (hC:∀ w:World,PySem.W.codeHdIn (K w.params) c T=true) (hKT:∀ w:World,(K w.params).lookup T=none)
    (F:∀ (w:World) (mg:Str→Option Value) (fa:Addr) (h:Heap),(K w.params).In h→h.Ns mainGlobals mg→mg d.name=some (.ref fa) →
      ∃ fd:FuncData,(∀ (s:Shared) (u:Value),BindsTo s fd ⟨[u],[]⟩ [("script",u)])∧∀ base:Heap,(K w.params).In base→base.Ns mainGlobals mg→base.BuiltinsAt mg T→FnOk l.prog w (K w.params) mg base CX0 45 fa fd ["script"] (rd (K w.params) T)) :
    PySem.W.WalkO q loose XP YP l.row.toRowW d [] (fun f vs=>PySem.call f vs) :=
  L2.walk_ofT (T:=T) (c:=c) (qual:=yr) (n:=63) (k:=45) (x:="script") (CX:=fun _=>CX0) (sp:=fun w=>rd (K w.params) T) hn (by decide) hdf ⟨rfl,by decide,by decide,rfl⟩ hi hY hC hKT F (fun _ _ a ns hl hT hS=>⟨a,ns,rfl,hS,hl,⟨_,hT⟩,fun _=>rfl⟩) fun _ _ _ _ _ z=>z
end Put
namespace PySem.W.Fast
def tw17171766326274129357:=0
def tw14702438587049088174:=0
def tw16344069849944117223:=0
def tw3127726504332898358:=0
def tw3347343572231491923:=0
def tw17091030492550040495:=0
def tw17694825390405075979:=0
def tw14053617289595672844:=0
def tw17433304051632674234:=0
def tw2076939983534836786:=0
def tw4476097656338476703:=0
def tw16282852541206680258:=0
def tw2729927769319348591:=0
def tw18307437849300372819:=0
def tw12953968833340275862:=0
def tw3770235875102077272:=0
def tw7386188058839699510:=0
def tw17369685911200334446:=0
def tw6518842563910791189:=0
def tw16524705302088936429:=0
def tw8663724660609055890:=0
def tw3022470580100849908:=0
def tw5039432994983483181:=0
def tw6237728725605053564:=0
def tw12844128684124185220:=0
def tw15798625258223615904:=0
def tw16573785735483744448:=0
def tw8109298387768191553:=0
def tw2966635020500990086:=0
def tw4737005268568265306:=0
def tw7709173559830232411:=0
def tw14087441834850988274:=0
def tw10704697341575563887:=0
def tw3726672771811928043:=0
def tw296374239654110789:=0
def tw2305400474191935499:=0
def tw18418795477107578799:=0
def tw1975292667864701344:=0
def tw15744222153871146792:=0
def tw6888262359275221417:=0
def tw4198426463575811082:=0
def tw15624394474481429079:=0
def tw2978615453615803924:=0
def tw9145348574913924659:=0
def tw4449485436899770618:=0
def tw7059489068920879139:=0
def tw5141473997738862659:=0
def tw4492505971319470492:=0
def tw2850535291927259291:=0
def tw8302304964644013436:=0
def tw3554086339294732117:=0
def tw3908750299133479292:=0
def tw16027853223029601422:=0
def tw4432031883712848537:=0
def tw14349075895462988001:=0
def tw15240809549912391079:=0
def tw3185189537631240003:=0
def tw1905208772483354088:=0
def tw13326366625410587634:=0
def tw10032703811272104625:=0
def tw14340624584965240751:=0
def tw7392229381305835025:=0
def tw6559869944628792017:=0
def tw8668410567656091794:=0
def tw10926370744485990050:=0
def tw10555676655872046132:=0
def tw6309477645399630845:=0
def tw17298564214834539590:=0
def tw6684652017554278905:=0
def tw2403479595925206209:=0
def tw11005323832026464355:=0
def tw456172091336663532:=0
def tw2681225258480479366:=0
def tw3237242645209480561:=0
def tw17035144872281724079:=0
def tw12989383413679365354:=0
def tw16250933813251869470:=0
def tw12477982537928696369:=0
def tw14658169911985346238:=0
def tw542221084613374003:=0
def tw13585505280276962342:=0
def tw16206391440191596139:=0
def tw15636480334642921798:=0
def tw16452176706573413826:=0
def tw15874403044049718391:=0
def tw15345399294977557557:=0
def tw1289086208035832720:=0
def tw16917595761156003987:=0
def tw3594676249884969930:=0
def tw4574861662138417192:=0
def tw6495313518705157853:=0
def tw10548144647288820316:=0
def tw10054813625331694822:=0
def tw12485493555939041413:=0
def tw15734438697694547241:=0
def tw5612521106151418590:=0
def tw15027084605859896757:=0
def tw16086811184486331874:=0
def tw1936500174073163341:=0
def tw11992739788440612600:=0
def tw2960208610405343424:=0
def tw13407876078480395452:=0
def tw17435141713588896163:=0
def tw3206781881657518733:=0
def tw14529326684079302551:=0
def tw564465754401700897:=0
def tw16686346380328867978:=0
def tw16442828805925987209:=0
def tw11220330505388349104:=0
def tw14226933720532969589:=0
def tw12600838301542815697:=0
def tw1060194906700329908:=0
def tw5505173906028037749:=0
def tw11463687402528247028:=0
def tw10744389496030447437:=0
def tw16630770933362417435:=0
def tw16017340364660822666:=0
def tw8809636462725716592:=0
def tw641880401760797773:=0
def tw8835608113699323203:=0
def tw7045123197581853730:=0
def tw1121169582359467315:=0
def tw15626550212117017657:=0
def tw18177788785563650213:=0
def tw11424949280926950886:=0
def tw339419407775316446:=0
def tw7284623081057232187:=0
def tw14684397874806587794:=0
def tw6903695799823923393:=0
def tw8228133456071536040:=0
def tw14931535060664422155:=0
def tw18152824924063224869:=0
def tw5914051552023286037:=0
def tw4883594079230734227:=0
def tw625621868416925083:=0
def tw11362419073045680217:=0
def tw5531481253371364783:=0
def tw16259479463085812994:=0
def tw16329068441034930697:=0
def tw7909594792616924990:=0
def tw3518691565608677133:=0
def tw9391217858984786969:=0
def tw15301960124230818744:=0
def tw16054288041898078615:=0
def tw10088163721846013539:=0
def tw11302357584446027022:=0
def tw9281448813257929757:=0
def tw4916597891698080588:=0
def tw6934041094162078389:=0
def tw13879963519025544151:=0
def tw18038053842872907563:=0
def tw13992101625965858778:=0
def tw17774037885888714084:=0
def tw7350451810404761726:=0
def tw17277323619242295880:=0
def tw6033791800274729072:=0
def tw8221577955281208426:=0
def tw11942025442375066518:=0
def tw12862754323757344510:=0
def tw15317680255491866125:=0
def tw5488409553716202942:=0
def tw9814180278126591797:=0
def tw14939332054708268277:=0
def tw16024217234807443330:=0
def tw4898526869371491394:=0
def tw14775362050639384122:=0
def tw16148933236087362101:=0
def tw7844464391290102032:=0
def tw22141406685514519:=0
def tw4464687758363484579:=0
def tw3893320544965349639:=0
def tw11709941067521236546:=0
def tw1382806904268671331:=0
def tw8304793899586139379:=0
def tw5316668452494364382:=0
def tw1167672066050219653:=0
def tw2505949512044735903:=0
def tw17810417368956457623:=0
def tw17849508587396006995:=0
def tw5570192258890038155:=0
def tw11742531200444934383:=0
def tw16384487780441307387:=0
def tw10021824114190184666:=0
def tw13919249322344319503:=0
def tw12378349872350987111:=0
def tw7258010547873406031:=0
def tw16559365415276996801:=0
def tw4358614655022885877:=0
def tw16660491487976130050:=0
def tw12518581909990242735:=0
def tw8204357076687944174:=0
def tw8873444823143010108:=0
def tw1427030232805250660:=0
def tw9419800509732001801:=0
def tw9392165332453016377:=0
def tw3903814261494751100:=0
def tw14368549148005952539:=0
def tw9260113624625418134:=0
def tw9376396428366584949:=0
def tw7773887606631021154:=0
def tw4276516813327425193:=0
def tw3830681397767923429:=0
def tw14505457190727319983:=0
def tw15928201077926389196:=0
def tw4807971497928009925:=0
def tw13745128234815599080:=0
def tw14022747813125180086:=0
def tw827289917830795951:=0
def tw4080523223545442148:=0
def tw2107371725209265199:=0
def tw15860678683752277198:=0
def tw566646701327908957:=0
def tw2168679275241892869:=0
def tw3427008985120212221:=0
def tw12214238464776064564:=0
def tw15841422322391844021:=0
def tw9837363328395699790:=0
def tw9170690403745273953:=0
def tw2026330714434905231:=0
def tw1557565015635312217:=0
def tw15835611736902402480:=0
def tw17297666490983269770:=0
def tw1032540516223413611:=0
def tw3357367747425428552:=0
def tw970146801990253128:=0
def tw3155510524076422674:=0
def tw7508313497660192608:=0
def tw448242157336102921:=0
def tw5520927124822137826:=0
def tw4866388505923837372:=0
def tw94805080287098038:=0
def tw18047364184247697917:=0
def tw11528958538161975363:=0
def tw7669039695781730130:=0
def tw6220085209335935680:=0
def tw17036042183196807064:=0
def tw13561958559508914640:=0
def tw8470361231959696442:=0
def tw7089903384064808852:=0
def tw14761991208742233745:=0
def tw8073196946673210190:=0
def tw13939803518722674335:=0
def tw9251185307701754517:=0
def tw8372677336390602067:=0
def tw18208983526785237573:=0
def tw11785021333167492892:=0
def tw13309542592526220839:=0
def tw8601726442994629211:=0
def tw12903549461360599290:=0
def tw9040611357109185342:=0
def tw373595059818947683:=0
def tw1757085047472051814:=0
def tw9200953397684321403:=0
def tw14188814725429277265:=0
def tw13323242997412435832:=0
def tw10899580115756277342:=0
def tw15586026833371772497:=0
def tw15721431558887556193:=0
def tw6767099596812030690:=0
def tw9045022049267332602:=0
def tw8689407822571687781:=0
def tw10625131711765903399:=0
def tw7975237968050816819:=0
def tw11049433465806170002:=0
def tw6295267023112225341:=0
def tw11961381026595549313:=0
def tw17794501339881223930:=0
def tw18027077914599371147:=0
def tw5803603624143357613:=0
def tw15987081175741658310:=0
def tw2223787898358821979:=0
def tw8999689500455219079:=0
def tw14241028090366746366:=0
def tw13110152483919918668:=0
def tw6124717989735669277:=0
def tw9039957810002382555:=0
def tw9606068538910328300:=0
def tw13413762313098419928:=0
def tw17554858232584460054:=0
def tw11062708851476239363:=0
def tw2278262935950523376:=0
def tw14168516984161858286:=0
def tw9023411733459745297:=0
def tw2183929661154622890:=0
def tw5364272974306707118:=0
def tw14647397912606341156:=0
def tw13752175393059551525:=0
def tw1081094358663500464:=0
def tw7868421015166837360:=0
def tw1390022519381503000:=0
def tw11832421801119943493:=0
def tw11309699289516805225:=0
def tw18109770664950236562:=0
def tw12546359133791898898:=0
def tw4508244307404296310:=0
def tw4468536711348233934:=0
def tw12050885403767843654:=0
def tw3843024909741643935:=0
def tw1952177817281593908:=0
def tw4833111253876360148:=0
end PySem.W.Fast
open PySem PySem.W PyProof.Rows
set_option maxRecDepth 100000 in
set_option maxHeartbeats 0 in
theorem PySem.Challenge.cw_putsigns_k43_whole_held_and_barred_holds : PySem.Challenge.rw_putsigns_k43_whole_held_and_barred.Holds := by
  w_on;o_law;k_head;(case hw=>w_witness2)
  k_fill
  refine Put.walk (T:=305) (c:=309) (l:=PySem.Challenge.rw_putsigns_k43_whole_held_and_barred) rfl rfl ?hi (fun w h Y=>⟨PySem.W.km_in_of Y,PySem.W.km_tabs_of Y 305 (by simp)⟩) (fun w=>rfl) (fun w=>rfl) ?F
  case hi=>first|rfl|decide +kernel
  case F =>
    intro w mg fa h KX G hmg;refine' Put.all_mk (T:=305) (cL:=309) KX G hmg ?q0 ?q1 ?q2 ?q3 ?q4 ?q5 ?q6 ?q7 ?q8 ?q9 ?q10 ?q11 ?q12 ?q13 ?q14 ?q15 ?q16 ?q17 ?q18 ?q19 ?q20 ?q21 ?q22 ?q23 ?q24 ?q25 ?q26 ?q27 ?q28 ?q29 ?a30 ?l30 ?c30 ?k30 ?q31 ?a32 ?l32 ?c32 ?k32 ?q33 ?q34 ?q35 ?q36 ?q37 ?q38 ?q39 ?q40 ?q41 ?q42 ?q43 ?q44 ?q45 ?q46 ?q47 ?q48 ?q49 ?q50 ?q51 ?q52 ?q53 ?q54 ?q55 ?q56 ?q57 ?a58 ?l58 ?c58 ?k58 ?z_len ?z_isinstance ?z_int ?z_bool ?z_str ?z_tuple ?z_list ?z_sorted ?z_range ?z_repr ?z_enumerate ?z_sum ?z_all ?z_min ?z_max ?z_abs ?z_divmod ?z_dict ?z_set ?z_reversed ?z_any ?z_zip ?gM ?gS ?lS ?gMn ?gMs ?gP ?lP ?lD ?lE ?hC
    (case q0=>exact L2.Fq.mk4 (by k_is) (by k_is) (by k_is) (by k_is))
    (case q1=>exact L2.Fq.mk4 (by k_is) (by k_is) (by k_is) (by k_is))
    (case q2=>exact L2.Fq.mk4 (by k_is) (by k_is) (by k_is) (by k_is))
    (case q3=>exact L2.Fq.mk4 (by k_is) (by k_is) (by k_is) (by k_is))
    (case q4=>exact L2.Fq.mk4 (by k_is) (by k_is) (by k_is) (by k_is))
    (case q5=>exact L2.Fq.mk4 (by k_is) (by k_is) (by k_is) (by k_is))
    (case q6=>exact L2.Fq.mk4 (by k_is) (by k_is) (by k_is) (by k_is))
    (case q7=>exact L2.Fq.mk4 (by k_is) (by k_is) (by k_is) (by k_is))
    (case q8=>exact L2.Fq.mk4 (by k_is) (by k_is) (by k_is) (by k_is))
    (case q9=>exact L2.Fq.mk4 (by k_is) (by k_is) (by k_is) (by k_is))
    (case q10=>exact L2.Fq.mk4 (by k_is) (by k_is) (by k_is) (by k_is))
    (case q11=>exact L2.Fq.mk4 (by k_is) (by k_is) (by k_is) (by k_is))
    (case q12=>exact L2.Fq.mk4 (by k_is) (by k_is) (by k_is) (by k_is))
    (case q13=>exact L2.Fq.mk4 (by k_is) (by k_is) (by k_is) (by k_is))
    (case q14=>exact L2.Fq.mk4 (by k_is) (by k_is) (by k_is) (by k_is))
    (case q15=>exact L2.Fq.mk4 (by k_is) (by k_is) (by k_is) (by k_is))
    (case q16=>exact L2.Fq.mk4 (by k_is) (by k_is) (by k_is) (by k_is))
    (case q17=>exact L2.Fq.mk4 (by k_is) (by k_is) (by k_is) (by k_is))
    (case q18=>exact L2.Fq.mk4 (by k_is) (by k_is) (by k_is) (by k_is))
    (case q19=>exact L2.Fq.mk4 (by k_is) (by k_is) (by k_is) (by k_is))
    (case q20=>exact L2.Fq.mk4 (by k_is) (by k_is) (by k_is) (by k_is))
    (case q21=>exact L2.Fq.mk4 (by k_is) (by k_is) (by k_is) (by k_is))
    (case q22=>exact L2.Fq.mk4 (by k_is) (by k_is) (by k_is) (by k_is))
    (case q23=>exact L2.Fq.mk4 (by k_is) (by k_is) (by k_is) (by k_is))
    (case q24=>exact L2.Fq.mk4 (by k_is) (by k_is) (by k_is) (by k_is))
    (case q25=>exact L2.Fq.mk4 (by k_is) (by k_is) (by k_is) (by k_is))
    (case q26=>exact L2.Fq.mk4 (by k_is) (by k_is) (by k_is) (by k_is))
    (case q27=>exact L2.Fq.mk4 (by k_is) (by k_is) (by k_is) (by k_is))
    (case q28=>exact L2.Fq.mk4 (by k_is) (by k_is) (by k_is) (by k_is))
    (case q29=>exact L2.Fq.mk4 (by k_is) (by k_is) (by k_is) (by k_is))
    (case a30=>k_is)
    (case l30=>k_is)
    (case c30=>k_is)
    (case k30=>k_is)
    (case q31=>exact L2.Fq.mk4 (by k_is) (by k_is) (by k_is) (by k_is))
    (case a32=>k_is)
    (case l32=>k_is)
    (case c32=>k_is)
    (case k32=>k_is)
    (case q33=>exact L2.Fq.mk4 (by k_is) (by k_is) (by k_is) (by k_is))
    (case q34=>exact L2.Fq.mk4 (by k_is) (by k_is) (by k_is) (by k_is))
    (case q35=>exact L2.Fq.mk4 (by k_is) (by k_is) (by k_is) (by k_is))
    (case q36=>exact L2.Fq.mk4 (by k_is) (by k_is) (by k_is) (by k_is))
    (case q37=>exact L2.Fq.mk4 (by k_is) (by k_is) (by k_is) (by k_is))
    (case q38=>exact L2.Fq.mk4 (by k_is) (by k_is) (by k_is) (by k_is))
    (case q39=>exact L2.Fq.mk4 (by k_is) (by k_is) (by k_is) (by k_is))
    (case q40=>exact L2.Fq.mk4 (by k_is) (by k_is) (by k_is) (by k_is))
    (case q41=>exact L2.Fq.mk4 (by k_is) (by k_is) (by k_is) (by k_is))
    (case q42=>exact L2.Fq.mk4 (by k_is) (by k_is) (by k_is) (by k_is))
    (case q43=>exact L2.Fq.mk4 (by k_is) (by k_is) (by k_is) (by k_is))
    (case q44=>exact L2.Fq.mk4 (by k_is) (by k_is) (by k_is) (by k_is))
    (case q45=>exact L2.Fq.mk4 (by k_is) (by k_is) (by k_is) (by k_is))
    (case q46=>exact L2.Fq.mk4 (by k_is) (by k_is) (by k_is) (by k_is))
    (case q47=>exact L2.Fq.mk4 (by k_is) (by k_is) (by k_is) (by k_is))
    (case q48=>exact L2.Fq.mk4 (by k_is) (by k_is) (by k_is) (by k_is))
    (case q49=>exact L2.Fq.mk4 (by k_is) (by k_is) (by k_is) (by k_is))
    (case q50=>exact L2.Fq.mk4 (by k_is) (by k_is) (by k_is) (by k_is))
    (case q51=>exact L2.Fq.mk4 (by k_is) (by k_is) (by k_is) (by k_is))
    (case q52=>exact L2.Fq.mk4 (by k_is) (by k_is) (by k_is) (by k_is))
    (case q53=>exact L2.Fq.mk4 (by k_is) (by k_is) (by k_is) (by k_is))
    (case q54=>exact L2.Fq.mk4 (by k_is) (by k_is) (by k_is) (by k_is))
    (case q55=>exact L2.Fq.mk4 (by k_is) (by k_is) (by k_is) (by k_is))
    (case q56=>exact L2.Fq.mk4 (by k_is) (by k_is) (by k_is) (by k_is))
    (case q57=>exact L2.Fq.mk4 (by k_is) (by k_is) (by k_is) (by k_is))
    (case a58=>k_is)
    (case l58=>k_is)
    (case c58=>k_is)
    (case k58=>k_is)
    (case z_len=>k_is)
    (case z_isinstance=>k_is)
    (case z_int=>k_is)
    (case z_bool=>k_is)
    (case z_str=>k_is)
    (case z_tuple=>k_is)
    (case z_list=>k_is)
    (case z_sorted=>k_is)
    (case z_range=>k_is)
    (case z_repr=>k_is)
    (case z_enumerate=>k_is)
    (case z_sum=>k_is)
    (case z_all=>k_is)
    (case z_min=>k_is)
    (case z_max=>k_is)
    (case z_abs=>k_is)
    (case z_divmod=>k_is)
    (case z_dict=>k_is)
    (case z_set=>k_is)
    (case z_reversed=>k_is)
    (case z_any=>k_is)
    (case z_zip=>k_is)
    (case gM=>k_is)
    (case gS=>k_is)
    (case lS=>k_is)
    (case gMn=>k_is)
    (case gMs=>k_is)
    (case gP=>k_is)
    (case lP=>k_is)
    (case lD=>k_is)
    (case lE=>k_is)
    (case hC=>exact rfl)

