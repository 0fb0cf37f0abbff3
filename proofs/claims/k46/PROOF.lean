import PyProof.Rows.All
import Wide.All
import OpenK.AllK
import Wide.FinOn
import Lean
import PyProof.EqAt
import PyProof.EqKinds
import PyProof.TupleCall
import PyProof.Rows.RuleB_bool
import PySem.Challenge.RW_putsigns_k46_papers_of_rests_looked_at
open List renaming length_map → aaa, getElem?_eq_getElem → aac, map_cons → aae, mem_cons → aai, mem_cons_of_mem → aaj, getElem?_map → aak, size_toArray → aam, mem_cons_self → aan, mem_of_getElem? → aap, mem_map → aar, getD_eq_getElem?_getD → aat, mem_singleton → aau, length_append → aaw, mem_append_right → aax, mem_append → aay, getElem?_eq_some_iff → aaA, length_cons → aaC, take_add_one → aaE, map_append → aaG, mem_range → aaK, length_take → aaL, map_map → aaM, range → aaO, take_length → aaT, all_eq_true → aaU, not_mem_nil → aaV, replicate → aaZ, take_of_length_le → aa3, getElem?_eq_none → aa6, Nodup → aa7, length_eq_zero_iff → aa8, nodup_cons → aa9, append_assoc → abb, length_range → abc, find?_cons → abe, length_drop → abh, map_nil → abk, filterMap_cons → abo, getElem?_range → abp, mem_iff_getElem? → abq, getElem_mem → abA, length → abJ, length_nil → abO, length_filter_le → abW, mem_append_left → ab3, range_succ → ab6, mem_map_of_mem → aca, replicate_succ → acb, filter_cons → acd, length_pos_of_mem → ack, zip_cons_cons → acn, flatMap_append → acB, any_cons → acI, append_nil → acJ, eraseIdx_cons_succ → acK, getElem?_cons_succ → acL, mem_filter → acM, all_eq_false → acV, flatten_cons → acW, nodup_nil → ac0, all_map → ac4, filterMap_append → ac5, length_singleton → ac6, all_cons → ada, mem_filterMap → adf
open PySem.W renaming Frag → aab, mg_none_of → aaI, nsIn → aaP, kia_one → abg, kia_tup → abn, keepIn → abF, fnOf → abH, codeIn → acg, kitOne → ach, kitx_dict → acv, mg_of → acQ, kitx_list → acY, findIn → ac2, Looks → ade
open PySem.Heap renaming get?_push_of_some → aad, lt_size → aal, get?_push_size → aao, SameBut → aaY, get?_update_self → aa5, size_push → ab1
open Nat renaming le_refl → aaf, lt_of_lt_of_le → aas, ne_of_lt → aaB, le_trans → aa1, zero_le → aa4, ne_of_gt → abr, lt_irrefl → abE, le_of_lt → abX, lt_of_le_of_lt → abY, pow_le_pow_right → ab4, lt_succ_self → ace, lt_or_ge → acp, not_lt_zero → acq, le_succ → acC, min_eq_left → acN, mul_le_mul → ac1, lt_trans → ac7, le_add_right → ac9, not_lt → adh
open Bool renaming false_ne_true → aag, false_eq_true → aaH, and_eq_true → aaS, eq_iff_iff → abl, true_and → abS, and_false → acz
open PyProof.Rows renaming boot_isinstance → aah, boot_list → aaQ, boot_dict → abd, callWith_type1 → abf, boot_all → abt, boot_int → abu, boot_tuple → abx, boot_bool → abC, boot_sorted → abI, boot_str → acs
open Array renaming length_toList → aaq, getElem?_toList → aaD, getElem?_eq_getElem → aaW, getD_eq_getD_getElem? → abN, getElem?_eq_none → acj
open PySem.Paired renaming length → aav
open Option renaming map_eq_some_iff → aaz, isSome_iff_exists → acE, toList → adc
open PySem.PyData renaming depthAll → aaF, depth → aa0, depthKv → ab2, showable → ab7, shownAll → acP
open PySem.PassesOwn renaming never → aaJ
open PySem renaming boot_len → aaN, mem_of_lookup → abD
open PySem.Heap.SameBut renaming update → aaR
open PySem.SetTable renaming below → aaX, bits → abM, runEnd → abP, advance → acf, grown → aci, turns → acA, has → ac8
open Option.some renaming inj → aa2
open Int renaming toNat_natCast → aba, emod_lt_of_pos → abV, emod_nonneg → aco
open PySem.Builtin.Range renaming rangeSize → abi, small → ab9
open Classical renaming propDecidable → abj, byContradiction → ab0
open Ne renaming symm → abm
open PySem.Builtin.Dict_items renaming ownsTuple → abv
open PySem.Builtin.Dict renaming updateFrom → abw, showsAll → abT, takeOut → acw, selfAndRest → acD
open PySem.F renaming plainAttrs_list → aby, slot_dict_valueiterator_next → abG, slot_dict_keyiterator_next → abK, plainAttrs_dict → abL, slot_dict_pop → act, slot_list_append → acF, type_list_append → acG, args_dict_valueiterator_next_1 → acR, entry_dict_valueiterator_next → acT, slot_dict_getitem → adg
open PySem.Around renaming under_plainId → abz
open PySem.Str renaming ofString → abB
open PySem.Calls renaming callWith_builtin → abQ, spliced_cons → abU, evalArgs_plain → acx, spliced_nil → acS
open PySem.SetTable.layClean renaming free → abR
open PySem.Builtin.Tuple renaming tupleHashOf → abZ
open PySem.Builtin.List renaming listTooLong → ab5
open PySem.SetTable.probe renaming go → ab8
open PySem.Code renaming quiet_builtin → acl
open List.Nodup renaming sublist → acm
open Nat.succ renaming inj → acr
open False renaming elim → acu
open PySem.Obj renaming data_mapDictKeys → acy, data_mapFields → acO, mapSeq → acX, mapFields → adb
open PyProof.Rows.F renaming plain_set_update_loop → acH
open List.Pairwise renaming map → acU, sublist → ac3
open PySem.Value renaming isInt_shape → acZ
set_option Elab.async false
set_option linter.all false
set_option maxRecDepth 100000
namespace L2
open PySem PySem.Spec PyProof.Rows
abbrev Key:=Sum Int Str
def gZ:Key→Value→Bool
  | .inl k,v=>Value.isInt k v
  | .inr x,v=>Value.isStrOf x v
def xt (w:World):Key→Int
  | .inl k=>hashInt k
  | .inr x=>hashStr w x
theorem aW:∀ {k:Key} {v:Value},gZ k v=true→(∃ i t,k=Sum.inl i∧v=Value.int i t)∨(∃ x t,k=Sum.inr x∧v=Value.str x t)
  | .inl i,v,h=>by
    obtain ⟨t,e⟩:=acZ (k:=i) (v:=v) h;exact .inl ⟨i,t,rfl,e⟩
  | .inr x,v,h=>by
    obtain ⟨t,e⟩:=Value.isStrOf_shape (x:=x) (v:=v) h;exact .inr ⟨x,t,rfl,e⟩
theorem p8 (i:Int) (t:Tok):gZ (.inl i) (.int i t)=true:=by simp [gZ,Value.isInt]
theorem pZ (x:Str) (t:Tok):gZ (.inr x) (.str x t)=true:=by simp [gZ,Value.isStrOf]
theorem vE (a b:Int):decide ((Sum.inl a:Key)=Sum.inl b)=(a == b):=by
  by_cases e:a=b
  · subst e;simp
  · have h:¬ (Sum.inl a:Key)=Sum.inl b:=fun q=>e (Sum.inl.inj q);rw [decide_eq_false h];exact (beq_eq_false_iff_ne.mpr e).symm
theorem vB (a b:Str):decide ((Sum.inr a:Key)=Sum.inr b)=decide (a=b):=by
  by_cases e:a=b
  · subst e;simp
  · have h:¬ (Sum.inr a:Key)=Sum.inr b:=fun q=>e (Sum.inr.inj q);rw [decide_eq_false h,decide_eq_false e]
theorem vD (a:Int) (b:Str):decide ((Sum.inl a:Key)=Sum.inr b)=false:=decide_eq_false (fun q=>nomatch q)
theorem vC (a:Str) (b:Int):decide ((Sum.inr a:Key)=Sum.inl b)=false:=decide_eq_false (fun q=>nomatch q)
def ar (prog:Program) (w:World):PySem.KeyKind prog w Key where
  is:=gZ
  hash:=xt w
  inj:=fun v a b ha hb=>by
    rcases aW ha with ⟨i,t,rfl,rfl⟩|⟨x,t,rfl,rfl⟩
    · rcases aW hb with ⟨j,u,rfl,e⟩|⟨y,u,rfl,e⟩
      · injection e with e1 _;rw [e1]
      · exact nomatch e
    · rcases aW hb with ⟨j,u,rfl,e⟩|⟨y,u,rfl,e⟩
      · exact nomatch e
      · injection e with e1 _;rw [e1]
  byValue:=fun k v h=>by
    rcases aW h with ⟨i,t,rfl,rfl⟩|⟨x,t,rfl,rfl⟩ <;> rfl
  pyHash:=fun hv h=>by
    rcases aW hv with ⟨i,t,rfl,rfl⟩|⟨x,t,rfl,rfl⟩
    · exact wpAny_pyHash_int h
    · exact wpAny_pyHash_str h
  eqBool:=fun hu hv h=>by
    rcases aW hu with ⟨i,t,rfl,rfl⟩|⟨x,t,rfl,rfl⟩
    · rcases aW hv with ⟨j,u,rfl,rfl⟩|⟨y,u,rfl,rfl⟩
      · rw [vE] at h;exact wpAny_eqBool_int h
      · rw [vD] at h;exact SeqAt.EqAt.int_str i t y u _ _ _ _ h
    · rcases aW hv with ⟨j,u,rfl,rfl⟩|⟨y,u,rfl,rfl⟩
      · rw [vC] at h;exact SeqAt.EqAt.str_int x t j u _ _ _ _ h
      · rw [vB] at h;exact wpAny_eqBool_str h
  «strs»:=fun k x t v h=>by
    rcases aW h with ⟨i,u,rfl,e⟩|⟨y,u,rfl,e⟩
    · exact nomatch e
    · injection e with e1 _
      subst e1;cases v <;> rfl
theorem iR (prog:Program) (w:World) (k:Key) (v:Value):(ar prog w).is k v=gZ k v:=rfl
theorem mk (prog:Program) (w:World) (i:Int) (t:Tok):(ar prog w).is (.inl i) (.int i t)=true:=p8 i t
theorem mj (prog:Program) (w:World) (x:Str) (t:Tok):(ar prog w).is (.inr x) (.str x t)=true:=pZ x t
open PySem PySem.Spec PyProof.Rows
inductive V where
  | non|bl (b:Bool)|int (i:Int)|str (x:Str)|byt (b:Array UInt8)|flt (b:UInt64)|ref (a:Addr)|ty (n:String)
  deriving DecidableEq
def RelV:V→Value→Prop
  | .non,u=>u=Value.none
  | .bl b,u=>u=Value.bool b
  | .int i,u=>∃ t,u=Value.int i t
  | .str x,u=>∃ t,u=Value.str x t
  | .byt b,u=>∃ t,u=Value.bytes b t
  | .flt b,u=>∃ t,u=Value.float b t
  | .ref a,u=>u=Value.ref a
  | .ty n,u=>u=Value.type n
abbrev Vals:List V→List Value→Prop:=Paired RelV
theorem Vals.length {xs:List V} {us:List Value} (r:Vals xs us):xs.length=us.length:=aav r
theorem Vals.get:∀ {xs:List V} {us:List Value} {i:Nat} {x:V},Vals xs us→xs[i]?=some x→∃ u,us[i]?=some u∧RelV x u
  | _,_,_,_,.nil,e=>by simp at e
  | _,_,0,_,.cons r _,e=>by simp at e;subst e;exact ⟨_,rfl,r⟩
  | _,_,i+1,x,.cons _ t,e=>by
    obtain ⟨u,h1,h2⟩:=Vals.get (i:=i) (x:=x) t (by simpa using e);exact ⟨u,by simpa using h1,h2⟩
theorem Vals.set {x:V} {u:Value} (r:RelV x u):∀ {xs:List V} {us:List Value} (i:Nat),Vals xs us→Vals (xs.set i x) (us.set i u)
  | _,_,_,.nil=>.nil
  | _,_,0,.cons _ t=>.cons r t
  | _,_,i+1,.cons q t=>.cons q (Vals.set r i t)
theorem Vals.append {xs ys:List V} {us ws:List Value} (h:Vals xs us) (s:Vals ys ws):Vals (xs++ys) (us++ws):=by
  induction h with
  | nil=>exact s
  | cons r t ih=>exact .cons r ih
theorem Vals.take:∀ {xs:List V} {us:List Value} (n:Nat),Vals xs us→Vals (xs.take n) (us.take n)
  | _,_,0,_=>.nil
  | _,_,_+1,.nil=>.nil
  | _,_,n+1,.cons r t=>.cons r (Vals.take n t)
theorem Vals.drop:∀ {xs:List V} {us:List Value} (n:Nat),Vals xs us→Vals (xs.drop n) (us.drop n)
  | _,_,0,r=>r
  | _,_,_+1,.nil=>.nil
  | _,_,n+1,.cons _ t=>Vals.drop n t
def RelO:Option V→Option Value→Prop
  | some v,some u=>RelV v u
  | none,none=>True
  | _,_=>False
def KV {κ:Type}:List (κ × V)→List (κ × Value)→Prop:=Paired fun (p:κ × V) (q:κ × Value)=>p.1=q.1∧RelV p.2 q.2
def kV:Key→V
  | .inl i=>.int i
  | .inr x=>.str x
inductive HO where
  | lst (xs:List V)
  | tup (xs:List V)
  | dK (kvs:List (Key × V))|dT (kvs:List (List Key × V))
  | set (S:Int→Bool) (n:Nat)
  | ins (C dx:Addr) (fs:List (Str × V))
  | own (x:Addr)
  | xd (fs:List (Str × V))
  | met (f x:Addr)
  | rng (lo hi:Int)
  | frz (o:Obj) (u:HO)
  | tbl (ps:Array Value)
  | ext (φ:Heap→Prop)
abbrev Hp:=Addr→Option HO
def upd (H:Hp) (a:Addr) (o:HO):Hp:=fun b=>if b=a then some o else H b
theorem ad {H:Hp} {a:Addr} {o:HO}:upd H a o a=some o:=by unfold upd;rw [if_pos rfl]
theorem aj {H:Hp} {a b:Addr} {o:HO} (h:b≠a):upd H a o b=H b:=by unfold upd;rw [if_neg h]
theorem oI {H:Hp} {a b:Addr} {o u:HO} (h:H a=some o) (h':H b=some u) (d:o≠u):a≠b:=by
  intro e;subst e;rw [h] at h';exact d (aa2 h')
theorem ah {H:Hp} {a b:Addr} {o:HO} (h:H a=some o) (h':H b=none):a≠b:=by
  intro e;subst e;rw [h] at h';cases h'
section
variable (P:Program) (w:World)
def ObjOk (H:Hp) (h:Heap) (a:Addr):HO→Prop
  | .lst xs=>xs.length≤sizeLine∧∃ (its:List Value) (n:Nat),Vals xs its∧h.get? a=some { cls:=.type "list",data:=.seq its.toArray n }
  | .tup xs=>xs.length≤sizeLine∧∃ its:List Value,Vals xs its∧IsTup h a its.toArray
  | .dK kvs=>kvs.length≤sizeLine∧(a == sysModules)=false∧∃ vs,KV kvs vs∧h.DictOf (ar P w) a vs
  | .dT kvs=>kvs.length≤sizeLine∧(a == sysModules)=false∧∃ xs:List (List Key × Addr × Value),
      Paired (fun (p:List Key × V) (q:List Key × Addr × Value)=>p.1=q.1∧H q.2.1=some (.tup (p.1.map kV))∧RelV p.2 q.2.2) kvs xs ∧
      ∃ o es ep,h.get? a=some o∧o.ExactDict∧o.data=.dict es ep∧es.toList=xs.map (entryOfKey (tupleKind (ar P w)))∧(xs.map (·.1)).Nodup
  | .set S n=>h.SetOf (intKind P w) a S n
  | .ins C dx fs=>H dx=some (.own a)∧fs.length≤1000∧dx≠a∧h.get? a=some (PySem.W.instObj C dx) ∧
      ∃ mA,h.Ns1 dx mA∧(∀ f,RelO (fs.lookup f) (mA f))∧PySem.Within mA (fs.map (·.1))
  | .own _=>∃ o,h.get? a=some o
  | .xd fs=>∃ mA,h.Ns1 a mA∧∀ f,RelO (fs.lookup f) (mA f)
  | .rng lo hi=>∃ t u v,h.get? a=some { cls:=.type "range",data:=.fields #[.int lo t,.int hi u,.int 1 v] }
  | .frz o u=>h.get? a=some o∧ObjOk H h a u
  | .tbl ps=>h.get? a=some { cls:=.none,data:=.fields ps }
  | .met f x=>h.get? a=some (PySem.W.methodObj (.ref f) (.ref x))
  | .ext φ=>φ h∧(∃ o,h.get? a=some o)∧∀ h1 h2:Heap,φ h1→(∀ o,h1.get? a=some o→h2.get? a=some o)→φ h2
def HOk (H:Hp) (h:Heap):Prop:=∀ a o,H a=some o→ObjOk P w H h a o
end
section
variable {P:Program} {w:World} {H H':Hp} {h h':Heap} {a:Addr} {o:HO}
theorem ObjOk.lt (x:ObjOk P w H h a o):a < h.objs.size:=by
  cases o with
  | lst xs=>obtain ⟨_,_,_,_,e⟩:=x;exact aal e
  | tup xs=>obtain ⟨_,_,_,p⟩:=x;exact p.lt
  | dK kvs=>obtain ⟨_,_,_,_,o,_,_,e,_⟩:=x;exact aal e
  | dT kvs=>obtain ⟨_,_,_,_,o,_,_,e,_⟩:=x;exact aal e
  | set S n=>obtain ⟨o,_,_,_,e,_⟩:=x;exact aal e
  | ins C dx fs=>obtain ⟨_,_,_,e,_⟩:=x;exact aal e
  | own y=>obtain ⟨_,e⟩:=x;exact aal e
  | xd fs=>obtain ⟨_,⟨_,_,_,e,_⟩,_⟩:=x;exact aal e
  | rng lo hi=>obtain ⟨_,_,_,e⟩:=x;exact aal e
  | frz ob u=>obtain ⟨e,_⟩:=x;exact aal e
  | tbl ps=>exact aal (show h.get? a=some _ from x)
  | met f y=>exact aal (show h.get? a=some _ from x)
  | ext φ=>obtain ⟨_,⟨_,e⟩,_⟩:=x;exact aal e
theorem Paired.mapP {α β:Type} {F G:α→β→Prop} {l₁:List α} {l₂:List β} (h:Paired F l₁ l₂) (f:∀ a b,F a b→G a b):Paired G l₁ l₂:=by
  induction h with
  | nil=>exact .nil
  | cons r t ih=>exact .cons (f _ _ r) ih
theorem ObjOk.stay (x:ObjOk P w H h a o) (k:∀ b u,(b=a∨H b=some (.own a))→h.get? b=some u→h'.get? b=some u)
    (ho:∀ b,H b=some (.own a)→H' b=some (.own a)) (ht:∀ b xs,H b=some (.tup xs)→H' b=some (.tup xs)):ObjOk P w H' h' a o:=by
  induction o with
  | lst xs=>obtain ⟨z,its,n,r,e⟩:=x;exact ⟨z,its,n,r,k _ _ (.inl rfl) e⟩
  | tup xs=>obtain ⟨z,its,r,ob,e,c⟩:=x;exact ⟨z,its,r,ob,k _ _ (.inl rfl) e,c⟩
  | dK kvs=>obtain ⟨z,y,vs,r,ob,es,ep,e,c⟩:=x;exact ⟨z,y,vs,r,ob,es,ep,k _ _ (.inl rfl) e,c⟩
  | dT kvs =>
    obtain ⟨z,y,xs,r,ob,es,ep,e,c⟩:=x;exact ⟨z,y,xs,Paired.mapP r fun p q z=>⟨z.1,ht _ _ z.2.1,z.2.2⟩,ob,es,ep,k _ _ (.inl rfl) e,c⟩
  | set S n=>obtain ⟨ob,es,ep,t,e,c⟩:=x;exact ⟨ob,es,ep,t,k _ _ (.inl rfl) e,c⟩
  | ins C dx fs =>
    obtain ⟨d,z,ne,e,mA,⟨od,es,ep,e2,c⟩,r⟩:=x;exact ⟨ho _ d,z,ne,k _ _ (.inl rfl) e,mA,⟨od,es,ep,k _ _ (.inr d) e2,c⟩,r⟩
  | own y=>obtain ⟨ob,e⟩:=x;exact ⟨ob,k _ _ (.inl rfl) e⟩
  | xd fs=>obtain ⟨mA,⟨od,es,ep,e,c⟩,r⟩:=x;exact ⟨mA,⟨od,es,ep,k _ _ (.inl rfl) e,c⟩,r⟩
  | rng lo hi=>obtain ⟨t,u,v,e⟩:=x;exact ⟨t,u,v,k _ _ (.inl rfl) e⟩
  | frz ob u ih=>obtain ⟨e,q⟩:=x;exact ⟨k _ _ (.inl rfl) e,ih q⟩
  | tbl ps =>
    have e:h.get? a=some { cls:=.none,data:=.fields ps }:=x;show h'.get? a=some { cls:=.none,data:=.fields ps };exact k a _ (.inl rfl) e
  | met f y =>
    have e:h.get? a=some (PySem.W.methodObj (.ref f) (.ref y)):=x;show h'.get? a=some (PySem.W.methodObj (.ref f) (.ref y));exact k a _ (.inl rfl) e
  | ext φ=>obtain ⟨p,⟨o,e⟩,st⟩:=x;exact ⟨st _ _ p fun o q=>k _ _ (.inl rfl) q,⟨o,k _ _ (.inl rfl) e⟩,st⟩
theorem HOk.lt (x:HOk P w H h) (e:H a=some o):a < h.objs.size:=(x a o e).lt
theorem HOk.fresh (x:HOk P w H h) (e:h.objs.size≤a):H a=none:=by
  cases q:H a with
  | none=>rfl
  | some u=>exact absurd (aas (x.lt q) e) (abE _)
theorem HOk.kept (x:HOk P w H h) (k:∀ b u,h.get? b=some u→h'.get? b=some u):HOk P w H h':=fun a o e =>
  (x a o e).stay (fun b u _ q=>k b u q) (fun _ q=>q) fun _ _ q=>q
theorem HOk.laid (x:HOk P w H h) (k:∀ b u,h.get? b=some u→h'.get? b=some u) (hp:h.objs.size≤a) (new:ObjOk P w (upd H a o) h' a o):HOk P w (upd H a o) h':=fun b u e=>by
  have hn:=x.fresh hp;by_cases hb:b=a
  · subst hb;rw [ad] at e;cases e;exact new
  · rw [aj hb] at e;exact (x b u e).stay (fun c v _ q=>k c v q) (fun c q=>by rw [aj (ah q hn)];exact q) fun c xs q=>by rw [aj (ah q hn)];exact q
end
def Rd (H:Hp) (a:Addr) (u:HO):Prop:=H a=some u∨∃ o,H a=some (.frz o u)
theorem Rd.ok {P:Program} {w:World} {H:Hp} {h:Heap} {a:Addr} {u:HO} (r:Rd H a u) (x:HOk P w H h):ObjOk P w H h a u:=by
  rcases r with r|⟨o,r⟩
  · exact x a u r
  · obtain ⟨_,q⟩:=x a _ r;exact q
def Mut:Option HO→Prop
  | some (.lst _)=>True
  | some (.dK _)=>True
  | some (.dT _)=>True
  | some (.set _ _)=>True
  | some (.ins _ _ _)=>True
  | some (.ext _)=>True
  | _=>False
section
variable {P:Program} {w:World} {H:Hp} {h h':Heap} {x e:Addr} {o':HO}
theorem HOk.write (ok:HOk P w H h) (mu:Mut (H x)) (he:e=x∨H e=some (.own x)) (k:∀ b u,b≠e→h.get? b=some u→h'.get? b=some u) (heo:∃ u,h'.get? e=some u)
    (new:ObjOk P w (upd H x o') h' x o'):HOk P w (upd H x o') h':=fun b u q=>by
  have nown:∀ c y,H c=some (.own y)→c≠x:=fun c y r z=>by subst z;rw [r] at mu;exact mu
  have ntup:∀ c xs,H c=some (.tup xs)→c≠x:=fun c xs r z=>by subst z;rw [r] at mu;exact mu
  by_cases hb:b=x
  · subst hb;rw [ad] at q;cases q;exact new
  · rw [aj hb] at q;by_cases hbe:b=e
    · have q':H b=some (.own x):=by
        rcases he with z|z
        · exact absurd (hbe.trans z) hb
        · rw [hbe];exact z
      rw [q] at q';cases q';obtain ⟨v,hv⟩:=heo;exact ⟨v,by rw [hbe];exact hv⟩
    · refine (ok b u q).stay (fun c v hc r=>k c v ?_ r) (fun c r=>by rw [aj (nown c b r)];exact r) fun c xs r=>by rw [aj (ntup c xs r)];exact r
      rcases hc with rfl|hc
      · exact hbe
      · rintro rfl;rcases he with z|z
        · exact nown c b hc z
        · rw [hc] at z;cases z;exact hb rfl
end
structure Un (fs ex:List Addr) (H H':Hp) (h h':Heap):Prop where
  keep:∀ b o,h.get? b=some o→H b=none→b∉fs→b∉ex→h'.get? b=some o
  slot:∀ b o,h.get? b=some o→H b=none→b∈fs→b∉ex→∃ sl,h'.get? b=some { o with slots:=sl }
  free:∀ b o,h.get? b=some o→H b=none→b∉ex→H' b=none
  there:∀ b o,h.get? b=some o→b∉ex→∃ o',h'.get? b=some o'
  tups:∀ b xs,H b=some (.tup xs)→H' b=some (.tup xs)
  frzs:∀ b o u,H b=some (.frz o u)→H' b=some (.frz o u)
  tbls:∀ b ps,H b=some (.tbl ps)→∃ more,H' b=some (.tbl (ps++more))
section
variable {fs fs' ex ex':List Addr} {H H1 H2:Hp} {h h1 h2 h':Heap} {a x e:Addr} {o:HO}
theorem Un.any (u:Un fs ex H H1 h h1) {b:Addr} {ob:Obj} (q:h.get? b=some ob) (n:H b=none) (hx:b∉ex):∃ sl,h1.get? b=some { ob with slots:=sl }:=by
  by_cases hb:b∈fs
  · exact u.slot b ob q n hb hx
  · exact ⟨ob.slots,u.keep b ob q n hb hx⟩
theorem Un.kept (k:∀ b u,h.get? b=some u→h'.get? b=some u):Un fs ex H H h h' :=
  ⟨fun b ob q _ _ _=>k b ob q,fun b ob q _ _ _=>⟨ob.slots,k b ob q⟩,fun _ _ _ n _=>n,fun b ob q _=>⟨ob,k b ob q⟩,fun _ _ q=>q,fun _ _ _ q=>q,fun _ ps q=>⟨#[],by rw [q];simp⟩⟩
theorem Un.refl:Un fs ex H H h h:=Un.kept fun _ _ q=>q
theorem Un.laid (k:∀ b u,h.get? b=some u→h'.get? b=some u) (hp:h.objs.size≤a) (hn:H a=none):Un fs ex H (upd H a o) h h' where
  keep:=fun b u q _ _ _=>k b u q
  slot:=fun b u q _ _ _=>⟨u.slots,k b u q⟩
  free:=fun b u q n _=>by rw [aj (aaB (aas (aal q) hp))];exact n
  there:=fun b u q _=>⟨u,k b u q⟩
  tups:=fun b xs q=>by rw [aj (ah q hn)];exact q
  frzs:=fun b u xs q=>by rw [aj (ah q hn)];exact q
  tbls:=fun b ps q=>⟨#[],by rw [aj (ah q hn),q];simp⟩
theorem Un.write (mu:Mut (H x)) (he:e=x∨H e=some (.own x)) (k:∀ b u,b≠e→h.get? b=some u→h'.get? b=some u) (heo:∃ u,h'.get? e=some u):Un fs ex H (upd H x o) h h':=by
  have hx:∀ b,H b=none→b≠x:=fun b n z=>by subst z;rw [n] at mu;exact mu
  have hb:∀ b,H b=none→b≠e:=fun b n z=>by
    subst z;rcases he with r|r
    · exact hx b n r
    · rw [n] at r;cases r
  have hm:∀ b u,H b=some u→¬ Mut (some u)→b≠x:=fun b u q nm z=>by subst z;rw [q] at mu;exact nm mu
  refine ⟨fun b u q n _ _=>k b u (hb b n) q,fun b u q n _ _=>⟨u.slots,k b u (hb b n) q⟩,fun b u q n _=>by rw [aj (hx b n)];exact n,fun b u q _=>?_,
    fun b xs q=>by rw [aj (hm b _ q fun z=>z)];exact q,fun b u xs q=>by rw [aj (hm b _ q fun z=>z)];exact q,fun b ps q=>⟨#[],by rw [aj (hm b _ q fun z=>z),q];simp⟩⟩
  by_cases hbe:b=e
  · subst hbe;exact heo
  · exact ⟨u,k b u hbe q⟩
end
def trk (h:Heap) (H:Hp):List Addr:=(aaO h.objs.size).filter fun a=>(H a).isSome
def kN (h:Heap) (H:Hp):Heap:=PySem.W.hideAll h (trk h H)
theorem qd (h:Heap) (H:Hp):(kN h H).objs.size=h.objs.size:=PySem.W.hideAll_size _ _
theorem rV {h:Heap} {H:Hp} {b:Addr} {o:Obj} (e:h.get? b=some o) (n:H b=none):(kN h H).get? b=some o :=
  PySem.W.hideAll_get _ e fun hm=>by
    have q:(H b).isSome=true:=(acM.mp hm).2;rw [n] at q;simp at q
theorem t5 {h:Heap} {H:Hp} {b:Addr} {o:Obj} (e:(kN h H).get? b=some o):h.get? b=some o∧H b=none:=by
  have e':h.get? b=some o:=PySem.W.of_hideAll (trk h H) e;refine ⟨e',?_⟩;cases q:H b with
  | none=>rfl
  | some x =>
    have hm:b∈trk h H:=List.mem_filter.mpr ⟨aaK.mpr (aal e'),by simp [q]⟩;have z:(kN h H).get? b=none:=PySem.W.hideAll_none (trk h H) hm;rw [z] at e;cases e
def eh (g h:Heap) (L:Addr):List (Addr × Obj):=(aaO h.objs.size).filterMap fun a=>if a=L∨(g.get? a).isSome=true then none else (h.get? a).map fun o=>(a,o)
theorem gY {g h:Heap} {L a:Addr} {o:Obj} (h1:a≠L) (h2:g.get? a=none) (h3:h.get? a=some o):(a,o)∈eh g h L :=
  List.mem_filterMap.mpr ⟨a,aaK.mpr (aal h3),by simp [h1,h2,h3]⟩
theorem iP {g h:Heap} {L:Addr} {p:Addr × Obj} (hp:p∈eh g h L):p.1≠L∧g.get? p.1=none∧h.get? p.1=some p.2:=by
  obtain ⟨b,_,e⟩:=adf.mp hp;split at e
  · cases e
  · rename_i hn;cases q:h.get? b with
    | none=>rw [q] at e;simp at e
    | some u =>
      rw [q] at e;simp only [Option.map_some,Option.some.injEq] at e;subst e;refine ⟨fun z=>hn (.inl z),?_,q⟩;show g.get? b=none;cases r:g.get? b with
      | none=>rfl
      | some v=>exact (hn (.inr (by simp [r]))).elim
def rest (g h:Heap) (L d:Addr):List (Addr × Obj):=(eh g h L).filter fun p=>decide (p.1≠d)
theorem rB {g h:Heap} {L:Addr}:News g L h (eh g h L):=fun p hp=>let ⟨a,b,c⟩:=iP hp;⟨c,a,b⟩
open PySem PySem.Spec PyProof.Rows
structure Mod (K:aab) (mg:Str→Option Value) (base:Heap):Prop where
  kin:K.In base
  glob:base.Ns mainGlobals mg
  blt:∃ mb,base.Ns builtinsNs mb∧∀ x:Str,x ≠ "__name__"→mb x=bootBuiltins x
  nolimit:base.NoLimit
  sysm:∃ mm,base.Ns sysModules mm
structure Cx where
  prog:Program
  w:World
  K:aab
  mg:Str→Option Value
  base:Heap
  A:Around
  N:List Str
  s₀:Shared
  H₀:Hp
  env:Env
  outer:List Env
  stack:List Env
  ex:List Addr
  fn:Str→Bool
  calm:Bool
  pn:List (Addr × Obj)
  xe:Value→Shared→Prop
def frs (l:List Env):List Addr:=l.filterMap (·.frame)
abbrev Cx.fs (X:Cx):List Addr:=frs X.outer
def Vis (sc:Scope) (x:Str):Prop:=sc.names.lookup x=some .local∨sc.names.lookup x=some .cell∨sc.names.lookup x=some .free
def Loc (sc:Scope) (x:Str):Prop:=sc.names.lookup x=some .local∨sc.names.lookup x=some .cell
def wW (env:Env) (h:Heap) (m:Str→Option Value) (x:Str) (u:Value):Prop :=
  (env.kindOf x=some .local∧m x=some u)∨((env.kindOf x=some .cell∨env.kindOf x=some .free)∧∃ c,env.cells.lookup x=some c∧h.IsCell c (some u))
structure Cx.Ok (X:Cx):Prop where
  mod:Mod X.K X.mg X.base
  kind:X.env.scope.kind=.function
  glob:X.env.globals=mainGlobals
  blt:X.env.builtins=builtinsNs
  above:X.s₀.heap.objs.size≤X.env.locals
  inj:∀ x y c,X.env.cells.lookup x=some c→X.env.cells.lookup y=some c→x=y
  has:∀ x,(X.env.kindOf x=some .cell∨X.env.kindOf x=some .free)→∃ c,X.env.cells.lookup x=some c
  cab:∀ x c,X.fn x=true→X.env.cells.lookup x=some c→X.s₀.heap.objs.size≤c
  hd:X.calm=true→X.A.handled=none
  frames:X.A.frames=some X.stack
  stk:X.stack=X.outer∨(X.stack=X.env :: X.outer∧X.env.frame=some X.env.locals)
  exf:∀ b∈X.ex,b≠X.env.locals∧∀ x c,X.env.cells.lookup x=some c→c≠b
  bs:∀ b o,X.base.get? b=some o→X.s₀.heap.get? b=some o∧X.H₀ b=none
  bsz:X.base.objs.size≤X.s₀.heap.objs.size
  noex:∀ b o,X.base.get? b=some o→b∉X.ex
  exfs:∀ b∈X.ex,b∉X.fs
  funs:X.s₀.heap.FunFrames X.base X.outer
  frf:∀ b∈X.fs,X.H₀ b=none
structure Inv (X:Cx) (pins:List (Addr × Obj)) (σ:List (Option V)) (H:Hp) (s:Shared):Prop where
  ok:X.Ok
  os:s.os=X.s₀.os
  bare:AllBare s.gens
  base:Un X.fs X.ex X.H₀ H X.s₀.heap s.heap
  loc:∃ m,s.heap.Ns X.env.locals m∧∀ (i:Nat) (x:Str) (v:V),X.N[i]?=some x→σ[i]?=some (some v)→Vis X.env.scope x→∃ u,RelV v u∧wW X.env s.heap m x u
  cell:∀ x c,X.env.cells.lookup x=some c→∃ v,s.heap.IsCell c v
  free:H X.env.locals=none
  freeC:∀ x c,X.env.cells.lookup x=some c→H c=none
  pin:∀ p∈X.pn++pins,s.heap.get? p.1=some p.2∧H p.1=none∧p.1≠X.env.locals∧p.1∉X.fs∧∀ v,p.2.data≠.cell v
  hok:HOk X.prog X.w H s.heap
  len:σ.length=X.N.length
section
variable {X:Cx} {pins:List (Addr × Obj)} {σ:List (Option V)} {H H':Hp} {s:Shared} {h':Heap}
theorem Cx.Ok.nofr (ok:X.Ok) {b:Addr} {o:Obj} (e:X.base.get? b=some o):b∉X.fs:=fun hb=>by
  have:=(ok.funs.mem hb).1;rw [e] at this;cases this
theorem Inv.bs (I:Inv X pins σ H s):∀ b o,X.base.get? b=some o→s.heap.get? b=some o∧H b=none:=fun b o e =>
  ⟨I.base.keep b o (I.ok.bs b o e).1 (I.ok.bs b o e).2 (I.ok.nofr e) (I.ok.noex b o e),I.base.free b o (I.ok.bs b o e).1 (I.ok.bs b o e).2 (I.ok.noex b o e)⟩
theorem Inv.bk (I:Inv X pins σ H s):∀ b o,X.base.get? b=some o→s.heap.get? b=some o:=fun b o e=>(I.bs b o e).1
theorem Inv.mod (I:Inv X pins σ H s):Mod X.K X.mg X.base:=I.ok.mod
theorem Inv.kIn (I:Inv X pins σ H s):X.K.In s.heap:=I.ok.mod.kin.keeps I.bk
theorem Inv.fr (I:Inv X pins σ H s):∃ m,Fr X.base X.env.locals s.heap m :=
  let ⟨m,hn,_⟩:=I.loc
  ⟨m,hn,I.bk,aa1 I.ok.bsz I.ok.above⟩
theorem Inv.lt (I:Inv X pins σ H s):X.env.locals < s.heap.objs.size:=let ⟨_,hn,_⟩:=I.loc;hn.lt
theorem Inv.sz (I:Inv X pins σ H s):X.s₀.heap.objs.size≤s.heap.objs.size:=aa1 I.ok.above (abX I.lt)
theorem Inv.nofs (I:Inv X pins σ H s) {a:Addr} (h:s.heap.objs.size≤a):a∉X.fs:=fun hb=>by
  obtain ⟨_,o,ho,_⟩:=I.ok.funs.mem hb;exact absurd (aas (aal ho) (aa1 I.sz h)) (abE _)
theorem Inv.cne (I:Inv X pins σ H s):∀ x c,X.env.cells.lookup x=some c→c≠X.env.locals:=fun x c e z=>by
  obtain ⟨v,o,ho,hd⟩:=I.cell x c e;obtain ⟨m,⟨o',es,ep,ho',hd',_⟩,_⟩:=I.loc;rw [z,ho'] at ho;cases ho;rw [hd'] at hd;cases hd
theorem Inv.funs (I:Inv X pins σ H s):s.heap.FunFrames X.base X.outer:=by
  have all:∀ (l:List Env),(∀ b∈frs l,b∈X.fs)→X.s₀.heap.FunFrames X.base l→s.heap.FunFrames X.base l:=by
    intro l
    induction l with
    | nil=>intro _ _;trivial
    | cons env r ih =>
      intro hs hl;obtain ⟨hk,⟨L,o,hf,hn,ho,hd⟩,hr⟩:=hl;have hL:L∈X.fs:=hs L (by unfold frs;rw [abo,hf];exact aan);obtain ⟨sl,e⟩:=I.base.slot L o ho (I.ok.frf L hL) hL fun z=>I.ok.exfs L z hL;exact ⟨hk,⟨L,_,hf,hn,e,hd⟩,ih (fun b hb=>hs b (by unfold frs;rw [abo,hf];exact aaj _ hb)) hr⟩
  exact all X.outer (fun _ hb=>hb) I.ok.funs
theorem Inv.stack (I:Inv X pins σ H s):s.heap.FunFrames X.base X.stack:=by
  rcases I.ok.stk with e|⟨e,hf⟩
  · rw [e];exact I.funs
  · rw [e];obtain ⟨m,hn,_⟩:=I.loc;refine .cons (by rw [I.ok.kind];decide) hf hn ?_ I.funs;exact Heap.get?_none_of_le (aa1 I.ok.bsz I.ok.above)
theorem Inv.stkSub (I:Inv X pins σ H s):∀ b∈frs X.stack,b∈X.env.locals :: X.fs:=fun b hb=>by
  rcases I.ok.stk with e|⟨e,hf⟩
  · rw [e] at hb;exact aaj _ hb
  · rw [e] at hb;unfold frs at hb;rw [abo,hf] at hb;exact hb
theorem Inv.stkFree (I:Inv X pins σ H s):∀ b∈frs X.stack,H b=none:=fun b hb=>by
  rcases aai.mp (I.stkSub b hb) with e|hb
  · rw [e];exact I.free
  · obtain ⟨_,o,ho,_⟩:=I.ok.funs.mem hb;exact I.base.free b o ho (I.ok.frf b hb) fun z=>I.ok.exfs b z hb
theorem Inv.step {g':Array GenState} {t':Nat} {d':Drawn} {ch:List Addr} (I:Inv X pins σ H s)
    (hch:∀ b∈ch,(b∈X.ex∨X.s₀.heap.objs.size≤b)∧b≠X.env.locals∧(∀ x c,X.env.cells.lookup x=some c→c≠b)∧∀ p∈X.pn++pins,p.1≠b)
    (keep:∀ b o,b≠X.env.locals→b∉X.fs→b∉ch→s.heap.get? b=some o→H b=none→h'.get? b=some o)
    (slot:∀ b o,b≠X.env.locals→b∈X.fs→b∉ch→s.heap.get? b=some o→H b=none→∃ sl,h'.get? b=some { o with slots:=sl }) (free:∀ b o,b∉ch→s.heap.get? b=some o→H b=none→H' b=none)
    (there:∀ b o,b∉ch→s.heap.get? b=some o→∃ o',h'.get? b=some o')
    (tups:∀ b xs,H b=some (.tup xs)→H' b=some (.tup xs)) (frzs:∀ b o u,H b=some (.frz o u)→H' b=some (.frz o u)) (tbls:∀ b ps,H b=some (.tbl ps)→∃ more,H' b=some (.tbl (ps++more)))
    (ns:∀ m,s.heap.Ns X.env.locals m→h'.Ns X.env.locals m) (hok:HOk X.prog X.w H' h') (hg:AllBare g') :
    Inv X pins σ H' { s with heap:=h',gens:=g',drawn:=d',toks:=t' }:=by
  have neL:∀ b o,X.s₀.heap.get? b=some o→b≠X.env.locals:=fun b o e=>aaB (aas (aal e) I.ok.above);have neC:∀ b o,X.s₀.heap.get? b=some o→b∉X.ex→b∉ch:=fun b o e hx hb=>by
    rcases (hch b hb).1 with z|z
    · exact hx z
    · exact absurd (aas (aal e) z) (abE _)
  have cellK:∀ x c,X.env.cells.lookup x=some c→∀ v,s.heap.IsCell c v→h'.IsCell c v:=fun x c e v ⟨o,ho,hd⟩=>by
    have nch:c∉ch:=fun z=>(hch c z).2.2.1 x c e rfl;by_cases hc:c∈X.fs
    · obtain ⟨sl,q⟩:=slot c o (I.cne x c e) hc nch ho (I.freeC x c e);exact ⟨_,q,hd⟩
    · exact ⟨o,keep c o (I.cne x c e) hc nch ho (I.freeC x c e),hd⟩
  refine ⟨I.ok,I.os,hg,⟨fun b o e n hb hx=>?_,fun b o e n hb hx=>?_,fun b o e n hx=>?_,fun b o e hx=>?_,fun b xs e=>tups b xs (I.base.tups b xs e),fun b o xs e=>frzs b o xs (I.base.frzs b o xs e),fun b ps e=>?_⟩,?_,fun x c e=>?_,?_,fun x c e=>?_,fun p hp=>?_,hok,I.len⟩
  · exact keep b o (neL b o e) hb (neC b o e hx) (I.base.keep b o e n hb hx) (I.base.free b o e n hx)
  · obtain ⟨sl,e1⟩:=I.base.slot b o e n hb hx;obtain ⟨sl',e2⟩:=slot b _ (neL b o e) hb (neC b o e hx) e1 (I.base.free b o e n hx);exact ⟨sl',e2⟩
  · obtain ⟨o',e1⟩:=I.base.there b o e hx;exact free b o' (neC b o e hx) e1 (I.base.free b o e n hx)
  · obtain ⟨o',e1⟩:=I.base.there b o e hx;exact there b o' (neC b o e hx) e1
  · obtain ⟨m1,e1⟩:=I.base.tbls b ps e;obtain ⟨m2,e2⟩:=tbls b _ e1;exact ⟨m1++m2,by rw [e2,Array.append_assoc]⟩
  · obtain ⟨m,hn,hl⟩:=I.loc;refine ⟨m,ns m hn,fun i x v e1 e2 e3=>?_⟩;obtain ⟨u,r,l⟩:=hl i x v e1 e2 e3;refine ⟨u,r,?_⟩;rcases l with l|⟨k,c,e,z⟩
    · exact .inl l
    · exact .inr ⟨k,c,e,cellK x c e _ z⟩
  · obtain ⟨v,z⟩:=I.cell x c e;exact ⟨v,cellK x c e v z⟩
  · obtain ⟨m,⟨o,_,_,ho,_⟩,_⟩:=I.loc;exact free _ o (fun z=>(hch _ z).2.1 rfl) ho I.free
  · obtain ⟨v,o,ho,hd⟩:=I.cell x c e;exact free c o (fun z=>(hch c z).2.2.1 x c e rfl) ho (I.freeC x c e)
  · obtain ⟨e,n,ne,nf,d⟩:=I.pin p hp;have nch:p.1∉ch:=fun z=>(hch p.1 z).2.2.2 p hp rfl;exact ⟨keep p.1 p.2 ne nf nch e n,free p.1 p.2 nch e n,ne,nf,d⟩
theorem Inv.un {t':Nat} (I:Inv X pins σ H s) (u:Un X.fs [] H H' s.heap h') (hok:HOk X.prog X.w H' h'):Inv X pins σ H' { s with heap:=h',toks:=t' }:=by
  obtain ⟨m,⟨o,es,ep,ho,r⟩,_⟩:=id I.loc;obtain ⟨sl,hL⟩:=u.any ho I.free (by simp);exact I.step (g':=s.gens) (d':=s.drawn) (ch:=[]) (fun _ z=>nomatch z) (fun b o _ hb _ e n=>u.keep b o e n hb (by simp)) (fun b o _ hb _ e n=>u.slot b o e n hb (by simp)) (fun b o _ e n=>u.free b o e n (by simp)) (fun b o _ e=>u.there b o e (by simp)) u.tups u.frzs u.tbls (fun m' hm=>by
    obtain ⟨o',es',ep',ho',r'⟩:=hm;rw [ho] at ho';cases ho';exact ⟨_,es',ep',hL,r'⟩) hok I.bare
theorem Inv.call {g':Array GenState} {t':Nat} {d':Drawn} {ch:List Addr} (I:Inv X pins σ H s) (u:Un (frs X.stack) ch H H' s.heap h') (hok:HOk X.prog X.w H' h') (hg:AllBare g')
    (hch:∀ b∈ch,(b∈X.ex∨X.s₀.heap.objs.size≤b)∧b≠X.env.locals∧(∀ x c,X.env.cells.lookup x=some c→c≠b)∧∀ p∈X.pn++pins,p.1≠b) :
    Inv X pins σ H' { s with heap:=h',gens:=g',drawn:=d',toks:=t' }:=by
  obtain ⟨m,⟨o,es,ep,ho,r⟩,_⟩:=id I.loc;obtain ⟨sl,hL⟩:=u.any ho I.free fun z=>(hch _ z).2.1 rfl;exact I.step (ch:=ch) hch (fun b o hL hb hc e n=>u.keep b o e n (fun z=>(aai.mp (I.stkSub b z)).elim hL hb) hc) (fun b o _ _ hc e n=>u.any e n hc) (fun b o hc e n=>u.free b o e n hc) (fun b o hc e=>u.there b o e hc) u.tups u.frzs u.tbls (fun m' hm=>by
    obtain ⟨o',es',ep',ho',r'⟩:=hm;rw [ho] at ho';cases ho';exact ⟨_,es',ep',hL,r'⟩) hok hg
theorem Inv.turned {t':Nat} {it:Addr} (I:Inv X pins σ H s) (k:∀ b o,b≠it→s.heap.get? b=some o→h'.get? b=some o) (hn:H it=none) (hL:it≠X.env.locals)
    (h1:it∈X.ex∨X.s₀.heap.objs.size≤it) (h2:∀ x c,X.env.cells.lookup x=some c→c≠it) (h3:∀ p∈X.pn++pins,p.1≠it):Inv X pins σ H { s with heap:=h',toks:=t' }:=by
  have nit:∀ b u,H b=some u→b≠it:=fun b u e z=>by rw [z,hn] at e;cases e
  refine I.step (g':=s.gens) (d':=s.drawn) (ch:=[it]) (fun b hb=>?_) (fun b o _ _ hc e _=>k b o (fun z=>hc (by simp [z])) e) (fun b o _ _ hc e _=>⟨o.slots,k b o (fun z=>hc (by simp [z])) e⟩) (fun _ _ _ _ n=>n)
    (fun b o hc e=>⟨o,k b o (fun z=>hc (by simp [z])) e⟩) (fun _ _ e=>e) (fun _ _ _ e=>e) (fun b ps e=>⟨#[],by rw [e];simp⟩) (fun m hm=>?_) (fun b u e=>?_) I.bare
  · have e:b=it:=by simpa using hb
    subst e;exact ⟨h1,hL,h2,h3⟩
  · obtain ⟨o,es,ep,ho,r⟩:=hm;exact ⟨o,es,ep,k _ o (abm hL) ho,r⟩
  · refine (I.hok b u e).stay (fun c v hc q=>k c v ?_ q) (fun _ q=>q) fun _ _ q=>q;rcases hc with z|z
    · rw [z];exact nit b u e
    · exact nit c _ z
theorem Inv.tok (I:Inv X pins σ H s) (t:Nat):Inv X pins σ H { s with toks:=t }:=I.un (h':=s.heap) (t':=t) Un.refl I.hok
theorem Inv.kept {t':Nat} (I:Inv X pins σ H s) (k:∀ b u,s.heap.get? b=some u→h'.get? b=some u):Inv X pins σ H { s with heap:=h',toks:=t' }:=I.un (Un.kept k) (I.hok.kept k)
theorem Inv.laid {a:Addr} {o:HO} {t':Nat} (I:Inv X pins σ H s) (k:∀ b u,s.heap.get? b=some u→h'.get? b=some u) (hp:s.heap.objs.size≤a) (new:ObjOk X.prog X.w (upd H a o) h' a o) :
    Inv X pins σ (upd H a o) { s with heap:=h',toks:=t' }:=I.un (Un.laid k hp (I.hok.fresh hp)) (I.hok.laid k hp new)
theorem Inv.write {x e:Addr} {o:HO} {t':Nat} (I:Inv X pins σ H s) (mu:Mut (H x)) (he:e=x∨H e=some (.own x)) (k:∀ b u,b≠e→s.heap.get? b=some u→h'.get? b=some u) (heo:∃ u,h'.get? e=some u)
    (new:ObjOk X.prog X.w (upd H x o) h' x o):Inv X pins σ (upd H x o) { s with heap:=h',toks:=t' }:=I.un (Un.write mu he k heo) (I.hok.write mu he k heo new)
theorem Inv.pins_of {pins':List (Addr × Obj)} (I:Inv X pins σ H s) (h:∀ p∈pins',s.heap.get? p.1=some p.2∧H p.1=none∧p.1≠X.env.locals∧p.1∉X.fs∧∀ v,p.2.data≠.cell v):Inv X pins' σ H s :=
  ⟨I.ok,I.os,I.bare,I.base,I.loc,I.cell,I.free,I.freeC,fun p hp=>(aay.mp hp).elim (fun z=>I.pin p (ab3 _ z)) (h p),I.hok,I.len⟩
theorem me {N:List Str} (hN:N.Nodup) {i j:Nat} {x:Str} (a:N[i]?=some x) (b:N[j]?=some x):i=j:=by
  obtain ⟨h1,e1⟩:=aaA.mp a;obtain ⟨h2,e2⟩:=aaA.mp b;exact (List.getElem_inj hN).mp (e1.trans e2.symm)
theorem py {M:Model} {A:Around} {E:Value→Shared→Prop} {i:Nat} {x:Str} {v:V} {u:Value} {Q:Unit→Shared→Prop} (I:Inv X pins σ H s) (hN:X.N.Nodup) (hi:X.N[i]?=some x) (hx:Loc X.env.scope x) (r:RelV v u)
    (h:∀ s',Inv X pins (σ.set i (some v)) H s'→(∃ a,aaY a s.heap s'.heap∧(a=X.env.locals∨X.env.cells.lookup x=some a))→Q () s') (hf:X.fn x=true∨X.env.scope.names.lookup x=some .local:=by first|exact .inl rfl|exact .inr rfl|assumption):wpAny M A (storeName X.env x u) Q E s:=by
  obtain ⟨m,hn,hl⟩:=id I.loc;have hcls:(X.env.scope.kind == .class || (X.env.scope.kind == .module && X.env.locals != X.env.globals))=false:=by rw [I.ok.kind];rfl
  have hiσ:i < σ.length:=by rw [I.len];exact (aaA.mp hi).1
  have cne:=I.cne;have tracked:∀ {a:Addr} {h':Heap},(∃ o,s.heap.get? a=some o∧H a=none)→aaY a s.heap h'→HOk X.prog X.w H h':=fun {a h'} ha hs b ob e=>by
    obtain ⟨_,_,hfree⟩:=ha;refine (I.hok b ob e).stay (fun c w' hc q=>(hs.2 c ?_).trans q) (fun _ q=>q) fun _ _ q=>q;rintro rfl;rcases hc with rfl|hc
    · rw [hfree] at e;cases e
    · rw [hfree] at hc;cases hc
  rcases hx with hk|hk
  · refine wpAny_storeName_local hk hn (fun h' hn' hs=>?_) hcls;obtain ⟨oL,_,_,hoL,_⟩:=id hn;refine h _ ⟨I.ok,I.os,I.bare,⟨fun b o e n hb hx=>?_,fun b o e n hb hx=>?_,I.base.free,fun b o e hx=>?_,I.base.tups,I.base.frzs,I.base.tbls⟩,⟨_,hn',fun j y v' e1 e2 e3=>?_⟩,fun y c e=>?_,I.free,I.freeC,fun p hp=>?_,tracked ⟨oL,hoL,I.free⟩ hs,by simpa using I.len⟩ ⟨_,hs,.inl rfl⟩
    · exact (hs.2 b (aaB (aas (aal e) I.ok.above))).trans (I.base.keep b o e n hb hx)
    · obtain ⟨sl,e1⟩:=I.base.slot b o e n hb hx;exact ⟨sl,(hs.2 b (aaB (aas (aal e) I.ok.above))).trans e1⟩
    · obtain ⟨o',e1⟩:=I.base.there b o e hx;exact ⟨o',(hs.2 b (aaB (aas (aal e) I.ok.above))).trans e1⟩
    · by_cases hj:j=i
      · subst hj;rw [hi] at e1;cases e1;rw [List.getElem?_set_self hiσ] at e2;cases e2;exact ⟨u,r,.inl ⟨hk,by simp⟩⟩
      · rw [List.getElem?_set_ne (abm hj)] at e2;obtain ⟨u',r',q⟩:=hl j y v' e1 e2 e3;refine ⟨u',r',?_⟩;rcases q with ⟨k,e⟩|⟨k,c,e,z⟩
        · refine .inl ⟨k,?_⟩;have : y≠x:=fun e=>hj (me hN e1 (e ▸ hi));simp [this,e]
        · exact .inr ⟨k,c,e,z.sameBut hs (cne y c e)⟩
    · obtain ⟨w',z⟩:=I.cell y c e;exact ⟨w',z.sameBut hs (cne y c e)⟩
    · obtain ⟨e,n,ne,nf,d⟩:=I.pin p hp;exact ⟨(hs.2 p.1 ne).trans e,n,ne,nf,d⟩
  · have hfn:X.fn x=true:=by
      rcases hf with z|z
      · exact z
      · rw [z] at hk;cases hk
    obtain ⟨c,hc⟩:=I.ok.has x (.inl hk);obtain ⟨w',z⟩:=I.cell x c hc;refine wpAny_storeName_cell I.ok.kind hk hc z (fun h' hc' hs=>?_);obtain ⟨oc,hoc,hocd⟩:=id z;refine h { s with heap:=h' } ⟨I.ok,I.os,I.bare,⟨fun b o e n hb hx=>?_,fun b o e n hb hx=>?_,I.base.free,fun b o e hx=>?_,I.base.tups,I.base.frzs,I.base.tbls⟩,⟨m,hn.sameBut hs (abm (cne x c hc)),fun j y v' e1 e2 e3=>?_⟩,fun y c' e=>?_,I.free,I.freeC,fun p hp=>?_,tracked ⟨oc,hoc,I.freeC x c hc⟩ hs,by simpa using I.len⟩ ⟨c,hs,.inr hc⟩
    · exact (hs.2 b (aaB (aas (aal e) (I.ok.cab x c hfn hc)))).trans (I.base.keep b o e n hb hx)
    · obtain ⟨sl,e1⟩:=I.base.slot b o e n hb hx;exact ⟨sl,(hs.2 b (aaB (aas (aal e) (I.ok.cab x c hfn hc)))).trans e1⟩
    · obtain ⟨o',e1⟩:=I.base.there b o e hx;exact ⟨o',(hs.2 b (aaB (aas (aal e) (I.ok.cab x c hfn hc)))).trans e1⟩
    · by_cases hj:j=i
      · subst hj;rw [hi] at e1;cases e1;rw [List.getElem?_set_self hiσ] at e2;cases e2;exact ⟨u,r,.inr ⟨.inl hk,c,hc,hc'⟩⟩
      · rw [List.getElem?_set_ne (abm hj)] at e2;obtain ⟨u',r',q⟩:=hl j y v' e1 e2 e3;refine ⟨u',r',?_⟩;rcases q with q|⟨k,c',e,z'⟩
        · exact .inl q
        · refine .inr ⟨k,c',e,z'.sameBut hs ?_⟩;rintro rfl;exact hj (me hN e1 (I.ok.inj _ _ _ e hc ▸ hi))
    · by_cases hcc:c'=c
      · subst hcc;exact ⟨_,hc'⟩
      · obtain ⟨w2,z2⟩:=I.cell y c' e;exact ⟨w2,z2.sameBut hs hcc⟩
    · obtain ⟨e,n,ne,nf,d⟩:=I.pin p hp;refine ⟨(hs.2 p.1 ?_).trans e,n,ne,nf,d⟩;intro q;rw [q,hoc] at e;have q':oc=p.2:=aa2 e;exact d w' (by rw [← q'];exact hocd)
theorem li {M:Model} {A:Around} {E:Value→Shared→Prop} {i:Nat} {x:Str} {v:V} {u:Value} {Q:Unit→Shared→Prop} (I:Inv X pins σ H s) (hN:X.N.Nodup) (hi:X.N[i]?=some x) (hx:Loc X.env.scope x) (r:RelV v u)
    (h:∀ s',Inv X pins (σ.set i (some v)) H s'→Q () s') (hf:X.fn x=true∨X.env.scope.names.lookup x=some .local:=by first|exact .inl rfl|exact .inr rfl|assumption):wpAny M A (storeName X.env x u) Q E s :=
  py I hN hi hx r (fun s' I' _=>h s' I') hf
theorem Inv.call' {s':Shared} {ch:List Addr} (I:Inv X pins σ H s) (ho:s'.os=s.os) (u:Un (frs X.stack) ch H H' s.heap s'.heap) (hok:HOk X.prog X.w H' s'.heap) (hg:AllBare s'.gens)
    (hch:∀ b∈ch,(b∈X.ex∨X.s₀.heap.objs.size≤b)∧b≠X.env.locals∧(∀ x c,X.env.cells.lookup x=some c→c≠b)∧∀ p∈X.pn++pins,p.1≠b):Inv X pins σ H' s':=by
  obtain ⟨h',g',d',t',o'⟩:=s';have e:o'=s.os:=ho;subst e;exact I.call (g':=g') (t':=t') (d':=d') u hok hg hch
end
abbrev XK:=Value→Option Addr→Hp→Prop
abbrev St:=List (Option V)
abbrev VK:=V→Hp→Prop
abbrev TE:=St→Hp→VK→Prop
abbrev TT:=St→Hp→(Bool→Hp→Prop)→Prop
abbrev TA:=St→Hp→(List V→Hp→Prop)→Prop
structure Ends where
  nx:St→Hp→Prop
  rt:VK
  bk:St→Hp→Prop:=fun _ _=>False
  ct:St→Hp→Prop:=fun _ _=>False
abbrev TS:=Ends→St→Hp→Prop
def EP (X:Cx) (pins:List (Addr × Obj)) (σ:St) (Q:VK) (u:Value) (s':Shared):Prop:=∃ v H',Inv X pins σ H' s'∧RelV v u∧Q v H'
def TP (X:Cx) (pins:List (Addr × Obj)) (σ:St) (Q:Bool→Hp→Prop) (b:Bool) (s':Shared):Prop:=∃ H',Inv X pins σ H' s'∧Q b H'
def AP (X:Cx) (pins:List (Addr × Obj)) (σ:St) (Q:List V→Hp→Prop) (us:List Value) (s':Shared):Prop:=∃ vs H',Inv X pins σ H' s'∧Vals vs us∧Q vs H'
def SP (X:Cx) (pins:List (Addr × Obj)) (D:Ends) (f:Flow) (s':Shared):Prop :=
  match f with
  | .next=>∃ σ' H',Inv X pins σ' H' s'∧D.nx σ' H'
  | .brk=>∃ σ' H',Inv X pins σ' H' s'∧D.bk σ' H'
  | .cont=>∃ σ' H',Inv X pins σ' H' s'∧D.ct σ' H'
  | .ret u=>∃ v σ' H',Inv X pins σ' H' s'∧RelV v u∧D.rt v H'
def PE (X:Cx) (e:Expr) (t:TE):Prop :=
  ∀ (pins:List (Addr × Obj)) (s:Shared) (σ:St) (H:Hp) (Q:VK),Inv X pins σ H s→t σ H Q→wpAny (model X.prog X.w) X.A (eval e X.env) (EP X pins σ Q) X.xe s
def PT (X:Cx) (e:Expr) (t:TT):Prop :=
  ∀ (pins:List (Addr × Obj)) (s:Shared) (σ:St) (H:Hp) (Q:Bool→Hp→Prop),Inv X pins σ H s→t σ H Q→wpAny (model X.prog X.w) X.A (isTrue e X.env (eval e X.env)) (TP X pins σ Q) X.xe s
def PW (X:Cx) (e:Expr) (t:TT):Prop :=
  ∀ (whole:Sem Value) (pins:List (Addr × Obj)) (s:Shared) (σ:St) (H:Hp) (Q:Bool→Hp→Prop),Inv X pins σ H s→t σ H Q→wpAny (model X.prog X.w) X.A (isTrue e X.env whole) (TP X pins σ Q) X.xe s
theorem PW.pt {X:Cx} {e:Expr} {t:TT} (h:PW X e t):PT X e t:=h _
def PA (X:Cx) (es:List Expr) (t:TA):Prop :=
  ∀ (pos:Pos) (pins:List (Addr × Obj)) (s:Shared) (σ:St) (H:Hp) (Q:List V→Hp→Prop),Inv X pins σ H s→t σ H Q→wpAny (model X.prog X.w) X.A (spliced (backTo pos (starEach es X.env))) (AP X pins σ Q) X.xe s
def PS (X:Cx) (st:Stmt) (t:TS):Prop :=
  ∀ (pins:List (Addr × Obj)) (s:Shared) (σ:St) (H:Hp) (D:Ends),Inv X pins σ H s→t D σ H→wpAny (model X.prog X.w) X.A (exec st X.env) (SP X pins D) X.xe s
def PSs (X:Cx) (st:List Stmt) (t:TS):Prop :=
  ∀ (pins:List (Addr × Obj)) (s:Shared) (σ:St) (H:Hp) (D:Ends),Inv X pins σ H s→t D σ H→wpAny (model X.prog X.w) X.A (execs st X.env) (SP X pins D) X.xe s
theorem thn {α:Type} {t:Sem α} {Q Q':α→Shared→Prop} {M:Model} {A:Around} {E:Value→Shared→Prop} {s:Shared} (h:wpAny M A t Q E s) (hQ:∀ a s,Q a s→Q' a s):wpAny M A t Q' E s:=wpAny_mono h hQ fun _ _ x=>x
open PySem PySem.Spec PyProof.Rows
section
variable {X:Cx}
def vX (i:Nat):TE:=fun σ H Q=>∃ v,σ[i]?=some (some v)∧Q v H
def tC (v:V):TE:=fun _ H Q=>Q v H
theorem va {i:Nat} {x:Str} {pos:Pos} (hN:X.N[i]?=some x) (hv:Vis X.env.scope x) (hd:(x == ("__debug__":Str))=false:=by decide) (hcd:(x == ("__classdict__":Str))=false:=by decide):PE X (.Name x pos) (vX i):=by
  intro pins s σ H Q I h;obtain ⟨v,e,h⟩:=h;obtain ⟨m,hn,hl⟩:=I.loc;obtain ⟨u,r,l⟩:=hl i x v hN e hv;have fin:EP X pins σ Q u s:=⟨v,H,I,r,h⟩
  rcases l with ⟨hk,hm⟩|⟨hk,c,hc,hcell⟩
  · exact wpAny_Name (wpAny_loadName_local I.ok.kind hk hn hm fin) hd
  · rcases hk with hk|hk
    · exact wpAny_Name (wpAny_loadName_cell I.ok.kind hk hc hcell fin) hd
    · exact wpAny_Name (wpAny_loadName_free I.ok.kind hk hc hcell fin hcd) hd
theorem ae {i j pos}:PE X (.Constant (.int i) j pos) (tC (.int i)):=fun _ _ _ H _ I h=>wpAny_Constant_int ⟨.int i,H,I.tok _,⟨_,rfl⟩,h⟩
theorem bo {b j pos}:PE X (.Constant (.bool b) j pos) (tC (.bl b)):=fun _ _ _ H _ I h=>Constant_bool ⟨.bl b,H,I,rfl,h⟩
theorem bz {j pos}:PE X (.Constant .none j pos) (tC .non):=fun _ _ _ H _ I h=>Constant_none ⟨.non,H,I,rfl,h⟩
theorem bK {x j pos}:PE X (.Constant (.str x) j pos) (tC (.str x)):=fun _ _ _ H _ I h=>Calls.Constant_str ⟨.str x,H,I.tok _,⟨_,rfl⟩,h⟩
def Gl (X:Cx) (x:Str):Prop:=X.env.kindOf x=some .globalImplicit
theorem oK {E:Value→Shared→Prop} {pins:List (Addr × Obj)} {s:Shared} {σ:St} {H:Hp} {x:Str} {u:Value} {pos:Pos} {Q:Value→Shared→Prop} (I:Inv X pins σ H s) (hg:Gl X x) (hm:X.mg x=some u) (h:Q u s)
    (hd:(x == ("__debug__":Str))=false:=by decide):wpAny (model X.prog X.w) X.A (eval (.Name x pos) X.env) Q E s :=
  Calls.Name_function_global I.ok.kind hg (Calls.loadGlobal_global (by rw [I.ok.glob];exact I.mod.glob.keeps I.bk) hm h) hd
theorem eX {E:Value→Shared→Prop} {pins:List (Addr × Obj)} {s:Shared} {σ:St} {H:Hp} {x:Str} {u:Value} {pos:Pos} {Q:Value→Shared→Prop} (I:Inv X pins σ H s) (hg:Gl X x) (hm:X.mg x=none) (hv:bootBuiltins x=some u) (h:Q u s)
    (hn:x ≠ "__name__":=by decide) (hd:(x == ("__debug__":Str))=false:=by decide):wpAny (model X.prog X.w) X.A (eval (.Name x pos) X.env) Q E s:=by
  obtain ⟨mb,h1,h2⟩:=I.mod.blt;exact Calls.Name_function_global I.ok.kind hg (Calls.loadGlobal_builtin (by rw [I.ok.glob];exact I.mod.glob.keeps I.bk) hm (by rw [I.ok.blt];exact h1.keeps I.bk) ((h2 x hn).trans hv) h) hd
theorem ig {x:Str} {v:V} {u:Value} {pos:Pos} (hg:Gl X x) (hm:X.mg x=some u) (r:RelV v u) (hd:(x == ("__debug__":Str))=false:=by decide):PE X (.Name x pos) (tC v) :=
  fun _ _ _ H _ I h=>oK I hg hm ⟨v,H,I,r,h⟩ hd
theorem aL {x:Str} {v:V} {u:Value} {pos:Pos} (hg:Gl X x) (hm:X.mg x=none) (hv:bootBuiltins x=some u) (r:RelV v u) (hn:x ≠ "__name__":=by decide) (hd:(x == ("__debug__":Str))=false:=by decide):PE X (.Name x pos) (tC v) :=
  fun _ _ _ H _ I h=>eX I hg hm hv ⟨v,H,I,r,h⟩ hn hd
variable {a b:Expr} {ta tb:TE} {pos:Pos}
def PC (X:Cx) (op:CmpOp) (a b:Expr) (t:TE):Prop :=
  ∀ (pins:List (Addr × Obj)) (s:Shared) (σ:St) (H:Hp) (Q:VK),Inv X pins σ H s→t σ H Q →
    wpAny (model X.prog X.w) X.A (eval a X.env) (fun v s₁=>wpAny (model X.prog X.w) X.A (eval b X.env) (fun u s₂=>wpAny (model X.prog X.w) X.A (compareOp op v u) (EP X pins σ Q) X.xe s₂) X.xe s₁) X.xe s
def tB (t:TE):TT:=fun σ H Q=>t σ H fun x H1=>∃ c,x=.bl c∧Q c H1
theorem vm {op:CmpOp} {t:TE} (h:PC X op a b t) (h1:behindInMarks op b=false:=by first|exact nobehind _ (by decide) (by decide)|rfl):PE X (.Compare a [op] [b] pos) t:=fun pins s σ H Q I hw=>wpAny_Compare1 (h pins s σ H Q I hw) h1
theorem qS {op:CmpOp} {t:TE} (h:PC X op a b t) (h1:behindInMarks op b=false:=by first|exact nobehind _ (by decide) (by decide)|rfl):PT X (.Compare a [op] [b] pos) (tB t):=by
  intro pins s σ H Q I hw;refine wpAny_isTrue_Compare1 (thn (h pins s σ H _ I hw) fun v s1 h1=>thn h1 fun u s2 h2=>thn h2 fun c s3 ⟨x,H1,I1,r1,q1⟩=>?_) h1;obtain ⟨d,rfl,q⟩:=q1;cases r1;exact wpAny_truthy_bool ⟨H1,I1,q⟩
theorem aU {e:Expr} {t:TE} (h:PE X e t) (he:∀ whole,isTrue e X.env whole=(do let v ← whole;standAt e.pos;holding [v] (truthy v)):=by intro _;rfl):PT X e (tB t):=by
  intro pins s σ H Q I hw;refine isTrue_plain (thn (h pins s σ H _ I hw) fun v s1 ⟨x,H1,I1,r1,q1⟩=>?_) (he _);obtain ⟨d,rfl,q⟩:=q1;cases r1;exact wpAny_truthy_bool ⟨H1,I1,q⟩
variable {tA tB':TT} {rest:List Expr}
def xk (t u:TT):TT:=fun σ H Q=>t σ H fun c H1=>if c=true then u σ H1 Q else Q false H1
def tOr (t u:TT):TT:=fun σ H Q=>t σ H fun c H1=>if c=true then Q true H1 else u σ H1 Q
def xa (t:TT):TT:=fun σ H Q=>t σ H fun c H1=>Q (!c) H1
theorem tN (ha:PT X a tA):PW X (.BoolOp .And [a] pos) tA:=by
  intro wh pins s σ H Q I h;refine isTrue_and (thn (ha pins s σ H Q I h) fun c s1 e=>?_);cases c with
  | true=>exact isTrue_and_nil e
  | false=>exact e
theorem bW (ha:PT X a tA):PW X (.BoolOp .Or [a] pos) tA:=by
  intro wh pins s σ H Q I h;refine isTrue_or (thn (ha pins s σ H Q I h) fun c s1 e=>?_);cases c with
  | false=>exact isTrue_or_nil e
  | true=>exact e
theorem uY (ha:PT X a tA) (hb:PW X (.BoolOp .And (b :: rest) pos) tB'):PW X (.BoolOp .And (a :: b :: rest) pos) (xk tA tB'):=by
  intro wh pins s σ H Q I h;refine isTrue_and (thn (ha pins s σ H _ I h) fun c s1 ⟨H1,I1,q1⟩=>?_);cases c with
  | true=>exact hb wh pins s1 σ H1 Q I1 q1
  | false=>exact ⟨H1,I1,q1⟩
theorem cH (ha:PT X a tA) (hb:PW X (.BoolOp .Or (b :: rest) pos) tB'):PW X (.BoolOp .Or (a :: b :: rest) pos) (tOr tA tB'):=by
  intro wh pins s σ H Q I h;refine isTrue_or (thn (ha pins s σ H _ I h) fun c s1 ⟨H1,I1,q1⟩=>?_);cases c with
  | true=>exact ⟨H1,I1,q1⟩
  | false=>exact hb wh pins s1 σ H1 Q I1 q1
theorem aZ (ha:PT X a tA):PT X (.UnaryOp .Not a pos) (xa tA):=by
  intro pins s σ H Q I h;exact isTrue_not (ha pins s σ H (fun c H1=>Q (!c) H1) I h)
def wg (ta tb:TE):TE:=fun σ H Q=>ta σ H fun x H1=>∃ c,x=.bl c∧if c=true then tb σ H1 Q else Q (.bl false) H1
def v3 (ta:TE):TE:=fun σ H Q=>ta σ H fun x H1=>∃ c,x=.bl c∧Q (.bl (!c)) H1
theorem eU {op} {t:TE} (h:PE X a t):PE X (.BoolOp op [a] pos) t:=fun pins s σ H Q I hw=>BoolOp_one (h pins s σ H Q I hw)
theorem dU (ha:PE X a ta) (hb:PE X (.BoolOp .And (b :: rest) pos) tb):PE X (.BoolOp .And (a :: b :: rest) pos) (wg ta tb):=by
  intro pins s σ H Q I h;refine BoolOp_and (thn (ha pins s σ H _ I h) fun v s1 ⟨x,H1,I1,r1,q1⟩=>?_);obtain ⟨c,rfl,q1⟩:=q1;cases r1;refine wpAny_truthy_bool ?_;cases c with
  | true=>exact hb pins s1 σ H1 Q I1 q1
  | false=>exact ⟨.bl false,H1,I1,rfl,q1⟩
theorem qY (ha:PE X a ta):PE X (.UnaryOp .Not a pos) (v3 ta):=by
  intro pins s σ H Q I h;refine UnaryOp_ (thn (ha pins s σ H _ I h) fun v s1 ⟨x,H1,I1,r1,q1⟩=>?_);obtain ⟨c,rfl,q1⟩:=q1;cases r1;exact not_of (wpAny_truthy_bool ⟨.bl (!c),H1,I1,rfl,q1⟩)
end
open PySem PySem.Spec PyProof.Rows
def SqL (K:aab) (H:Hp) (a:Addr) (xs:List V):Prop :=
  Rd H a (.lst xs) ∨
    ∃ (o:Obj) (its:Array Value) (n:Nat),K.lookup a=some o∧o.cls=.type "list"∧o.dict=none∧o.data=.seq its n∧its.size≤sizeLine∧Vals xs its.toList
def SqT (K:aab) (H:Hp) (a:Addr) (xs:List V):Prop :=
  Rd H a (.tup xs) ∨
    ∃ (o:Obj) (its:Array Value) (n:Nat),K.lookup a=some o∧o.cls=.type "tuple"∧o.data=.seq its n∧its.size≤sizeLine∧Vals xs its.toList
def xG:Value→Option V
  | .none=>some .non
  | .bool b=>some (.bl b)
  | .int i _=>some (.int i)
  | .str x _=>some (.str x)
  | .bytes b _=>some (.byt b)
  | .float b _=>some (.flt b)
  | .ref a=>some (.ref a)
  | .type n=>some (.ty n)
  | _=>none
theorem RelV.abs {x:V} {u:Value} (r:RelV x u):xG u=some x:=by
  cases x with
  | non=>cases r;rfl
  | bl _=>cases r;rfl
  | int _=>obtain ⟨t,rfl⟩:=r;rfl
  | str _=>obtain ⟨t,rfl⟩:=r;rfl
  | byt _=>obtain ⟨t,rfl⟩:=r;rfl
  | flt _=>obtain ⟨t,rfl⟩:=r;rfl
  | ref _=>cases r;rfl
  | ty _=>cases r;rfl
theorem RelV.inj {x y:V} {u:Value} (r:RelV x u) (q:RelV y u):x=y:=aa2 (r.abs.symm.trans q.abs)
theorem Vals.inj {xs ys:List V} {us:List Value} (h:Vals xs us) (h':Vals ys us):xs=ys:=by
  induction h generalizing ys with
  | nil=>cases h';rfl
  | cons r t ih =>
    cases h' with
    | cons r' t'=>rw [r.inj r',ih t']
section
variable {X:Cx} {pins:List (Addr × Obj)} {σ:St} {H:Hp} {s:Shared} {a:Addr} {xs ys:List V}
theorem SqL.of {K:aab} (h:H a=some (.lst xs)):SqL K H a xs:=.inl (.inl h)
theorem SqT.of {K:aab} (h:H a=some (.tup xs)):SqT K H a xs:=.inl (.inl h)
theorem Inv.list (I:Inv X pins σ H s) (h:SqL X.K H a xs):∃ its:List Value,Vals xs its∧PlainL s.heap a its.toArray∧xs.length≤sizeLine:=by
  rcases h with h|⟨o,its,n,hk,hc,hd,hs,hz,r⟩
  · obtain ⟨z,its,n,r,e⟩:=h.ok I.hok;exact ⟨its,r,⟨_,n,e,rfl,rfl,rfl⟩,z⟩
  · refine ⟨its.toList,r,⟨o,n,I.kIn a o hk,hc,hd,by simpa using hs⟩,?_⟩;have e:=r.length;simp only [aaq] at e;lia
theorem Inv.tuple (I:Inv X pins σ H s) (h:SqT X.K H a xs):∃ its:List Value,Vals xs its∧IsTup s.heap a its.toArray∧xs.length≤sizeLine:=by
  rcases h with h|⟨o,its,n,hk,hc,hs,hz,r⟩
  · obtain ⟨z,its,r,p⟩:=h.ok I.hok;exact ⟨its,r,p,z⟩
  · refine ⟨its.toList,r,⟨o,I.kIn a o hk,hc,n,by simpa using hs⟩,?_⟩;have e:=r.length;simp only [aaq] at e;lia
theorem Inv.list_inj (I:Inv X pins σ H s) (h:SqL X.K H a xs) (h':SqL X.K H a ys):xs=ys:=by
  obtain ⟨its,r,⟨o,n,e,_,_,d⟩,_⟩:=I.list h;obtain ⟨its',r',⟨o',n',e',_,_,d'⟩,_⟩:=I.list h';rw [e] at e';cases e';rw [d] at d';injection d' with d1 _
  have : its=its':=by simpa using congrArg Array.toList d1
  subst this;exact r.inj r'
theorem Inv.tuple_inj (I:Inv X pins σ H s) (h:SqT X.K H a xs) (h':SqT X.K H a ys):xs=ys:=by
  obtain ⟨its,r,⟨o,e,_,n,d⟩,_⟩:=I.tuple h;obtain ⟨its',r',⟨o',e',_,n',d'⟩,_⟩:=I.tuple h';rw [e] at e';cases e';rw [d] at d';injection d' with d1 _
  have : its=its':=by simpa using congrArg Array.toList d1
  subst this;exact r.inj r'
end
abbrev Cx.wish (X:Cx) (E:Value→Shared→Prop):Cx:={ X with xe:=E }
abbrev Cx.nox (X:Cx):Cx:=X.wish fun _ _=>False
theorem Cx.Ok.wish {X:Cx} (ok:X.Ok) (E:Value→Shared→Prop):(X.wish E).Ok :=
  ⟨ok.mod,ok.kind,ok.glob,ok.blt,ok.above,ok.inj,ok.has,ok.cab,ok.hd,ok.frames,ok.stk,ok.exf,ok.bs,ok.bsz,ok.noex,ok.exfs,ok.funs,ok.frf⟩
theorem Cx.Ok.unwish {X:Cx} {E:Value→Shared→Prop} (ok:(X.wish E).Ok):X.Ok :=
  ⟨ok.mod,ok.kind,ok.glob,ok.blt,ok.above,ok.inj,ok.has,ok.cab,ok.hd,ok.frames,ok.stk,ok.exf,ok.bs,ok.bsz,ok.noex,ok.exfs,ok.funs,ok.frf⟩
section
variable {X:Cx} {pins:List (Addr × Obj)} {σ:St} {H:Hp} {s:Shared} {E:Value→Shared→Prop}
theorem Inv.wish (I:Inv X pins σ H s) (E:Value→Shared→Prop):Inv (X.wish E) pins σ H s:=⟨I.ok.wish E,I.os,I.bare,I.base,I.loc,I.cell,I.free,I.freeC,I.pin,I.hok,I.len⟩
theorem Inv.unwish (I:Inv (X.wish E) pins σ H s):Inv X pins σ H s:=⟨I.ok.unwish,I.os,I.bare,I.base,I.loc,I.cell,I.free,I.freeC,I.pin,I.hok,I.len⟩
theorem SP.unwish {D:Ends} {f:Flow} {s':Shared} (h:SP (X.wish E) pins D f s'):SP X pins D f s':=by
  cases f with
  | next=>obtain ⟨σ',H',I,q⟩:=h;exact ⟨σ',H',I.unwish,q⟩
  | brk=>obtain ⟨σ',H',I,q⟩:=h;exact ⟨σ',H',I.unwish,q⟩
  | cont=>obtain ⟨σ',H',I,q⟩:=h;exact ⟨σ',H',I.unwish,q⟩
  | ret u=>obtain ⟨v,σ',H',I,r,q⟩:=h;exact ⟨v,σ',H',I.unwish,r,q⟩
theorem PSs.nox {st:List Stmt} {t:TS} (h:PSs X.nox st t):PSs X st t:=fun pins s σ H D I hw =>
  wpAny_mono (h pins s σ H D (I.wish _) hw) (fun _ _ q=>q.unwish) fun _ _ z=>acu z
end
section
variable {X:Cx} {st:Stmt} {rest:List Stmt} {t u:TS} {e:Expr} {te:TE} {pos:Pos}
def v4:TS:=fun D σ H=>D.nx σ H
def wZ (t u:TS):TS:=fun D σ H=>t { D with nx:=u D } σ H
theorem aA:PSs X [] v4:=fun _ _ σ H _ I h=>wpAny_execs_nil ⟨σ,H,I,h⟩
theorem ag (h1:PS X st t) (h2:PSs X rest u):PSs X (st :: rest) (wZ t u):=by
  intro pins s σ H D I h;refine wpAny_execs_cons (thn (h1 pins s σ H { D with nx:=u D } I h) fun f s1 q=>?_);cases f with
  | next =>
    obtain ⟨σ',H',I',q⟩:=q;exact h2 pins s1 σ' H' D I' q
  | ret v=>exact q
  | brk=>exact q
  | cont=>exact q
theorem af (h1:PS X st t):PSs X [st] t:=by
  intro pins s σ H D I h;refine wpAny_execs_cons (thn (h1 pins s σ H D I h) fun f s1 q=>?_);cases f with
  | next=>exact wpAny_execs_nil q
  | ret v=>exact q
  | brk=>exact q
  | cont=>exact q
theorem Inv.quiet {pins:List (Addr × Obj)} {σ:St} {H:Hp} {s:Shared} (I:Inv X pins σ H s):interactive X.env=false:=by simp [interactive,I.ok.kind]
def v7 (te:TE):TS:=fun D σ H=>te σ H fun _ H1=>D.nx σ H1
theorem bT (he:PE X e te) (hs:swapsWith e none pos.line X.env=pure false:=by rfl):PS X (.Expr e pos) (v7 te):=by
  intro pins s σ H D I h;exact wpAny_Expr_any (thn (he pins s σ H _ I h) fun v s1 ⟨x,H1,I1,r1,q1⟩=>⟨σ,H1,I1,q1⟩) I.quiet hs
def w_ (te:TE):TS:=fun D σ H=>te σ H D.rt
theorem ap (he:PE X e te):PS X (.Return (some e) pos) (w_ te):=by
  intro pins s σ H D I h;exact wpAny_Return_some (thn (he pins s σ H _ I h) fun v s1 ⟨x,H1,I1,r1,q1⟩=>⟨x,σ,H1,I1,r1,q1⟩)
def xh (c:TT) (t u:TS):TS:=fun D σ H=>c σ H fun b H1=>if b=true then t D σ H1 else u D σ H1
theorem aI {c:Expr} {a b:List Stmt} {tc:TT} (hc:PT X c tc) (ha:PSs X a t) (hb:PSs X b u):PS X (.If c a b pos) (xh tc t u):=by
  intro pins s σ H D I h;refine wpAny_If (thn (hc pins s σ H _ I h) fun d s1 ⟨H1,I1,q1⟩=>?_);cases d with
  | true=>exact ha pins s1 σ H1 D I1 q1
  | false=>exact hb pins s1 σ H1 D I1 q1
def uH:TS:=fun _ _ _=>False
theorem lN:PS X st uH:=fun _ _ _ _ _ _ h=>h.elim
end
abbrev TG:=V→St→Hp→(St→Hp→Prop)→Prop
abbrev TGs:=List V→St→Hp→(St→Hp→Prop)→Prop
def PG (X:Cx) (target:Expr) (t:TG):Prop :=
  ∀ (pins:List (Addr × Obj)) (s:Shared) (σ:St) (H:Hp) (v:V) (u:Value) (Q:St→Hp→Prop),Inv X pins σ H s→RelV v u→t v σ H Q →
    wpAny (model X.prog X.w) X.A (assign target X.env u) (fun _ s'=>∃ σ' H',Inv X pins σ' H' s'∧Q σ' H') X.xe s
def PGs (X:Cx) (ts:List Expr) (t:TGs):Prop :=
  ∀ (pins:List (Addr × Obj)) (s:Shared) (σ:St) (H:Hp) (vs:List V) (us:List Value) (Q:St→Hp→Prop),Inv X pins σ H s→Vals vs us→t vs σ H Q →
    wpAny (model X.prog X.w) X.A (assignInOrder ((assignEach ts X.env).map (·.2)) us) (fun _ s'=>∃ σ' H',Inv X pins σ' H' s'∧Q σ' H') X.xe s
abbrev vP:=V→V→V→Hp→(Hp→Prop)→Prop
def wV (X:Cx) (t:vP):Prop :=
  ∀ (pins:List (Addr × Obj)) (s:Shared) (σ:St) (H:Hp) (o i v:V) (ov iv u:Value) (Q:Hp→Prop),Inv X pins σ H s→RelV o ov→RelV i iv→RelV v u→t o i v H Q →
    wpAny (model X.prog X.w) X.A (setItem ov iv u) (fun _ s'=>∃ H',Inv X pins σ H' s'∧Q H') X.xe s
section
variable {X:Cx} {pos:Pos}
def sj (i:Nat):TG:=fun v σ H Q=>Q (σ.set i (some v)) H
theorem ak {i:Nat} {x:Str} (hN:X.N.Nodup) (hi:X.N[i]?=some x) (hx:Loc X.env.scope x) (hf:X.fn x=true∨X.env.scope.names.lookup x=some .local:=by first|exact .inl rfl|exact .inr rfl|assumption):PG X (.Name x pos) (sj i):=by
  intro pins s σ H v u Q I r h;exact wpAny_assign_Name (li I hN hi hx r (fun s' I'=>⟨_,H,I',h⟩) hf)
def xB:TGs:=fun vs σ H Q=>vs=[]∧Q σ H
def wP (t:TG) (u:TGs):TGs:=fun vs σ H Q=>∃ v r,vs=v :: r∧t v σ H fun σ' H'=>u r σ' H' Q
theorem cR:PGs X [] xB:=by
  intro pins s σ H vs us Q I r h;obtain ⟨e,h⟩:=h;subst e;cases r;exact assignInOrder_nil ⟨σ,H,I,h⟩
theorem aY {e:Expr} {es:List Expr} {t:TG} {u:TGs} (h1:PG X e t) (h2:PGs X es u)
    (hs:(assignEach (e :: es) X.env).map (·.2)=assign e X.env :: (assignEach es X.env).map (·.2):=by rfl):PGs X (e :: es) (wP t u):=by
  intro pins s σ H vs us Q I r h;obtain ⟨v,vr,e1,h⟩:=h;subst e1;cases r with
  | cons r rr =>
    rw [hs];refine assignInOrder_cons (thn (h1 pins s σ H _ _ _ I r h) fun _ s1 ⟨σ1,H1,I1,q1⟩=>?_);exact h2 pins s1 σ1 H1 _ _ Q I1 rr q1
def wO (K:aab) (n:Nat) (t:TGs):TG:=fun v σ H Q=>∃ a xs,v=.ref a∧SqT K H a xs∧xs.length=n∧t xs σ H Q
theorem dS {es:List Expr} {k:Nat} {t:TGs} {n:Nat} (hc:X.calm=true) (h:PGs X es t)
    (hn:(assignEach es X.env).length=n:=by rfl) (hst:(assignEach es X.env).findIdx? (·.1)=none:=by rfl):PG X (.Tuple es k pos) (wO X.K n t):=by
  intro pins s σ H v u Q I r hw;obtain ⟨a,xs,e1,hq,hl,hw⟩:=hw;subst e1;cases r;obtain ⟨its,rv,ht,hz⟩:=I.tuple hq;refine assign_Tuple_tuple (I.ok.hd hc) ht (by simp [hn,← hl,rv.length]) hst fun h' hx=>?_;have I1:Inv X pins σ H { s with heap:=h' }:=I.kept (t':=s.toks) fun b o e=>hx b o (aaB (aal e)) e;exact h pins _ σ H xs _ Q I1 (by simpa using rv) hw
def xA (to ti:TE) (t:vP):TG:=fun v σ H Q=>to σ H fun o H1=>ti σ H1 fun i H2=>t o i v H2 fun H3=>Q σ H3
theorem ni {o i:Expr} {to ti:TE} {t:vP} (ho:PE X o to) (hi:PE X i ti) (hs:wV X t)
    (ha:∀ v,assign (.Subscript o i pos) X.env v=(do
      let ov ← holding [v] (eval o X.env)
      let iv ← holding [v,ov] (eval i X.env)
      standAt pos
      holding [v,ov,iv] (setItem ov iv v)
      release [v,ov,iv] []):=by intro _;rfl):PG X (.Subscript o i pos) (xA to ti t):=by
  intro pins s σ H v u Q I r h;rw [ha];refine wpAny_bind (wpAny_holding (thn (ho pins s σ H _ I h) fun ov s1 ⟨x,H1,I1,r1,q1⟩=>?_));refine wpAny_bind (wpAny_holding (thn (hi pins s1 σ H1 _ I1 q1) fun iv s2 ⟨y,H2,I2,r2,q2⟩=>?_));refine wpAny_bind (wpAny_standAt (wpAny_bind (wpAny_holding (thn (hs pins s2 σ H2 x y v ov iv u _ I2 r1 r2 r q2) fun _ s3 ⟨H3,I3,q3⟩=>?_))));exact wpAny_release ⟨σ,H3,I3,q3⟩
def wf (te:TE) (g:TG):TS:=fun D σ H=>te σ H fun x H1=>g x σ H1 D.nx
theorem eS {tg e:Expr} {te:TE} {g:TG} (he:PE X e te) (hg:PG X tg g) (hs:swapsWithSole [tg] e pos.line X.env=pure false:=by rfl) (hw:swappedStores [tg] e X.env=pure none:=by rfl)
    (h1:(assignEach [tg] X.env).map (·.2)=[assign tg X.env]:=by rfl):PS X (.Assign [tg] e pos) (wf te g):=by
  intro pins s σ H D I h;refine wpAny_Assign_stores (thn (he pins s σ H _ I h) fun v s1 ⟨x,H1,I1,r1,q1⟩=>?_) hs hw;rw [h1];exact thn (hg pins s1 σ H1 x v _ I1 r1 q1) fun _ s2 q=>q
theorem aG {i:Nat} {x:Str} {e:Expr} {te:TE} {pos':Pos} (hN:X.N.Nodup) (hi:X.N[i]?=some x) (hx:Loc X.env.scope x) (he:PE X e te) (hs:swapsWith e (some (.Name x pos')) pos.line X.env=pure false:=by rfl) (hf:X.fn x=true∨X.env.scope.names.lookup x=some .local:=by first|exact .inl rfl|exact .inr rfl|assumption) :
    PS X (.Assign [.Name x pos'] e pos) (wf te (sj i)):=by
  intro pins s σ H D I h;refine wpAny_Assign_Name (thn (he pins s σ H _ I h) fun v s1 ⟨y,H1,I1,r1,q1⟩=>?_) hs;exact li I1 hN hi hx r1 (fun s2 I2=>⟨_,H1,I2,q1⟩) hf
end
section
variable {X:Cx} {pos:Pos}
end
structure It where
  go:Nat→Hp→Prop
  yld:Nat→Hp→V→Hp→Prop
  stop:Nat→Hp→Prop
def dh (X:Cx) (pins:List (Addr × Obj)) (H:Hp) (b:Addr):Prop :=
  H b=none∧b≠X.env.locals∧b∉X.fs∧(b∈X.ex∨X.s₀.heap.objs.size≤b)∧(∀ x c,X.env.cells.lookup x=some c→c≠b)∧∀ p∈X.pn++pins,p.1≠b
theorem Inv.fpOk {X:Cx} {pins:List (Addr × Obj)} {σ:St} {H H':Hp} {s:Shared} {b:Addr} (I:Inv X pins σ H s) (hb:s.heap.objs.size≤b) (hn:H' b=none):dh X pins H' b:=by
  refine ⟨hn,abr (aas I.lt hb),I.nofs hb,.inr (aa1 I.sz hb),fun x c e z=>?_,fun p hp z=>?_⟩
  · obtain ⟨v,q⟩:=I.cell x c e;exact absurd (aas q.lt (by rw [z];exact hb)) (abE _)
  · exact absurd (aas (aal (I.pin p hp).1) (by rw [z];exact hb)) (abE _)
structure Turn (P:Program) (w:World) (K:aab) (tg:Expr) (J:It) (fp:List Addr) (it:Addr) (tn:Nat→Heap→Prop):Prop where
  mem:it∈fp
  obj:∀ i h,tn i h→∀ b∈fp,∃ o,h.get? b=some o∧∀ v,o.data≠.cell v
  keep:∀ i h h',tn i h→(∀ b∈fp,∀ o,h.get? b=some o→h'.get? b=some o)→tn i h'
  item:∀ (X:Cx),X.prog=P→X.w=w→X.K=K→X.calm=true→∀ (i:Nat) (pins:List (Addr × Obj)) (s:Shared) (σ:St) (H:Hp) (E:Value→Shared→Prop),Inv X pins σ H s→(∀ b∈fp,dh X pins H b)→tn i s.heap→J.go i H →
    wpAny (model P w) X.A (pyNext (.ref it)) (fun r s1=>∃ u,r=some u ∧
      wpAny (model P w) X.A (letOwnedTupleGo tg (.ref it) u) (fun _ s2=>∃ x H',Inv X pins σ H' s2∧RelV x u∧J.yld i H x H'∧tn (i+1) s2.heap∧∀ b∈fp,H' b=none) E s1) E s
  done:∀ (X:Cx),X.prog=P→X.w=w→X.K=K→X.calm=true→∀ (i:Nat) (pins:List (Addr × Obj)) (s:Shared) (σ:St) (H:Hp) (E:Value→Shared→Prop),Inv X pins σ H s→(∀ b∈fp,dh X pins H b)→tn i s.heap→J.stop i H →
    wpAny (model P w) X.A (pyNext (.ref it)) (fun r s1=>r=none∧Inv X pins σ H s1) E s
  self:∀ (A:Around) (i:Nat) (s:Shared) (Q:Value→Shared→Prop) (E:Value→Shared→Prop),tn i s.heap→Q (.ref it) s→wpAny (model P w) A (pyIter (.ref it)) Q E s
abbrev TI:=St→Hp→(It→Hp→Prop)→Prop
def PIE (X:Cx) (pins:List (Addr × Obj)) (σ:St) (tg:Expr) (R:It→Hp→Prop) (itv:Value) (s2:Shared):Prop :=
  ∃ (it:Addr) (fp:List Addr) (tn:Nat→Heap→Prop) (J:It) (H':Hp),itv=.ref it∧Inv X pins σ H' s2∧Turn X.prog X.w X.K tg J fp it tn∧tn 0 s2.heap∧(∀ b∈fp,dh X pins H' b)∧R J H'
def PI (X:Cx) (tg iter:Expr) (wi:TI):Prop :=
  ∀ (pins:List (Addr × Obj)) (s:Shared) (σ:St) (H:Hp) (R:It→Hp→Prop),Inv X pins σ H s→wi σ H R →
    wpAny (model X.prog X.w) X.A (eval iter X.env) (fun v s1=>wpAny (model X.prog X.w) X.A (pyIter v) (PIE X pins σ tg R) X.xe s1) X.xe s
theorem iY {M:Model} {A:Around} {E:Value→Shared→Prop} {s:Shared} {tg:Expr} {it:Addr} {u:Value} {o:Obj} {n:String} {vs:Array Value} {Q:Unit→Shared→Prop} (ho:s.heap.get? it=some o) (hc:o.cls=.type n) (hd:o.data=.fields vs)
    (hn:["enumerate","zip","dict_itemiterator","dict_reverseitemiterator","odict_iterator","itertools.zip_longest","itertools.pairwise"].contains n=false) (hQ:Q () s):wpAny M A (letOwnedTupleGo tg (.ref it) u) Q E s:=by
  unfold letOwnedTupleGo;cases tg <;> first
    | exact wpAny_pure hQ
    | (cases u <;> first
        | exact wpAny_pure hQ
        | (refine wpAny_bind (wpAny_load ho ?_)
           rw [hc,hd];show wpAny M A (if (["enumerate","zip","dict_itemiterator","dict_reverseitemiterator","odict_iterator","itertools.zip_longest","itertools.pairwise"].contains n && vs[0]? == some (rawInt _))=true then _ else _) Q E s;rw [if_neg (by intro h;rw [hn,Bool.false_and] at h;cases h)];exact wpAny_pure hQ))
def Itl (K:aab) (a:Addr):It :=
  ⟨fun i H=>∃ xs x,SqL K H a xs∧xs[i]?=some x,fun i H x H'=>H'=H∧∀ xs,SqL K H a xs→xs[i]?=some x,fun i H=>∃ xs,SqL K H a xs∧xs.length≤i⟩
def Itt (K:aab) (a:Addr):It :=
  ⟨fun i H=>∃ xs x,SqT K H a xs∧xs[i]?=some x,fun i H x H'=>H'=H∧∀ xs,SqT K H a xs→xs[i]?=some x,fun i H=>∃ xs,SqT K H a xs∧xs.length≤i⟩
def Itr (lo:Int) (n:Nat):It:=⟨fun i _=>i < n,fun i H x H'=>H'=H∧x=.int (lo+i),fun i _=>n≤i⟩
theorem o_ {P:Program} {w:World} {K:aab} {tg:Expr} (a it:Addr):Turn P w K tg (Itl K a) [it] it (fun i h=>h.IsListIter it a i) where
  mem:=by simp
  obj:=fun i h st b hb=>by
    have e:b=it:=by simpa using hb
    subst e;obtain ⟨o,e,c,d⟩:=st;exact ⟨o,e,fun v z=>by rw [d] at z;cases z⟩
  keep:=fun i h h' st k=>st.at fun o e=>k it (by simp) o e
  item:=by
    intro X hP hw hK hc i pins s σ H E I hf st hg;subst hP hw hK;obtain ⟨xs,x,hq,hx⟩:=hg;obtain ⟨its,rv,p,hz⟩:=I.list hq;obtain ⟨u,hu,ru⟩:=rv.get hx;obtain ⟨f0,f1,f2,f3,f4,f5⟩:=hf it (by simp);refine wpAny_pyNext_list_item st p.isList (x:=u) (by simpa using hu) fun h' st' sb=>?_;have I1:Inv X pins σ H { s with heap:=h' }:=I.turned (t':=s.toks) (fun b o hb e=>(sb.2 b hb).trans e) f0 f1 f3 f4 f5;obtain ⟨o,e,c,d⟩:=id st';exact ⟨u,rfl,iY (s:={ s with heap:=h' }) e c d (by decide) ⟨x,H,I1,ru,⟨rfl,fun ys hy=>by rw [I.list_inj hy hq];exact hx⟩,st',fun b hb=>(hf b hb).1⟩⟩
  done:=by
    intro X hP hw hK hc i pins s σ H E I hf st hg;subst hP hw hK;obtain ⟨xs,hq,hx⟩:=hg;obtain ⟨its,rv,p,hz⟩:=I.list hq;obtain ⟨f0,f1,f2,f3,f4,f5⟩:=hf it (by simp);have hl:=rv.length;exact wpAny_pyNext_list_end (I.ok.hd hc) st p.isList (by simp;lia) fun h' eb=>⟨rfl,I.turned (t':=s.toks) (fun b o hb e=>eb b o hb e) f0 f1 f3 f4 f5⟩
  self:=fun _ _ _ _ _ st h=>wpAny_pyIter_listiter st h
theorem mP {P:Program} {w:World} {K:aab} {tg:Expr} (a it:Addr):Turn P w K tg (Itt K a) [it] it (fun i h=>h.IsTupleIter it a i) where
  mem:=by simp
  obj:=fun i h st b hb=>by
    have e:b=it:=by simpa using hb
    subst e;obtain ⟨o,e,c,d⟩:=st;exact ⟨o,e,fun v z=>by rw [d] at z;cases z⟩
  keep:=fun i h h' st k=>st.at fun o e=>k it (by simp) o e
  item:=by
    intro X hP hw hK hc i pins s σ H E I hf st hg;subst hP hw hK;obtain ⟨xs,x,hq,hx⟩:=hg;obtain ⟨its,rv,p,hz⟩:=I.tuple hq;obtain ⟨u,hu,ru⟩:=rv.get hx;obtain ⟨f0,f1,f2,f3,f4,f5⟩:=hf it (by simp);refine wpAny_pyNext_tuple_item st (show s.heap.IsTuple a its.toArray from p) (x:=u) (by simpa using hu) fun h' st' sb=>?_;have I1:Inv X pins σ H { s with heap:=h' }:=I.turned (t':=s.toks) (fun b o hb e=>(sb.2 b hb).trans e) f0 f1 f3 f4 f5;obtain ⟨o,e,c,d⟩:=id st';exact ⟨u,rfl,iY (s:={ s with heap:=h' }) e c d (by decide) ⟨x,H,I1,ru,⟨rfl,fun ys hy=>by rw [I.tuple_inj hy hq];exact hx⟩,st',fun b hb=>(hf b hb).1⟩⟩
  done:=by
    intro X hP hw hK hc i pins s σ H E I hf st hg;subst hP hw hK;obtain ⟨xs,hq,hx⟩:=hg;obtain ⟨its,rv,p,hz⟩:=I.tuple hq;obtain ⟨f0,f1,f2,f3,f4,f5⟩:=hf it (by simp);have hl:=rv.length;exact wpAny_pyNext_tuple_end (I.ok.hd hc) st (show s.heap.IsTuple a its.toArray from p) (by simp;lia) fun h' eb=>⟨rfl,I.turned (t':=s.toks) (fun b o hb e=>eb b o hb e) f0 f1 f3 f4 f5⟩
  self:=fun _ _ _ _ _ st h=>wpAny_pyIter_tupleiter st h
theorem mQ {P:Program} {w:World} {K:aab} {tg:Expr} (it:Addr) (lo:Int) (n:Nat):Turn P w K tg (Itr lo n) [it] it (fun i h=>IsRangeIter h it (lo+(i:Nat) * 1) ((n:Int) - (i:Nat)) 1) where
  mem:=by simp
  obj:=fun i h st b hb=>by
    have e:b=it:=by simpa using hb
    subst e;exact ⟨_,st,fun v z=>by
      have z':Data.fields _=Data.cell v:=z;cases z'⟩
  keep:=fun i h h' st k=>k it (by simp) _ st
  item:=by
    intro X hP hw hK hc i pins s σ H E I hf st hg;subst hP hw hK;obtain ⟨f0,f1,f2,f3,f4,f5⟩:=hf it (by simp);have W:=Walks.range (prog:=X.prog) (w:=X.w) (I.ok.hd hc) it lo 1 n;refine W.item i s _ _ hg st fun v h' tk hv st' kk=>?_;obtain ⟨t,rfl⟩:=hv;have I1:Inv X pins σ H { s with heap:=h',toks:=tk }:=I.turned (fun b o hb e=>kk b o (by simpa using hb) e) f0 f1 f3 f4 f5;refine ⟨_,rfl,iY (s:={ s with heap:=h',toks:=tk }) (n:="range_iterator") st' rfl rfl (by decide) ⟨.int (lo+i),H,I1,⟨t,?_⟩,⟨rfl,rfl⟩,st',fun b hb=>(hf b hb).1⟩⟩;rw [Int.mul_one]
  done:=by
    intro X hP hw hK hc i pins s σ H E I hf st hg;subst hP hw hK;obtain ⟨f0,f1,f2,f3,f4,f5⟩:=hf it (by simp);exact wpAny_pyNext_range_end (I.ok.hd hc) st (by have : n≤i:=hg;lia) fun h' eb=>⟨rfl,I.turned (t':=s.toks) (fun b o hb e=>eb b o hb e) f0 f1 f3 f4 f5⟩
  self:=fun _ _ _ _ _ st h=>wpAny_pyIter_rangeiter st h
open PySem PySem.Spec PyProof.Rows
section
variable {X:Cx} {tg:Expr}
def uy (K:aab) (tl:TE):TI:=fun σ H R=>tl σ H fun x H1=>∃ a,x=.ref a∧(∃ xs,SqL K H1 a xs)∧R (Itl K a) H1
def xy (K:aab) (tl:TE):TI:=fun σ H R=>tl σ H fun x H1=>∃ a,x=.ref a∧(∃ xs,SqT K H1 a xs)∧R (Itt K a) H1
theorem ba {l:Expr} {tl:TE} (hl:PE X l tl):PI X tg l (uy X.K tl):=by
  intro pins s σ H R I h;refine thn (hl pins s σ H _ I h) fun v s1 ⟨x,H1,I1,r1,q1⟩=>?_;obtain ⟨a,e,⟨xs,hq⟩,q⟩:=q1;subst e;cases r1;obtain ⟨its,rv,p,hz⟩:=I1.list hq;refine wpAny_pyIter_list p.isList ?_;refine ⟨s1.heap.objs.size,[s1.heap.objs.size],_,_,H1,rfl,I1.kept (t':=s1.toks) fun b o e=>aad _ e,o_ a _,⟨_,aao _ rfl,rfl,rfl⟩,fun b hb=>?_,q⟩;have e:b=s1.heap.objs.size:=by simpa using hb
  subst e;exact I1.fpOk (aaf _) (I1.hok.fresh (aaf _))
theorem qW {l:Expr} {tl:TE} (hl:PE X l tl):PI X tg l (xy X.K tl):=by
  intro pins s σ H R I h;refine thn (hl pins s σ H _ I h) fun v s1 ⟨x,H1,I1,r1,q1⟩=>?_;obtain ⟨a,e,⟨xs,hq⟩,q⟩:=q1;subst e;cases r1;obtain ⟨its,rv,p,hz⟩:=I1.tuple hq;refine wpAny_pyIter_tuple (show s1.heap.IsTuple a its.toArray from p) ?_;refine ⟨s1.heap.objs.size,[s1.heap.objs.size],_,_,H1,rfl,I1.kept (t':=s1.toks) fun b o e=>aad _ e,mP a _,⟨_,aao _ rfl,rfl,rfl⟩,fun b hb=>?_,q⟩;have e:b=s1.heap.objs.size:=by simpa using hb
  subst e;exact I1.fpOk (aaf _) (I1.hok.fresh (aaf _))
theorem lI {pins:List (Addr × Obj)} {σ:St} {H:Hp} {s:Shared} {R:It→Hp→Prop} {E:Value→Shared→Prop} {lo hi:Int} {t u v:Tok} {tk:Nat} (I:Inv X pins σ H s) (h1:-(2 ^ 62)≤lo) (h2:lo < 2 ^ 62) (h3:-(2 ^ 62)≤hi) (h4:hi < 2 ^ 62)
    (q:R (Itr lo (hi - lo).toNat) H):wpAny (model X.prog X.w) X.A (pyIter (.ref s.heap.objs.size)) (PIE X pins σ tg R) E { s with heap:=s.heap.push { cls:=.type "range",data:=.fields #[.int lo t,.int hi u,.int 1 v] },toks:=tk }:=by
  refine wpAny_pyIter_range (IsRange.new ..) (small_one h1 h2 h3 h4) ?_;have I1:Inv X pins σ H { s with heap:=s.heap.push { cls:=.type "range",data:=.fields #[.int lo t,.int hi u,.int 1 v] },toks:=tk }:=I.kept fun b o e=>aad _ e;refine ⟨(s.heap.push { cls:=.type "range",data:=.fields #[.int lo t,.int hi u,.int 1 v] }).objs.size,[(s.heap.push { cls:=.type "range",data:=.fields #[.int lo t,.int hi u,.int 1 v] }).objs.size],_,_,H,rfl,
    I1.kept (t':=tk) fun b o e=>aad _ e,mQ _ lo (hi - lo).toNat,?_,fun b hb=>?_,q⟩
  · have e1:lo+((0:Nat):Int) * 1=lo:=by simp
    have e2:(((hi - lo).toNat:Nat):Int) - ((0:Nat):Int)=abi lo hi 1:=by rw [rangeSize_one];split <;> lia
    show IsRangeIter _ _ (lo+((0:Nat):Int) * 1) ((((hi - lo).toNat:Nat):Int) - ((0:Nat):Int)) 1;rw [e1,e2];exact aao _ rfl
  · have e:b=(s.heap.push { cls:=.type "range",data:=.fields #[.int lo t,.int hi u,.int 1 v] }).objs.size:=by simpa using hb
    subst e;exact I1.fpOk (aaf _) (I1.hok.fresh (aaf _))
def wK (ta:TA):TI:=fun σ H R=>ta σ H fun vs H1=>∃ j:Int,vs=[.int j]∧-(2 ^ 62)≤j∧j < 2 ^ 62∧R (Itr 0 j.toNat) H1
def wJ (ta:TA):TI:=fun σ H R=>ta σ H fun vs H1=>∃ i j:Int,vs=[.int i,.int j]∧(-(2 ^ 62)≤i∧i < 2 ^ 62∧-(2 ^ 62)≤j∧j < 2 ^ 62)∧R (Itr i (j - i).toNat) H1
theorem bE {a:Expr} {ta:TA} {p pos:Pos} (hg:Gl X "range") (hm:X.mg "range" = none) (ha:PA X [a] ta) (hs:starEach [a] X.env=[(false,eval a X.env)]:=by rfl):PI X tg (.Call (.Name "range" p) [a] [] pos) (wK ta):=by
  intro pins s σ H R I h;refine Call_ (eX I hg hm boot_range (abf (thn (ha pos pins s σ H _ I h) fun us s1 ⟨vs,H1,I1,r1,q1⟩=>?_) hs rfl));obtain ⟨j,e,q1,q2,q⟩:=q1;subst e;cases r1 with
  | cons r rr =>
    cases rr;obtain ⟨t,rfl⟩:=r;exact call_range_1 (lI I1 (by lia) (by lia) q1 q2 (by simpa using q))
theorem du {a b:Expr} {ta:TA} {p pos:Pos} (hg:Gl X "range") (hm:X.mg "range" = none) (ha:PA X [a,b] ta) (hs:starEach [a,b] X.env=[(false,eval a X.env),(false,eval b X.env)]:=by rfl) (hs2:starEach [b] X.env=[(false,eval b X.env)]:=by rfl) :
    PI X tg (.Call (.Name "range" p) [a,b] [] pos) (wJ ta):=by
  intro pins s σ H R I h;refine Call_ (eX I hg hm boot_range (abf (thn (ha pos pins s σ H _ I h) fun us s1 ⟨vs,H1,I1,r1,q1⟩=>?_) (by rw [hs,hs2]) (by rw [hs2];rfl)));obtain ⟨i,j,e,⟨q1,q2,q3,q4⟩,q⟩:=q1;subst e;cases r1 with
  | cons r rr =>
    cases rr with
    | cons r' rr =>
      cases rr;obtain ⟨t,rfl⟩:=r;obtain ⟨t',rfl⟩:=r';exact call_range_2 (lI I1 q1 q2 q3 q4 q)
def xj (wi:TI) (g:TG) (tb:TS):TS:=fun D σ H=>wi σ H fun J H1=>∃ W:Nat→Nat→St→Hp→Prop,(∃ m,W 0 m σ H1)∧∀ i m σ H,W i m σ H →
  (J.stop i H∧D.nx σ H)∨(J.go i H∧∃ N:St→Hp→Prop,(∀ σ' H',N σ' H'→∃ m',m' < m∧W (i+1) m' σ' H')∧∀ x H',J.yld i H x H'→g x σ H' fun σ2 H2=>tb { D with nx:=N,ct:=N,bk:=D.nx } σ2 H2)
def bX (fp:List Addr) (h:Heap):List (Addr × Obj):=fp.filterMap fun b=>(h.get? b).map fun o=>(b,o)
theorem bY {fp:List Addr} {h:Heap} {b:Addr} {o:Obj} (hb:b∈fp) (e:h.get? b=some o):(b,o)∈bX fp h:=List.mem_filterMap.mpr ⟨b,hb,by rw [e];rfl⟩
theorem gE {fp:List Addr} {h:Heap} {p:Addr × Obj} (hp:p∈bX fp h):p.1∈fp∧h.get? p.1=some p.2:=by
  obtain ⟨b,hb,e⟩:=adf.mp hp;cases q:h.get? b with
  | none=>rw [q] at e;cases e
  | some o =>
    rw [q] at e;have e':(b,o)=p:=aa2 e;subst e';exact ⟨hb,q⟩
theorem Inv.pinned {pins:List (Addr × Obj)} {σ:St} {H:Hp} {s:Shared} {fp:List Addr} (I:Inv X pins σ H s) (hf:∀ b∈fp,dh X pins H b) (ho:∀ b∈fp,∃ o,s.heap.get? b=some o∧∀ v,o.data≠.cell v):Inv X (pins++bX fp s.heap) σ H s :=
  I.pins_of fun p hp=>(aay.mp hp).elim (fun z=>I.pin p (aax _ z)) fun z=>by
    obtain ⟨hb,e⟩:=gE z;obtain ⟨f0,f1,f2,_⟩:=hf p.1 hb;obtain ⟨o,e',d⟩:=ho p.1 hb;rw [e] at e';cases e';exact ⟨e,f0,f1,f2,d⟩
theorem Inv.unpinned {pins pl:List (Addr × Obj)} {σ:St} {H:Hp} {s:Shared} (I:Inv X (pins++pl) σ H s):Inv X pins σ H s:=I.pins_of fun p hp=>I.pin p (aax _ (ab3 _ hp))
theorem a_ {iter:Expr} {body:List Stmt} {wi:TI} {g:TG} {tb:TS} {pos:Pos} (hp:PassesOwn (model X.prog X.w) X.A X.env X.xe) (hc:X.calm=true) (hi:PI X tg iter wi) (hg:PG X tg g) (hb:PSs X body tb)
    (hs:∀ x,foldedSetIterable iter X.env x=pure x:=by intro _;rfl):PS X (.For tg iter body [] pos) (xj wi g tb):=by
  intro pins s σ H D I h;refine wpAny_For (thn (hi pins s σ H _ I h) fun v s1 h1=>thn h1 fun itv s2 h2=>?_) hs;obtain ⟨it,fp,tn,J,H2,e,I2,T,st2,f2,W,⟨m0,w0⟩,turn⟩:=h2;subst e;have stat:∀ {H':Hp},(∀ b∈fp,H' b=none)→∀ b∈fp,dh X pins H' b:=fun hn b hb=>⟨hn b hb,(f2 b hb).2⟩
  refine codeAny_forLoop_any (fun n s'=>∃ i σ' H',Inv X pins σ' H' s'∧tn i s'.heap∧(∀ b∈fp,H' b=none)∧W i n σ' H') ?_ m0 ⟨0,σ,H2,I2,st2,fun b hb=>(f2 b hb).1,w0⟩;rintro n s3 ⟨i,σ3,H3,I3,st3,fr3,w3⟩;rcases turn i n σ3 H3 w3 with ⟨stop,qn⟩|⟨go,N,hN,step⟩
  · refine wpAny_passesOwn hp (thn (T.done X rfl rfl rfl hc i pins s3 σ3 H3 X.xe I3 (stat fr3) st3 stop) fun r s4 ⟨hr,I4⟩=>?_);subst hr;exact wpAny_execs_nil ⟨σ3,H3,I4,qn⟩
  · refine wpAny_passesOwn hp (thn (T.item X rfl rfl rfl hc i pins s3 σ3 H3 X.xe I3 (stat fr3) st3 go) fun r s4 ⟨u,hr,h4⟩=>?_);subst hr;refine wpAny_passesOwn hp (thn h4 fun _ s5 ⟨x,H5,I5,r5,y5,st5,fr5⟩=>?_);have I5':=I5.pinned (stat fr5) (T.obj _ _ st5);refine wpAny_passesOwn hp (thn (hg _ s5 σ3 H5 x u _ I5' r5 (step x H5 y5)) fun _ s6 ⟨σ6,H6,I6,q6⟩=>?_);refine wpAny_passesOwn hp (thn (hb _ s6 σ6 H6 _ I6 q6) fun f s7 q7=>?_);have again:∀ {σ7:St} {H7:Hp},Inv X (pins++bX fp s5.heap) σ7 H7 s7→N σ7 H7→∃ m,m < n∧∃ i σ' H',Inv X pins σ' H' s7∧tn i s7.heap∧(∀ b∈fp,H' b=none)∧W i m σ' H':=fun {σ7 H7} I7 n7=>by
      obtain ⟨m',hm,w7⟩:=hN σ7 H7 n7;refine ⟨m',hm,i+1,σ7,H7,I7.unpinned,T.keep _ _ _ st5 fun b hb o e=>(I7.pin (b,o) (aax _ (aax _ (bY hb e)))).1,fun b hb=>?_,w7⟩;obtain ⟨o,e,d⟩:=T.obj _ _ st5 b hb;exact (I7.pin (b,o) (aax _ (aax _ (bY hb e)))).2.1
    cases f with
    | next=>obtain ⟨σ7,H7,I7,n7⟩:=q7;exact again I7 n7
    | cont=>obtain ⟨σ7,H7,I7,n7⟩:=q7;exact again I7 n7
    | brk=>obtain ⟨σ7,H7,I7,q7⟩:=q7;exact ⟨σ7,H7,I7.unpinned,q7⟩
    | ret v=>obtain ⟨x7,σ7,H7,I7,r7,q7⟩:=q7;exact ⟨x7,σ7,H7,I7.unpinned,r7,q7⟩
end
theorem br {lo:Int} {n:Nat} {g:TG} {tb:TS} {D:Ends} {σ:St} {H:Hp} (Pv:Nat→St→Hp→Prop) (h0:Pv 0 σ H)
    (hs:∀ i σ H,i < n→Pv i σ H→g (.int (lo+i)) σ H fun σ2 H2=>tb { D with nx:=Pv (i+1),ct:=Pv (i+1),bk:=D.nx } σ2 H2) (hd:∀ σ H,Pv n σ H→D.nx σ H) :
    ∃ W:Nat→Nat→St→Hp→Prop,(∃ m,W 0 m σ H)∧∀ i m σ H,W i m σ H →
      ((Itr lo n).stop i H∧D.nx σ H)∨((Itr lo n).go i H∧∃ N:St→Hp→Prop,(∀ σ' H',N σ' H'→∃ m',m' < m∧W (i+1) m' σ' H')∧∀ x H',(Itr lo n).yld i H x H'→g x σ H' fun σ2 H2=>tb { D with nx:=N,ct:=N,bk:=D.nx } σ2 H2):=by
  refine ⟨fun i m σ H=>m=n - i∧i≤n∧Pv i σ H,⟨n,by simp,aa4 _,h0⟩,?_⟩;rintro i m σ H ⟨rfl,hi,p⟩;by_cases hlt:i < n
  · refine .inr ⟨hlt,Pv (i+1),fun σ' H' p'=>⟨n - (i+1),by lia,rfl,hlt,p'⟩,fun x H' y=>?_⟩;obtain ⟨e,y⟩:=y;subst e y;exact hs i σ _ hlt p
  · have e:i=n:=by lia
    subst e;exact .inl ⟨aaf _,hd σ H p⟩
open PySem PySem.Spec PyProof.Rows
abbrev R2:=V→V→Hp→VK→Prop
def OpR (X:Cx) (f:Value→Value→Sem Value) (r:R2):Prop :=
  ∀ (pins:List (Addr × Obj)) (s:Shared) (σ:St) (H:Hp) (x y:V) (v u:Value) (Q:VK),Inv X pins σ H s→RelV x v→RelV y u→r x y H Q →
    wpAny (model X.prog X.w) X.A (f v u) (EP X pins σ Q) X.xe s
def UnR (X:Cx) (f:Value→Sem Value) (r:V→Hp→VK→Prop):Prop :=
  ∀ (pins:List (Addr × Obj)) (s:Shared) (σ:St) (H:Hp) (x:V) (v:Value) (Q:VK),Inv X pins σ H s→RelV x v→r x H Q →
    wpAny (model X.prog X.w) X.A (f v) (EP X pins σ Q) X.xe s
def bv (X:Cx) (f:Value) (r:List V→Hp→VK→Prop):Prop :=
  ∀ (pins:List (Addr × Obj)) (s:Shared) (σ:St) (H:Hp) (xs:List V) (us:List Value) (Q:VK),Inv X pins σ H s→Vals xs us→r xs H Q →
    wpAny (model X.prog X.w) X.A (call f us) (EP X pins σ Q) X.xe s
def tOp (r:R2) (ta tb:TE):TE:=fun σ H Q=>ta σ H fun x H1=>tb σ H1 fun y H2=>r x y H2 Q
def tUn (r:V→Hp→VK→Prop) (ta:TE):TE:=fun σ H Q=>ta σ H fun x H1=>r x H1 Q
def rI (C:Int→Int→Prop) (g:Int→Int→V):R2:=fun x y H Q=>∃ i j,x=.int i∧y=.int j∧C i j∧Q (g i j) H
def rI0 (g:Int→Int→V):R2:=fun x y H Q=>∃ i j,x=.int i∧y=.int j∧Q (g i j) H
def rU (g:Int→V):V→Hp→VK→Prop:=fun x H Q=>∃ i,x=.int i∧Q (g i) H
section
variable {X:Cx} {a b c:Expr} {ta tb tc:TE} {pos:Pos}
theorem vO (ha:PE X a ta) (hb:PE X b tb) {pins:List (Addr × Obj)} {s:Shared} {σ:St} {H:Hp} {R:V→V→Hp→Prop} (I:Inv X pins σ H s)
    (h:ta σ H fun x H1=>tb σ H1 fun y H2=>R x y H2) {Q:Value→Shared→Prop} {f:Value→Value→Sem Value}
    (hf:∀ v u s2 x y H2,Inv X pins σ H2 s2→RelV x v→RelV y u→R x y H2→wpAny (model X.prog X.w) X.A (f v u) Q X.xe s2) :
    wpAny (model X.prog X.w) X.A (eval a X.env) (fun v s₁=>wpAny (model X.prog X.w) X.A (eval b X.env) (fun u s₂=>wpAny (model X.prog X.w) X.A (f v u) Q X.xe s₂) X.xe s₁) X.xe s:=by
  refine thn (ha pins s σ H _ I h) fun v s1 ⟨x,H1,I1,r1,q1⟩=>?_;refine thn (hb pins s1 σ H1 _ I1 q1) fun u s2 ⟨y,H2,I2,r2,q2⟩=>?_;exact hf v u s2 x y H2 I2 r1 r2 q2
theorem az {op:Operator} {r:R2} (ho:OpR X (binaryOp op) r) (ha:PE X a ta) (hb:PE X b tb):PE X (.BinOp a op b pos) (tOp r ta tb):=by
  intro pins s σ H Q I h;exact wpAny_BinOp (vO ha hb I h fun v u s2 x y H2 I2 rx ry q=>ho pins s2 σ H2 x y v u Q I2 rx ry q)
theorem fV {op:UnaryOp} {r:V→Hp→VK→Prop} (ho:UnR X (unaryOp op) r) (ha:PE X a ta):PE X (.UnaryOp op a pos) (tUn r ta):=by
  intro pins s σ H Q I h;exact UnaryOp_ (thn (ha pins s σ H _ I h) fun v s1 ⟨x,H1,I1,r1,q1⟩=>ho pins s1 σ H1 x v Q I1 r1 q1)
theorem opI {f:Value→Value→Sem Value} {C:Int→Int→Prop} {g:Int→Int→Int}
    (rule:∀ (i j:Int) (t u:Tok) (s:Shared) (Q:Value→Shared→Prop) (E:Value→Shared→Prop),C i j→Q (.int (g i j) s.toks) { s with toks:=s.toks+1 }→wpAny (model X.prog X.w) X.A (f (.int i t) (.int j u)) Q E s) :
    OpR X f (rI C fun i j=>.int (g i j)):=by
  intro pins s σ H x y v u Q I rx ry h;obtain ⟨i,j,rfl,rfl,hc,q⟩:=h;obtain ⟨t,rfl⟩:=rx;obtain ⟨t',rfl⟩:=ry;exact rule i j t t' s _ _ hc ⟨.int (g i j),H,I.tok _,⟨_,rfl⟩,q⟩
theorem wE {f:Value→Value→Sem Value} {g:Int→Int→Int}
    (rule:∀ (i j:Int) (t u:Tok) (s:Shared) (Q:Value→Shared→Prop) (E:Value→Shared→Prop),Q (.int (g i j) s.toks) { s with toks:=s.toks+1 }→wpAny (model X.prog X.w) X.A (f (.int i t) (.int j u)) Q E s) :
    OpR X f (rI0 fun i j=>.int (g i j)):=by
  intro pins s σ H x y v u Q I rx ry h;obtain ⟨i,j,rfl,rfl,q⟩:=h;obtain ⟨t,rfl⟩:=rx;obtain ⟨t',rfl⟩:=ry;exact rule i j t t' s _ _ ⟨.int (g i j),H,I.tok _,⟨_,rfl⟩,q⟩
theorem tX {f:Value→Value→Sem Value} {g:Int→Int→Bool}
    (rule:∀ (i j:Int) (t u:Tok) (s:Shared) (Q:Value→Shared→Prop) (E:Value→Shared→Prop),Q (.bool (g i j)) s→wpAny (model X.prog X.w) X.A (f (.int i t) (.int j u)) Q E s) :
    OpR X f (rI0 fun i j=>.bl (g i j)):=by
  intro pins s σ H x y v u Q I rx ry h;obtain ⟨i,j,rfl,rfl,q⟩:=h;obtain ⟨t,rfl⟩:=rx;obtain ⟨t',rfl⟩:=ry;exact rule i j t t' s _ _ ⟨.bl (g i j),H,I,rfl,q⟩
def vU (i j:Int):Prop:=0≤j∧j≤1000000∧i.natAbs < 2 ^ 64
def CMul (i j:Int):Prop:=(-(2 ^ 64) < i∧i < 2 ^ 64)∨(-(2 ^ 64) < j∧j < 2 ^ 64)
theorem CMul.ok {i j:Int} (h:CMul i j):IntMulOk i j:=by
  rcases h with ⟨h1,h2⟩|⟨h1,h2⟩
  · exact .of_left (intBits_le_64 h1 h2)
  · exact .of_right (intBits_le_64 h1 h2)
theorem bh:OpR X (binaryOp .Add) (rI0 fun i j=>.int (i+j)):=wE fun _ _ _ _ _ _ _ q=>add_int q
theorem fH:OpR X (binaryOp .Sub) (rI0 fun i j=>.int (i - j)):=wE fun _ _ _ _ _ _ _ q=>sub_int q
theorem dX:OpR X (binaryOp .Mult) (rI CMul fun i j=>.int (i * j)):=opI fun _ _ _ _ _ _ _ hc q=>mul_int q hc.ok
theorem bA:OpR X (binaryOp .Mod) (rI (fun _ j=>0 < j) fun i j=>.int (i % j)):=opI fun i j _ _ _ _ _ hc q=>by
  have h1:(0:Int) < j:=hc;exact mod_int' (by lia) (by rw [Int.fmod_eq_emod_of_nonneg i (by lia)];exact q)
theorem dW:OpR X (binaryOp .Pow) (rI vU fun i j=>.int (i ^ j.toNat)):=opI fun _ _ _ _ _ _ _ hc q=>pow_int_small hc.1 hc.2.1 hc.2.2 q
theorem unI {f:Value→Sem Value} {g:Int→Int}
    (rule:∀ (i:Int) (t:Tok) (s:Shared) (Q:Value→Shared→Prop) (E:Value→Shared→Prop),Q (.int (g i) s.toks) { s with toks:=s.toks+1 }→wpAny (model X.prog X.w) X.A (f (.int i t)) Q E s) :
    UnR X f (rU fun i=>.int (g i)):=by
  intro pins s σ H x v Q I rx h;obtain ⟨i,rfl,q⟩:=h;obtain ⟨t,rfl⟩:=rx;exact rule i t s _ _ ⟨.int (g i),H,I.tok _,⟨_,rfl⟩,q⟩
theorem dB:UnR X (unaryOp .USub) (rU fun i=>.int (-i)):=unI fun _ _ _ _ _ q=>neg_int q
end
def wm:V→V→Bool
  | .non,.non=>true|.non,.int _=>true|.int _,.non=>true|.non,.bl _=>true|.bl _,.non=>true|.non,.str _=>true|.str _,.non=>true
  | .int _,.int _=>true|.bl _,.bl _=>true|.str _,.str _=>true|.byt _,.byt _=>true
  | .int _,.str _=>true|.str _,.int _=>true|.bl _,.str _=>true|.str _,.bl _=>true
  | _,_=>false
def rEq:R2:=fun x y H Q=>wm x y=true∧Q (.bl (decide (x=y))) H
def rNe:R2:=fun x y H Q=>wm x y=true∧Q (.bl (!decide (x=y))) H
theorem oV {i j:Int}:decide (V.int i=V.int j)=(i == j):=by
  rw [abl];simp
theorem sJ {i j:Bool}:decide (V.bl i=V.bl j)=(i == j):=by
  rw [abl];simp
theorem oU {i j:Str}:decide (V.str i=V.str j)=(i == j):=by
  rw [abl];simp
theorem oW {i j:Array UInt8}:decide (V.byt i=V.byt j)=(i.toList == j.toList):=by
  rw [abl];cases i;cases j;simp
section
variable {X:Cx} {a b c:Expr} {ta tb tc:TE} {pos:Pos}
theorem aO {pins:List (Addr × Obj)} {σ:St} {H:Hp} {s:Shared} {Q:VK} {k k':Bool} (I:Inv X pins σ H s) (q:Q (.bl k) H) (e:k=k'):EP X pins σ Q (.bool k') s:=by
  subst e;exact ⟨.bl k,H,I,rfl,q⟩
theorem bD:OpR X (compareOp .Eq) rEq:=by
  intro pins s σ H x y v u Q I rx ry h;obtain ⟨hs,q⟩:=h;cases x with
  | non =>
    cases rx;cases y with
    | non=>cases ry;exact PySem.EqNone.eq_none_none (aO I q (by simp))
    | bl j=>cases ry;exact PySem.EqNone.eq_none_bool (aO I q (by simp))
    | int j=>obtain ⟨t',rfl⟩:=ry;exact PySem.EqNone.eq_none_int (aO I q (by simp))
    | str j=>obtain ⟨t',rfl⟩:=ry;exact PySem.EqNone.eq_none_str (aO I q (by simp))
    | _=>exact absurd (show false=true from hs) aag
  | bl i =>
    cases rx;cases y with
    | non=>cases ry;exact PySem.EqNone.eq_bool_none (aO I q (by simp))
    | bl j=>cases ry;exact eq_bool (aO I q sJ)
    | str j=>obtain ⟨t',rfl⟩:=ry;exact PySem.EqMixed.eq_bool_str (aO I q (by simp))
    | _=>exact absurd (show false=true from hs) aag
  | int i =>
    obtain ⟨t,rfl⟩:=rx;cases y with
    | non=>cases ry;exact PySem.EqNone.eq_int_none (aO I q (by simp))
    | int j=>obtain ⟨t',rfl⟩:=ry;exact eq_int (aO I q oV)
    | str j=>obtain ⟨t',rfl⟩:=ry;exact PySem.EqMixed.eq_int_str (aO I q (by simp))
    | _=>exact absurd (show false=true from hs) aag
  | str i =>
    obtain ⟨t,rfl⟩:=rx;cases y with
    | non=>cases ry;exact PySem.EqNone.eq_str_none (aO I q (by simp))
    | bl j=>cases ry;exact PySem.EqMixed.eq_str_bool (aO I q (by simp))
    | int j=>obtain ⟨t',rfl⟩:=ry;exact PySem.EqMixed.eq_str_int (aO I q (by simp))
    | str j=>obtain ⟨t',rfl⟩:=ry;exact eq_str (aO I q oU)
    | _=>exact absurd (show false=true from hs) aag
  | byt i =>
    obtain ⟨t,rfl⟩:=rx;cases y with
    | byt j=>obtain ⟨t',rfl⟩:=ry;exact PySem.W.eq_bytes (aO I q oW)
    | _=>exact absurd (show false=true from hs) aag
  | _=>cases y <;> exact absurd (show false=true from hs) aag
theorem gS:OpR X (compareOp .NotEq) rNe:=by
  intro pins s σ H x y v u Q I rx ry h;obtain ⟨hs,q⟩:=h;cases x with
  | non =>
    cases rx;cases y with
    | non=>cases ry;exact PySem.EqNone.ne_none_none (aO I q (by simp))
    | bl j=>cases ry;exact PySem.EqNone.ne_none_bool (aO I q (by simp))
    | int j=>obtain ⟨t',rfl⟩:=ry;exact PySem.EqNone.ne_none_int (aO I q (by simp))
    | str j=>obtain ⟨t',rfl⟩:=ry;exact PySem.EqNone.ne_none_str (aO I q (by simp))
    | _=>exact absurd (show false=true from hs) aag
  | bl i =>
    cases rx;cases y with
    | non=>cases ry;exact PySem.EqNone.ne_bool_none (aO I q (by simp))
    | bl j=>cases ry;exact ne_bool (aO I q (congrArg not sJ))
    | str j=>obtain ⟨t',rfl⟩:=ry;exact PySem.EqMixed.ne_bool_str (aO I q (by simp))
    | _=>exact absurd (show false=true from hs) aag
  | int i =>
    obtain ⟨t,rfl⟩:=rx;cases y with
    | non=>cases ry;exact PySem.EqNone.ne_int_none (aO I q (by simp))
    | int j=>obtain ⟨t',rfl⟩:=ry;exact ne_int (aO I q (congrArg not oV))
    | str j=>obtain ⟨t',rfl⟩:=ry;exact PySem.EqMixed.ne_int_str (aO I q (by simp))
    | _=>exact absurd (show false=true from hs) aag
  | str i =>
    obtain ⟨t,rfl⟩:=rx;cases y with
    | non=>cases ry;exact PySem.EqNone.ne_str_none (aO I q (by simp))
    | bl j=>cases ry;exact PySem.EqMixed.ne_str_bool (aO I q (by simp))
    | int j=>obtain ⟨t',rfl⟩:=ry;exact PySem.EqMixed.ne_str_int (aO I q (by simp))
    | str j=>obtain ⟨t',rfl⟩:=ry;exact ne_str (aO I q (congrArg not oU))
    | _=>exact absurd (show false=true from hs) aag
  | byt i =>
    obtain ⟨t,rfl⟩:=rx;cases y with
    | byt j=>obtain ⟨t',rfl⟩:=ry;exact PySem.W.ne_bytes (aO I q (congrArg not oW))
    | _=>exact absurd (show false=true from hs) aag
  | _=>cases y <;> exact absurd (show false=true from hs) aag
theorem gU:OpR X (compareOp .Lt) (rI0 fun i j=>.bl (decide (i < j))):=tX fun _ _ _ _ _ _ _ q=>lt_int q
theorem gW:OpR X (compareOp .LtE) (rI0 fun i j=>.bl (decide (i≤j))):=tX fun _ _ _ _ _ _ _ q=>le_int q
theorem rm:OpR X (compareOp .Gt) (rI0 fun i j=>.bl (decide (j < i))):=tX fun _ _ _ _ _ _ _ q=>gt_int q
theorem wz:OpR X (compareOp .GtE) (rI0 fun i j=>.bl (decide (j≤i))):=tX fun _ _ _ _ _ _ _ q=>ge_int q
theorem rl:OpR X (compareOp .Is) (fun x y H Q=>y=.non∧Q (.bl (decide (x=.non))) H):=by
  intro pins s σ H x y v u Q I rx ry h;obtain ⟨rfl,q⟩:=h;cases ry;refine is_none_gen (aO I q ?_);cases x <;> first
    | (cases rx;rfl)
    | (obtain ⟨t,rfl⟩:=rx;rfl)
theorem tW:OpR X (compareOp .IsNot) (fun x y H Q=>y=.non∧Q (.bl (!decide (x=.non))) H):=by
  intro pins s σ H x y v u Q I rx ry h;obtain ⟨rfl,q⟩:=h;cases ry;refine isnot_none_gen (aO I q ?_);cases x <;> first
    | (cases rx;rfl)
    | (obtain ⟨t,rfl⟩:=rx;rfl)
theorem aC (b:Expr) {op:CmpOp} (h:op≠.In:=by decide) (h2:op≠.NotIn:=by decide):behindInMarks op b=false:=by
  have e1:(op == CmpOp.In)=false:=by cases op <;> first|rfl|exact absurd rfl h
  have e2:(op == CmpOp.NotIn)=false:=by cases op <;> first|rfl|exact absurd rfl h2
  cases b <;> simp [behindInMarks,e1,e2]
theorem bp {op:CmpOp} {r:R2} (ho:OpR X (compareOp op) r) (ha:PE X a ta) (hb:PE X b tb) (hm:behindInMarks op b=false):PE X (.Compare a [op] [b] pos) (tOp r ta tb):=by
  intro pins s σ H Q I h;exact wpAny_Compare1 (vO ha hb I h fun v u s2 x y H2 I2 rx ry q=>ho pins s2 σ H2 x y v u Q I2 rx ry q) hm
def uk (t:TE):TT:=fun σ H Q=>t σ H fun x H'=>∃ k,x=.bl k∧Q k H'
theorem aE {op:CmpOp} {r:R2} (ho:OpR X (compareOp op) r) (ha:PE X a ta) (hb:PE X b tb) (hm:behindInMarks op b=false):PT X (.Compare a [op] [b] pos) (uk (tOp r ta tb)):=by
  intro pins s σ H Q I h;refine wpAny_isTrue_Compare1 (thn (ha pins s σ H _ I h) fun v s1 ⟨x,H1,I1,r1,q1⟩=>thn (hb pins s1 σ H1 _ I1 q1) fun u s2 ⟨y,H2,I2,r2,q2⟩ =>
    thn (ho pins s2 σ H2 x y v u _ I2 r1 r2 q2) fun c s3 ⟨z,H3,I3,r3,k,e,q3⟩=>?_) hm
  subst e;cases r3;exact wpAny_truthy_bool ⟨H3,I3,q3⟩
def qC (r r':R2) (ta tb tc:TE):TE:=fun σ H Q=>ta σ H fun x H1=>tb σ H1 fun y H2=>r x y H2 fun z H3=>∃ k,z=.bl k ∧
  (if k=true then tc σ H3 fun w' H4=>r' y w' H4 Q else Q (.bl false) H3)
theorem lW {op op':CmpOp} {r r':R2} (ho:OpR X (compareOp op) r) (ho':OpR X (compareOp op') r') (ha:PE X a ta) (hb:PE X b tb) (hc:PE X c tc)
    (hm:lastMarks [op,op'] [b,c]=false:=by with_unfolding_all rfl):PE X (.Compare a [op,op'] [b,c] pos) (qC r r' ta tb tc):=by
  intro pins s σ H Q I h;refine Compare_chain (thn (ha pins s σ H _ I h) fun v s1 ⟨x,H1,I1,r1,q1⟩=>chain_link (thn (hb pins s1 σ H1 _ I1 q1) fun u s2 ⟨y,H2,I2,r2,q2⟩ =>
    thn (ho pins s2 σ H2 x y v u _ I2 r1 r2 q2) fun d s3 ⟨z,H3,I3,r3,k,e,q3⟩=>?_)) hm
  subst e;cases r3;refine wpAny_truthy_bool ?_;cases k with
  | false=>exact ite_ff ⟨.bl false,H3,I3,rfl,q3⟩
  | true=>exact ite_tt (chain_last (thn (hc pins s3 σ H3 _ I3 q3) fun w' s4 ⟨z',H4,I4,r4,q4⟩=>ho' pins s4 σ H4 y z' u w' Q I4 r2 r4 q4))
theorem iG {op op':CmpOp} {r r':R2} (ho:OpR X (compareOp op) r) (ho':OpR X (compareOp op') r') (ha:PE X a ta) (hb:PE X b tb) (hc:PE X c tc)
    (hm:lastMarks [op,op'] [b,c]=false:=by with_unfolding_all rfl):PT X (.Compare a [op,op'] [b,c] pos) (uk (qC r r' ta tb tc)):=by
  intro pins s σ H Q I h;refine isTrue_chain (thn (ha pins s σ H _ I h) fun v s1 ⟨x,H1,I1,r1,q1⟩=>test_link (thn (hb pins s1 σ H1 _ I1 q1) fun u s2 ⟨y,H2,I2,r2,q2⟩ =>
    thn (ho pins s2 σ H2 x y v u _ I2 r1 r2 q2) fun d s3 ⟨z,H3,I3,r3,k,e,q3⟩=>?_)) hm
  subst e;cases r3;refine wpAny_truthy_bool ?_;cases k with
  | false =>
    obtain ⟨k',e',q'⟩:=q3;cases e';exact ite_ff ⟨H3,I3,q'⟩
  | true =>
    refine ite_tt (test_last (thn (hc pins s3 σ H3 _ I3 q3) fun w' s4 ⟨z',H4,I4,r4,q4⟩=>thn (ho' pins s4 σ H4 y z' u w' _ I4 r2 r4 q4) fun d' s5 ⟨z2,H5,I5,r5,k2,e2,q5⟩=>?_));subst e2;cases r5;exact wpAny_truthy_bool ⟨H5,I5,q5⟩
theorem gH:(sizeLine:Nat) < 2 ^ 63:=by rw [sizeLine_eq];decide
theorem ci {x:V} {us:List Value} (r:Vals [x] us):∃ u,us=[u]∧RelV x u:=by
  cases r with
  | cons r1 r2=>cases r2;exact ⟨_,rfl,r1⟩
theorem gQ {x y:V} {us:List Value} (r:Vals [x,y] us):∃ u w',us=[u,w']∧RelV x u∧RelV y w':=by
  cases r with
  | cons r1 r2 =>
    cases r2 with
    | cons r3 r4=>cases r4;exact ⟨_,_,rfl,r1,r3⟩
theorem gL:bv X (.type "int") (fun xs H Q=>(∃ i,xs=[.int i]∧Q (.int i) H)∨∃ k,xs=[.bl k]∧Q (.int (if k then 1 else 0)) H):=by
  intro pins s σ H xs us Q I r h;rcases h with ⟨i,rfl,q⟩|⟨k,rfl,q⟩
  · obtain ⟨u,rfl,t,rfl⟩:=ci r;exact call_int_int ⟨.int i,H,I,⟨_,rfl⟩,q⟩
  · obtain ⟨u,rfl,r1⟩:=ci r;cases r1;exact call_int_bool ⟨.int (if k then 1 else 0),H,I.tok _,⟨_,rfl⟩,q⟩
end
open PySem PySem.Spec PyProof.Rows
structure ObjM (h:Heap) (x dx C:Addr) (mA:Str→Option Value):Prop where
  obj:h.get? x=some (PySem.W.instObj C dx)
  ns:h.Ns1 dx mA
  ne:dx≠x
theorem pW {h:Heap} {dx:Addr} {mA:Str→Option Value} (n:h.Ns1 dx mA):∃ od,h.get? dx=some od∧∀ name,PySem.W.lookIn name od=some (mA name):=by
  obtain ⟨o,es,ep,ho,hd,hk,_,hm⟩:=n;refine ⟨o,ho,fun name=>?_⟩;have e:=hm name;unfold nsFind findBy at e;rw [← Array.find?_toList] at e;unfold PySem.W.lookIn;rw [hd];dsimp only;split
  · rename_i y q;rw [q] at e;exact congrArg some e
  · rename_i q;rw [q] at e;have a:es.toList.any (·.refKey)=false:=by
      rw [List.any_eq_false];intro y hy;obtain ⟨z,t,hkey⟩:=hk y (Array.mem_toList_iff.mp hy);simp [DictEntry.refKey,hkey]
    have a':¬ es.toList.any (·.refKey)=true:=by rw [a];exact aag
    rw [if_neg a'];exact congrArg some e
theorem ObjM.look {h:Heap} {x dx C:Addr} {mA:Str→Option Value} (I:ObjM h x dx C mA):∃ od,PySem.W.InstAt h x (PySem.W.instObj C dx) C (some od)∧∀ name,PySem.W.lookIn name od=some (mA name) :=
  let ⟨od,ho,hl⟩:=pW I.ns
  ⟨od,⟨I.obj,rfl,rfl,ho⟩,hl⟩
section
variable {prog:Program} {w:World} {A:Around} {E:Value→Shared→Prop} {s:Shared} {K:aab} {x dx C f:Addr} {mA:Str→Option Value} {name:Str} {v:Value}
end
theorem RelO.some_of {v:V} {o:Option Value} (r:RelO (some v) o):∃ u,o=some u∧RelV v u:=by
  cases o with
  | none=>exact (show False from r).elim
  | some u=>exact ⟨u,rfl,r⟩
section
variable {P:Program} {w:World} {H H':Hp} {h h':Heap} {a C dx:Addr} {fs fs':List (Str × V)}
theorem oQ (hok:HOk P w H h) (e:H a=some (.ins C dx fs)):∃ mA,ObjM h a dx C mA∧(∀ f,RelO (fs.lookup f) (mA f))∧PySem.Within mA (fs.map (·.1))∧fs.length≤1000∧H dx=some (.own a):=by
  obtain ⟨d,z,ne,ob,mA,n,r,q⟩:=(show ObjOk P w H h a (.ins C dx fs) from hok a _ e)
  exact ⟨mA,⟨ob,n,ne⟩,r,q,z,d⟩
end
structure Cls (K:aab) (C:Addr):Prop where
  pg:PySem.W.plainGet K C Str.empty=true
  hd:PySem.W.hasDictIn K C=true
  po:PySem.W.plainOver K C=true
  sa:ac2 K (.ref C) "__setattr__" = some (some (.builtin "object.__setattr__"))
theorem Cls.get {K:aab} {C:Addr} (c:Cls K C) (f:Str):PySem.W.plainGet K C f=true:=c.pg
structure Con (K:aab) (C:Addr) (f:Str) (v:V) (u:Value):Prop where
  at_:ac2 K (.ref C) f=some (some u)
  rel:RelV v u
  get:PySem.W.specialIn K u "__get__" = some none
  cp:PySem.W.copiedNames.contains f=false
structure Meth (K:aab) (C:Addr) (m:Str) (f:Addr):Prop where
  at_:ac2 K (.ref C) m=some (some (.ref f))
  fn:PySem.W.isFn K (.ref f)=true
  kp:abF K (.ref f)=true
section
variable {X:Cx} {pins:List (Addr × Obj)} {σ:St} {H:Hp} {s:Shared} {a C dx:Addr} {fs:List (Str × V)} {f:Str} {v:V} {A:Around} {E:Value→Shared→Prop}
end
section
variable {X:Cx} {o e value:Expr} {f:Str} {pos pos' tpos:Pos} {ta tv:TE}
end
section
variable {X:Cx} {pins:List (Addr × Obj)} {σ:St} {H:Hp} {s:Shared} {A:Around} {E:Value→Shared→Prop} {Q:Value→Shared→Prop} {c:Value} {b:Bool}
inductive TyOf (K:aab) (H:Hp):V→Value→Prop where
  | non:TyOf K H .non (.type "NoneType")
  | bl (x:Bool):TyOf K H (.bl x) (.type "bool")
  | int (i:Int):TyOf K H (.int i) (.type "int")
  | str (x:Str):TyOf K H (.str x) (.type "str")
  | flt (x:UInt64):TyOf K H (.flt x) (.type "float")
  | lst {a:Addr} {xs:List V} (e:H a=some (.lst xs)):TyOf K H (.ref a) (.type "list")
  | frz {a:Addr} {o:Obj} {xs:List V} (e:H a=some (.frz o (.lst xs))):TyOf K H (.ref a) (.type "list")
  | tup {a:Addr} {xs:List V} (e:H a=some (.tup xs)):TyOf K H (.ref a) (.type "tuple")
  | dK {a:Addr} {kvs:List (Key × V)} (e:H a=some (.dK kvs)):TyOf K H (.ref a) (.type "dict")
  | dT {a:Addr} {kvs:List (List Key × V)} (e:H a=some (.dT kvs)):TyOf K H (.ref a) (.type "dict")
  | ins {a C dx:Addr} {fs:List (Str × V)} (e:H a=some (.ins C dx fs)) (cl:Cls K C) (ha:ac2 K (.ref C) "__class__" = some (some (.builtin "object.__class__")))
      (hn:PySem.W.specialIn K (.builtin "object.__class__") "__get__" = some (some (.builtin "getset_descriptor.__get__"))) (htk:PySem.W.takesIn K (.builtin "object.__class__")=some true)
      (hm:PySem.W.mroIn K C (.type "object")=some true):TyOf K H (.ref a) (.ref C)
theorem jO {x:V} {u t:Value} (I:Inv X pins σ H s) (rx:RelV x u) (ty:TyOf X.K H x t) (e:ach X.K t c=some b) (h:∀ tk,Q (.bool b) { s with toks:=tk }) :
    wpAny (model X.prog X.w) A (call (.builtin "isinstance") [u,c]) Q E s:=by
  cases ty with
  | non=>cases (show u=Value.none from rx);exact abg PySem.W.kitx_none I.kIn True.intro e (fun z=>nomatch z) h
  | bl y=>cases (show u=Value.bool y from rx);exact abg PySem.W.kitx_bool I.kIn True.intro e (fun z=>nomatch z) h
  | int i=>obtain ⟨t,q⟩:=(show ∃ t,u=Value.int i t from rx);cases q;exact abg PySem.W.kitx_int I.kIn True.intro e (fun z=>nomatch z) h
  | str y=>obtain ⟨t,q⟩:=(show ∃ t,u=Value.str y t from rx);cases q;exact abg PySem.W.kitx_str I.kIn True.intro e (fun z=>nomatch z) h
  | flt y=>obtain ⟨t,q⟩:=(show ∃ t,u=Value.float y t from rx);cases q;exact abg PySem.W.kitx_float I.kIn True.intro e (fun z=>nomatch z) h
  | @lst a xs ea =>
    cases (show u=Value.ref a from rx);obtain ⟨_,_,n,_,h1⟩:=(show ObjOk X.prog X.w H s.heap a (.lst xs) from I.hok a _ ea)
    exact abg acY I.kIn ⟨_,h1,rfl⟩ e (fun z=>nomatch z) h
  | @frz a ob xs ea =>
    cases (show u=Value.ref a from rx);obtain ⟨_,_,_,n,_,h1⟩:=(show ObjOk X.prog X.w H s.heap a (.frz ob (.lst xs)) from I.hok a _ ea)
    exact abg acY I.kIn ⟨_,h1,rfl⟩ e (fun z=>nomatch z) h
  | @tup a xs ea =>
    cases (show u=Value.ref a from rx);obtain ⟨_,_,_,p⟩:=(show ObjOk X.prog X.w H s.heap a (.tup xs) from I.hok a _ ea)
    obtain ⟨o,h1,h2,_⟩:=p;exact abg PySem.W.kitx_tuple I.kIn ⟨o,h1,h2⟩ e (fun z=>nomatch z) h
  | @dK a kvs ea =>
    cases (show u=Value.ref a from rx);obtain ⟨_,_,vs,_,p⟩:=(show ObjOk X.prog X.w H s.heap a (.dK kvs) from I.hok a _ ea)
    obtain ⟨o,es,ep,h1,h2,_⟩:=p;exact abg acv I.kIn ⟨o,h1,h2.1⟩ e (fun z=>nomatch z) h
  | @dT a kvs ea =>
    cases (show u=Value.ref a from rx);obtain ⟨_,_,xs,_,o,es,ep,h1,h2,_⟩:=(show ObjOk X.prog X.w H s.heap a (.dT kvs) from I.hok a _ ea)
    exact abg acv I.kIn ⟨o,h1,h2.1⟩ e (fun z=>nomatch z) h
  | @ins a C dx fs ea cl ha hn htk hm =>
    cases (show u=Value.ref a from rx);obtain ⟨mA,O,_⟩:=oQ I.hok ea;obtain ⟨od,J,_⟩:=O.look;exact abg (PySem.W.kitx_own (cl.get _) cl.hd ha hn htk hm) I.kIn J e (fun z=>nomatch z) h
end
open PySem PySem.Spec PyProof.Rows
structure Room (k:Nat) (A:Around):Prop where
  hd:A.handled=none
  dp:A.depth+3 * k+5 < recursionLimit
  un:A.units+16 * k+200 < cLine
  gd:A.guards=some []
theorem Room.mono {j k:Nat} {A:Around} (r:Room k A) (h:j≤k):Room j A:=⟨r.hd,by have:=r.dp;lia,by have:=r.un;lia,r.gd⟩
theorem Room.deeper {k:Nat} {A:Around} (r:Room (k+1) A) (env:Env):Room k (A.deeper env) :=
  ⟨r.hd,by have:=r.dp;show A.depth+1+3 * k+5 < _;lia,by have:=r.un;show A.units+3+16 * k+200 < _;lia,r.gd⟩
theorem Room.depth {k:Nat} {A:Around} (r:Room k A):A.depth < recursionLimit:=by have:=r.dp;lia
theorem Room.units {k:Nat} {A:Around} (r:Room k A):A.units+64 < cLine:=by have:=r.un;lia
def xb:TA:=fun _ H Q=>Q [] H
def wd (ta:TE) (tr:TA):TA:=fun σ H Q=>ta σ H fun x H1=>tr σ H1 fun xs H2=>Q (x :: xs) H2
section
variable {X:Cx} {e:Expr} {es:List Expr} {te:TE} {t:TA} {pos:Pos}
theorem ac:PA X [] xb:=fun _ _ _ _ H Q I h=>acS ⟨[],H,I,.nil,h⟩
theorem aa (ha:PE X e te) (hr:PA X es t) (hs:starEach (e :: es) X.env=(false,eval e X.env) :: starEach es X.env:=by rfl):PA X (e :: es) (wd te t):=by
  intro pos pins s σ H Q I h;rw [hs];show wpAny _ _ (spliced ((false,eval e X.env) :: backTo pos (starEach es X.env))) _ _ s;refine abU (thn (ha pins s σ H _ I h) fun u s1 ⟨x,H1,I1,r1,q1⟩=>?_);exact thn (hr pos pins s1 σ H1 _ I1 q1) fun us s2 ⟨xs,H2,I2,r2,q2⟩=>⟨x :: xs,H2,I2,.cons r1 r2,q2⟩
def wY (t:TA):TE:=fun σ H Q=>t σ H fun xs H1=>xs.length≤sizeLine∧∀ p,H1 p=none→Q (.ref p) (upd H1 p (.tup xs))
def xc (t:TA):TE:=fun σ H Q=>t σ H fun xs H1=>xs.length≤sizeLine∧∀ p,H1 p=none→Q (.ref p) (upd H1 p (.lst xs))
theorem aH {x1} (h:PA X es t):PE X (.Tuple es x1 pos) (wY t):=by
  intro pins s σ H Q I hq;refine wpAny_Tuple_spliced (thn (h pos pins s σ H _ I hq) fun us s1 ⟨xs,H1,I1,r,z,q⟩=>⟨by rw [← r.length];exact z,?_⟩);have hf:H1 s1.heap.objs.size=none:=I1.hok.fresh (aaf _);refine ⟨.ref s1.heap.objs.size,upd H1 s1.heap.objs.size (.tup xs),I1.laid (t':=s1.toks) (fun b u e=>aad _ e) (aaf _) ?_,rfl,q _ hf⟩;exact ⟨z,us,r,⟨_,aao _ rfl,rfl,_,rfl⟩⟩
theorem aQ (h:PA X es t):PE X (.List es pos) (xc t):=by
  intro pins s σ H Q I hq;refine wpAny_List_spliced (thn (h pos pins s σ H _ I hq) fun us s1 ⟨xs,H1,I1,r,z,q⟩=>⟨by rw [← r.length];exact z,?_⟩);have hf:H1 s1.heap.objs.size=none:=I1.hok.fresh (aaf _);refine ⟨.ref s1.heap.objs.size,upd H1 s1.heap.objs.size (.lst xs),I1.laid (t':=s1.toks) (fun b u e=>aad _ e) (aaf _) ?_,rfl,q _ hf⟩;exact ⟨z,us,0,r,aao _ rfl⟩
end
abbrev Sp:=List V→Hp→VK→XK→Prop
abbrev CXT:=List Env→Hp→Shared→XK→Value→Shared→Prop
structure Env0 (P:Program) (w:World) (K:aab) (mg:Str→Option Value) (base:Heap) (A:Around) (outer:List Env) (s:Shared) (H:Hp):Prop where
  frames:A.frames=some outer
  mod:Mod K mg base
  bs:∀ b o,base.get? b=some o→s.heap.get? b=some o∧H b=none
  bsz:base.objs.size≤s.heap.objs.size
  funs:s.heap.FunFrames base outer
  frf:∀ b∈frs outer,H b=none
  hok:HOk P w H s.heap
  bare:AllBare s.gens
def CE (outer:List Env) (P:Program) (w:World) (H:Hp) (s:Shared) (Q:VK) (u:Value) (s':Shared):Prop :=
  ∃ v H',s'.os=s.os∧AllBare s'.gens∧Un (frs outer) [] H H' s.heap s'.heap∧HOk P w H' s'.heap∧RelV v u∧Q v H'
def CR (CX:CXT) (outer:List Env) (P:Program) (w:World) (H:Hp) (s:Shared) (Q:VK) (E:XK) (r:Result) (s':Shared):Prop :=
  match r with
  | .ok (.ret u)=>CE outer P w H s Q u s'
  | .ok _=>False
  | .error e=>CX outer H s E e s'
structure FnOk (P:Program) (w:World) (K:aab) (mg:Str→Option Value) (base:Heap) (CX:CXT) (k:Nat) (f:Addr) (fd:FuncData) (ps:List Str) (sp:Sp):Prop where
  len:∀ vs H Q E,sp vs H Q E→vs.length=ps.length
  run:∀ (A:Around) (outer:List Env) (s:Shared) (H:Hp) (args:Args) (us:List Value) (vs:List V) (Q:VK) (E:XK),Room k A→Env0 P w K mg base A outer s H→BindsTo s fd args (ps.zip us)→Vals vs us→sp vs H Q E →
    codeAny (model P w) A (.call (.ref f) args) (CR CX outer P w H s Q E) s
section
variable {X:Cx} {pins:List (Addr × Obj)} {σ:St} {H:Hp} {s s':Shared}
theorem Inv.env0 (I:Inv X pins σ H s):Env0 X.prog X.w X.K X.mg X.base X.A X.stack s H :=
  ⟨I.ok.frames,I.ok.mod,I.bs,aa1 I.ok.bsz I.sz,I.stack,I.stkFree,I.hok,I.bare⟩
theorem Inv.after {Q:VK} {u:Value} (I:Inv X pins σ H s) (h:CE X.stack X.prog X.w H s Q u s'):EP X pins σ Q u s':=by
  obtain ⟨v,H',os,bare,un,hok,r,q⟩:=h;obtain ⟨hh,g,d,t,os'⟩:=s';obtain rfl:os'=s.os:=os;exact ⟨v,H',I.call (h':=hh) (g':=g) (d':=d) (t':=t) (ch:=[]) un hok bare (fun b z=>absurd z (by simp)),r,q⟩
end
def um (sp:Sp) (dvs:List V) (E:XK) (t:TA):TE:=fun σ H Q=>t σ H fun vs H1=>sp (vs++dvs) H1 Q E
def Binds (K:aab) (fd:FuncData) (ps:List Str) (ds:List Value):Prop :=
  ∀ (s:Shared) (us:List Value),K.In s.heap→(us++ds).length=ps.length→BindsTo s fd ⟨us,[]⟩ (ps.zip (us++ds))
theorem Binds.all {K:aab} {fd:FuncData} {ps:List Str} (h:∀ us:List Value,us.length=ps.length→bindArgs fd ⟨us,[]⟩=pure (ps.zip us)):Binds K fd ps []:=fun s us _ hl=>by
  rw [acJ] at hl ⊢;exact .of_eq (h us hl)
def oa (CX:CXT) (X:Cx) (E:XK):Prop:=∀ (pins:List (Addr × Obj)) (σ:St) (H:Hp) (s:Shared) (e:Value) (s':Shared),Inv X pins σ H s→CX X.stack H s E e s'→X.xe e s'
section
variable {X:Cx} {CX:CXT} {k:Nat} {f C:Addr} {fd:FuncData} {ps:List Str} {sp:Sp} {dvs:List V} {ds:List Value} {E:XK} {x m:Str} {p pos apos:Pos} {e o:Expr} {es:List Expr} {ta:TE} {t:TA}
theorem uT {pins:List (Addr × Obj)} {σ:St} {H:Hp} {s:Shared} {Q:VK} {us:List Value} {vs:List V} (F:FnOk X.prog X.w X.K X.mg X.base CX k f fd ps sp) (hr:Room k X.A) (hb:Binds X.K fd ps ds) (hd:Vals dvs ds) (hx:oa CX X E)
    (I:Inv X pins σ H s) (r:Vals vs us) (h:sp (vs++dvs) H Q E):wpAny (model X.prog X.w) X.A (call (.ref f) us) (EP X pins σ Q) X.xe s:=by
  have r2:Vals (vs++dvs) (us++ds):=r.append hd;have hl:(us++ds).length=ps.length:=by rw [← r2.length];exact F.len _ _ _ _ h
  refine wpAny_call (codeAny_mono (F.run X.A X.stack s H ⟨us,[]⟩ (us++ds) (vs++dvs) Q E hr I.env0 (hb s us I.kIn hl) r2 h) fun r s' hq=>?_);cases r with
  | error e=>exact hx pins σ H s e s' I hq
  | ok fl =>
    cases fl with
    | ret u=>exact I.after hq
    | next=>exact acu hq
    | brk=>exact acu hq
    | cont=>exact acu hq
theorem tV (F:FnOk X.prog X.w X.K X.mg X.base CX k f fd ps sp) (hr:Room k X.A) (hg:Gl X x) (hm:X.mg x=some (.ref f)) (hk:abF X.K (.ref f)=true) (hb:Binds X.K fd ps ds) (hd:Vals dvs ds) (hx:oa CX X E)
    (ha:PA X (e :: es) t) (hdb:(x == ("__debug__":Str))=false:=by decide) (he:starEach (e :: es) X.env=(false,eval e X.env) :: starEach es X.env:=by rfl) (hpl:(backTo pos (starEach es X.env)).any (·.1)=false:=by rfl) :
    PE X (.Call (.Name x p) (e :: es) [] pos) (um sp dvs E t):=by
  intro pins s σ H Q I h;refine wpAny_Call_Name_kw (oK I hg hm ?_ hdb);refine PySem.W.callWith_K (h₀:=X.base) I.ok.mod.kin hk (thn (ha pos pins s σ H _ I h) fun us s1 ⟨vs,H1,I1,r,q⟩=>⟨I1.kIn,?_⟩) he hpl;exact uT F hr hb hd hx I1 r q
structure Mk (K:aab) (C f:Addr):Prop where
  makes:PySem.W.makesIn K C=true
  init:ac2 K (.ref C) "__init__" = some (some (.ref f))
  fn:PySem.W.isFn K (.ref f)=true
  kp:abF K (.ref C)=true
end
section
variable {X:Cx} {CX:CXT} {k:Nat} {f C:Addr} {fd:FuncData} {ps ks:List Str} {sp:Sp} {E:XK} {x m:Str} {p pos apos kpos:Pos} {e o:Expr} {es:List Expr} {kws:List Keyword} {te ta:TE} {t tk:TA} {nm:Option Str}
structure KBinds (K:aab) (fd:FuncData) (ps ks:List Str) (g:List Value→List Value→List Value) (gV:List V→List V→List V):Prop where
  to:∀ (s:Shared) (us ws:List Value),K.In s.heap→(g us ws).length=ps.length→BindsTo s fd ⟨us,ks.zip ws⟩ (ps.zip (g us ws))
  rel:∀ {vs:List V} {us:List Value} {zs:List V} {ws:List Value},Vals vs us→Vals zs ws→Vals (gV vs zs) (g us ws)
variable {g:List Value→List Value→List Value} {gV:List V→List V→List V}
end
structure FnScope (N P:List Str) (sc:Scope):Prop where
  kind:sc.kind=.function
  co:sc.isCoroutine=false
  gen:sc.isGenerator=false
  nd:N.Nodup
  pre:N.take P.length=P
  par:∀ x∈P,sc.names.lookup x=some .local∨sc.names.lookup x=some .cell
  nofree:∀ y∈sc.names,y.2≠.free
theorem jT {kindOf:Str→Option NameKind} {x:Str}:∀ {binds:List (Str × Value)} {m:Str→Option Value},(∀ v,(x,v)∉binds)→bindL kindOf binds m x=m x
  | [],_,_=>rfl
  | (n,v) :: r,m,h=>by
    unfold bindL;rw [jT fun w hw=>h w (aaj _ hw)];split
    · have : x≠n:=by rintro rfl;exact h v aan
      simp [this]
    · rfl
theorem jV {kindOf:Str→Option NameKind} {x:Str}:∀ {binds:List (Str × Value)} {m:Str→Option Value},(∀ v,(x,v)∉binds)→bindC kindOf binds m x=m x
  | [],_,_=>rfl
  | (n,v) :: r,m,h=>by
    unfold bindC;rw [jV fun w hw=>h w (aaj _ hw)];split
    · rfl
    · have : x≠n:=by rintro rfl;exact h v aan
      simp [this]
theorem jU {kindOf:Str→Option NameKind} {x:Str} {v:Value}:∀ {P:List Str} {vs:List Value} {i:Nat} {m:Str→Option Value},P.Nodup→P[i]?=some x→vs[i]?=some v→kindOf x=some .local →
    bindL kindOf (P.zip vs) m x=some v
  | [],_,_,_,_,h,_,_=>by simp at h
  | _ :: _,[],_,_,_,_,h,_=>by simp at h
  | p :: P,w :: vs,0,m,nd,h1,h2,hk=>by
    simp at h1 h2;subst h1;subst h2;show bindL kindOf ((p,w) :: P.zip vs) m p=_;unfold bindL;rw [jT fun v hv=>(aa9.mp nd).1 (List.of_mem_zip hv).1,if_pos hk];simp
  | p :: P,w :: vs,i+1,m,nd,h1,h2,hk=>by
    show bindL kindOf ((p,w) :: P.zip vs) m x=_;unfold bindL;exact jU (i:=i) (aa9.mp nd).2 (by simpa using h1) (by simpa using h2) hk
theorem jW {kindOf:Str→Option NameKind} {x:Str} {v:Value}:∀ {P:List Str} {vs:List Value} {i:Nat} {m:Str→Option Value},P.Nodup→P[i]?=some x→vs[i]?=some v→kindOf x≠some .local →
    bindC kindOf (P.zip vs) m x=some v
  | [],_,_,_,_,h,_,_=>by simp at h
  | _ :: _,[],_,_,_,_,h,_=>by simp at h
  | p :: P,w :: vs,0,m,nd,h1,h2,hk=>by
    simp at h1 h2;subst h1;subst h2;show bindC kindOf ((p,w) :: P.zip vs) m p=_;unfold bindC;rw [jV fun v hv=>(aa9.mp nd).1 (List.of_mem_zip hv).1,if_neg hk];simp
  | p :: P,w :: vs,i+1,m,nd,h1,h2,hk=>by
    show bindC kindOf ((p,w) :: P.zip vs) m x=_;unfold bindC;exact jW (i:=i) (aa9.mp nd).2 (by simpa using h1) (by simpa using h2) hk
def start (N:List Str) (vs:List V):St:=vs.map some++aaZ (N.length - vs.length) none
def qk (CX:CXT) (P:Program) (w:World) (K:aab) (mg:Str→Option Value) (base:Heap) (N:List Str) (qual:Str) (scope:Scope) (f:Addr) (cd:Value) (A:Around) (outer:List Env) (s:Shared) (H:Hp) (E:XK):Cx where
  prog:=P
  w:=w
  K:=K
  mg:=mg
  base:=base
  A:=A.deeper (envOfC qual scope s.heap.objs.size f cd)
  N:=N
  s₀:=s
  H₀:=H
  env:=envOfC qual scope s.heap.objs.size f cd
  outer:=outer
  stack:=envOfC qual scope s.heap.objs.size f cd :: outer
  ex:=[]
  calm:=true
  fn:=fun _=>true
  pn:=[]
  xe:=fun e s'=>wpAny (model P w) (A.deeper (envOfC qual scope s.heap.objs.size f cd)) (leaving (envOfC qual scope s.heap.objs.size f cd) e) (fun _ s''=>CX outer H s E e s'') (fun e' s''=>CX outer H s E e' s'') s'
theorem mH {sc:Scope} {n:Nat} {x:Str} (h:sc.names.lookup x=some .cell):∃ c,(cellsFrom n sc.names []).lookup x=some c:=by
  have q:=PySem.W.cellsFrom_some sc.names n [] (.inl h);exact acE.mp q
theorem qc {CX:CXT} {P:Program} {w:World} {K:aab} {mg:Str→Option Value} {base:Heap} {N ps:List Str} {qual:Str} {scope:Scope} {f:Addr} {cd:Value} {A:Around} {outer:List Env} {s s1:Shared} {H:Hp} {E:XK} {us:List Value} {vs:List V}
    (S:FnScope N ps scope) (hd:A.handled=none) (e0:Env0 P w K mg base A outer s H) (hl:vs.length=ps.length) (r:Vals vs us)
    (x:InCallC s s.heap.objs.size (bindL (envOfC qual scope s.heap.objs.size f cd).kindOf (ps.zip us) fun _=>none) (cellsFrom (s.heap.objs.size+1) scope.names []) (bindC (envOfC qual scope s.heap.objs.size f cd).kindOf (ps.zip us) fun _=>none) s1) :
    Inv (qk CX P w K mg base N qual scope f cd A outer s H E) [] (start N vs) H s1:=by
  have hpl:ps.length≤N.length:=by have:=congrArg abJ S.pre;rw [aaL] at this;lia
  obtain ⟨h1,tk,rfl,hk⟩:=x.done;have noA:∀ b:Addr,b∉(qk CX P w K mg base N qual scope f cd A outer s H E).ex:=fun b z=>absurd (show b∈([]:List Addr) from z) (by simp);refine ⟨⟨e0.mod,S.kind,rfl,rfl,aaf _,fun y z c h1 h2=>?_,fun y hy=>?_,fun y c _ h=>?_,fun _=>hd,Around.frames_deeper e0.frames,.inr ⟨rfl,rfl⟩,fun b z=>absurd z (noA b),e0.bs,e0.bsz,fun b _ _=>noA b,fun b z=>absurd z (noA b),e0.funs,e0.frf⟩,
    rfl,e0.bare,Un.kept hk,⟨_,x.toInCall.ns,fun i y v h1 h2 h3=>?_⟩,fun y c h=>⟨_,x.cell y c h⟩,e0.hok.fresh (aaf _),fun y c h=>?_,fun p hp=>absurd (show p∈([]:List (Addr × Obj)) from hp) (by simp),e0.hok.kept hk,?_⟩
  · exact name_of_addr x.apart (abD h1) (abD h2)
  · have hy:scope.names.lookup y=some .cell∨scope.names.lookup y=some .free:=hy;rcases hy with hy|hy
    · exact mH hy
    · exact absurd rfl (S.nofree _ (abD hy))
  · exact abX (x.above y c (abD h))
  · have hi:i < vs.length:=by
      unfold start at h2;by_cases hi:i < vs.length
      · exact hi
      · rw [List.getElem?_append_right (by simpa using hi)] at h2;rw [List.getElem?_replicate] at h2;split at h2 <;> cases h2
    have ha:vs[i]?=some v:=by
      unfold start at h2;rw [List.getElem?_append_left (by simpa using hi),aak] at h2;cases e:vs[i]? with
      | none=>rw [e] at h2;cases h2
      | some a=>rw [e] at h2;cases h2;rfl
    obtain ⟨u,hu,rv⟩:=r.get ha;have hp:ps[i]?=some y:=by
      rw [← S.pre,List.getElem?_take_of_lt (by lia)];exact h1
    have ndP:ps.Nodup:=by rw [← S.pre];exact S.nd.sublist (List.take_sublist _ _)
    refine ⟨u,rv,?_⟩;rcases S.par y (aap hp) with k|k
    · exact .inl ⟨k,jU ndP hp hu k⟩
    · obtain ⟨c,e⟩:=mH (n:=s.heap.objs.size+1) k;refine .inr ⟨.inl k,c,e,?_⟩;have q:=x.cell y c e;rw [jW ndP hp hu (by show scope.names.lookup y≠_;rw [k];decide)] at q;exact q
  · exact e0.hok.fresh (abX (x.above y c (abD h)))
  · unfold start;show _=N.length;rw [aaw,aaa,List.length_replicate];lia
theorem wQ {CX:CXT} {P:Program} {w:World} {K:aab} {mg:Str→Option Value} {base:Heap} {k:Nat} {f:Addr} {name qual:Str} {params:Arguments} {body:List Stmt} {scope:Scope} {dV kV doc pm cdv ct oc:Value} {an od:Option Addr}
    {osl:Array (Option Value)} {N ps:List Str} {sp:Sp} (lk:K.lookup f=some ⟨oc,od,.func (abH name qual params body scope dV kV doc pm an cdv ct),osl⟩) (hcd:acg K cdv qual=true) (S:FnScope N ps scope)
    (len:∀ vs H Q E,sp vs H Q E→vs.length=ps.length)
    (hbody:∀ (A:Around) (outer:List Env) (s:Shared) (H:Hp) (vs:List V) (Q:VK) (E:XK),Room k (A.deeper (envOfC qual scope s.heap.objs.size f cdv))→sp vs H Q E →
      ∃ t,PSs (qk CX P w K mg base N qual scope f cdv A outer s H E) body t∧t { nx:=fun _ H'=>Q .non H',rt:=Q } (start N vs) H) :
    FnOk P w K mg base CX (k+1) f (abH name qual params body scope dV kV doc pm an cdv ct) ps sp:=by
  refine ⟨len,fun A outer s H args us vs Q E hr e0 hb r hsp=>?_⟩;have hl:=len _ _ _ _ hsp;have KX:K.In s.heap:=e0.mod.kin.keeps fun b o e=>(e0.bs b o e).1;have lim:s.heap.NoLimit:=e0.mod.nolimit.keeps fun b o e=>(e0.bs b o e).1;have hkind:∀ y∈ps.zip us,scope.names.lookup y.1=some .local∨(scope.names.lookup y.1=some .cell∧((cellsFrom (s.heap.objs.size+1) scope.names []).lookup y.1).isSome=true):=fun ⟨n,v⟩ hy=>by
    rcases S.par n (List.of_mem_zip hy).1 with q|q
    · exact .inl q
    · exact .inr ⟨q,PySem.W.cellsFrom_some _ _ _ (.inl q)⟩
  refine codeAny_call_function hr.depth (KX _ _ lk) rfl S.co S.gen rfl (PySem.W.codeRec_of KX hcd) (hb _ _ _ _ ?_);refine wpAny_newFunctionEnv_cells S.kind hkind fun env he s1 x=>?_;subst he;refine ⟨lim.keeps x.toInCall.keep,codeAny_func ?_⟩;obtain ⟨t,ht,hq⟩:=hbody A outer s H vs Q E (hr.deeper _) hsp;have I:Inv (qk CX P w K mg base N qual scope f cdv A outer s H E) [] (start N vs) H s1:=qc S hr.hd e0 hl r x;refine wpAny_mono (ht [] s1 (start N vs) H _ I hq) (fun fl s' hs=>?_) fun e s' hs=>hs;have fin:∀ {σ':St} {H':Hp} {v:V} {u:Value},Inv (qk CX P w K mg base N qual scope f cdv A outer s H E) [] σ' H' s'→RelV v u→Q v H'→CE outer P w H s Q u s' :=
    fun {σ' H' v u} J rv q=>⟨v,H',J.os,J.bare,J.base,J.hok,rv,q⟩
  cases fl with
  | ret u =>
    obtain ⟨v,σ',H',J,rv,q⟩:=hs;exact fin J rv q
  | next =>
    obtain ⟨σ',H',J,q⟩:=hs;exact fin (v:=V.non) (u:=Value.none) J rfl q
  | brk =>
    obtain ⟨_,_,_,q⟩:=hs;exact acu q
  | cont =>
    obtain ⟨_,_,_,q⟩:=hs;exact acu q
open PySem PySem.Spec PyProof.Rows
section
variable {X:Cx} {x:Str} {p pos:Pos} {e:Expr} {es:List Expr} {t:TA} {id T:String} {r:List V→Hp→VK→Prop}
def tCB (r:List V→Hp→VK→Prop) (t:TA):TE:=fun σ H Q=>t σ H fun vs H1=>r vs H1 Q
theorem ai (hc:bv X (.builtin id) r) (hg:Gl X x) (hm:X.mg x=none) (hv:bootBuiltins x=some (.builtin id)) (ha:PA X (e :: es) t) (hn:x ≠ "__name__":=by decide) (hdb:(x == ("__debug__":Str))=false:=by decide)
    (he:starEach (e :: es) X.env=(false,eval e X.env) :: starEach es X.env:=by rfl) (hpl:(backTo pos (starEach es X.env)).any (·.1)=false:=by rfl):PE X (.Call (.Name x p) (e :: es) [] pos) (tCB r t):=by
  intro pins s σ H Q I h;refine wpAny_Call_Name_kw (eX I hg hm hv ?_ hn hdb);exact PyProof.Rows.callWith_builtin1 (thn (ha pos pins s σ H _ I h) fun us s1 ⟨vs,H1,I1,r1,q1⟩=>hc pins s1 σ H1 vs us Q I1 r1 q1) he hpl
theorem aT (hc:bv X (.type T) r) (hg:Gl X x) (hm:X.mg x=none) (hv:bootBuiltins x=some (.type T)) (ha:PA X (e :: es) t) (hn:x ≠ "__name__":=by decide) (hdb:(x == ("__debug__":Str))=false:=by decide)
    (he:starEach (e :: es) X.env=(false,eval e X.env) :: starEach es X.env:=by rfl) (hpl:(backTo pos (starEach es X.env)).any (·.1)=false:=by rfl):PE X (.Call (.Name x p) (e :: es) [] pos) (tCB r t):=by
  intro pins s σ H Q I h;refine wpAny_Call_Name_kw (eX I hg hm hv ?_ hn hdb);exact abf (thn (ha pos pins s σ H _ I h) fun us s1 ⟨vs,H1,I1,r1,q1⟩=>hc pins s1 σ H1 vs us Q I1 r1 q1) he hpl
end
end L2
namespace HT
open PySem PyProof.Rows
section
open PySem.SeqAt
open PySem.AutoSeq1 (wpAny_loadPart')
open PySem.MeetsSeq PySem.MeetsSeq2 PySem.MeetsSeq3
end
section
variable {prog:Program} {w:World} {A:Around} {E:Value→Shared→Prop} {s:Shared}
def sIx (n d:Nat):Option Int→Nat
  | none=>d
  | some v=>if v < 0 then (v+(n:Int)).toNat else min v.toNat n
end
end HT
namespace L2
open PySem PySem.Spec PyProof.Rows
abbrev TO:=St→Hp→(Option Int→Hp→Prop)→Prop
def PO (X:Cx) (e:Option Expr) (t:TO):Prop :=
  ∀ (pins:List (Addr × Obj)) (s:Shared) (σ:St) (H:Hp) (Q:Option Int→Hp→Prop),Inv X pins σ H s→t σ H Q →
    wpAny (model X.prog X.w) X.A (evalPart e X.env) (fun u s'=>∃ o H',Inv X pins σ H' s'∧IsPart u o∧Q o H') X.xe s
def s_:TO:=fun _ H Q=>Q none H
def vZ (t:TE):TO:=fun σ H Q=>t σ H fun x H1=>∃ i,x=.int i∧Q (some i) H1
section
variable {X:Cx} {e:Expr} {te:TE} {lo hi:Option Expr} {tl th:TO} {pos p2:Pos}
theorem kn:PO X none s_:=by
  intro pins s σ H Q I h;rw [evalPart_none];exact wpAny_pure ⟨none,H,I,.none,h⟩
theorem km (h:PE X e te):PO X (some e) (vZ te):=by
  intro pins s σ H Q I hw;rw [evalPart_some];refine thn (h pins s σ H _ I hw) fun u s1 ⟨x,H1,I1,r1,q1⟩=>?_;obtain ⟨i,rfl,q⟩:=q1;obtain ⟨t,rfl⟩:=r1;exact ⟨some i,H1,I1,.int i t,q⟩
def SlR (X:Cx) (r:V→Option Int→Option Int→Hp→VK→Prop):Prop :=
  ∀ (pins:List (Addr × Obj)) (s:Shared) (σ:St) (H:Hp) (x:V) (v vl vu:Value) (lo hi:Option Int) (sl:Addr) (Q:VK),Inv X pins σ H s→RelV x v→s.heap.IsSliceOf sl vl vu .none→IsPart vl lo→IsPart vu hi→r x lo hi H Q →
    ∃ T id,typeLookup (.type T) "__getitem__" = pure (some (.builtin id))∧s.TypeIs v T∧wpAny (model X.prog X.w) X.A (getItem v (.ref sl)) (EP X pins σ Q) X.xe s
def tSl (r:V→Option Int→Option Int→Hp→VK→Prop) (te:TE) (tl th:TO):TE:=fun σ H Q=>te σ H fun x H1=>tl σ H1 fun l H2=>th σ H2 fun u H3=>r x l u H3 Q
theorem iH {r:V→Option Int→Option Int→Hp→VK→Prop} (hr:SlR X r) (he:PE X e te) (hl:PO X lo tl) (hu:PO X hi th):PE X (.Subscript e (.Slice lo hi none p2) pos) (tSl r te tl th):=by
  intro pins s σ H Q I h;refine Subscript_ (thn (he pins s σ H _ I h) fun v s1 ⟨x,H1,I1,r1,q1⟩=>?_);refine wpAny_Slice (thn (hl pins s1 σ H1 _ I1 q1) fun vl s2 ⟨l,H2,I2,pl,q2⟩=>thn (hu pins s2 σ H2 _ I2 q2) fun vu s3 ⟨u,H3,I3,pu,q3⟩=>?_);rw [evalPart_none];refine wpAny_pure ?_;have I4:Inv X pins σ H3 { s3 with heap:=s3.heap.push { cls:=.type "slice",data:=.fields #[vl,vu,.none] } }:=I3.kept (t':=s3.toks) fun b ob q=>aad _ q;obtain ⟨T,id,hT,ht,hg⟩:=hr pins { s3 with heap:=s3.heap.push { cls:=.type "slice",data:=.fields #[vl,vu,.none] } } σ H3 x v vl vu l u s3.heap.objs.size Q I4 r1 (Heap.IsSliceOf.new ..) pl pu q3;show wpAny (model X.prog X.w) X.A (subscriptTail e (.Slice lo hi none p2) v (.ref s3.heap.objs.size)) (EP X pins σ Q) X.xe { s3 with heap:=s3.heap.push { cls:=.type "slice",data:=.fields #[vl,vu,.none] } };exact tail_any (ops:=[.ref s3.heap.objs.size,v]) ht hT hg (by with_unfolding_all rfl)
def hW (xs:List V) (lo hi:Option Int):List V:=(xs.drop (HT.sIx xs.length 0 lo)).take (HT.sIx xs.length xs.length hi - HT.sIx xs.length 0 lo)
theorem mG (xs:List V) (lo hi:Option Int):(hW xs lo hi).length≤xs.length:=by
  unfold hW;rw [aaL,abh];lia
end
open PySem PySem.Spec PyProof.Rows
def ixN (n:Nat) (i:Int):Option Nat:=if 0≤i then (if i < n then some i.toNat else none) else if -(n:Int)≤i then some (i+n).toNat else none
def atI {α:Type} (xs:List α) (i:Int):Option α:=(ixN xs.length i).bind fun j=>xs[j]?
theorem oO {n:Nat} {i:Int} {j:Nat} (h:ixN n i=some j):seqIndex? i n=some j∧j < n∧-(n:Int)≤i∧i < n:=by
  unfold ixN at h;by_cases h0:0≤i
  · rw [if_pos h0] at h;by_cases h1:i < n
    · rw [if_pos h1] at h;have e:i.toNat=j:=aa2 h;exact ⟨by rw [seqIndex_of h0 h1,e],by lia,by lia,h1⟩
    · rw [if_neg h1] at h;cases h
  · rw [if_neg h0] at h;by_cases h1:-(n:Int)≤i
    · rw [if_pos h1] at h;have e:(i+n).toNat=j:=aa2 h;exact ⟨by rw [seqIndex_neg (by lia) h1,e],by lia,h1,by lia⟩
    · rw [if_neg h1] at h;cases h
theorem kZ {α:Type} {xs:List α} {i:Int} {v:α} (h:atI xs i=some v):∃ j,seqIndex? i xs.length=some j∧xs[j]?=some v∧j < xs.length∧-(xs.length:Int)≤i∧i < xs.length:=by
  unfold atI at h;cases e:ixN xs.length i with
  | none=>rw [e] at h;cases h
  | some j =>
    rw [e] at h;obtain ⟨h1,h2,h3,h4⟩:=oO e;exact ⟨j,h1,h,h2,h3,h4⟩
theorem cV {α:Type} {xs:List α} {j:Nat} {v:α} (h:xs[j]?=some v):atI xs (j:Int)=some v:=by
  have hj:j < xs.length:=(aaA.mp h).1;have e:ixN xs.length (j:Int)=some j:=by
    unfold ixN;rw [if_pos (by lia),if_pos (by lia)];simp
  unfold atI;rw [e];exact h
def uh (b:Expr):Prop:=∀ o i,subscripted b false o i=operate [o,i] (getItem o i)
def IxR (X:Cx) (r:R2):Prop :=
  ∀ (value slice:Expr) (pins:List (Addr × Obj)) (s:Shared) (σ:St) (H:Hp) (x y:V) (v u:Value) (Q:VK),Inv X pins σ H s→RelV x v→RelV y u→r x y H Q →
    subscripted slice false v u=operate [v,u] (getItem v u)→wpAny (model X.prog X.w) X.A (subscriptTail value slice v u) (EP X pins σ Q) X.xe s
def MtR (X:Cx) (id:String) (r:V→List V→Hp→VK→Prop):Prop :=
  ∀ (pins:List (Addr × Obj)) (s:Shared) (σ:St) (H:Hp) (x:V) (xs:List V) (v:Value) (us:List Value) (Q:VK),Inv X pins σ H s→RelV x v→Vals xs us→r x xs H Q →
    wpAny (model X.prog X.w) X.A (call (.builtin id) (v :: us)) (EP X pins σ Q) X.xe s
section
variable {X:Cx} {a b:Expr} {ta tb:TE} {pos:Pos}
theorem IxR.or {r r':R2} (h:IxR X r) (h':IxR X r'):IxR X (fun x y H Q=>r x y H Q∨r' x y H Q):=by
  intro value slice pins s σ H x y v u Q I rx ry q hs;rcases q with q|q
  · exact h value slice pins s σ H x y v u Q I rx ry q hs
  · exact h' value slice pins s σ H x y v u Q I rx ry q hs
theorem bu {r:R2} (hr:IxR X r) (ha:PE X a ta) (hb:PE X b tb) (hs:uh b):PE X (.Subscript a b pos) (tOp r ta tb):=by
  intro pins s σ H Q I h;exact Subscript_ (vO ha hb I h fun v u s2 x y H2 I2 rx ry q=>hr a b pins s2 σ H2 x y v u Q I2 rx ry q (hs _ _))
def ww (K:aab):R2:=fun x y H Q=>∃ p xs i v,x=.ref p∧y=.int i∧SqL K H p xs∧atI xs i=some v∧Q v H
def wu (K:aab):R2:=fun x y H Q=>∃ p xs i v,x=.ref p∧y=.int i∧SqT K H p xs∧atI xs i=some v∧Q v H
def wv:R2:=fun x y H Q=>∃ z i c,x=.str z∧y=.int i∧z.length≤sizeLine∧atI z.cps.toList i=some c∧Q (.str ⟨#[c]⟩) H
theorem ix_list:IxR X (ww X.K):=by
  intro value slice pins s σ H x y v u Q I rx ry h hs;obtain ⟨p,xs,i,z,rfl,rfl,hq,he,q⟩:=h;cases rx;obtain ⟨t,rfl⟩:=ry;obtain ⟨its,r,pl,hz⟩:=I.list hq;obtain ⟨j,h1,h2,h3,h4,h5⟩:=kZ he;obtain ⟨w,ew,rw'⟩:=r.get h2;have hl:=r.length;have hn:=gH;have fin:EP X pins σ Q w s:=⟨z,H,I,rw',q⟩
  by_cases h0:0≤i
  · have hj:i.toNat=j:=by
      rw [seqIndex_of h0 h5] at h1;exact aa2 h1
    exact item_listR pl.isList h0 (by lia) (by rw [hj];simpa using ew) fin hs
  · have hj:(i+(its.toArray.size:Int)).toNat=j:=by
      rw [seqIndex_neg (by lia) h4] at h1;rw [aam,← hl];exact aa2 h1
    exact subscriptTail_builtinR (x:=w) pl.isList.typeIs slot_list_getitem.lookup
      (wpAny_getItem_list_neg (Q:=fun r s'=>r=w∧EP X pins σ Q r s') pl.isList (by lia) (by rw [aam] <;> lia) (by lia) (by rw [hj];simpa using ew) ⟨rfl,fin⟩) hs
theorem ix_tup:IxR X (wu X.K):=by
  intro value slice pins s σ H x y v u Q I rx ry h hs;obtain ⟨p,xs,i,z,rfl,rfl,hq,he,q⟩:=h;cases rx;obtain ⟨t,rfl⟩:=ry;obtain ⟨its,r,pl,hz⟩:=I.tuple hq;obtain ⟨j,h1,h2,h3,h4,h5⟩:=kZ he;obtain ⟨w,ew,rw'⟩:=r.get h2;have hl:=r.length;have hn:=gH;have fin:EP X pins σ Q w s:=⟨z,H,I,rw',q⟩
  exact subscriptTail_builtinR (x:=w) pl.typeIs slot_tuple_getitem.lookup
    (getItem_tuple (j:=j) (Q:=fun r s'=>r=w∧EP X pins σ Q r s') pl (by lia) (by lia) (by rw [aam,← hl];exact h1) (by simpa using ew) ⟨rfl,fin⟩) hs
theorem vG:IxR X wv:=by
  intro value slice pins s σ H x y v u Q I rx ry h hs;obtain ⟨z,i,c,rfl,rfl,hz,he,q⟩:=h;obtain ⟨t,rfl⟩:=rx;obtain ⟨t',rfl⟩:=ry;obtain ⟨j,h1,h2,h3,h4,h5⟩:=kZ he;have hl:z.cps.toList.length=z.length:=by simp [Str.length]
  rw [hl] at h1 h4 h5;have hn:=gH;exact tail_any (typeIs_str s z t) slot_str_getitem.lookup (getItem_str (c:=c) (by
    have e1:decide (i < -(2 ^ 63:Int))=false:=decide_eq_false (by lia);have e2:decide (i ≥ 2 ^ 63)=false:=decide_eq_false (by lia);rw [e1,e2,Bool.or_false]) (by rw [h1];simpa using h2) ⟨.str ⟨#[c]⟩,H,I.tok _,⟨_,rfl⟩,q⟩) hs
def rIx (K:aab):R2:=fun x y H Q=>ww K x y H Q∨wu K x y H Q∨wv x y H Q
theorem vH:IxR X (rIx X.K):=ix_list.or (ix_tup.or vG)
theorem nJ (its:List Value) (n j:Nat) (u:Value):acX (·.setIfInBounds j u) { cls:=.type "list",data:=.seq its.toArray n }={ cls:=.type "list",data:=.seq (its.set j u).toArray n }:=by
  simp [acX]
theorem Inv.lst {pins:List (Addr × Obj)} {σ:St} {H:Hp} {s:Shared} {p:Addr} {xs:List V} (I:Inv X pins σ H s) (h:H p=some (.lst xs)) :
    ∃ (its:List Value) (n:Nat),Vals xs its∧s.heap.get? p=some { cls:=.type "list",data:=.seq its.toArray n }∧xs.length≤sizeLine:=by
  obtain ⟨z,its,n,r,e⟩:=I.hok p _ h;exact ⟨its,n,r,e,z⟩
theorem Inv.lstUpd {pins:List (Addr × Obj)} {σ:St} {H:Hp} {s:Shared} {p:Addr} {xs ys:List V} {its its':List Value} {n n':Nat} {f:Obj→Obj} (I:Inv X pins σ H s) (h:H p=some (.lst xs))
    (ho:s.heap.get? p=some { cls:=.type "list",data:=.seq its.toArray n }) (hf:f { cls:=.type "list",data:=.seq its.toArray n }={ cls:=.type "list",data:=.seq its'.toArray n' }) (r:Vals ys its') (hz:ys.length≤sizeLine) (t:Nat) :
    Inv X pins σ (upd H p (.lst ys)) { s with heap:=s.heap.update p f,toks:=t }:=by
  have e:(s.heap.update p f).get? p=some { cls:=.type "list",data:=.seq its'.toArray n' }:=by
    rw [aa5 f ho (by rw [hf] <;> rfl),hf]
  refine I.write (x:=p) (e:=p) (by rw [h];trivial) (.inl rfl) (fun b u hb q=>(Heap.get?_update_other _ _ (abm hb)).trans q) ⟨_,e⟩ ?_;exact ⟨hz,its',n',r,e⟩
def wt:V→V→V→Hp→(Hp→Prop)→Prop:=fun o i v H Q=>∃ p xs k j,o=.ref p∧i=.int k∧H p=some (.lst xs)∧ixN xs.length k=some j∧Q (upd H p (.lst (xs.set j v)))
theorem iD:wV X wt:=by
  intro pins s σ H o i v ov iv u Q I ro ri rv h;obtain ⟨p,xs,k,j,rfl,rfl,hp,hj,q⟩:=h;cases ro;obtain ⟨t,rfl⟩:=ri;obtain ⟨its,n,r,ho,hz⟩:=I.lst hp;obtain ⟨h1,h2,h3,h4⟩:=oO hj;have hl:=r.length;have hn:=gH;have I':Inv X pins σ (upd H p (.lst (xs.set j v))) { s with heap:=s.heap.update p (acX (·.setIfInBounds j u)) } :=
    I.lstUpd hp ho (nJ its n j u) (r.set rv j) (by rw [List.length_set];exact hz) s.toks
  by_cases h0:0≤k
  · have hk:k.toNat=j:=by
      rw [seqIndex_of h0 h4] at h1;exact aa2 h1
    exact PySem.W.ki_setAt ho h0 (by lia) (by rw [aam,← hl];exact h4) (by rw [hk];exact ⟨_,I',q⟩)
  · have hk:(k+(its.toArray.size:Int)).toNat=j:=by
      rw [seqIndex_neg (by lia) h3] at h1;rw [aam,← hl];exact aa2 h1
    exact PySem.W.ki_setBack ho (by lia) (by rw [aam,← hl];exact h3) (by lia) (by rw [hk];exact ⟨_,I',q⟩)
theorem kg (lo hi:Option Int) (n:Nat):(sliceBounds lo hi none n).1=((HT.sIx n 0 lo:Nat):Int)∧(sliceBounds lo hi none n).2.1=((HT.sIx n n hi:Nat):Int)∧(sliceBounds lo hi none n).2.2=1:=by
  refine ⟨?_,?_,rfl⟩
  · cases lo with
    | none=>simp [sliceBounds,HT.sIx]
    | some i =>
      simp only [sliceBounds,HT.sIx,Option.getD_none,show (1:Int) > 0 by decide,if_true];by_cases h:i < 0
      · simp only [h,if_true] <;> lia
      · simp only [h,if_false] <;> lia
  · cases hi with
    | none=>simp [sliceBounds,HT.sIx]
    | some i =>
      simp only [sliceBounds,HT.sIx,Option.getD_none,show (1:Int) > 0 by decide,if_true];by_cases h:i < 0
      · simp only [h,if_true] <;> lia
      · simp only [h,if_false] <;> lia
theorem jk (its:List Value) (lo hi:Option Int):slicePick its.toArray lo hi none=((its.drop (HT.sIx its.length 0 lo)).take (HT.sIx its.length its.length hi - HT.sIx its.length 0 lo)).toArray:=by
  obtain ⟨h1,h2,h3⟩:=kg lo hi its.toArray.size;unfold slicePick;rw [h1,h2,h3];simp only [sliceRange_one,pick_run,aam] <;> rfl
def xl (K:aab):V→Option Int→Option Int→Hp→VK→Prop:=fun x lo hi H Q=>∃ a xs,x=.ref a∧SqL K H a xs∧∀ p,H p=none→Q (.ref p) (upd H p (.lst (hW xs lo hi)))
theorem kh:SlR X (xl X.K):=by
  intro pins s σ H x v vl vu lo hi sl Q I rx hs pl pu h;obtain ⟨a,xs,rfl,hx,q⟩:=h;cases rx;obtain ⟨its,r,ht,hz⟩:=I.list hx;have hlen:=r.length;refine ⟨"list",_,slot_list_getitem.lookup,ht.isList.typeIs,?_⟩;refine wpAny_getItem_list_slice ht.isList hs pl pu .none (by simp) ?_ (by rw [aam] <;> lia);rw [jk,← hlen];refine ⟨.ref s.heap.objs.size,_,I.laid (t':=s.toks) (o:=.lst (hW xs lo hi)) (fun b ob q=>aad _ q) (aaf _) ?_,rfl,q _ (I.hok.fresh (aaf _))⟩;exact ⟨aa1 (mG xs lo hi) hz,_,0,(r.drop (HT.sIx xs.length 0 lo)).take (HT.sIx xs.length xs.length hi - HT.sIx xs.length 0 lo),aao _ rfl⟩
def eA:V→Bool
  | .non=>true
  | .bl _=>true
  | .int _=>true
  | .str _=>true
  | _=>false
def eqV:V→V→Bool
  | .non,.non=>true
  | .bl a,.bl b=>a == b
  | .bl a,.int b=>(if a then 1 else 0) == b
  | .int a,.bl b=>a == (if b then 1 else 0)
  | .int a,.int b=>a == b
  | .str a,.str b=>a == b
  | _,_=>false
theorem sA {A:Around} {s:Shared} {y x:V} {u v:Value} (ry:RelV y u) (rx:RelV x v) (fy:eA y=true) (fx:eA x=true):SeqAt.EqAt A s u v (eqV y x):=by
  cases y with
  | non =>
    cases ry;cases x with
    | non=>cases rx;exact SeqAt.EqAt.same _
    | bl b=>cases rx;exact SeqAt.EqAt.none_bool b
    | int b=>obtain ⟨t,rfl⟩:=rx;exact SeqAt.EqAt.none_int b t
    | str b=>obtain ⟨t,rfl⟩:=rx;exact SeqAt.EqAt.none_str b t
    | _=>exact absurd (show false=true from fx) aag
  | bl a =>
    cases ry;cases x with
    | non=>cases rx;exact SeqAt.EqAt.bool_none a
    | bl b=>cases rx;exact SeqAt.EqAt.bool_bool a b
    | int b=>obtain ⟨t,rfl⟩:=rx;exact SeqAt.EqAt.bool_int a b t
    | str b=>obtain ⟨t,rfl⟩:=rx;exact SeqAt.EqAt.bool_str a b t
    | _=>exact absurd (show false=true from fx) aag
  | int a =>
    obtain ⟨t',rfl⟩:=ry;cases x with
    | non=>cases rx;exact SeqAt.EqAt.int_none a t'
    | bl b=>cases rx;exact SeqAt.EqAt.int_bool a t' b
    | int b=>obtain ⟨t,rfl⟩:=rx;exact SeqAt.EqAt.int_int a t' b t
    | str b=>obtain ⟨t,rfl⟩:=rx;exact SeqAt.EqAt.int_str a t' b t
    | _=>exact absurd (show false=true from fx) aag
  | str a =>
    obtain ⟨t',rfl⟩:=ry;cases x with
    | non=>cases rx;exact SeqAt.EqAt.str_none a t'
    | bl b=>cases rx;exact SeqAt.EqAt.str_bool a t' b
    | int b=>obtain ⟨t,rfl⟩:=rx;exact SeqAt.EqAt.str_int a t' b t
    | str b=>obtain ⟨t,rfl⟩:=rx;exact SeqAt.EqAt.str_str a t' b t
    | _=>exact absurd (show false=true from fx) aag
  | _=>exact absurd (show false=true from fy) aag
def eqU (x:V) (u:Value):Bool:=match u with
  | .none=>eqV .non x
  | .bool b=>eqV (.bl b) x
  | .int i _=>eqV (.int i) x
  | .str z _=>eqV (.str z) x
  | _=>false
theorem sy {x y:V} {u:Value} (r:RelV y u) (f:eA y=true):eqU x u=eqV y x:=by
  cases y with
  | non=>cases r;rfl
  | bl b=>cases r;rfl
  | int i=>obtain ⟨t,rfl⟩:=r;rfl
  | str z=>obtain ⟨t,rfl⟩:=r;rfl
  | _=>exact absurd (show false=true from f) aag
theorem k_ {x:V}:∀ {xs:List V} {us:List Value},Vals xs us→xs.all eA=true→us.any (eqU x)=xs.any fun y=>eqV y x
  | _,_,.nil,_=>rfl
  | y :: xs,u :: us,.cons r t,f=>by
    rw [ada,aaS] at f;rw [acI,acI,sy r f.1,k_ t f.2]
theorem iU {A:Around} {s:Shared} {x:V} {v:Value} (rx:RelV x v) (fx:eA x=true):∀ {xs:List V} {us:List Value},Vals xs us→xs.all eA=true→∀ u∈us,SeqAt.EqAt A s u v (eqU x u)
  | _,_,.nil,_=>fun u hu=>by cases hu
  | y :: xs,u :: us,.cons r t,f=>fun u' hu=>by
    rw [ada,aaS] at f;rcases aai.mp hu with rfl|hu
    · rw [sy r f.1];exact sA r rx f.1 fx
    · exact iU rx fx t f.2 u' hu
def inV (x:V) (xs:List V):Bool:=xs.any fun y=>eqV y x
def rIn (K:aab) (neg:Bool):R2:=fun x y H Q=>∃ p xs,y=.ref p∧(SqL K H p xs∨SqT K H p xs)∧eA x=true∧xs.all eA=true∧Q (.bl (if neg then !inV x xs else inV x xs)) H
theorem gz:OpR X (compareOp .In) (rIn X.K false):=by
  intro pins s σ H x y v u Q I rx ry h;obtain ⟨p,xs,rfl,hq,fx,fs,q⟩:=h;cases ry;rcases hq with hq|hq
  · obtain ⟨its,r,pl,hz⟩:=I.list hq;refine SeqAt.in_listAt (eqU x) pl.isList (fun w hw=>iU rx fx r fs w (by simpa using hw)) ⟨.bl _,H,I,rfl,?_⟩;rw [show its.toArray.any (eqU x)=its.any (eqU x) by simp,k_ r fs];exact q
  · obtain ⟨its,r,pl,hz⟩:=I.tuple hq;refine SeqAt.in_tupleAt (eqU x) pl (fun w hw=>iU rx fx r fs w (by simpa using hw)) ⟨.bl _,H,I,rfl,?_⟩;rw [show its.toArray.any (eqU x)=its.any (eqU x) by simp,k_ r fs];exact q
theorem aF:bv X (.builtin "len") (fun xs H Q=>∃ p ys,xs=[.ref p]∧(SqL X.K H p ys∨SqT X.K H p ys)∧Q (.int ys.length) H):=by
  intro pins s σ H xs us Q I r h;obtain ⟨p,ys,rfl,hq,q⟩:=h;obtain ⟨u,rfl,rx⟩:=ci r;cases rx;have hn:=gH;rcases hq with hq|hq
  · obtain ⟨its,r',pl,hz⟩:=I.list hq;have hlen:=r'.length;exact Calls.call_len_list pl.isList (by simp only [aam] <;> lia) ⟨.int ys.length,H,I.tok _,⟨s.toks+1,by rw [aam,hlen]⟩,q⟩
  · obtain ⟨its,r',pl,hz⟩:=I.tuple hq;have hlen:=r'.length;exact len_tuple pl (by simp only [aam] <;> lia) ⟨.int ys.length,H,I.tok _,⟨s.toks+1,by rw [aam,hlen]⟩,q⟩
theorem d3:bv X (.type "list") (fun xs H Q=>∃ p ys,xs=[.ref p]∧(SqL X.K H p ys∨SqT X.K H p ys)∧∀ l,H l=none→Q (.ref l) (upd H l (.lst ys))):=by
  intro pins s σ H xs us Q I r h;obtain ⟨p,ys,rfl,hq,q⟩:=h;obtain ⟨u,rfl,rx⟩:=ci r;cases rx;have fin:∀ (its:List Value),Vals ys its→ys.length≤sizeLine→∀ (h':Heap) (c':Nat),(∀ b o',s.heap.get? b=some o'→h'.get? b=some o') →
      h'.get? s.heap.objs.size=some { cls:=.type "list",dict:=none,data:=.seq its.toArray c',slots:=#[] }→EP X pins σ Q (.ref s.heap.objs.size) { s with heap:=h' }:=fun its r' hz h' c' kp e =>
    ⟨.ref s.heap.objs.size,_,I.laid (t':=s.toks) kp (aaf _) (show ObjOk X.prog X.w _ h' _ (.lst ys) from ⟨hz,its,c',r',e⟩),rfl,q _ (I.hok.fresh (aaf _))⟩
  rcases hq with hq|hq
  · obtain ⟨its,r',pl,hz⟩:=I.list hq;have hlen:=r'.length;obtain ⟨o,ho,hc,n,hd⟩:=pl.isList;exact call_list_seq p (.inl rfl) ho hc hd (fun h' c' kp e=>fin its r' hz h' c' kp e) (by simp only [aam] <;> lia)
  · obtain ⟨its,r',pl,hz⟩:=I.tuple hq;have hlen:=r'.length;obtain ⟨o,ho,hc,n,hd⟩:=pl;exact call_list_seq p (.inr rfl) ho hc hd (fun h' c' kp e=>fin its r' hz h' c' kp e) (by simp only [aam] <;> lia)
theorem fo:bv X (.type "tuple") (fun xs H Q=>∃ p ys,xs=[.ref p]∧((SqL X.K H p ys∧∀ l,H l=none→Q (.ref l) (upd H l (.tup ys)))∨(SqT X.K H p ys∧Q (.ref p) H))):=by
  intro pins s σ H xs us Q I r h;obtain ⟨p,ys,rfl,h⟩:=h;obtain ⟨u,rfl,rx⟩:=ci r;cases rx;rcases h with ⟨hq,q⟩|⟨hq,q⟩
  · obtain ⟨its,r',pl,hz⟩:=I.list hq;have hlen:=r'.length;refine call_tuple_list pl.isList (fun h' kp=>?_) (by simp only [aam] <;> lia);have I1:Inv X pins σ H { s with heap:=h' }:=I.kept (t':=s.toks) kp;have I2:Inv X pins σ (upd H h'.objs.size (.tup ys)) { s with heap:=h'.push { cls:=.type "tuple",data:=.seq its.toArray } } :=
      I1.laid (t':=s.toks) (fun b o e=>aad _ e) (aaf _) (show ObjOk X.prog X.w _ _ _ (.tup ys) from ⟨hz,its,r',IsTup.new _ _⟩)
    exact ⟨.ref h'.objs.size,_,I2,rfl,q _ (I1.hok.fresh (aaf _))⟩
  · obtain ⟨its,r',pl,hz⟩:=I.tuple hq;exact call_tuple_same pl ⟨.ref p,H,I,rfl,q⟩
def tyV (K:aab) (T:String) (x:V) (H:Hp):Prop:=match x with
  | .str _=>T = "str"
  | .int _=>T = "int"
  | .ref p=>(T = "list"∧∃ xs,SqL K H p xs)∨(T = "tuple"∧∃ o,K.lookup p=some o∧o.cls=.type "tuple"∧o.dict=none) ∨
      (T = "dict"∧((∃ kvs,H p=some (.dK kvs))∨∃ kvs,H p=some (.dT kvs)))∨(T = "set"∧∃ S n,H p=some (.set S n))
  | _=>False
theorem uE {pins:List (Addr × Obj)} {σ:St} {H:Hp} {s:Shared} {T:String} {x:V} {v:Value} (I:Inv X pins σ H s) (r:RelV x v) (ty:tyV X.K T x H) :
    s.TypeIs v T∧∀ a,v=.ref a→∃ ob,s.heap.get? a=some ob∧ob.dict=none:=by
  cases x with
  | str z =>
    obtain ⟨t,rfl⟩:=r;cases (show T = "str" from ty);exact ⟨typeIs_str s z t,fun _ e=>nomatch e⟩
  | int i =>
    obtain ⟨t,rfl⟩:=r;cases (show T = "int" from ty);exact ⟨typeIs_int s i t,fun _ e=>nomatch e⟩
  | ref p =>
    cases r;rcases ty with ⟨rfl,xs,hq⟩|⟨rfl,o,hk,hc,hd⟩|⟨rfl,hk⟩|⟨rfl,S,n,hk⟩
    · obtain ⟨its,_,pl,_⟩:=I.list hq;refine ⟨pl.isList.typeIs,fun a e=>?_⟩;cases e;obtain ⟨o,n,e,c,hd,_⟩:=pl;exact ⟨o,e,hd⟩
    · refine ⟨⟨o,I.kIn p o hk,hc⟩,fun a e=>?_⟩;cases e;exact ⟨o,I.kIn _ o hk,hd⟩
    · have z:∃ o,s.heap.get? p=some o∧o.ExactDict:=by
        rcases hk with ⟨kvs,hk⟩|⟨kvs,hk⟩
        · obtain ⟨_,_,_,_,o,_,_,e,ex,_⟩:=I.hok p _ hk;exact ⟨o,e,ex⟩
        · obtain ⟨_,_,_,_,o,_,_,e,ex,_⟩:=I.hok p _ hk;exact ⟨o,e,ex⟩
      obtain ⟨o,e,ex⟩:=z;refine ⟨⟨o,e,ex.1⟩,fun a e2=>?_⟩;cases e2;exact ⟨o,e,ex.2.1⟩
    · obtain ⟨o,_,_,_,e,ex,_⟩:=I.hok p _ hk;refine ⟨⟨o,e,ex.1⟩,fun a e2=>?_⟩;cases e2;exact ⟨o,e,ex.2.1⟩
  | _=>exact acu ty
def tBM (K:aab) (T:String) (r:V→List V→Hp→VK→Prop) (to:TE) (t:TA):TE:=fun σ H Q=>to σ H fun x H1=>tyV K T x H1∧t σ H1 fun xs H2=>r x xs H2 Q
variable {o e:Expr} {es:List Expr} {to:TE} {t:TA} {name:Str} {apos cpos:Pos} {T id:String} {r:V→List V→Hp→VK→Prop}
theorem iI (pa:PlainAttrs T) (slot:Slot T name id) (hty:typeOf (.builtin id)=pure (.type "method_descriptor")) (hm:MtR X id r) (ho:PE X o to) (ha:PA X (e :: es) t)
    (hbase:attributeBase o name X.env (eval o X.env)=eval o X.env:=by rfl)
    (hfew:((backTo cpos (starEach (e :: es) X.env)).all (fun x=>!x.1) && (backToKw cpos (keywordEach [] X.env)).all (fun x=>x.1.isSome)
      && decide ((e :: es).length+([]:List Keyword).length+(if ([]:List Keyword).isEmpty then 0 else 1) < 30))=true:=by rfl)
    (hline:(apos.endLine == cpos.line)=true:=by rfl) (hs:starEach (e :: es) X.env=(false,eval e X.env) :: starEach es X.env:=by rfl) (hplain:(backTo cpos (starEach es X.env)).any (·.1)=false:=by rfl) :
    PE X (.Call (.Attribute o name apos) (e :: es) [] cpos) (tBM X.K T r to t):=by
  intro pins s σ H Q I h;refine wpAny_Call_method_late hbase hfew hline rfl (thn (ho pins s σ H _ I h) fun v s1 ⟨x,H1,I1,r1,ty,q1⟩=>?_);obtain ⟨h1,h2⟩:=uE I1 r1 ty;refine ⟨T,id,pa,slot,hty,h1,h2,?_⟩;have hA:=ha cpos pins s1 σ H1 _ I1 q1;rw [hs] at hA ⊢;refine abQ (by show (false || (backTo cpos (starEach es X.env)).any (·.1))=false;rw [hplain] <;> rfl) (acx ?_);exact thn hA fun us s2 ⟨vs,H2,I2,r2,q2⟩=>hm pins s2 σ H2 x vs v us Q I2 r1 r2 q2
end
open PySem PySem.Spec PyProof.Rows
def MtM (X:Cx) (id:String) (r:V→List V→Hp→VK→Prop):Prop :=
  ∀ (pins:List (Addr × Obj)) (s:Shared) (σ:St) (H:Hp) (x:V) (xs:List V) (v:Value) (us:List Value) (Q:VK),Inv X pins σ H s→RelV x v→Vals xs us→r x xs H Q →
    wpAny (model X.prog X.w) X.A (call (.builtin id) (v :: us)) (EP X pins σ Q) X.xe s
theorem Vals.one {x:V} {us:List Value} (h:Vals [x] us):∃ u,us=[u]∧RelV x u:=by
  cases h with
  | cons r t=>cases t;exact ⟨_,rfl,r⟩
theorem Vals.eraseIdx:∀ {xs:List V} {us:List Value} (i:Nat),Vals xs us→Vals (xs.eraseIdx i) (us.eraseIdx i)
  | _,_,_,.nil=>.nil
  | _,_,0,.cons _ t=>t
  | _,_,i+1,.cons r t=>.cons r (Vals.eraseIdx i t)
theorem Vals.reverse {xs:List V} {us:List Value} (h:Vals xs us):Vals xs.reverse us.reverse:=by
  induction h with
  | nil=>exact .nil
  | cons r t ih=>rw [List.reverse_cons,List.reverse_cons];exact Vals.append ih (.cons r .nil)
theorem Vals.rep {xs:List V} {us:List Value} (h:Vals xs us):∀ k:Nat,Vals (aaZ k xs).flatten (aaZ k us).flatten
  | 0=>.nil
  | k+1=>by
    rw [acb,acb,acW,acW];exact Vals.append h (Vals.rep h k)
theorem jH {α:Type}:∀ (l:List α) (i:Nat),(l.eraseIdx i).length≤l.length
  | [],_=>aaf _
  | _ :: _,0=>acC _
  | _ :: r,i+1=>Nat.succ_le_succ (jH r i)
theorem jQ (its:List Value):∀ (k:Nat) (acc:List Value),
    List.foldl (fun x1 x2=>x1++x2) acc.toArray (aaZ k its.toArray)=(acc++(aaZ k its).flatten).toArray
  | 0,acc=>by simp
  | k+1,acc=>by
    have e:acc.toArray++its.toArray=(acc++its).toArray:=by simp
    have e2:(acc++its)++(aaZ k its).flatten=acc++(aaZ (k+1) its).flatten:=by
      rw [acb,acW,abb]
    rw [← e2,← jQ its k (acc++its),← e,acb,List.foldl_cons]
section
variable {X:Cx} {pins:List (Addr × Obj)} {σ:St} {H:Hp} {s:Shared} {l b:Addr} {xs ys zs:List V}
theorem Inv.lset {its its':List Value} {n:Nat} {f:Array Value→Array Value} {t':Nat} (I:Inv X pins σ H s) (hH:H l=some (.lst xs))
    (e:s.heap.get? l=some { cls:=.type "list",data:=.seq its.toArray n }) (hf:f its.toArray=its'.toArray) (hv:Vals ys its') (hz:ys.length≤sizeLine) :
    Inv X pins σ (upd H l (.lst ys)) { s with heap:=s.heap.update l (acX f),toks:=t' }:=by
  have q:=PySem.IsL.update e f;rw [hf] at q;refine I.write (x:=l) (e:=l) (by rw [hH];exact trivial) (.inl rfl) (fun b' u hb hu=>(Heap.get?_update_other s.heap (acX f) (abm hb)).trans hu) ⟨_,q⟩ ?_;exact ⟨hz,its',_,hv,q⟩
theorem Inv.lnew {its:List Value} {t':Nat} (I:Inv X pins σ H s) (hv:Vals ys its) (hz:ys.length≤sizeLine) :
    Inv X pins σ (upd H s.heap.objs.size (.lst ys)) { s with heap:=s.heap.push { cls:=.type "list",data:=.seq its.toArray },toks:=t' } :=
  I.laid (fun _ _ q=>aad _ q) (aaf _) ⟨hz,its,0,hv,aao _ rfl⟩
theorem Inv.fresh (I:Inv X pins σ H s):H s.heap.objs.size=none:=I.hok.fresh (aaf _)
theorem Inv.lstM (I:Inv X pins σ H s) (hH:H l=some (.lst xs)):xs.length≤sizeLine∧∃ (its:List Value) (n:Nat),Vals xs its∧xs.length=its.length∧s.heap.get? l=some { cls:=.type "list",data:=.seq its.toArray n }:=by
  obtain ⟨z,its,n,r,e⟩:=I.hok l _ hH;exact ⟨z,its,n,r,r.length,e⟩
theorem l_ {n:Nat} (h:n≤sizeLine):ab5 n=false:=by
  unfold ab5;exact decide_eq_false (by lia)
end
section
variable {X:Cx}
def tM:V→List V→Hp→VK→Prop:=fun x vs H Q=>∃ l xs y,x=.ref l∧vs=[y]∧H l=some (.lst xs)∧xs.length < sizeLine∧Q .non (upd H l (.lst (xs++[y])))
theorem gF:MtM X "list.append" tM:=by
  intro pins s σ H x vs v us Q I rx rv h;obtain ⟨l,xs,y,rfl,rfl,hH,hz,q⟩:=h;cases rx;obtain ⟨u,rfl,ru⟩:=rv.one;obtain ⟨z,its,n,r,hl,e⟩:=I.lstM hH;refine call_meets F.slot_list_append ⟨_,e,rfl⟩ F.entry_list_append (F.args_list_append_2 _ _) (PySem.list_append l its.toArray n u (by rw [aam];lia)) ⟨e,?_⟩;refine ⟨.non,_,I.lset (its':=its++[u]) hH e (by simp) (r.append (.cons ru .nil)) ?_,rfl,q⟩;rw [aaw,ac6];lia
def tK:V→List V→Hp→VK→Prop:=fun x vs H Q=>∃ l b xs zs,x=.ref l∧vs=[.ref b]∧H l=some (.lst xs)∧H b=some (.lst zs)∧xs.length+zs.length≤sizeLine∧Q .non (upd H l (.lst (xs++zs)))
theorem pT:MtM X "list.extend" tK:=by
  intro pins s σ H x vs v us Q I rx rv h;obtain ⟨l,b,xs,zs,rfl,rfl,hH,hB,hz,q⟩:=h;cases rx;obtain ⟨u,rfl,ru⟩:=rv.one;cases ru;obtain ⟨z,its,n,r,hl,e⟩:=I.lstM hH;obtain ⟨z2,its2,n2,r2,hl2,e2⟩:=I.lstM hB;have hsz:its.toArray.size+its2.toArray.size≤sizeLine:=by rw [aam,aam];lia
  have hlong:¬ (!its.toArray.isEmpty && ab5 (its.toArray.size+its2.toArray.size))=true:=by
    rw [l_ hsz,acz];exact aag
  refine call_meets F.slot_list_extend ⟨_,e,rfl⟩ F.entry_list_extend (F.args_list_extend_2 _ _)
    (AutoSeq1.list_extend_list_list_0 l its.toArray n b its2.toArray n2 hlong (by rw [aam];lia) (by lia)) ⟨e,e2,?_⟩
  refine ⟨.non,_,I.lset (its':=its++its2) hH e (by simp) (r.append r2) ?_,rfl,q⟩;rw [aaw];lia
def uX:V→List V→Hp→VK→Prop:=fun x vs H Q=>∃ l xs i k y,x=.ref l∧vs=[.int i]∧H l=some (.lst xs)∧-(2 ^ 63)≤i∧i < 2 ^ 63∧seqIndex? i xs.length=some k∧xs[k]?=some y∧Q y (upd H l (.lst (xs.eraseIdx k)))
theorem rC:MtM X "list.pop" uX:=by
  intro pins s σ H x vs v us Q I rx rv h;obtain ⟨l,xs,i,k,y,rfl,rfl,hH,h1,h2,hk,hy,q⟩:=h;cases rx;obtain ⟨u,rfl,ru⟩:=rv.one;obtain ⟨t,rfl⟩:=ru;obtain ⟨z,its,n,r,hl,e⟩:=I.lstM hH;obtain ⟨w,hw,rw'⟩:=r.get hy;refine call_meets F.slot_list_pop ⟨_,e,rfl⟩ F.entry_list_pop (F.args_list_pop_2 _ _)
    (MeetsSeq.list_pop_at l its.toArray n i t k w (fitsIndex_both h1 h2) (by rw [aam,← hl];exact hk) (by rw [← aaD];exact hw) (by rw [aam];lia)) ⟨e,?_⟩
  refine ⟨y,_,I.lset (its':=its.eraseIdx k) hH e ?_ (r.eraseIdx k) ?_,rw',q⟩
  · show its.toArray.eraseIdxIfInBounds k=(its.eraseIdx k).toArray;rw [List.eraseIdxIfInBounds_toArray]
  · have:=jH xs k;lia
def xo:R2:=fun x y H Q=>∃ l b xs zs,x=.ref l∧y=.ref b∧H l=some (.lst xs)∧H b=some (.lst zs)∧xs.length+zs.length≤sizeLine∧∀ p,H p=none→Q (.ref p) (upd H p (.lst (xs++zs)))
theorem ku:OpR X (binaryOp .Add) xo:=by
  intro pins s σ H x y v u Q I rx ry h;obtain ⟨l,b,xs,zs,rfl,rfl,hH,hB,hz,q⟩:=h;cases rx;cases ry;obtain ⟨z,its,n,r,hl,e⟩:=I.lstM hH;obtain ⟨z2,its2,n2,r2,hl2,e2⟩:=I.lstM hB;refine PySem.P.add_list e e2 ?_ (by rw [aam,aam];lia);have ea:its.toArray++its2.toArray=(its++its2).toArray:=by simp
  rw [ea];exact ⟨.ref _,_,I.lnew (t':=s.toks) (r.append r2) (by rw [aaw];lia),rfl,q _ I.fresh⟩
def xm:R2:=fun x y H Q=>∃ l k xs,x=.ref l∧y=.int k∧H l=some (.lst xs)∧-(2 ^ 63)≤k∧k < 2 ^ 63∧xs.length * k.toNat≤sizeLine ∧
  ∀ p,H p=none→Q (.ref p) (upd H p (.lst (aaZ k.toNat xs).flatten))
theorem t9 {α:Type} (xs:List α) (k:Nat):(aaZ k xs).flatten.length=k * xs.length:=by
  induction k with
  | zero=>simp
  | succ k ih=>rw [acb,acW,aaw,ih,Nat.succ_mul,Nat.add_comm]
theorem vn:OpR X (binaryOp .Mult) xm:=by
  intro pins s σ H x y v u Q I rx ry h;obtain ⟨l,k,xs,rfl,rfl,hH,h1,h2,hz,q⟩:=h;cases rx;obtain ⟨t,rfl⟩:=ry;obtain ⟨z,its,n,r,hl,e⟩:=I.lstM hH;have hlen:its.toArray.size * k.toNat≤sizeLine:=by rw [aam,← hl];exact hz
  have hcap:¬ its.toArray.size * k.toNat > (2 ^ 63 - 1) / 8:=by
    have : (sizeLine:Nat)≤(2 ^ 63 - 1) / 8:=by decide
    lia
  have hfit:¬ (!Builtin.List.listFitsIndex k)=true:=by
    rw [fitsIndex_both h1 h2];exact aag
  have hlong:¬ ab5 (its.toArray.size * k.toNat)=true:=by
    rw [l_ hlen];exact aag
  have hnew:List.foldl (fun x1 x2=>x1++x2) #[] (aaZ (if its.toArray.isEmpty=true then 0 else k.toNat) its.toArray)=(aaZ k.toNat its).flatten.toArray:=by
    have f0:∀ m:Nat,List.foldl (fun x1 x2=>x1++x2) #[] (aaZ m its.toArray)=(aaZ m its).flatten.toArray:=fun m=>by
      have:=jQ its m [];rw [List.nil_append] at this;exact this
    rw [f0];cases its with
    | nil=>simp
    | cons a r'=>rw [if_neg (by simp)]
  refine wpAny_binaryOp_repeat_ref (T:="list") (U:="int") (by decide) ⟨_,e,rfl⟩ (fun s'=>typeIs_int s' k t) noFill_list_mul F.fills_int_mul F.slot_int_rmul repeat_list F.slot_int_index.lookup
    (call_meets F.slot_int_rmul (typeIs_int s k t) F.entry_int_rmul (F.args_int_rmul_2 _ _) (int___rmul___int_list k t l its.toArray n)
      ⟨e,rfl,⟨_,e,rfl⟩,call_meets F.slot_list_mul ⟨_,e,rfl⟩ F.entry_list_mul (F.args_list_mul_2 _ _) (AutoListH.list___mul___list_int_3 l its.toArray n k t hfit hcap hlong) ⟨e,?_⟩⟩)
  rw [hnew];exact ⟨.ref _,_,I.lnew (t':=s.toks) (r.rep k.toNat) (by rw [t9,Nat.mul_comm];exact hz),rfl,q _ I.fresh⟩
end
section
variable {prog:Program} {w:World} {A:Around} {E:Value→Shared→Prop} {s:Shared}
end
section
variable {X:Cx}
end
end L2
namespace Att
open PySem PySem.W PySem.Calls PyProof.Rows
theorem hE {P:Params} {h:Heap}:∀ (ns:List Int) (vs:List Value),WellAll P h vs (ns.map WData.int)→IntsAre vs ns:=by
  intro ns
  induction ns with
  | nil =>
    intro vs w;rw [abk] at w;cases w;exact .nil
  | cons n ns ih =>
    intro vs w;rw [aae] at w;cases w with
    | cons a b =>
      cases a;exact .cons _ _ (ih _ b)
theorem pE {l:OpenLaw} {n:Nat} (hn:l.most=some n) {P:Params} {h:Heap} {args:List WData} {vals:List Value}
    (hpre:l.row.toRowW.claim.pre args=true) (hwl:WellAll P h vals args) :
    ∃ a vs ns,vals=[Value.ref a]∧args=[WData.list (ns.map WData.int)]∧h.get? a=some { cls:=.type "list",data:=.seq vs.toArray }∧IntsAre vs ns∧ns.length≤n:=by
  have hsh:WShape.hasAll [] args [.list .int]=true:=(pre_splitW hpre).1;have hc:l.pre.holds [] { args:=args }=true:=(pre_splitW hpre).2;obtain ⟨d,r,rfl,h1,h2⟩:=hasAllW_cons hsh;obtain rfl:=hasAllW_nil h2;obtain ⟨xs,rfl,h3⟩:=hasW_list h1;obtain ⟨ns,rfl⟩:=items_int h3;have hlen:ns.length≤n:=by
    unfold OpenLaw.pre at hc;have h4:(WTm.not (.lt (.lit (.int (n:Int))) (.len (.arg 0)))).holds [] { args:=[.list (ns.map .int)] }=true:=by
      have h4:=(holds_andW hc).1;rw [hn] at h4;exact h4
    have h5:=condW_of h4 (w_not (w_lt w_lit (w_len_list (w_arg rfl))));rw [aaa] at h5;refine Nat.le_of_not_lt fun q=>?_;have q':(n:Int) < ((ns.length:Nat):Int):=by lia
    first
      | (rw [decide_eq_true q'] at h5;exact absurd h5 (by decide))
      | (simp at h5;lia)
  cases hwl with
  | cons w1 w2 =>
    cases w2;cases w1 with
    | list ho hall=>exact ⟨_,_,ns,rfl,rfl,ho,hE ns _ hall,hlen⟩
theorem pH (l:OpenLaw) (args:List WData):l.row.toRowW.claim.post args (.bool true) args=true :=
  postW_of (r:=l.row.toRowW) (X:=(true == true))
    (show WShape.has [] (.bool true) .bool=true by first|rfl|decide|simp [WShape.has,WShape.arms,WShape.armsAll])
    (show (WTm.eq .res (.lit (.bool true))).value [] { args:=args,res:=some (.bool true),after:=args }=some (.bool (true == true)) from w_eq_bool (w_res rfl) w_lit) rfl
theorem attach_call {l:OpenLaw} {n:Nat} {q:Program} {loose:List Str} {XP:(Str→Option Value)→Heap→Prop} {YP:World→Heap→Prop} {d:DefRec}
    (hn:l.most=some n) (hdf:d.params.defaults=[])
    (call:∀ (w:World) (s₀ s₁:Shared) (mg mb:Str→Option Value) (fa:Addr) (o:Obj) (pm cd doc:Value) (a:Addr) (vs:List Value) (ns:List Int),
      Ground q loose [] XP w s₀ mg mb s₁.heap→YP w s₁.heap →
      s₁.heap.get? fa=some o→o.data=.func (docDef d.name d.params d.body d.scope pm cd doc)→s₁.heap.CodeRec cd d.name→mg d.name=some (.ref fa) →
      s₁.heap.get? a=some { cls:=.type "list",data:=.seq vs.toArray }→IntsAre vs ns→ns.length≤n→s₁.gens=#[] →
      codeAny (model l.prog w) callerA (.call (.ref fa) ⟨[.ref a],[]⟩) (fun r s'=>r=.ok (.ret (.bool true))∧OldK s₁.heap s'.heap∧s'.os=s₁.os∧AllBare s'.gens) s₁) :
    WalkO q loose XP YP l.row.toRowW d [] (fun f vs=>PySem.call f vs):=by
  intro w s₀ s₁ mg mb G Y fa o pm cd doc dV kV ho hd hcd hD hmg hg args vals as hpre hlay hrd hwl hlo;obtain rfl:dV=.none:=Dflts.none hD hdf;obtain rfl:kV=.none:=Dflts.noKw hD;obtain ⟨a,vs,ns,rfl,rfl,hobj,hints,hlen⟩:=pE hn hpre hwl;refine enter_call (codeAny_mono (call w s₀ s₁ mg mb fa o pm cd doc a vs ns G Y ho (fd_plain hd) hcd hmg hobj hints hlen hg) fun r s' hq=>?_);obtain ⟨rfl,h2,h3,h4⟩:=hq;exact ⟨.inl ⟨.bool true,.bool true,[],rfl,fun _=>rfl,.bool true,pH l _,fun _=>⟨List.Pairwise.nil,fun _ hm=>(nomatch hm)⟩⟩,h2,h3,h4⟩
section
variable {prog:Program} {w:World} {A:Around} {E:Value→Shared→Prop} {s:Shared} {K:Frag}
end
end Att
namespace L2
open PySem PySem.Spec PyProof.Rows
theorem jB:∀ {vs:List Value} {ns:List Int},IntsAre vs ns→Vals (ns.map V.int) vs
  | _,_,.nil=>.nil
  | _,_,.cons n t h=>.cons ⟨t,rfl⟩ (jB h)
def vR (H:Hp):Prop:=∀ b,H b=none∨∃ o xs,H b=some (.frz o (.lst xs))
theorem rK {P:Program} {w:World} {K:aab} {mg mb:Str→Option Value} {CX:CXT} {k:Nat} {fa a:Addr} {fd:FuncData} {x:Str} {sp:Sp} {s₁:Shared} {vs:List Value} {ns:List Int}
    (KX:K.In s₁.heap) (hns:s₁.heap.Ns mainGlobals mg) (hb:s₁.heap.Ns builtinsNs mb) (hbb:∀ x:Str,x ≠ "__name__"→mb x=bootBuiltins x) (hlim:s₁.heap.NoLimit) (hsm:∃ mm,s₁.heap.Ns sysModules mm) (hg:s₁.gens=#[])
    (ha:s₁.heap.get? a=some { cls:=.type "list",data:=.seq vs.toArray }) (hi:IntsAre vs ns) (hl:ns.length≤sizeLine) (hr:Room k callerA)
    (F:∀ base:Heap,K.In base→base.Ns mainGlobals mg→FnOk P w K mg base CX k fa fd [x] sp) (hbind:∀ (s:Shared) (u:Value),BindsTo s fd ⟨[u],[]⟩ [(x,u)])
    (hsp:∀ H:Hp,vR H→SqL K H a (ns.map V.int)→sp [.ref a] H (fun v _=>v=.bl true) fun _ _ _=>False)
    (hCX:∀ H e s',CX [] H s₁ (fun _ _ _=>False) e s'→False) :
    codeAny (model P w) callerA (.call (.ref fa) ⟨[.ref a],[]⟩) (fun r s'=>r=.ok (.ret (.bool true))∧OldK s₁.heap s'.heap∧s'.os=s₁.os∧AllBare s'.gens) s₁:=by
  have rv:=jB hi;have lenV:=hi.length;have core:∀ H:Hp,vR H→SqL K H a (ns.map V.int)→HOk P w H s₁.heap→(∀ b,H b≠none→b=a)→(H a≠none→K.lookup a=none) →
      codeAny (model P w) callerA (.call (.ref fa) ⟨[.ref a],[]⟩) (fun r s'=>r=.ok (.ret (.bool true))∧OldK s₁.heap s'.heap∧s'.os=s₁.os∧AllBare s'.gens) s₁:=by
    intro H hO hS hok hA hK;have base_of:∀ {b:Addr} {o:Obj},s₁.heap.get? b=some o→H b=none→(kN s₁.heap H).get? b=some o:=fun e n=>rV e n;have noA:∀ {b:Addr} {o:Obj} {es:Array DictEntry} {ep:Nat},s₁.heap.get? b=some o→o.data=.dict es ep→H b=none:=fun {b o es ep} e d=>by
      cases q:H b with
      | none=>rfl
      | some u =>
        have e':b=a:=hA b (by rw [q];simp);subst e';rw [ha] at e;cases e;have d':Data.seq vs.toArray _=Data.dict es ep:=d;cases d'
    have nsK:∀ {b:Addr} {m:Str→Option Value},s₁.heap.Ns b m→(kN s₁.heap H).Ns b m:=fun {b m} ⟨o,es,ep,e,d,r⟩=>⟨o,es,ep,base_of e (noA e d),d,r⟩
    have hKb:K.In (kN s₁.heap H):=fun b o e=>base_of (KX b o e) (by
      cases q:H b with
      | none=>rfl
      | some u =>
        have e':b=a:=hA b (by rw [q];simp);subst e';rw [hK (by rw [q];simp)] at e;cases e)
    have hM:Mod K mg (kN s₁.heap H):=⟨hKb,nsK hns,⟨mb,nsK hb,hbb⟩,let ⟨mc,h1,h2⟩:=hlim;⟨mc,nsK h1,h2⟩,let ⟨mm,h1⟩:=hsm;⟨mm,nsK h1⟩⟩
    have e0:Env0 P w K mg (kN s₁.heap H) callerA [] s₁ H:=⟨rfl,hM,fun b o e=>t5 e,Nat.le_of_eq (qd _ _),trivial,fun b hb=>absurd (show b∈([]:List Addr) from hb) (by simp),hok,.of_eq hg⟩
    refine codeAny_mono ((F _ hKb (nsK hns)).run callerA [] s₁ H ⟨[.ref a],[]⟩ [.ref a] [.ref a] _ _ hr e0 (hbind s₁ (.ref a)) (.cons rfl .nil) (hsp H hO hS)) fun r s' h=>?_;cases r with
    | error e=>exact (hCX H e s' h).elim
    | ok fl =>
      cases fl with
      | next=>exact acu h
      | brk=>exact acu h
      | cont=>exact acu h
      | ret u =>
        obtain ⟨v,H',os,bare,un,hok',r',q⟩:=h;have q':v=.bl true:=q;subst q';obtain rfl:u=Value.bool true:=r';refine ⟨rfl,OldK.of_keep fun b o e=>?_,os,bare⟩;cases q:H b with
        | none=>exact un.keep b o e q (by intro z;exact absurd (show b∈([]:List Addr) from z) (by simp)) (by simp)
        | some u =>
          rcases hO b with z|⟨ob,xs,z⟩
          · rw [q] at z;cases z
          · have z2:=un.frzs b ob _ z;obtain ⟨e1,_⟩:=hok b _ z;obtain ⟨e2,_⟩:=hok' b _ z2;rw [e] at e1;cases e1;exact e2
  cases hk:K.lookup a with
  | some o =>
    have e:=KX a o hk;rw [ha] at e;cases e;refine core (fun _=>none) (fun _=>.inl rfl) (.inr ⟨_,vs.toArray,_,hk,rfl,rfl,rfl,by rw [aam,lenV];exact hl,by simpa using rv⟩) (fun b u z=>by have z':(none:Option HO)=some u:=z;cases z') (fun b z=>absurd rfl z) fun z=>absurd rfl z
  | none =>
    refine core (fun b=>if b=a then some (.frz { cls:=.type "list",data:=.seq vs.toArray } (.lst (ns.map V.int))) else none) (fun b=>?_) (.inl (.inr ⟨{ cls:=.type "list",data:=.seq vs.toArray },if_pos rfl⟩)) (fun b u z=>?_) (fun b z=>?_) fun _=>hk
    · by_cases hb:b=a
      · exact .inr ⟨_,_,if_pos hb⟩
      · exact .inl (if_neg hb)
    · by_cases hb:b=a
      · have z':=(if_pos hb).symm.trans z;cases z';subst hb;exact ⟨ha,by rw [aaa];exact hl,vs,_,rv,ha⟩
      · have z':=(if_neg hb).symm.trans z;cases z'
    · by_cases hb:b=a
      · exact hb
      · exact absurd (if_neg hb) z
open PySem PySem.Spec PyProof.Rows
theorem walk_of {l:PySem.W.OpenLaw} {n k:Nat} {q:Program} {loose:List Str} {XP:(Str→Option Value)→Heap→Prop} {YP:World→Heap→Prop} {d:DefRec} {K:Params→aab} {CX:World→CXT} {sp:World→Sp} {x:Str}
    (hn:l.most=some n) (hn2:n≤sizeLine) (hdf:d.params.defaults=[]) (hr:Room k callerA) (hi:PyProof.Rows.importsNone q=true)
    (hY:∀ (w:World) (h:Heap),YP w h→(K w.params).In h)
    (F:∀ (w:World) (mg:Str→Option Value) (fa:Addr) (h:Heap),(K w.params).In h→h.Ns mainGlobals mg→mg d.name=some (.ref fa) →
      ∃ fd:FuncData,(∀ (s:Shared) (u:Value),BindsTo s fd ⟨[u],[]⟩ [(x,u)]) ∧
        ∀ base:Heap,(K w.params).In base→base.Ns mainGlobals mg→FnOk l.prog w (K w.params) mg base (CX w) k fa fd [x] (sp w))
    (hsp:∀ (w:World) (H:Hp) (a:Addr) (ns:List Int),ns.length≤n→vR H→SqL (K w.params) H a (ns.map V.int)→sp w [.ref a] H (fun v _=>v=.bl true) fun _ _ _=>False)
    (hCX:∀ (w:World) (H:Hp) (s:Shared) (e:Value) (s':Shared),CX w [] H s (fun _ _ _=>False) e s'→False) :
    PySem.W.WalkO q loose XP YP l.row.toRowW d [] (fun f vs=>PySem.call f vs):=by
  refine Att.attach_call hn hdf fun w s₀ s₁ mg mb fa o pm cd doc a vs ns G Y ho hd hcd hmg hobj hints hlen hg=>?_;have KX:=hY w _ Y;obtain ⟨fd,hb,hF⟩:=F w mg fa _ KX G.T.g hmg;exact rK KX G.T.g G.T.b G.T.builtins G.T.nolimit (let ⟨mm,h1,_⟩:=(G.T.seer hi).mods;⟨mm,h1⟩) hg hobj hints (aa1 hlen hn2) hr hF hb (fun H hO hS=>hsp w H a ns hlen hO hS) fun H e s'=>hCX w H s₁ e s'
open PySem PySem.Spec PyProof.Rows
def cF (s:Stmt):Arguments:=match s with
  | .FunctionDef _ a _ _ _ _ _ _ _ _=>a
  | _=>{ posonlyargs:=[],args:=[],vararg:=none,kwonlyargs:=[],kw_defaults:=[],kwarg:=none,defaults:=[] }
def cy (s:Stmt):List Stmt:=match s with
  | .FunctionDef _ _ b _ _ _ _ _ _ _=>b
  | _=>[]
def ao (s:Stmt):Scope:=match s with
  | .FunctionDef _ _ _ _ _ _ sc _ _ _=>sc
  | _=>{ kind:=.function,names:=[],isGenerator:=false,isCoroutine:=false }
abbrev CX0:CXT:=fun _ _ _ _ _ _=>False
abbrev E0:XK:=fun _ _ _=>False
theorem wx {X:Cx}:oa CX0 X E0:=fun _ _ _ _ _ _ _ h=>h.elim
structure Fun (K:aab) (x qual:Str) (st:Stmt) (f:Addr) (fd:FuncData):Prop where
  ex:∃ (oc:Value) (od:Option Addr) (kV doc pm:Value) (an:Option Addr) (cdv ct:Value) (osl:Array (Option Value)),
    fd=abH x qual (cF st) (cy st) (ao st) .none kV doc pm an cdv ct∧K.lookup f=some ⟨oc,od,.func fd,osl⟩∧acg K cdv qual=true
  kp:abF K (.ref f)=true
section
variable {P:Program} {w:World} {K:aab} {mg:Str→Option Value} {base:Heap}
theorem Fun.ok {x qual:Str} {st:Stmt} {f:Addr} {fd:FuncData} {N ps:List Str} {k:Nat} {sp:Sp} (F:Fun K x qual st f fd) (S:FnScope N ps (ao st)) (len:∀ vs H Q E,sp vs H Q E→vs.length=ps.length)
    (hbody:∀ (cdv:Value) (A:Around) (outer:List Env) (s:Shared) (H:Hp) (vs:List V) (Q:VK) (E:XK),Room k (A.deeper (envOfC qual (ao st) s.heap.objs.size f cdv))→sp vs H Q E →
      ∃ t,PSs (qk CX0 P w K mg base N qual (ao st) f cdv A outer s H E).nox (cy st) t∧t { nx:=fun _ H'=>Q .non H',rt:=Q } (start N vs) H):FnOk P w K mg base CX0 (k+1) f fd ps sp:=by
  obtain ⟨oc,od,kV,doc,pm,an,cdv,ct,osl,rfl,lk,hcd⟩:=F.ex;refine wQ lk hcd S len fun A outer s H vs Q E hr hsp=>?_;obtain ⟨t,h,q⟩:=hbody cdv A outer s H vs Q E hr hsp;exact ⟨t,h.nox,q⟩
theorem Fun.binds {x qual:Str} {st:Stmt} {f:Addr} {fd:FuncData} {ps:List Str} (F:Fun K x qual st f fd)
    (h:∀ (kV doc pm:Value) (an:Option Addr) (cdv ct:Value) (us:List Value),us.length=ps.length→bindArgs (abH x qual (cF st) (cy st) (ao st) .none kV doc pm an cdv ct) ⟨us,[]⟩=pure (ps.zip us)):Binds K fd ps []:=by
  obtain ⟨oc,od,kV,doc,pm,an,cdv,ct,osl,rfl,lk,hcd⟩:=F.ex;exact .all (h kV doc pm an cdv ct)
theorem sr {x qual:Str} {st:Stmt} {f:Addr} {oc:Value} {od an:Option Addr} {osl:Array (Option Value)} {kV doc pm cdv ct:Value} (l:K.lookup f=some ⟨oc,od,.func (abH x qual (cF st) (cy st) (ao st) .none kV doc pm an cdv ct),osl⟩)
    (c:acg K cdv qual=true) (k:abF K (.ref f)=true):Fun K x qual st f (abH x qual (cF st) (cy st) (ao st) .none kV doc pm an cdv ct):=⟨⟨oc,od,kV,doc,pm,an,cdv,ct,osl,rfl,l,c⟩,k⟩
end
theorem au {n:Nat} (h:n≤1000):n < sizeLine:=abY h (by decide)
section
variable {X:Cx}
theorem pv (i:Nat) {x:Str} {pos:Pos} (hN:X.N[i]?=some x:=by rfl) (hv:Vis X.env.scope x:=by first|exact Or.inl rfl|exact Or.inr (Or.inl rfl)|exact Or.inr (Or.inr rfl)) (hd:(x == ("__debug__":Str))=false:=by decide)
    (hcd:(x == ("__classdict__":Str))=false:=by decide):PE X (.Name x pos) (vX i):=va hN hv hd hcd
end
theorem aM {A B:Prop} (h:B):if false=true then A else B:=by
  rw [if_neg aag];exact h
theorem aR {A B:Prop} (h:A):if true=true then A else B:=by
  rw [if_pos rfl];exact h
theorem cN {c A B:Prop} [Decidable c] (h1:c→A) (h2:¬ c→B):if c then A else B:=by
  by_cases h:c
  · rw [if_pos h];exact h1 h
  · rw [if_neg h];exact h2 h
theorem jM {c A B:Prop} [Decidable c] (hc:c) (h:B):if (!decide c)=true then A else B:=by
  rw [decide_eq_true hc];exact aM h
def Same (H H':Hp):Prop:=∀ b o,H b=some o→H' b=some o
theorem Same.refl (H:Hp):Same H H:=fun _ _ h=>h
theorem Same.trans {H H1 H2:Hp} (a:Same H H1) (b:Same H1 H2):Same H H2:=fun c o h=>b c o (a c o h)
theorem Same.free {H H':Hp} (e:Same H H') {l:Addr} (h:H' l=Option.none):H l=Option.none:=by
  cases q:H l with
  | none=>rfl
  | some o =>
    rw [e l o q] at h;cases h
theorem Same.seq {K:aab} {H H':Hp} {a:Addr} {xs:List V} (e:Same H H') (h:SqL K H a xs):SqL K H' a xs:=by
  rcases h with (h|⟨o,h⟩)|h
  · exact .inl (.inl (e _ _ h))
  · exact .inl (.inr ⟨o,e _ _ h⟩)
  · exact .inr h
open PySem PySem.Spec PyProof.Rows
section
variable {κ:Type} [DecidableEq κ]
def bg (kvs:List (κ × V)) (k:κ):Option V:=(kvs.find? fun kv=>decide (kv.1=k)).map (·.2)
def bt (kvs:List (κ × V)) (k:κ) (v:V):List (κ × V) :=
  if (kvs.any fun kv=>decide (kv.1=k))=true then kvs.map (fun kv=>if kv.1=k then (kv.1,v) else kv) else kvs++[(k,v)]
theorem dr {p:κ × V} {r:List (κ × V)} {k:κ} (e:p.1=k):bg (p :: r) k=some p.2:=by simp [bg,abe,e]
theorem dt {p:κ × V} {r:List (κ × V)} {k:κ} (e:¬ p.1=k):bg (p :: r) k=bg r k:=by simp [bg,abe,e]
theorem cY (k:κ):∀ kvs:List (κ × V),(kvs.any fun kv=>decide (kv.1=k))=(bg kvs k).isSome
  | []=>rfl
  | p :: r=>by
    rw [acI];by_cases e:p.1=k
    · simp only [dr e,decide_eq_true e,Bool.true_or,Option.isSome_some]
    · rw [dt e,decide_eq_false e,Bool.false_or];exact cY k r
theorem cg (kvs:List (κ × V)) (k:κ) (v:V):(bt kvs k v).length≤kvs.length+1:=by
  unfold bt;split
  · rw [aaa];lia
  · rw [aaw,aaC,abO];lia
theorem qR {kvs:List (κ × V)} {k:κ} (v:V) (h:bg kvs k=none):bt kvs k v=kvs++[(k,v)]:=by
  unfold bt;rw [cY,h];exact if_neg (by decide)
theorem RelO.isSome_eq {o:Option V} {u:Option Value} (r:RelO o u):o.isSome=u.isSome:=by
  cases o with
  | none=>cases u with
    | none=>rfl
    | some _=>exact (show False from r).elim
  | some _=>cases u with
    | none=>exact (show False from r).elim
    | some _=>rfl
theorem RelO.getD {o:Option V} {u:Option Value} {d:V} {d':Value} (r:RelO o u) (rd:RelV d d'):RelV (o.getD d) (u.getD d'):=by
  cases o with
  | none=>cases u with
    | none=>exact rd
    | some _=>exact (show False from r).elim
  | some _=>cases u with
    | none=>exact (show False from r).elim
    | some _=>exact r
theorem KV.val {kvs:List (κ × V)} {vs:List (κ × Value)} (r:KV kvs vs) (k:κ):RelO (bg kvs k) (valueAt vs k):=by
  unfold KV at r
  induction r with
  | nil=>exact True.intro
  | @cons p q ps qs h t ih =>
    obtain ⟨h1,h2⟩:=h;by_cases e:p.1=k
    · have e':q.1=k:=h1.symm.trans e;have b:valueAt (q :: qs) k=some q.2:=by simp [valueAt,abe,e']
      rw [dr e,b];exact h2
    · have e':¬ q.1=k:=fun z=>e (h1.trans z);have b:valueAt (q :: qs) k=valueAt qs k:=by simp [valueAt,abe,e']
      rw [dt e,b];exact ih
theorem KV.any {kvs:List (κ × V)} {vs:List (κ × Value)} (r:KV kvs vs) (k:κ):(kvs.any fun kv=>decide (kv.1=k))=vs.any fun kv=>decide (kv.1=k):=by
  unfold KV at r
  induction r with
  | nil=>rfl
  | cons h t ih=>rw [acI,acI,ih,h.1]
theorem KV.repl {kvs:List (κ × V)} {vs:List (κ × Value)} (r:KV kvs vs) (k:κ) {y:V} {u:Value} (ry:RelV y u) :
    KV (kvs.map fun kv=>if kv.1=k then (kv.1,y) else kv) (vs.map fun kv=>if kv.1=k then (kv.1,u) else kv):=by
  unfold KV at r ⊢
  induction r with
  | nil=>exact .nil
  | @cons p q ps qs h t ih =>
    rw [aae,aae];refine .cons ?_ ih;obtain ⟨h1,h2⟩:=h;by_cases e:p.1=k
    · rw [if_pos e,if_pos (h1.symm.trans e)];exact ⟨h1,ry⟩
    · rw [if_neg e,if_neg (fun z=>e (h1.trans z))];exact ⟨h1,h2⟩
theorem KV.put {kvs:List (κ × V)} {vs:List (κ × Value)} (r:KV kvs vs) (k:κ) {y:V} {u:Value} (ry:RelV y u):KV (bt kvs k y) (stored vs k u):=by
  unfold bt stored;rw [r.any k];by_cases e:(vs.any fun kv=>decide (kv.1=k))=true
  · rw [if_pos e,if_pos e];exact r.repl k ry
  · rw [if_neg e,if_neg e];exact Paired.snoc r ⟨rfl,ry⟩
theorem KV.length {kvs:List (κ × V)} {vs:List (κ × Value)} (r:KV kvs vs):kvs.length=vs.length:=aav r
end
theorem jK {P:Program} {w:World} {k:Key} {u:Value} (r:RelV (kV k) u):(ar P w).is k u=true:=by
  cases k with
  | inl i=>obtain ⟨t,e⟩:=(show ∃ t,u=Value.int i t from r);subst e;exact mk P w i t
  | inr x=>obtain ⟨t,e⟩:=(show ∃ t,u=Value.str x t from r);subst e;exact mj P w x t
theorem jL {P:Program} {w:World}:∀ {ks:List Key} {us:List Value},Vals (ks.map kV) us→ItemsAre (ar P w) ks us
  | [],_,r=>by rw [abk] at r;cases r;exact .nil
  | k :: ks,_,r=>by
    rw [aae] at r;cases r with
    | cons h t=>exact .cons (jK h) (jL t)
abbrev KT (H:Hp):List (List Key × V)→List (List Key × Addr × Value)→Prop:=Paired fun p q=>p.1=q.1∧H q.2.1=some (.tup (p.1.map kV))∧RelV p.2 q.2.2
theorem KT.val {H:Hp} {kvs:List (List Key × V)} {xs:List (List Key × Addr × Value)} (r:KT H kvs xs) (k:List Key):RelO (bg kvs k) ((atKey xs k).map (·.2)):=by
  induction r with
  | nil=>exact True.intro
  | @cons p q ps qs h t ih =>
    obtain ⟨h1,_,h2⟩:=h;by_cases e:p.1=k
    · have e':q.1=k:=h1.symm.trans e;have b:atKey (q :: qs) k=some q.2:=by simp [atKey,abe,e']
      rw [dr e,b];exact h2
    · have e':¬ q.1=k:=fun z=>e (h1.trans z);have b:atKey (q :: qs) k=atKey qs k:=by simp [atKey,abe,e']
      rw [dt e,b];exact ih
theorem KT.repl {H:Hp} {kvs:List (List Key × V)} {xs:List (List Key × Addr × Value)} (r:KT H kvs xs) (k:List Key) {y:V} {u:Value} (ry:RelV y u) :
    KT H (kvs.map fun kv=>if kv.1=k then (kv.1,y) else kv) (xs.map (putAt k u)):=by
  induction r with
  | nil=>exact .nil
  | @cons p q ps qs h t ih =>
    rw [aae,aae];refine .cons ?_ ih;obtain ⟨h1,h2,h3⟩:=h;unfold putAt;by_cases e:p.1=k
    · rw [if_pos e,if_pos (h1.symm.trans e)];exact ⟨h1,h2,ry⟩
    · rw [if_neg e,if_neg (fun z=>e (h1.trans z))];exact ⟨h1,h2,h3⟩
theorem KT.put {H:Hp} {kvs:List (List Key × V)} {xs:List (List Key × Addr × Value)} (r:KT H kvs xs) (k:List Key) {b:Addr} {y:V} {u:Value} (hb:H b=some (.tup (k.map kV))) (ry:RelV y u) :
    KT H (bt kvs k y) (storedH xs k b u):=by
  have e:(kvs.any fun kv=>decide (kv.1=k))=(atKey xs k).isSome:=by
    rw [cY,(r.val k).isSome_eq,Option.isSome_map]
  unfold bt storedH;rw [e];by_cases q:(atKey xs k).isSome=true
  · rw [if_pos q,if_pos q];exact r.repl k ry
  · rw [if_neg q,if_neg q];exact Paired.snoc r ⟨rfl,hb,ry⟩
theorem KT.keeps {H H':Hp} {kvs:List (List Key × V)} {xs:List (List Key × Addr × Value)} (r:KT H kvs xs) (ht:∀ b ys,H b=some (.tup ys)→H' b=some (.tup ys)):KT H' kvs xs :=
  Paired.mapP r fun _ _ z=>⟨z.1,ht _ _ z.2.1,z.2.2⟩
section
variable {P:Program} {w:World} {H:Hp} {h:Heap} {a:Addr}
theorem uq {u:HO} (ok:HOk P w H h) (e:Rd H a u):ObjOk P w H h a u:=e.ok ok
theorem mB {kvs:List (Key × V)} (ok:HOk P w H h) (e:Rd H a (.dK kvs)):kvs.length≤sizeLine∧(a == sysModules)=false∧∃ vs,KV kvs vs∧h.DictOf (ar P w) a vs :=
  show ObjOk P w H h a (.dK kvs) from uq ok e
theorem jR {kvs:List (Key × V)} (ok:HOk P w H h) (e:H a=some (.dK kvs)):kvs.length≤sizeLine∧(a == sysModules)=false∧∃ vs,KV kvs vs∧h.DictOf (ar P w) a vs:=mB ok (.inl e)
theorem fJ {ks:List Key} (ok:HOk P w H h) (e:H a=some (.tup (ks.map kV))):(tupleKind (ar P w)).is h ks a:=by
  obtain ⟨_,its,r,o,h1,h2,n,h3⟩:=(show ObjOk P w H h a (.tup (ks.map kV)) from ok a _ e)
  exact ⟨o,its.toArray,n,h1,h2,h3,by simpa using jL r⟩
theorem mz {kvs:List (List Key × V)} (ok:HOk P w H h) (e:Rd H a (.dT kvs)):kvs.length≤sizeLine∧(a == sysModules)=false ∧
    ∃ xs,KT H kvs xs∧h.DictOfH (tupleKind (ar P w)) a xs:=by
  obtain ⟨z,y,xs,r,o,es,ep,h1,h2,h3,h4,h5⟩:=(show ObjOk P w H h a (.dT kvs) from uq ok e)
  refine ⟨z,y,xs,r,o,es,ep,h1,h2,h3,h4,fun x hx=>?_,h5⟩;have all:∀ {l:List (List Key × V)} {m:List (List Key × Addr × Value)},KT H l m→∀ x∈m,(tupleKind (ar P w)).is h x.1 x.2.1:=by
    intro l m q
    induction q with
    | nil=>intro x hx;exact nomatch hx
    | @cons p q ps qs hq t ih =>
      intro x hx;rcases aai.mp hx with e|hx
      · subst e;exact fJ ok (by rw [← hq.1];exact hq.2.1)
      · exact ih x hx
  exact all r x hx
theorem i5 {kvs:List (List Key × V)} (ok:HOk P w H h) (e:H a=some (.dT kvs)):kvs.length≤sizeLine∧(a == sysModules)=false ∧
    ∃ xs,KT H kvs xs∧h.DictOfH (tupleKind (ar P w)) a xs:=mz ok (.inl e)
end
def DGet (H:Hp) (a:Addr) (y:V) (r:Option V):Prop :=
  (∃ kvs k,Rd H a (.dK kvs)∧y=kV k∧r=bg kvs k)∨∃ kvs k b,Rd H a (.dT kvs)∧y=.ref b∧H b=some (.tup (k.map kV))∧r=bg kvs k
def DPut (H:Hp) (a:Addr) (y v:V) (H':Hp):Prop :=
  (∃ kvs k,H a=some (.dK kvs)∧y=kV k∧kvs.length < sizeLine∧H'=upd H a (.dK (bt kvs k v))) ∨
  ∃ kvs k b,H a=some (.dT kvs)∧y=.ref b∧H b=some (.tup (k.map kV))∧kvs.length < sizeLine∧H'=upd H a (.dT (bt kvs k v))
theorem DGet.k {H:Hp} {a:Addr} {kvs:List (Key × V)} {k:Key} (e:H a=some (.dK kvs)):DGet H a (kV k) (bg kvs k):=.inl ⟨kvs,k,.inl e,rfl,rfl⟩
theorem DGet.t {H:Hp} {a b:Addr} {kvs:List (List Key × V)} {k:List Key} (e:H a=some (.dT kvs)) (eb:H b=some (.tup (k.map kV))):DGet H a (.ref b) (bg kvs k):=.inr ⟨kvs,k,b,.inl e,rfl,eb,rfl⟩
theorem DPut.k {H:Hp} {a:Addr} {kvs:List (Key × V)} {k:Key} {v:V} (e:H a=some (.dK kvs)) (hl:kvs.length < sizeLine):DPut H a (kV k) v (upd H a (.dK (bt kvs k v))):=.inl ⟨kvs,k,e,rfl,hl,rfl⟩
theorem DPut.t {H:Hp} {a b:Addr} {kvs:List (List Key × V)} {k:List Key} {v:V} (e:H a=some (.dT kvs)) (eb:H b=some (.tup (k.map kV))) (hl:kvs.length < sizeLine) :
    DPut H a (.ref b) v (upd H a (.dT (bt kvs k v))):=.inr ⟨kvs,k,b,e,rfl,eb,hl,rfl⟩
section
variable {X:Cx} {pins:List (Addr × Obj)} {σ:St} {H:Hp} {s:Shared} {a:Addr} {y v:V} {u r:Value} {o:Option V} {A:Around} {E:Value→Shared→Prop}
theorem Inv.big (I:Inv X pins σ H s):sysModules < s.heap.objs.size:=by
  have h:mainGlobals < s.heap.objs.size:=(I.mod.glob.keeps I.bk).lt;exact ac7 (by decide) h
theorem qj {Q:Value→Shared→Prop} (hu:A.units+1 < cLine) (I:Inv X pins σ H s) (g:DGet H a y (some v)) (ry:RelV y u) (h:∀ w' s',Inv X pins σ H s'→RelV v w'→Q w' s') :
    wpAny (model X.prog X.w) A (getItem (.ref a) u) Q E s:=by
  rcases g with ⟨kvs,k,e,ey,l⟩|⟨kvs,k,b,e,ey,eb,l⟩
  · subst ey;obtain ⟨z,hd,vs,rel,dd⟩:=mB I.hok e;obtain ⟨w',hw,rw'⟩:=RelO.some_of (v:=v) (o:=valueAt vs k) (by rw [l];exact rel.val k);exact wpAny_getItem_of (jK ry) dd.mapOf hw (h w' _ (I.tok _) rw')
  · subst ey;cases (show u=Value.ref b from ry);obtain ⟨z,hd,xs,rel,dd⟩:=mz I.hok e;obtain ⟨w',hw,rw'⟩:=RelO.some_of (v:=v) (o:=(atKey xs k).map (·.2)) (by rw [l];exact rel.val k);obtain ⟨p,hp,hp2⟩:=aaz.mp hw;refine wpAny_getItem_heap (tupleKind_room_in1 hu) (fJ I.hok eb) dd hp ?_;rw [hp2];exact h w' _ (I.tok _) rw'
theorem ug {Q:Value→Shared→Prop} (hu:A.units+1 < cLine) (I:Inv X pins σ H s) (g:DGet H a y o) (ry:RelV y u) (h:∀ s',Inv X pins σ H s'→Q (.bool (!o.isSome)) s') :
    wpAny (model X.prog X.w) A (compareOp .NotIn u (.ref a)) Q E s:=by
  rcases g with ⟨kvs,k,e,ey,l⟩|⟨kvs,k,b,e,ey,eb,l⟩
  · subst ey;obtain ⟨z,hd,vs,rel,dd⟩:=mB I.hok e;refine wpAny_notIn_of (jK ry) hd dd.mapOf ?_;rw [← (rel.val k).isSome_eq,← l];exact h _ (I.tok _)
  · subst ey;cases (show u=Value.ref b from ry);obtain ⟨z,hd,xs,rel,dd⟩:=mz I.hok e;refine wpAny_notIn_heap (tupleKind_room_in1 hu) (fJ I.hok eb) hd dd ?_;have q:=(rel.val k).isSome_eq;rw [Option.isSome_map] at q;rw [← q,← l];exact h _ (I.tok _)
theorem cU {h':Heap} {t':Nat} {ob:HO} (I:Inv X pins σ H s) (mu:Mut (H a)) (hs:aaY a s.heap h') (he:∃ q,h'.get? a=some q) (new:ObjOk X.prog X.w (upd H a ob) h' a ob) :
    Inv X pins σ (upd H a ob) { s with heap:=h',toks:=t' } :=
  I.write (x:=a) (e:=a) mu (.inl rfl) (fun b q hb z=>(hs.2 b hb).trans z) he new
theorem sI {P:Program} {w:World} {H':Hp} {h':Heap} {kvs:List (Key × V)} {vs:List (Key × Value)} (z:kvs.length≤sizeLine) (hd:(a == sysModules)=false) (rel:KV kvs vs) (dd:h'.DictOf (ar P w) a vs) :
    ObjOk P w H' h' a (.dK kvs):=⟨z,hd,vs,rel,dd⟩
theorem qi {H':Hp} {Q:Unit→Shared→Prop} (hu:A.units+1 < cLine) (I:Inv X pins σ H s) (g:DPut H a y v H') (ry:RelV y u) (rv:RelV v r) (h:∀ s',Inv X pins σ H' s'→Q () s') :
    wpAny (model X.prog X.w) A (setItem (.ref a) u r) Q E s:=by
  rcases g with ⟨kvs,k,e,ey,l,eH⟩|⟨kvs,k,b,e,ey,eb,l,eH⟩
  · subst ey eH;obtain ⟨z,hd,vs,rel,dd⟩:=jR I.hok e;have hz:vs.length≤sizeLine:=by rw [← rel.length];exact z
    have hl:(bt kvs k v).length≤sizeLine:=by have:=cg kvs k v;lia
    refine wpAny_setItem_pairs (hsz:=hz) (jK ry) dd fun h' dd' hs=>h _ ?_;have he:∃ q,h'.get? a=some q:=let ⟨q,_,_,hq,_⟩:=dd';⟨q,hq⟩;exact cU I (by rw [e];exact True.intro) hs he (sI hl hd (rel.put k rv) dd')
  · subst ey eH;cases (show u=Value.ref b from ry);obtain ⟨z,hd,xs,rel,dd⟩:=i5 I.hok e;have hz:xs.length≤sizeLine:=by rw [← aav rel];exact z
    have hl:(bt kvs k v).length≤sizeLine:=by have:=cg kvs k v;lia
    refine wpAny_setItem_heap (hsz:=hz) (tupleKind_room_in1 hu) (fJ I.hok eb) dd fun h' dd' hs=>h _ ?_;obtain ⟨q,es,ep,hq,h2,h3,h4,_,h5⟩:=dd';refine cU I (by rw [e];exact True.intro) hs ⟨q,hq⟩ ⟨hl,hd,_,(rel.put k eb rv).keeps fun c ys ec=>?_,q,es,ep,hq,h2,h3,h4,h5⟩;rw [aj (oI ec e (fun z=>nomatch z))];exact ec
end
section
variable {X:Cx} {pins:List (Addr × Obj)} {σ:St} {H:Hp} {s:Shared} {a:Addr} {kvs:List (Key × V)} {k:Key} {u:Value} {A:Around} {E:Value→Shared→Prop}
theorem wR {Q:Value→Shared→Prop} (I:Inv X pins σ H s) (e:Rd H a (.dK kvs)) (h:∀ t s',Inv X pins σ H s'→Q (.int kvs.length t) s'):wpAny (model X.prog X.w) A (call (.builtin "len") [.ref a]) Q E s:=by
  obtain ⟨z,hd,vs,rel,dd⟩:=mB I.hok e;refine call_len_dict hd dd (by rw [← rel.length];rw [sizeLine_eq] at z;lia) ?_;rw [← rel.length];exact h _ _ (I.tok _)
end
def vS (i:Expr):Prop:=∀ ov iv,subscripted i false ov iv=operate [ov,iv] (getItem ov iv)
theorem on {prog:Program} {w:World} {A:Around} {E:Value→Shared→Prop} {s:Shared} {env:Env} {value slice:Expr} {pos:Pos} {T id:String} {Q:Value→Shared→Prop}
    (hl:typeLookup (.type T) "__getitem__" = pure (some (.builtin id))) (hs:vS slice)
    (h:wpAny (model prog w) A (eval value env) (fun o s₁=>wpAny (model prog w) A (eval slice env) (fun i s₂=>s₂.TypeIs o T∧wpAny (model prog w) A (getItem o i) Q E s₂) E s₁) E s) :
    wpAny (model prog w) A (eval (.Subscript value slice pos) env) Q E s:=by
  refine Subscript_ (wpAny_mono h (fun o s₁ h₁=>wpAny_mono h₁ (fun i s₂ h₂=>?_) fun _ _ x=>x) fun _ _ x=>x);obtain ⟨hT,h₂⟩:=h₂;unfold subscriptTail;refine wpAny_bind ?_;rw [getitemInPython_of_ne hT.not_modules];refine wpAny_bind (wpAny_specialOf hT hl ?_);have fin:wpAny (model prog w) A (subscripted slice false o i) (fun r s₃=>wpAny (model prog w) A (letTemporaryGo value o r >>= fun _=>pure r) Q E s₃) E s₂:=by
    rw [hs o i];exact wpAny_operating (wpAny_mono h₂ (fun r s₃ h₃=>wpAny_bind (wpAny_letTemporaryGo (wpAny_pure h₃))) fun _ _ x=>x)
  first
    | exact wpAny_pure (wpAny_bind fin)
    | exact wpAny_bind (wpAny_pure (wpAny_bind fin))
    | exact wpAny_bind fin
theorem mD {X:Cx} {pins:List (Addr × Obj)} {σ:St} {H:Hp} {s:Shared} {a:Addr} {y:V} {o:Option V} (I:Inv X pins σ H s) (g:DGet H a y o):s.TypeIs (.ref a) "dict":=by
  rcases g with ⟨kvs,k,e,_,_⟩|⟨kvs,k,b,e,_,_,_⟩
  · obtain ⟨_,_,vs,_,dd⟩:=mB I.hok e;exact dd.typeIs
  · obtain ⟨_,_,xs,_,dd⟩:=mz I.hok e;exact dd.typeIs
def v9 (td ty:TE):TE:=fun σ H Q=>td σ H fun x H1=>ty σ H1 fun y H2=>∃ a v,x=.ref a∧DGet H2 a y (some v)∧Q v H2
def oj (ty td:TE):TE:=fun σ H Q=>ty σ H fun y H1=>td σ H1 fun x H2=>∃ a o,x=.ref a∧DGet H2 a y o∧Q (.bl (!o.isSome)) H2
def wo (td ty tv:TE):TS:=fun D σ H=>tv σ H fun v H1=>td σ H1 fun x H2=>ty σ H2 fun y H3=>∃ a H4,x=.ref a∧DPut H3 a y v H4∧D.nx σ H4
section
variable {X:Cx} {o i e value:Expr} {pos pos' tpos:Pos} {td ty tv:TE}
theorem fc (hu:X.A.units+1 < cLine) (ho:PE X o td) (hi:PE X i ty) (hs:vS i):PE X (.Subscript o i pos) (v9 td ty):=by
  intro pins s σ H Q I h;refine on adg.lookup hs (thn (ho pins s σ H _ I h) fun u s1 ⟨x,H1,I1,rx,q1⟩=>thn (hi pins s1 σ H1 _ I1 q1) fun iv s2 ⟨y,H2,I2,ry,a,v,ex,g,q2⟩=>?_);subst ex;obtain rfl:u=Value.ref a:=rx;exact ⟨mD I2 g,qj hu I2 g ry fun w' s3 I3 rw'=>⟨v,H2,I3,rw',q2⟩⟩
theorem pJ (hu:X.A.units+1 < cLine) (hi:PE X i ty) (ho:PE X o td):PC X .NotIn i o (oj ty td):=by
  intro pins s σ H Q I h;refine thn (hi pins s σ H _ I h) fun iv s1 ⟨y,H1,I1,ry,q1⟩=>thn (ho pins s1 σ H1 _ I1 q1) fun u s2 ⟨x,H2,I2,rx,a,ov,ex,g,q2⟩=>?_;subst ex;obtain rfl:u=Value.ref a:=rx;exact ug hu I2 g ry fun s3 I3=>⟨.bl (!ov.isSome),H2,I3,rfl,q2⟩
theorem dR (hu:X.A.units+1 < cLine) (ho:PE X o td) (hi:PE X i ty) (hv:PE X value tv) (hs:swapsWith value (some (.Subscript o i pos')) pos.line X.env=pure false) :
    PS X (.Assign [.Subscript o i pos'] value pos) (wo td ty tv):=by
  intro pins s σ H D I h;refine wpAny_Assign_Subscript (thn (hv pins s σ H _ I h) fun r s1 ⟨v,H1,I1,rv,q1⟩=>thn (ho pins s1 σ H1 _ I1 q1) fun u s2 ⟨x,H2,I2,rx,q2⟩=>thn (hi pins s2 σ H2 _ I2 q2) fun iv s3 ⟨y,H3,I3,ry,a,H4,ex,g,q3⟩=>?_) hs;subst ex;obtain rfl:u=Value.ref a:=rx;exact qi hu I3 g ry rv fun s4 I4=>⟨σ,H4,I4,q3⟩
end
theorem mC {P:Program} {w:World} {H:Hp} (h:Heap) (hb:sysModules < h.objs.size):ObjOk P w H (h.push { cls:=.type "dict",data:=.dict #[] }) h.objs.size (.dK []) :=
  ⟨aa4 _,beq_eq_false_iff_ne.mpr (abm (aaB hb)),[],.nil,Heap.DictOf.new h⟩
theorem i6 {P:Program} {w:World} {H:Hp} (h:Heap) (hb:sysModules < h.objs.size):ObjOk P w H (h.push { cls:=.type "dict",data:=.dict #[] }) h.objs.size (.dT []) :=
  ⟨aa4 _,beq_eq_false_iff_ne.mpr (abm (aaB hb)),[],.nil,_,#[],0,aao _ rfl,⟨rfl,rfl,rfl⟩,rfl,rfl,ac0⟩
def uN:TE:=fun _ H Q=>∀ p,H p=none→Q (.ref p) (upd H p (.dK []))
def uM:TE:=fun _ H Q=>∀ p,H p=none→Q (.ref p) (upd H p (.dT []))
section
variable {X:Cx} {pos:Pos}
theorem fW:PE X (.Dict [] [] pos) uN:=fun pins s σ H Q I h =>
  wpAny_Dict_empty ⟨.ref s.heap.objs.size,_,I.laid (a:=s.heap.objs.size) (o:=.dK []) (t':=s.toks) (fun _ _ q=>aad _ q) (aaf _) (mC s.heap I.big),rfl,h _ (I.hok.fresh (aaf _))⟩
theorem lU:PE X (.Dict [] [] pos) uM:=fun pins s σ H Q I h =>
  wpAny_Dict_empty ⟨.ref s.heap.objs.size,_,I.laid (a:=s.heap.objs.size) (o:=.dT []) (t':=s.toks) (fun _ _ q=>aad _ q) (aaf _) (i6 s.heap I.big),rfl,h _ (I.hok.fresh (aaf _))⟩
end
def mS:List (TE × TE)→St→Hp→(List (V × V)→Hp→Prop)→Prop
  | [],_,H,Q=>Q [] H
  | (tk,tv) :: r,σ,H,Q=>tk σ H fun x H1=>tv σ H1 fun y H2=>mS r σ H2 fun ps H3=>Q ((x,y) :: ps) H3
abbrev VV:List (V × V)→List (Value × Value)→Prop:=Paired fun p q=>RelV p.1 q.1∧RelV p.2 q.2
def PPs (X:Cx) (pos:Pos) (keys:List (Option Expr)) (values:List Expr) (trs:List (TE × TE)):Prop :=
  ∀ (pins:List (Addr × Obj)) (s:Shared) (σ:St) (H:Hp) (Q:List (V × V)→Hp→Prop),Inv X pins σ H s→mS trs σ H Q →
    wpAny (model X.prog X.w) X.A (evalPairs (pairTrees keys values X.env pos)) (fun vs s'=>∃ ps H',Inv X pins σ H' s'∧VV ps vs∧Q ps H') X.xe s
theorem oE {X:Cx} {pos:Pos}:PPs X pos [] [] []:=fun pins s σ H Q I h=>pairTrees_nil_walk ⟨[],H,I,.nil,h⟩
theorem lQ {X:Cx} {pos:Pos} {k v:Expr} {ks:List (Option Expr)} {vs:List Expr} {tk tv:TE} {trs:List (TE × TE)} (hk:PE X k tk) (hv:PE X v tv) (hr:PPs X pos ks vs trs) :
    PPs X pos (some k :: ks) (v :: vs) ((tk,tv) :: trs):=fun pins s σ H Q I h =>
  pairTrees_cons_walk (thn (hk pins s σ H _ I h) fun u s1 ⟨x,H1,I1,rx,q1⟩=>thn (hv pins s1 σ H1 _ I1 q1) fun w2 s2 ⟨y,H2,I2,ry,q2⟩ =>
    thn (hr pins s2 σ H2 _ I2 q2) fun ws s3 ⟨ps,H3,I3,rel,q3⟩=>⟨(x,y) :: ps,H3,I3,.cons ⟨rx,ry⟩ rel,q3⟩)
def cC (kvs more:List (Key × V)):List (Key × V):=more.foldl (fun acc kv=>bt acc kv.1 kv.2) kvs
theorem KV.merge:∀ {more:List (Key × V)} {rs:List (Key × Value)} {kvs:List (Key × V)} {vs:List (Key × Value)},KV more rs→KV kvs vs→KV (cC kvs more) (merged vs rs):=by
  intro more rs kvs vs r;unfold KV at r
  induction r generalizing kvs vs with
  | nil=>intro q;exact q
  | @cons p q ps qs h t ih =>
    intro r0;have e:KV (bt kvs p.1 p.2) (stored vs q.1 q.2):=by
      have:=r0.put p.1 h.2;rw [← h.1];exact this
    exact ih e
structure M1 (X:Cx) (o:Expr) (m:Str) (apos:Pos) (e:Expr) (cpos:Pos):Prop where
  base:attributeBase o m X.env (eval o X.env)=eval o X.env
  few:((backTo cpos (starEach [e] X.env)).all (fun x=>!x.1) && (backToKw cpos (keywordEach [] X.env)).all (fun x=>x.1.isSome)
    && decide (([e]:List Expr).length+([]:List Keyword).length+(if ([]:List Keyword).isEmpty then 0 else 1) < 30))=true
  line:(apos.endLine == cpos.line)=true
  trees:backTo cpos (starEach [e] X.env)=[(false,eval e X.env)]
structure M2 (X:Cx) (o:Expr) (m:Str) (apos:Pos) (e f:Expr) (cpos:Pos):Prop where
  base:attributeBase o m X.env (eval o X.env)=eval o X.env
  few:((backTo cpos (starEach [e,f] X.env)).all (fun x=>!x.1) && (backToKw cpos (keywordEach [] X.env)).all (fun x=>x.1.isSome)
    && decide (([e,f]:List Expr).length+([]:List Keyword).length+(if ([]:List Keyword).isEmpty then 0 else 1) < 30))=true
  line:(apos.endLine == cpos.line)=true
  trees:backTo cpos (starEach [e,f] X.env)=[(false,eval e X.env),(false,eval f X.env)]
section
variable {X:Cx} {pins:List (Addr × Obj)} {σ:St} {H:Hp} {s:Shared} {a:Addr} {y d:V} {u r:Value} {o:Option V} {A:Around} {E:Value→Shared→Prop}
end
section
variable {X:Cx} {o e f:Expr} {apos cpos:Pos} {td ty tx:TE}
end
section
variable {X:Cx} {pins:List (Addr × Obj)} {σ:St} {H:Hp} {s:Shared} {a:Addr} {kvs:List (Key × V)} {A:Around} {E:Value→Shared→Prop}
end
section
variable {X:Cx} {pins:List (Addr × Obj)} {σ:St} {H:Hp} {s:Shared} {a:Addr} {y:V} {u:Value} {A:Around} {E:Value→Shared→Prop}
end
open PySem PySem.Spec PyProof.Rows
section
variable {X:Cx}
theorem gK:bv X (.builtin "len") (fun xs H Q=>∃ a kvs,xs=[V.ref a]∧H a=some (.dK kvs)∧Q (.int kvs.length) H):=by
  intro pins s σ H xs us Q I r h;obtain ⟨a,kvs,rfl,ha,q⟩:=h;obtain ⟨u,rfl,ru⟩:=ci r;cases ru;exact wR I (.inl ha) fun t s' I'=>⟨.int kvs.length,H,I',⟨t,rfl⟩,q⟩
end
section
variable {κ:Type} [DecidableEq κ]
theorem ip {kvs:List (κ × V)} {k:κ} (h:bg kvs k=none):¬ k∈kvs.map (·.1):=by
  intro m;obtain ⟨p,hp,e⟩:=aar.mp m;have q:(kvs.any fun kv=>decide (kv.1=k))=true:=List.any_eq_true.mpr ⟨p,hp,decide_eq_true e⟩;rw [cY,h] at q;exact absurd q (by simp)
theorem sW {kvs:List (κ × V)} {k:κ} {v:V} (h:bg kvs k=some v):k∈kvs.map (·.1):=by
  have q:(kvs.any fun kv=>decide (kv.1=k))=true:=by
    rw [cY,h]
    all_goals rfl
  obtain ⟨p,hp,e⟩:=List.any_eq_true.mp q;exact aar.mpr ⟨p,hp,of_decide_eq_true e⟩
theorem oJ:∀ {l:List κ} {k:κ},l.Nodup→¬ k∈l→(l++[k]).Nodup
  | [],k,_,_=>by simp
  | a :: r,k,h,hk=>by
    obtain ⟨h1,h2⟩:=aa9.mp h;show (a :: (r++[k])).Nodup;refine List.nodup_cons.mpr ⟨fun m=>?_,oJ h2 fun m=>hk (List.mem_cons.mpr (Or.inr m))⟩;rcases aay.mp m with q|q
    · exact h1 q
    · exact hk (List.mem_cons.mpr (Or.inl (aau.mp q).symm))
theorem t6 {kvs:List (κ × V)} {k:κ} (v:V) (hn:(kvs.map (·.1)).Nodup) (h:bg kvs k=none):((bt kvs k v).map (·.1)).Nodup:=by
  rw [qR v h,aaG];exact oJ hn (ip h)
end
end L2
set_option maxHeartbeats 4000000
namespace L2
open PySem PySem.Spec PyProof.Rows
theorem Inv.adopt {X:Cx} {pins:List (Addr × Obj)} {σ:St} {H:Hp} {s:Shared} {a:Addr} {o:HO} (I:Inv X pins σ H s) (hn:H a=none) (hs:X.s₀.heap.objs.size≤a) (hL:a≠X.env.locals) (hC:∀ x c,X.env.cells.lookup x=some c→c≠a) (hp:∀ p∈X.pn++pins,p.1≠a)
    (new:ObjOk X.prog X.w (upd H a o) s.heap a o):Inv X pins σ (upd H a o) s:=by
  have ne:∀ b u,X.s₀.heap.get? b=some u→b≠a:=fun b u e=>aaB (aas (aal e) hs);refine ⟨I.ok,I.os,I.bare,⟨I.base.keep,I.base.slot,fun b u e n hx=>?_,I.base.there,fun b xs e=>?_,fun b u xs e=>?_,fun b ps e=>?_⟩,I.loc,I.cell,?_,fun x c e=>?_,fun p hq=>?_,fun b u e=>?_,I.len⟩
  · rw [aj (ne b u e)];exact I.base.free b u e n hx
  · have q:=I.base.tups b xs e;rw [aj (ah q hn)];exact q
  · have q:=I.base.frzs b u xs e;rw [aj (ah q hn)];exact q
  · obtain ⟨m,q⟩:=I.base.tbls b ps e;exact ⟨m,by rw [aj (ah q hn)];exact q⟩
  · rw [aj (abm hL)];exact I.free
  · rw [aj (hC x c e)];exact I.freeC x c e
  · obtain ⟨h1,h2,h3⟩:=I.pin p hq;exact ⟨h1,by rw [aj (hp p hq)];exact h2,h3⟩
  · by_cases hb:b=a
    · subst hb;rw [ad] at e;cases e;exact new
    · rw [aj hb] at e;exact (I.hok b u e).stay (fun c v _ q=>q) (fun c q=>by rw [aj (ah q hn)];exact q) fun c xs q=>by rw [aj (ah q hn)];exact q
def CellsIn (E:Env):List (Str × Addr)→Prop
  | []=>True
  | p :: r=>E.cells.lookup p.1=some p.2∧CellsIn E r
theorem CellsIn.get {E:Env}:∀ {cl:List (Str × Addr)} {x:Str} {c:Addr},CellsIn E cl→cl.lookup x=some c→E.cells.lookup x=some c:=by
  intro cl x c h e;have hm:=abD e;clear e
  induction cl with
  | nil=>exact nomatch hm
  | cons p r ih =>
    rcases aai.mp hm with q|q
    · have:=h.1;rw [← q] at this;exact this
    · exact ih h.2 q
def CapOk (XE:Env) (sc:Scope) (XN:List Str):List Str→List (Option Nat)→Prop
  | [],[]=>True
  | _ :: n,none :: c=>CapOk XE sc XN n c
  | x :: n,some i :: c=>(XN[i]?=some x∧(XE.kindOf x=some .cell∨XE.kindOf x=some .free)∧(sc.names.lookup x=some .cell∨sc.names.lookup x=some .free))∧CapOk XE sc XN n c
  | _,_=>False
def wT (σ:St) (o:Option Nat):Option V:=match o with
  | none=>none
  | some i=>(σ[i]?).join
def bO (cap:List (Option Nat)) (σ:St):St:=cap.map (wT σ)
theorem CapOk.len {XE:Env} {sc:Scope} {XN:List Str}:∀ {n:List Str} {c:List (Option Nat)},CapOk XE sc XN n c→c.length=n.length
  | [],[],_=>rfl
  | _ :: _,none :: _,h=>congrArg (·+1) (CapOk.len (n:=_) (c:=_) h)
  | _ :: _,some _ :: _,h=>congrArg (·+1) (CapOk.len h.2)
  | [],_ :: _,h=>(show False from h).elim
  | _ :: _,[],h=>(show False from h).elim
theorem CapOk.get {XE:Env} {sc:Scope} {XN:List Str} {σ:St} {n:List Str} {c:List (Option Nat)} {j:Nat} {x:Str} {v:V} (h:CapOk XE sc XN n c) (h1:n[j]?=some x) (e:(bO c σ)[j]?=some (some v)) :
    ∃ i:Nat,XN[i]?=some x∧σ[i]?=some (some v)∧(XE.kindOf x=some .cell∨XE.kindOf x=some .free)∧(sc.names.lookup x=some .cell∨sc.names.lookup x=some .free):=by
  induction n generalizing c j with
  | nil=>cases h1
  | cons y n ih =>
    cases c with
    | nil=>exact h.elim
    | cons o c =>
      cases j with
      | zero =>
        cases h1;cases o with
        | none=>cases e
        | some i =>
          refine ⟨i,h.1.1,?_,h.1.2⟩;have e:some ((σ[i]?).join)=some (some v):=e;cases q:σ[i]? with
          | none=>rw [q] at e;cases e
          | some w=>rw [q] at e;injection e with e;exact congrArg some e
      | succ j =>
        cases o with
        | none=>exact ih (c:=c) (j:=j) h h1 e
        | some i=>exact ih (c:=c) (j:=j) h.2 h1 e
def dz (X:Cx) (E:Env) (fn:Str→Bool) (NY:List Str) (fp:List Addr) (s:Shared) (H:Hp):Cx where
  prog:=X.prog
  w:=X.w
  K:=X.K
  mg:=X.mg
  base:=X.base
  A:=X.A
  N:=NY
  s₀:=s
  H₀:=H
  env:=E
  outer:=X.stack
  stack:=X.stack
  ex:=fp
  fn:=fn
  calm:=X.calm
  pn:=[]
  xe:=fun _ _=>False
abbrev aK (X:Cx) (scope:Scope) (cl:List (Str × Addr)) (NY:List Str) (fp:List Addr) (s:Shared) (H:Hp) (C:Addr):Cx:=dz X (compEnvC scope cl C X.env) (fun _=>false) NY fp s H
def gN (X:Cx) (ifs:List Expr) (t:TT):Prop :=
  ∀ (pins:List (Addr × Obj)) (s:Shared) (σ:St) (H:Hp) (Q:Bool→Hp→Prop),Inv X pins σ H s→t σ H Q →
    wpAny (model X.prog X.w) X.A (forIn ifs true fun c r=>if r=true then do let ok ← isTrue c X.env (eval c X.env);pure (ForInStep.yield ok) else pure (ForInStep.yield r)) (TP X pins σ Q) X.xe s
theorem aX {X:Cx}:gN X [] (fun _ H Q=>Q true H):=fun _ _ _ H _ I h=>wpAny_tests_nil ⟨H,I,h⟩
theorem fU {X:Cx} {c:Expr} {t:TT} (h:PT X c t):gN X [c] t:=fun pins s σ H Q I q=>wpAny_tests_one (h pins s σ H Q I q)
theorem jx {elt tg2 iter2:Expr} {ifs2:List Expr} {G:List Comprehension} {k:Nat} (hk:G[k]?=some ⟨tg2,iter2,ifs2,0⟩) (hk2:G[k+1]?=none) {scope:Scope} {pos:Pos} {it acc:Value} {env:Env} :
    compTurn (.ListComp elt G scope pos) k it acc env=(do
      standAt iter2.pos
      match ← pyNext it with
      | none=>pure (.done .next)
      | some v =>
        letOwnedTupleGo tg2 it v
        assign tg2 env v
        let mut ok:=true
        for c in ifs2 do
          if ok then ok ← isTrue c env (eval c env)
        if ok then
          (do let _ ← call (.builtin "list.append") [acc,← eval elt env])
        again (.compLoop (.ListComp elt G scope pos) k it acc env)):=by
  unfold compTurn;simp only [hk,hk2];rfl
theorem nT {prog:Program} {w:World} {A:Around} {R:Result→Shared→Prop} {s:Shared} {elt tg2 iter2:Expr} {ifs2:List Expr} {G:List Comprehension} {k:Nat} (hk:G[k]?=some ⟨tg2,iter2,ifs2,0⟩) (hk2:G[k+1]?=none) {scope:Scope} {pos:Pos} {it acc:Value} {env:Env} (J:Nat→Shared→Prop)
    (turn:∀ n s,J n s→wpAny (model prog w) A (pyNext it) (fun r s₁=>match r with
      | none=>R (.ok .next) s₁
      | some v=>wpAny (model prog w) A (letOwnedTupleGo tg2 it v) (fun _ s₁'=>wpAny (model prog w) A (assign tg2 env v) (fun _ s₂ =>
          wpAny (model prog w) A (forIn ifs2 true fun c r=>if r=true then do let ok ← isTrue c env (eval c env);pure (ForInStep.yield ok) else pure (ForInStep.yield r)) (fun ok s₃ =>
            if ok=true then wpAny (model prog w) A (eval elt env) (fun x s₄ =>
              wpAny (model prog w) A (call (.builtin "list.append") [acc,x]) (fun _ s₅=>∃ m,m < n∧J m s₅) (fun _ _=>False) s₄) (fun _ _=>False) s₃
            else ∃ m,m < n∧J m s₃) (fun _ _=>False) s₂) (fun _ _=>False) s₁') (fun _ _=>False) s₁) (fun _ _=>False) s)
    (n:Nat) (h:J n s) :
    codeAny (model prog w) A (.compLoop (.ListComp elt G scope pos) k it acc env) R s:=by
  refine codeAny_loop rfl J (fun n s hI=>?_) n h;show wpAny _ A ((compTurn (.ListComp elt G scope pos) k it acc env).onRaise (fun x=>do noteFrame x env;theTreesLotGoes x)) _ _ s;refine wpAny_noted ?_;rw [jx hk hk2];refine wpAny_bind (wpAny_standAt (wpAny_bind (wpAny_mono (turn n s hI) (fun r s₁ h₁=>?_) fun _ _ h'=>h'.elim)));cases r with
  | none=>exact wpAny_pure h₁
  | some v =>
    refine wpAny_bind (wpAny_mono h₁ (fun _ s₁' h₁'=>?_) fun _ _ h'=>h'.elim);refine wpAny_bind (wpAny_mono h₁' (fun _ s₂ h₂=>wpAny_bind (wpAny_mono h₂ (fun ok s₃ h₃=>?_) fun _ _ h'=>h'.elim)) fun _ _ h'=>h'.elim);cases ok with
    | false=>exact wpAny_pure ⟨rfl,h₃⟩
    | true =>
      exact wpAny_bind (wpAny_bind (wpAny_mono h₃ (fun x s₄ h₄=>wpAny_bind (wpAny_mono h₄ (fun _ s₅ h₅=>wpAny_pure (wpAny_pure ⟨rfl,h₅⟩)) fun _ _ h'=>h'.elim)) fun _ _ h'=>h'.elim))
abbrev Lp (D:Addr) (its:List Value) (k:Nat):Addr × Obj:=(D,{ cls:=.type "list",data:=.seq its.toArray k })
section
variable {X:Cx} {pins:List (Addr × Obj)} {σ:St} {H2:Hp} {s2:Shared}
theorem Inv.cellLt (I2:Inv X pins σ H2 s2):∀ x c,X.env.cells.lookup x=some c→c < s2.heap.objs.size:=fun x c e=>by
  obtain ⟨v,q⟩:=I2.cell x c e;exact q.lt
theorem Inv.notStk (I2:Inv X pins σ H2 s2) {b:Addr} (hb:s2.heap.objs.size≤b):b∉frs X.stack:=fun hz=>by
  rcases aai.mp (I2.stkSub b hz) with z|z
  · have:=I2.lt;rw [← z] at this;exact absurd (aas this hb) (abE _)
  · exact I2.nofs hb z
theorem Inv.offC (I2:Inv X pins σ H2 s2) {C:Addr} (hC:s2.heap.objs.size≤C) {σ':St} {H:Hp} {s:Shared} {h':Heap} (I:Inv X pins σ' H s) (hn:H C=none) (he:∀ b o,b≠C→s.heap.get? b=some o→h'.get? b=some o):Inv X pins σ' H { s with heap:=h' } :=
  I.turned (t':=s.toks) (it:=C) he hn (abr (aas I2.lt hC)) (.inr (aa1 I2.sz hC)) (fun x c e z=>absurd (I2.cellLt x c e) (by rw [z];exact adh.mpr hC)) (fun p hp z=>absurd (aal (I2.pin p hp).1) (by rw [z];exact adh.mpr hC))
theorem Inv.takeD (I2:Inv X pins σ H2 s2) {D:Addr} (hD:s2.heap.objs.size≤D) {σ':St} {H:Hp} {s:Shared} {o:HO} (I:Inv X pins σ' H s) (hn:H D=none) (ok:ObjOk X.prog X.w (upd H D o) s.heap D o):Inv X pins σ' (upd H D o) s :=
  I.adopt hn (aa1 I2.sz hD) (abr (aas I2.lt hD)) (fun x c e=>aaB (aas (I2.cellLt x c e) hD)) (fun p hp=>aaB (aas (aal (I2.pin p hp).1) hD)) ok
variable {E:Env} {fn:Str→Bool} {NY:List Str} {fp:List Addr}
theorem Inv.outB (I2:Inv X pins σ H2 s2) (f2:∀ b∈fp,dh X pins H2 b) {P:List (Addr × Obj)} {σ':St} {H3:Hp} {s4:Shared} (I4:Inv (dz X E fn NY fp s2 H2) P σ' H3 s4):Inv X pins σ H3 s4 :=
  I2.call' (ch:=fp) I4.os (show Un (frs X.stack) fp H2 H3 s2.heap s4.heap from I4.base) I4.hok I4.bare fun b hb=>⟨(f2 b hb).2.2.2.1,(f2 b hb).2.1,(f2 b hb).2.2.2.2.1,(f2 b hb).2.2.2.2.2⟩
structure BlkC (X:Cx) (s2:Shared) (h₁:Heap) (E:Env) (fn:Str→Bool):Prop where
  kind:E.scope.kind=.function
  glob:E.globals=X.env.globals
  blt:E.builtins=X.env.builtins
  loc:s2.heap.objs.size≤E.locals
  old:∀ b o,s2.heap.get? b=some o→h₁.get? b=some o
  ns:∃ m,h₁.Ns E.locals m
  cell:∀ x c,E.cells.lookup x=some c→(fn x=false∧X.env.cells.lookup x=some c)∨(fn x=true∧s2.heap.objs.size≤c∧c≠E.locals∧h₁.get? c=some { cls:=.type "cell",data:=.cell none }∧∀ y,E.cells.lookup y=some c→y=x)
  has:∀ x,E.kindOf x=some .cell∨E.kindOf x=some .free→∃ c,E.cells.lookup x=some c
theorem CapOk.noFn {fn:Str→Bool} {n:List Str} {c:List (Option Nat)} {j:Nat} {x:Str} {v:V} {σ:St} (h:((n.zip c).all fun p=>!fn p.1 || p.2 == none)=true) (h1:n[j]?=some x) (e:(bO c σ)[j]?=some (some v)):fn x=false:=by
  rw [bO,aak] at e;cases q:c[j]? with
  | none=>rw [q] at e;cases e
  | some o =>
    rw [q] at e;cases o with
    | none=>simp [wT] at e
    | some i =>
      have m:(x,some i)∈n.zip c:=aap (i:=j) (by rw [List.getElem?_zip_eq_some];exact ⟨h1,q⟩);have:=aaU.mp h _ m;simpa using this
variable {h₁:Heap}
theorem Inv.fps (I2:Inv X pins σ H2 s2) (f2:∀ b∈fp,dh X pins H2 b) (fpl:∀ b∈fp,b < s2.heap.objs.size) (B:BlkC X s2 h₁ E fn) {P:List (Addr × Obj)} (hP:∀ p∈P,s2.heap.objs.size≤p.1) {H':Hp} (hn:∀ b∈fp,H' b=none):∀ b∈fp,dh (dz X E fn NY fp s2 H2) P H' b:=fun b hb=>by
  refine ⟨hn b hb,aaB (aas (fpl b hb) B.loc),fun hz=>?_,.inl hb,fun x c e=>?_,fun p hp=>?_⟩
  · rcases aai.mp (I2.stkSub b hz) with z|z
    · exact (f2 b hb).2.1 z
    · exact (f2 b hb).2.2.1 z
  · rcases B.cell x c e with z|z
    · exact (f2 b hb).2.2.2.2.1 x c z.2
    · exact abr (aas (fpl b hb) z.2.1)
  · exact abr (aas (fpl b hb) (hP p hp))
theorem Inv.blkLoc (I2:Inv X pins σ H2 s2) (B:BlkC X s2 h₁ E fn) {cap:List (Option Nat)} (hcap:CapOk X.env E.scope X.N NY cap) (hx:((NY.zip cap).all fun p=>!fn p.1 || p.2 == none)=true) {h:Heap} (hk:∀ x c o,X.env.cells.lookup x=some c→s2.heap.get? c=some o→∃ o',h.get? c=some o'∧o'.data=o.data) {m:Str→Option Value} :
    ∀ (i:Nat) (x:Str) (v:V),NY[i]?=some x→(bO cap σ)[i]?=some (some v)→∃ u,RelV v u∧wW E h m x u:=fun j x v e1 e2=>by
  obtain ⟨i,h1,h2,h3,h4⟩:=CapOk.get (σ:=σ) hcap e1 e2;have nf:=CapOk.noFn hx e1 e2;obtain ⟨m',hn,hl⟩:=I2.loc;have vis:Vis X.env.scope x:=by rcases h3 with z|z;exact .inr (.inl z);exact .inr (.inr z)
  obtain ⟨u,r,l⟩:=hl i x v h1 h2 vis;refine ⟨u,r,.inr ⟨h4,?_⟩⟩;rcases l with ⟨k,_⟩|⟨_,c,e,z⟩
  · rcases h3 with z|z <;> (rw [k] at z;cases z)
  · obtain ⟨c',e'⟩:=B.has x h4;rcases B.cell x c' e' with q|q
    · have e'':=q.2;rw [e] at e'';cases e'';obtain ⟨o,ho,hd⟩:=z;obtain ⟨o',h',d'⟩:=hk x c o e ho;exact ⟨c,e',o',h',d'.trans hd⟩
    · rw [nf] at q;exact absurd q.1 aag
theorem Inv.blk (I2:Inv X pins σ H2 s2) (f2:∀ b∈fp,dh X pins H2 b) (fpl:∀ b∈fp,b < s2.heap.objs.size) (B:BlkC X s2 h₁ E fn) {cap:List (Option Nat)} (hcap:CapOk X.env E.scope X.N NY cap) (hx:((NY.zip cap).all fun p=>!fn p.1 || p.2 == none)=true)
    {P:List (Addr × Obj)} (hP:∀ p∈P,h₁.get? p.1=some p.2∧s2.heap.objs.size≤p.1∧p.1≠E.locals∧∀ v,p.2.data≠.cell v) {t':Nat}:Inv (dz X E fn NY fp s2 H2) P (bO cap σ) H2 { s2 with heap:=h₁,toks:=t' }:=by
  refine ⟨⟨I2.ok.mod,B.kind,B.glob.trans I2.ok.glob,B.blt.trans I2.ok.blt,B.loc,fun x y c e1 e2=>?_,B.has,fun x c hf e=>?_,I2.ok.hd,I2.ok.frames,.inl rfl,fun b hb=>⟨aaB (aas (fpl b hb) B.loc),fun x c e z=>?_⟩,I2.bs,aa1 I2.ok.bsz I2.sz,fun b o e hb=>?_,fun b hb hz=>?_,I2.stack,I2.stkFree⟩,
    rfl,I2.bare,Un.kept B.old,⟨B.ns.choose,B.ns.choose_spec,fun j x v e1 e2 _=>I2.blkLoc B hcap hx (fun x c o _ ho=>⟨o,B.old _ _ ho,rfl⟩) j x v e1 e2⟩,fun x c e=>?_,I2.hok.fresh B.loc,fun x c e=>?_,fun p hp=>?_,I2.hok.kept B.old,?_⟩
  · rcases B.cell x c e1 with z|z
    · rcases B.cell y c e2 with q|q
      · exact I2.ok.inj x y c z.2 q.2
      · exact absurd (I2.cellLt x c z.2) (adh.mpr q.2.1)
    · exact (z.2.2.2.2 y e2).symm
  · rcases B.cell x c e with z|z
    · have hf:fn x=true:=hf;rw [z.1] at hf;cases hf
    · exact z.2.1
  · rcases B.cell x c e with q|q
    · exact (f2 b hb).2.2.2.2.1 x c q.2 z
    · exact absurd (fpl b hb) (by rw [← z];exact adh.mpr q.2.1)
  · rcases (f2 b hb).2.2.2.1 with z|z
    · exact I2.ok.noex b o e z
    · exact absurd (aas (aal (I2.ok.bs b o e).1) z) (abE _)
  · rcases aai.mp (I2.stkSub b hz) with z|z
    · exact (f2 b hb).2.1 z
    · exact (f2 b hb).2.2.1 z
  · rcases B.cell x c e with q|q
    · obtain ⟨v,o,ho,hd⟩:=I2.cell x c q.2;exact ⟨v,o,B.old _ _ ho,hd⟩
    · exact ⟨none,_,q.2.2.2.1,rfl⟩
  · rcases B.cell x c e with q|q
    · exact I2.freeC x c q.2
    · exact I2.hok.fresh q.2.1
  · obtain ⟨h1,h2,h3,h4⟩:=hP p hp;exact ⟨h1,I2.hok.fresh h2,h3,I2.notStk h2,h4⟩
  · show (bO cap σ).length=NY.length;unfold bO;rw [aaa];exact hcap.len
theorem Inv.recap (I2:Inv X pins σ H2 s2) (f2:∀ b∈fp,dh X pins H2 b) (B:BlkC X s2 h₁ E fn) {cap:List (Option Nat)} (hcap:CapOk X.env E.scope X.N NY cap) (hx:((NY.zip cap).all fun p=>!fn p.1 || p.2 == none)=true) {pn:List (Addr × Obj)} {σ':St} {H':Hp} {s':Shared} (Z:Inv (dz X E fn NY fp s2 H2) pn σ' H' s'):Inv (dz X E fn NY fp s2 H2) pn (bO cap σ) H' s':=by
  refine ⟨Z.ok,Z.os,Z.bare,Z.base,?_,Z.cell,Z.free,Z.freeC,Z.pin,Z.hok,?_⟩
  · obtain ⟨m,hn,_⟩:=Z.loc;refine ⟨m,hn,fun j x v e1 e2 _=>I2.blkLoc B hcap hx (fun x c o e ho=>?_) j x v e1 e2⟩;have nfp:c∉fp:=fun hz=>(f2 c hz).2.2.2.2.1 x c e rfl;obtain ⟨sl,q⟩:=Z.base.any (show s2.heap.get? c=some o from ho) (I2.freeC x c e) nfp;exact ⟨_,q,rfl⟩
  · show (bO cap σ).length=NY.length;unfold bO;rw [aaa];exact hcap.len
theorem Inv.blkC (I2:Inv X pins σ H2 s2) {scope:Scope} {cl:List (Str × Addr)} (hci:CellsIn X.env cl) (hkind:scope.kind=.function) (hhas:((relabel scope X.env).names.all fun p=>(p.2 != .cell && p.2 != .free) || (cl.lookup p.1).isSome)=true) {C:Addr} (hC:s2.heap.objs.size≤C)
    (old:∀ b o,s2.heap.get? b=some o→h₁.get? b=some o) (hns:∃ m,h₁.Ns C m):BlkC X s2 h₁ (compEnvC scope cl C X.env) (fun _=>false):=by
  refine ⟨hkind,rfl,rfl,hC,old,hns,fun x c e=>.inl ⟨rfl,hci.get e⟩,fun x hx=>?_⟩;have hx':(relabel scope X.env).names.lookup x=some .cell∨(relabel scope X.env).names.lookup x=some .free:=hx;have key:∀ k,(relabel scope X.env).names.lookup x=some k→(k=.cell∨k=.free)→∃ c,cl.lookup x=some c:=fun k e hk=>by
    have q:=aaU.mp hhas (x,k) (abD e);have q':(cl.lookup x).isSome=true:=by
      rcases hk with rfl|rfl <;> simpa using q
    exact acE.mp q'
  rcases hx' with e|e
  · exact key _ e (.inl rfl)
  · exact key _ e (.inr rfl)
theorem de {NY:List Str} {cap:List (Option Nat)}:((NY.zip cap).all fun p=>!(fun _:Str=>false) p.1 || p.2 == none)=true:=List.all_eq_true.mpr fun _ _=>rfl
theorem n_ {scope:Scope} (h:(scope.names.all fun y=>y.2 != .cell)=true):∀ y∈scope.names,y.2≠.cell:=fun y hy=>by
  have q:=aaU.mp h y hy;simpa using q
theorem la {scope:Scope} (h:(scope.names.all fun y=>y.2 != .local || scope.names.lookup y.1 == some .local)=true):∀ y∈scope.names,y.2=.local→scope.names.lookup y.1=some .local:=fun y hy e=>by
  have q:=aaU.mp h y hy;rw [e] at q;simpa using q
theorem Inv.lstDone (I2:Inv X pins σ H2 s2) (f2:∀ b∈fp,dh X pins H2 b) {D C:Addr} (hD:s2.heap.objs.size≤D) (hC:s2.heap.objs.size≤C) (eC:E.locals=C) {P:List (Addr × Obj)} {σ':St} {H3:Hp} {s4:Shared} {ys:List V} {its:List Value} {k:Nat} (I4:Inv (dz X E fn NY fp s2 H2) (Lp D its k :: P) σ' H3 s4) (rv:Vals ys its) (hz:ys.length≤sizeLine) :
    Inv X pins σ (upd H3 D (.lst ys)) s4∧H3 D=none∧upd H3 D (.lst ys) C=none∧∃ m,s4.heap.Ns C m:=by
  subst eC;have pD:=I4.pin (Lp D its k) (aax _ aan);obtain ⟨m,hnC,_⟩:=id I4.loc;refine ⟨I2.takeD hD (I2.outB f2 I4) pD.2.1 ⟨hz,its,k,rv,pD.1⟩,pD.2.1,?_,m,hnC⟩;have z:D≠E.locals:=pD.2.2.1;rw [aj (abm z)];exact I4.free
theorem Inv.lstEnd (I2:Inv X pins σ H2 s2) (f2:∀ b∈fp,dh X pins H2 b) {D C:Addr} (hD:s2.heap.objs.size≤D) (hC:s2.heap.objs.size≤C) (eC:E.locals=C) {P:List (Addr × Obj)} {σ':St} {H3:Hp} {s4:Shared} {ys:List V} {its:List Value} {k:Nat} (I4:Inv (dz X E fn NY fp s2 H2) (Lp D its k :: P) σ' H3 s4) (rv:Vals ys its) (hz:ys.length≤sizeLine)
    {Q:VK} (qn:∀ p,H3 p=none→Q (.ref p) (upd H3 p (.lst ys))):compPost (model X.prog X.w) X.A X.xe none (EP X pins σ Q) (.ref D) C (.ok .next) s4:=by
  obtain ⟨I5,hD3,hC3,m,hn⟩:=I2.lstDone f2 hD hC eC I4 rv hz;exact ⟨m,hn,fun h' hsb=>⟨.ref D,_,I2.offC hC I5 hC3 fun b o hb e=>hsb.extBut b o hb e,rfl,qn D hD3⟩⟩
end
theorem oR {Y:Cx} {τ:Type} {val:τ→St} {nx:St→τ} (hc:Y.calm=true) (hxe:Y.xe=fun _ _=>False) (hrs:∀ {pn:List (Addr × Obj)} {σ':St} {H':Hp} {s':Shared},Inv Y pn σ' H' s'→Inv Y pn (val (nx σ')) H' s')
    {D:Addr} (hDx:D∈Y.ex∨Y.s₀.heap.objs.size≤D) (hDc:∀ x c,Y.env.cells.lookup x=some c→c≠D) (hDp:∀ p∈Y.pn,p.1≠D)
    {elt tg iter:Expr} {ifs:List Expr} {te:TE} {g:TG} {tt:TT} {G:List Comprehension} {scope:Scope} {pos:Pos} {k:Nat} (hbe:PE Y elt te) (hk:G[k]?=some ⟨tg,iter,ifs,0⟩) (hk2:G[k+1]?=none) (htg:PG Y tg g) (hfs:gN Y ifs tt)
    {P:List (Addr × Obj)} (hP:∀ p∈P,p.1≠D) {it:Addr} {fp:List Addr} {tn:Nat→Heap→Prop} {J:It} (T:Turn Y.prog Y.w Y.K tg J fp it tn) (neD:∀ b∈fp,D≠b) (fpY:∀ {H':Hp} {n:Nat} {its:List Value},(∀ b∈fp,H' b=none)→∀ b∈fp,dh Y (Lp D its n :: P) H' b)
    {R:Result→Shared→Prop} {Fin:List V→τ→Hp→Prop} (hR:∀ ys its k t H s,Inv Y (Lp D its k :: P) (val t) H s→Vals ys its→ys.length≤sizeLine→Fin ys t H→R (.ok .next) s)
    {W:Nat→Nat→List V→τ→Hp→Prop} (turn:∀ i m ys t H,W i m ys t H→(J.stop i H∧Fin ys t H) ∨
      (J.go i H∧ys.length < sizeLine∧∀ x H',J.yld i H x H'→g x (val t) H' fun σ3 H5=>tt σ3 H5 fun b H6=>if b=true then te σ3 H6 fun v H7=>∃ m',m' < m∧W (i+1) m' (ys++[v]) (nx σ3) H7 else ∃ m',m' < m∧W (i+1) m' ys (nx σ3) H6))
    {m0 kk:Nat} {ys:List V} {its:List Value} {t:τ} {H:Hp} {s:Shared} (I:Inv Y (Lp D its kk :: P) (val t) H s) (rv:Vals ys its) (hz:ys.length≤sizeLine) (st:tn 0 s.heap) (fr:∀ b∈fp,H b=none) (w0:W 0 m0 ys t H) :
    codeAny (model Y.prog Y.w) Y.A (.compLoop (.ListComp elt G scope pos) k (.ref it) (.ref D) Y.env) R s:=by
  have xe:∀ e s,Y.xe e s→False:=fun e s z=>by rw [hxe] at z;exact z
  refine nT hk hk2 (fun n s'=>∃ i ys its k t H',Inv Y (Lp D its k :: P) (val t) H' s'∧Vals ys its∧ys.length≤sizeLine∧tn i s'.heap∧(∀ b∈fp,H' b=none)∧W i n ys t H') ?_ m0 ⟨0,ys,its,kk,t,H,I,rv,hz,st,fr,w0⟩;rintro n s3 ⟨i,ys3,its3,k3,t3,H3,I3,rv3,hz3,st3,fr3,w3⟩;rcases turn i n ys3 t3 H3 w3 with ⟨stop,qn⟩|⟨go,hlt,step⟩
  · refine wpAny_mono (T.done Y rfl rfl rfl hc i _ s3 _ H3 (fun _ _=>False) I3 (fpY fr3) st3 stop) (fun r s4 ⟨hr,I4⟩=>?_) fun _ _ z=>z;subst hr;exact hR ys3 its3 k3 t3 H3 s4 I4 rv3 hz3 qn
  · refine wpAny_mono (T.item Y rfl rfl rfl hc i _ s3 _ H3 (fun _ _=>False) I3 (fpY fr3) st3 go) (fun r s4 ⟨u,hr,h4⟩=>?_) fun _ _ z=>z;subst hr;refine wpAny_mono h4 (fun _ s5 ⟨x,H5,I5,r5,y5,st5,fr5⟩=>?_) fun _ _ z=>z;have I5':=I5.pinned (fpY fr5) (T.obj _ _ st5);refine wpAny_mono (htg _ s5 _ H5 x u _ I5' r5 (step x H5 y5)) (fun _ s6 ⟨σ6,H6,I6,q6⟩=>?_) fun e s z=>(xe e s z).elim;refine wpAny_mono (hfs _ s6 σ6 H6 _ I6 q6) (fun ok s7 ⟨H7,I7,q7⟩=>?_) fun e s z=>(xe e s z).elim;have again:∀ {ys':List V} {its':List Value} {k':Nat} {σ':St} {H':Hp} {s':Shared},Inv Y (Lp D its' k' :: (P++bX fp s5.heap)) σ' H' s'→Vals ys' its'→ys'.length≤sizeLine→(∃ m',m' < n∧W (i+1) m' ys' (nx σ') H') →
        ∃ m,m < n∧∃ i ys its k t H',Inv Y (Lp D its k :: P) (val t) H' s'∧Vals ys its∧ys.length≤sizeLine∧tn i s'.heap∧(∀ b∈fp,H' b=none)∧W i m ys t H':=fun {ys' its' k' σ' H' s'} Z rv' hz' hw=>by
      obtain ⟨m',hm,w'⟩:=hw;have pn:∀ {b:Addr} {o:Obj},b∈fp→s5.heap.get? b=some o→_:=fun {b o} hb e=>Z.pin (b,o) (aax _ (aaj _ (aax _ (bY hb e))));refine ⟨m',hm,i+1,ys',its',k',nx σ',H',hrs (Inv.unpinned (pl:=bX fp s5.heap) Z),rv',hz',T.keep _ _ _ st5 fun b hb o e=>(pn hb e).1,fun b hb=>?_,w'⟩;obtain ⟨o,e,d⟩:=T.obj _ _ st5 b hb;exact (pn hb e).2.1
    cases ok with
    | false =>
      rw [if_neg aag] at q7 ⊢;exact again I7 rv3 hz3 q7
    | true =>
      rw [if_pos rfl] at q7 ⊢;refine wpAny_mono (hbe _ s7 σ6 H7 _ I7 q7) (fun xv s15 ⟨v,H15,I15,r15,q15⟩=>?_) fun e s z=>(xe e s z).elim;have pD:=I15.pin (Lp D its3 k3) (aax _ aan);have hlen:=rv3.length;refine append_at pD.1 (fun h16 hs16 hD16=>?_) (by rw [aam];lia);have I16:Inv Y (P++bX fp s5.heap) σ6 H15 s15:=I15.pins_of fun p hp=>I15.pin p (aax _ (aaj _ hp));have I17:Inv Y (P++bX fp s5.heap) σ6 H15 { s15 with heap:=h16 }:=I16.turned (t':=s15.toks) (it:=D) (fun b o hb e=>hs16.extBut b o hb e) pD.2.1 pD.2.2.1 hDx hDc fun p hp=>by
        rcases aay.mp hp with z|z
        · exact hDp p z
        · rcases aay.mp z with z|z
          · exact hP p z
          · exact abm (neD _ (gE z).1)
      have I18:Inv Y (Lp D (its3++[xv]) (k3+1) :: (P++bX fp s5.heap)) σ6 H15 { s15 with heap:=h16 }:=I17.pins_of fun p hp=>by
        rcases aai.mp hp with z|z
        · rw [z];refine ⟨?_,pD.2.1,pD.2.2.1,pD.2.2.2.1,fun v z=>by cases z⟩;rw [List.push_toArray] at hD16;exact hD16
        · exact I17.pin p (aax _ z)
      exact again I18 (rv3.append (.cons r15 .nil)) (by rw [aaw,ac6];exact hlt) q15
theorem Turn.lt {P:Program} {w:World} {K:aab} {tg:Expr} {J:It} {fp:List Addr} {it:Addr} {tn:Nat→Heap→Prop} (T:Turn P w K tg J fp it tn) {h:Heap} {i:Nat} (st:tn i h):∀ b∈fp,b < h.objs.size:=fun b hb=>by
  obtain ⟨o,e,_⟩:=T.obj _ _ st b hb;exact aal e
theorem BlkC.neD {X:Cx} {s2:Shared} {h₁:Heap} {E:Env} {fn:Str→Bool} (B:BlkC X s2 h₁ E fn) (hc:∀ x c,X.env.cells.lookup x=some c→c < s2.heap.objs.size) {D:Addr} (hD:s2.heap.objs.size≤D) {o:Obj} (h:h₁.get? D=some o) (ho:∀ v,o.data≠.cell v):∀ x c,E.cells.lookup x=some c→c≠D:=fun x c e z=>by
  rcases B.cell x c e with q|q
  · exact absurd (hc x c q.2) (by rw [z];exact adh.mpr hD)
  · have:=q.2.2.2.1;rw [z,h] at this;cases this;exact ho _ rfl
theorem Inv.newC {X:Cx} {pins:List (Addr × Obj)} {σ:St} {H2:Hp} {s2:Shared} {h₁:Heap} (I2:Inv X pins σ H2 s2) {scope:Scope} {cl:List (Str × Addr)} (hci:CellsIn X.env cl) (hkind:scope.kind=.function) (hhas:((relabel scope X.env).names.all fun p=>(p.2 != .cell && p.2 != .free) || (cl.lookup p.1).isSome)=true) {o:Obj}
    {m:Str→Option Value} (hns:h₁.Ns (s2.heap.push o).objs.size m) (ext:∀ b u,b≠(s2.heap.push o).objs.size→(s2.heap.push o).get? b=some u→h₁.get? b=some u) (hof:o.isFreed=false:=by rfl) :
    s2.heap.objs.size < (s2.heap.push o).objs.size∧BlkC X s2 h₁ (compEnvC scope cl (s2.heap.push o).objs.size X.env) (fun _=>false)∧h₁.get? s2.heap.objs.size=some o:=by
  have hC:s2.heap.objs.size < (s2.heap.push o).objs.size:=by rw [ab1];exact ace _
  exact ⟨hC,I2.blkC hci hkind hhas (abX hC) (fun b u e=>ext b u (aaB (ac7 (aal e) hC)) (aad _ e)) ⟨m,hns⟩,ext _ _ (aaB hC) (aao _ hof)⟩
theorem Inv.goLast {X:Cx} {pins:List (Addr × Obj)} {σ:St} {H2:Hp} {s2:Shared} {h₁:Heap} {E:Env} {fn:Str→Bool} {NY:List Str} {fp:List Addr} (I2:Inv X pins σ H2 s2) (f2:∀ b∈fp,dh X pins H2 b) (fpl:∀ b∈fp,b < s2.heap.objs.size) (B:BlkC X s2 h₁ E fn) {cap:List (Option Nat)} (hcap:CapOk X.env E.scope X.N NY cap)
    (hx:((NY.zip cap).all fun p=>!fn p.1 || p.2 == none)=true) (hc:X.calm=true) {C:Addr} (hC:s2.heap.objs.size < C) (eC:E.locals=C) (hD:h₁.get? s2.heap.objs.size=some { cls:=.type "list",dict:=none,data:=.seq ([]:List Value).toArray })
    {tg elt iter:Expr} {ifs:List Expr} {g:TG} {tt:TT} {te:TE} {J:It} {it:Addr} {tn:Nat→Heap→Prop} (T:Turn X.prog X.w X.K tg J fp it tn) (st:tn 0 h₁) (hbe:PE (dz X E fn NY fp s2 H2) elt te) (hbg:PG (dz X E fn NY fp s2 H2) tg g) (hbt:gN (dz X E fn NY fp s2 H2) ifs tt)
    {G:List Comprehension} (hk:G[0]?=some ⟨tg,iter,ifs,0⟩) (hk2:G[1]?=none) {scope:Scope} {pos:Pos} {t':Nat} {W:Nat→Nat→List V→Hp→Prop} {Fin:List V→Hp→Prop}
    (turn:∀ i m ys H,W i m ys H→(J.stop i H∧Fin ys H)∨(J.go i H∧ys.length < sizeLine∧∀ x H',J.yld i H x H'→g x (bO cap σ) H' fun σ2 H2=>tt σ2 H2 fun b H3=>if b=true then te σ2 H3 fun v H4=>∃ m',m' < m∧W (i+1) m' (ys++[v]) H4 else ∃ m',m' < m∧W (i+1) m' ys H3))
    {m0:Nat} (w0:W 0 m0 [] H2) {R:Result→Shared→Prop} (hR:∀ ys its k H s,Inv (dz X E fn NY fp s2 H2) [Lp s2.heap.objs.size its k] (bO cap σ) H s→Vals ys its→ys.length≤sizeLine→Fin ys H→R (.ok .next) s) :
    codeAny (model X.prog X.w) X.A (.compLoop (.ListComp elt G scope pos) 0 (.ref it) (.ref s2.heap.objs.size) E) R { s2 with heap:=h₁,toks:=t' }:=by
  subst eC;exact oR (τ:=Unit) (val:=fun _=>bO cap σ) (nx:=fun _=>()) (Y:=dz X E fn NY fp s2 H2) hc rfl (fun Z=>I2.recap f2 B hcap hx Z) (.inr (aaf _)) (B.neD I2.cellLt (aaf _) hD fun v z=>by cases z) (fun p hp=>by cases hp) hbe hk hk2 hbg hbt (P:=[]) (fun p hp=>by cases hp) T
    (fun b hb=>abr (fpl b hb)) (fun hn=>I2.fps f2 fpl B (fun p hp=>by rw [aau.mp hp];exact aaf _) hn) (Fin:=fun ys _ H=>Fin ys H) (fun ys its k _ H s=>hR ys its k H s)
    (W:=fun i m ys _ H=>W i m ys H) (fun i m ys _ H=>turn i m ys H) (t:=()) (I2.blk f2 fpl B hcap hx (fun p hp=>by rw [aau.mp hp];exact ⟨hD,aaf _,aaB hC,fun v z=>by cases z⟩)) .nil (aa4 _) st (fun b hb=>(f2 b hb).1) w0
abbrev wX (cap:List (Option Nat)) (g:TG) (tt:TT) (te:TE) (σ:St) (Q:VK) (J:It) (H1:Hp):Prop:=∃ W:Nat→Nat→List V→Hp→Prop,(∃ m,W 0 m [] H1)∧∀ i m ys H,W i m ys H →
  (J.stop i H∧∀ p,H p=none→Q (.ref p) (upd H p (.lst ys))) ∨
  (J.go i H∧ys.length < sizeLine∧∀ x H',J.yld i H x H'→g x (bO cap σ) H' fun σ2 H2=>tt σ2 H2 fun b H3=>if b=true then te σ2 H3 fun v H4=>∃ m',m' < m∧W (i+1) m' (ys++[v]) H4 else ∃ m',m' < m∧W (i+1) m' ys H3)
def tLc (cap:List (Option Nat)) (wi:TI) (g:TG) (tt:TT) (te:TE):TE:=fun σ H Q=>wi σ H (wX cap g tt te σ Q)
section
variable {X:Cx}
theorem cA {elt tg iter:Expr} {ifs:List Expr} {scope:Scope} {pos:Pos} {cl:List (Str × Addr)} {NY:List Str} {cap:List (Option Nat)} {wi:TI} {g:TG} {tt:TT} {te:TE} (hc:X.calm=true) (hi:PI X tg iter wi)
    (hclos:closureFor scope X.env=pure cl) (hci:CellsIn X.env cl) (hcap:CapOk X.env (relabel scope X.env) X.N NY cap)
    (hb:∀ fp s H C,PG (aK X scope cl NY fp s H C) tg g∧gN (aK X scope cl NY fp s H C) ifs tt∧PE (aK X scope cl NY fp s H C) elt te)
    (hkind:scope.kind=.function:=by rfl) (hnc:(scope.names.all fun y=>y.2 != .cell)=true:=by rfl)
    (hnames:(scope.names.all fun y=>y.2 != .local || scope.names.lookup y.1 == some .local)=true:=by rfl)
    (hhas:((relabel scope X.env).names.all fun p=>(p.2 != .cell && p.2 != .free) || (cl.lookup p.1).isSome)=true:=by rfl)
    (hs:∀ x,foldedSetIterable iter X.env x=pure x:=by intro _;rfl) :
    PE X (.ListComp elt [⟨tg,iter,ifs,0⟩] scope pos) (tLc cap wi g tt te):=by
  intro pins s σ H Q I h;rw [eval_ListComp];refine wpAny_comprehension_free (use:=none) rfl hs hclos hkind (la hnames) (wpAny_mono (hi pins s σ H _ I h) (fun v s1 h1=>wpAny_mono h1 (fun itv s2 h2=>?_) fun _ _ e=>e) fun _ _ e=>e);obtain ⟨it,fp,tn,J,H2,e,I2,T,st2,f2,W,⟨m0,w0⟩,turn⟩:=h2;subst e;refine wpAny_newObj_type (wpAny_newFunctionEnv (n_ hnc) (by intro y hy;simp at hy) (fun h₁ hns₁ hsb₁=>?_) hkind);dsimp only at hns₁ hsb₁ ⊢;obtain ⟨hC,B,hD⟩:=I2.newC hci hkind hhas hns₁ fun b o hb e=>hsb₁.extBut b o hb (aad _ e);generalize (s2.heap.push { cls:=.type "list",dict:=none,data:=.seq ([]:List Value).toArray }).objs.size=C at hC B ⊢;obtain ⟨hbg,hbt,hbe⟩:=hb fp s2 H2 C;have stW:=T.keep _ _ h₁ st2 fun b _ o e=>B.old b o e;have loop:=I2.goLast f2 (T.lt st2) B hcap de hc hC rfl hD T stW hbe hbg hbt (G:=[⟨tg,iter,ifs,0⟩]) rfl rfl (scope:=scope) (pos:=pos) (iter:=iter) (t':=s2.toks+([]:List (Str × Value)).length) turn w0 (R:=compPost (model X.prog X.w) X.A X.xe none (EP X pins σ Q) (.ref s2.heap.objs.size) C) fun ys its k H s I4 rv hz fin=>I2.lstEnd f2 (aaf _) (abX hC) rfl I4 rv hz fin;exact codeAny_compStart_list loop (T.self _ 0 _ _ _ stW loop)
end
open PySem PySem.Spec PyProof.Rows
section
variable {X:Cx}
theorem aD {n:String}:bv X (.builtin "isinstance") (fun xs H Q=>∃ x t b,xs=[x,.ty n]∧TyOf X.K H x t∧ach X.K t (.type n)=some b∧Q (.bl b) H):=by
  intro pins s σ H xs us Q I r h;obtain ⟨x,t,b,rfl,ty,e,q⟩:=h;obtain ⟨u,w',rfl,rx,rt⟩:=gQ r;cases rt;exact jO I rx ty e fun tk=>⟨.bl b,H,I.tok _,rfl,q⟩
theorem iM:OpR X (binaryOp .FloorDiv) (rI (fun _ j=>0 < j∧j < 2 ^ 64) fun i j=>.int (i / j)):=opI fun i j _ _ _ _ _ hc q=>by
  have h1:(0:Int) < j:=hc.1;have h2:j < 2 ^ 64:=hc.2;refine floordiv_int (by lia) (by rw [Int.fdiv_eq_ediv_of_nonneg i (by lia)];exact q) (.inl (PyProof.noPylong_of_log2 ?_));have h3:j.natAbs < 2 ^ 64:=by lia
  have h4:j.natAbs≠0:=by lia
  have h5:j.natAbs.log2 < 64:=(Nat.log2_lt h4).mpr h3;lia
def Cal (P:Program) (w:World) (K:aab) (mg:Str→Option Value) (base:Heap) (x:Str) (k:Nat) (ps:List Str) (sp:Sp):Prop :=
  ∃ f fd,FnOk P w K mg base CX0 k f fd ps sp∧Binds K fd ps []∧abF K (.ref f)=true∧mg x=some (.ref f)
theorem aq {x:Str} {k k':Nat} {ps:List Str} {sp:Sp} {e:Expr} {es:List Expr} {t:TA} {p pos:Pos} (C:Cal X.prog X.w X.K X.mg X.base x k ps sp) (hr:Room k' X.A) (hk:k≤k') (hg:Gl X x) (ha:PA X (e :: es) t)
    (hdb:(x == ("__debug__":Str))=false:=by decide) (he:starEach (e :: es) X.env=(false,eval e X.env) :: starEach es X.env:=by rfl) (hpl:(backTo pos (starEach es X.env)).any (·.1)=false:=by rfl) :
    PE X (.Call (.Name x p) (e :: es) [] pos) (um sp [] E0 t):=by
  obtain ⟨f,fd,F,b,kp,m⟩:=C;exact tV F (hr.mono hk) hg m kp b .nil wx ha hdb he hpl
end
theorem Same.new {H:Hp} {p:Addr} (h:H p=none) (o:HO):Same H (upd H p o):=fun b u q=>by rw [aj (ah q h)];exact q
def But (w:Addr) (H H':Hp):Prop:=∀ b o,b≠w→H b=some o→H' b=some o
theorem But.refl {w:Addr} {H:Hp}:But w H H:=fun _ _ _ h=>h
theorem But.trans {w:Addr} {H H1 H2:Hp} (a:But w H H1) (b:But w H1 H2):But w H H2:=fun c o n h=>b c o n (a c o n h)
theorem But.of {w:Addr} {H H':Hp} (a:Same H H'):But w H H':=fun c o _ h=>a c o h
theorem But.new {w:Addr} {H:Hp} {p:Addr} (h:H p=none) (o:HO):But w H (upd H p o):=But.of (Same.new h o)
theorem But.put {w:Addr} {H:Hp} {o:HO}:But w H (upd H w o):=fun b u n q=>by rw [aj n];exact q
end L2
namespace Srt
open PySem PySem.W PyProof.Rows
def run {α:Type} (lt:Nat→Nat→Bool):KasT α→α
  | .ret a=>a
  | .ask i j k=>run lt (k (lt i j))
section
variable (key:Nat→Int)
abbrev lt:Nat→Nat→Bool:=fun i j=>decide (key i < key j)
def kp (p:Array Nat) (x:Nat):Int:=key (p.getD x 0)
def Up (p:Array Nat) (m:Nat):Prop:=∀ i j,i < j→j < m→kp key p i < kp key p j
variable {key}
end
end Srt
namespace Srt
open PySem PySem.W PyProof.Rows
def Ent (n:Nat) (p:Array Nat):Prop:=∀ x,p.getD x 0 < n
section
variable {prog:Program} {w:World} {A:Around} {E:Value→Shared→Prop} {s:Shared}
end
end Srt
set_option maxHeartbeats 2000000
namespace L2
open PySem PySem.Spec PyProof.Rows
inductive EqR (K:aab) (H:Hp):Nat→V→V→Bool→Prop
  | flat {n:Nat} {x y:V} (fx:eA x=true) (fy:eA y=true):EqR K H n x y (eqV x y)
  | lens {n:Nat} {a b:Addr} {xs ys:List V} (ha:SqL K H a xs) (hb:SqL K H b ys) (hl:xs.length≠ys.length):EqR K H (n+1) (.ref a) (.ref b) false
  | lst {n:Nat} {a b:Addr} {xs ys:List V} {e:Nat→Bool} (ha:SqL K H a xs) (hb:SqL K H b ys) (hl:xs.length=ys.length) (h:∀ (j:Nat) x y,xs[j]?=some x→ys[j]?=some y→EqR K H n x y (e j)):EqR K H (n+1) (.ref a) (.ref b) ((aaO xs.length).all e)
  | tup {n:Nat} {a b:Addr} {xs ys:List V} {e:Nat→Bool} (ha:SqT K H a xs) (hb:SqT K H b ys) (h:∀ (j:Nat) x y,xs[j]?=some x→ys[j]?=some y→EqR K H n x y (e j)) :
      EqR K H (n+1) (.ref a) (.ref b) ((aaO (min xs.length ys.length)).all e && xs.length == ys.length)
theorem my {x:V} (f:eA x=true):eqV x x=true:=by
  cases x <;> first|rfl|(simp [eqV];done)|exact absurd (show false=true from f) aag
section
variable {X:Cx} {pins:List (Addr × Obj)} {σ:St} {H:Hp} {s:Shared}
theorem EqR.self (I:Inv X pins σ H s) {n:Nat} {x y:V} {b:Bool} (h:EqR X.K H n x y b):x=y→b=true:=by
  induction h with
  | flat fx fy=>intro e;subst e;exact my fx
  | lens ha hb hl =>
    intro e;injection e with e;subst e
    exact absurd (by rw [I.list_inj ha hb]) hl
  | @lst n a b xs ys e ha hb hl h ih =>
    intro q;injection q with q;subst q
    obtain rfl:=I.list_inj ha hb;rw [aaU];intro j hj;have hj':j < xs.length:=aaK.mp hj;exact ih j _ _ (aac hj') (aac hj') rfl
  | @tup n a b xs ys e ha hb h ih =>
    intro q;injection q with q;subst q
    obtain rfl:=I.tuple_inj ha hb;rw [aaS,aaU];refine ⟨fun j hj=>?_,beq_self_eq_true _⟩;have hj':j < xs.length:=by have:=aaK.mp hj;lia
    exact ih j _ _ (aac hj') (aac hj') rfl
theorem cf {xs:List V} {its:List Value} (r:Vals xs its) {j:Nat} (h:j < its.toArray.size):∃ x,xs[j]?=some x∧RelV x its.toArray[j]:=by
  have hl:=r.length;have h':j < xs.length:=by rw [hl];simpa using h
  obtain ⟨u,hu,ru⟩:=r.get (aac h');refine ⟨_,aac h',?_⟩;have e:its.toArray[j]=u:=by
    have : its[j]?=some u:=hu;rw [aac (by simpa using h)] at this;simpa using aa2 this
  rw [e];exact ru
theorem EqR.at (I:Inv X pins σ H s) {n:Nat} {x y:V} {b:Bool} (h:EqR X.K H n x y b):∀ {A:Around} {u v:Value},RelV x u→RelV y v→A.units+n < cLine→SeqAt.EqAt A s u v b:=by
  induction h with
  | flat fx fy=>intro A u v rx ry hu;exact sA rx ry fx fy
  | @lens n a b xs ys ha hb hl =>
    intro A u v rx ry hu;cases rx;cases ry;obtain ⟨its,r,pl,_⟩:=I.list ha;obtain ⟨its2,r2,pl2,_⟩:=I.list hb;have ne:a≠b:=fun e=>by subst e;exact hl (by rw [I.list_inj ha hb])
    refine .of_refs ne (.lists_lengths pl.isList pl2.isList ?_ (by lia));rw [aam,aam,← r.length,← r2.length];exact bne_iff_ne.mpr hl
  | @lst n a b xs ys e ha hb hl h ih =>
    intro A u v rx ry hu;by_cases q:a=b
    · have:=(EqR.lst ha hb hl h).self I (by rw [q]);cases rx;cases ry;rw [this];subst q;exact SeqAt.EqAt.same _
    · cases rx;cases ry;obtain ⟨its,r,pl,_⟩:=I.list ha;obtain ⟨its2,r2,pl2,_⟩:=I.list hb;have e1:its.toArray.size=xs.length:=by rw [aam,r.length]
      rw [← e1];refine .of_refs q (.lists pl.isList pl2.isList (by rw [aam,aam,← r.length,← r2.length];exact hl) (by lia) fun j h1 h2=>?_);obtain ⟨x,hx,rx⟩:=cf r h1;obtain ⟨y,hy,ry⟩:=cf r2 h2;exact ih j x y hx hy rx ry (by show A.units+1+n < cLine;lia)
  | @tup n a b xs ys e ha hb h ih =>
    intro A u v rx ry hu;by_cases q:a=b
    · have:=(EqR.tup ha hb h).self I (by rw [q]);cases rx;cases ry;rw [this];subst q;exact SeqAt.EqAt.same _
    · cases rx;cases ry;obtain ⟨its,r,pl,_⟩:=I.tuple ha;obtain ⟨its2,r2,pl2,_⟩:=I.tuple hb;have e1:its.toArray.size=xs.length:=by rw [aam,r.length]
      have e2:its2.toArray.size=ys.length:=by rw [aam,r2.length]
      rw [← e1,← e2];refine .of_refs q (.tuples pl pl2 (by lia) fun j h1 h2=>?_);obtain ⟨x,hx,rx⟩:=cf r h1;obtain ⟨y,hy,ry⟩:=cf r2 h2;exact ih j x y hx hy rx ry (by show A.units+1+n < cLine;lia)
def tL (K:aab) (neg:Bool):R2:=fun x y H Q=>∃ n a b xs ys,n≤60∧x=.ref a∧y=.ref b∧SqL K H a xs∧SqL K H b ys ∧
  ((xs.length≠ys.length∧Q (.bl neg) H)∨∃ e:Nat→Bool,xs.length=ys.length∧(∀ (j:Nat) x y,xs[j]?=some x→ys[j]?=some y→EqR K H n x y (e j))∧Q (.bl (if neg then !(aaO xs.length).all e else (aaO xs.length).all e)) H)
theorem iN (hu:X.A.units+64 < cLine):OpR X (compareOp .Eq) (tL X.K false):=by
  intro pins s σ H x y v u Q I rx ry h;obtain ⟨n,a,b,xs,ys,hn,rfl,rfl,ha,hb,h⟩:=h;cases rx;cases ry;obtain ⟨its,r,pl,_⟩:=I.list ha;obtain ⟨its2,r2,pl2,_⟩:=I.list hb;have e1:its.toArray.size=xs.length:=by rw [aam,r.length]
  have e2:its2.toArray.size=ys.length:=by rw [aam,r2.length]
  rcases h with ⟨hl,q⟩|⟨e,hl,he,q⟩
  · exact SeqAt.eq_list_lengthsAt pl.isList pl2.isList (by rw [e1,e2];exact bne_iff_ne.mpr hl) (by lia) ⟨.bl false,H,I,rfl,q⟩
  · refine SeqAt.eq_listAt (e:=e) pl.isList pl2.isList (by rw [e1,e2];exact hl) (by lia) (fun j h1 h2=>?_) ?_
    · obtain ⟨x,hx,rx⟩:=cf r h1;obtain ⟨y,hy,ry⟩:=cf r2 h2;exact (he j x y hx hy).at I rx ry (by show X.A.units+1+n < cLine;lia)
    · rw [e1];exact ⟨.bl _,H,I,rfl,q⟩
theorem rj (hu:X.A.units+64 < cLine):OpR X (compareOp .NotEq) (tL X.K true):=by
  intro pins s σ H x y v u Q I rx ry h;obtain ⟨n,a,b,xs,ys,hn,rfl,rfl,ha,hb,h⟩:=h;cases rx;cases ry;obtain ⟨its,r,pl,_⟩:=I.list ha;obtain ⟨its2,r2,pl2,_⟩:=I.list hb;have e1:its.toArray.size=xs.length:=by rw [aam,r.length]
  have e2:its2.toArray.size=ys.length:=by rw [aam,r2.length]
  rcases h with ⟨hl,q⟩|⟨e,hl,he,q⟩
  · exact SeqAt.RcNeAt.lists_lengths pl.isList pl2.isList (by rw [e1,e2];exact bne_iff_ne.mpr hl) (by lia) _ _ _ _ ⟨.bl true,H,I,rfl,q⟩
  · refine SeqAt.RcNeAt.lists (e:=e) pl.isList pl2.isList (by rw [e1,e2];exact hl) (by lia) (fun j h1 h2=>?_) _ _ _ _ ?_
    · obtain ⟨x,hx,rx⟩:=cf r h1;obtain ⟨y,hy,ry⟩:=cf r2 h2;exact (he j x y hx hy).at I rx ry (by show X.A.units+1+n < cLine;lia)
    · rw [e1];exact ⟨.bl _,H,I,rfl,q⟩
end
abbrev PairIn (H:Hp) (p:Int × Int) (v:V):Prop:=∃ a,v=.ref a∧H a=some (.tup [.int p.1,.int p.2])
abbrev PairsIn (H:Hp):List (Int × Int)→List V→Prop:=Paired (PairIn H)
theorem Inv.adopt2 {X:Cx} {pins:List (Addr × Obj)} {σ:St} {H:Hp} {s:Shared} {a:Addr} {o:HO} (I:Inv X pins σ H s) (hn:H a=none) (hx:∀ u,X.s₀.heap.get? a≠some u) (hL:a≠X.env.locals) (hC:∀ x c,X.env.cells.lookup x=some c→c≠a) (hp:∀ p∈X.pn++pins,p.1≠a)
    (new:ObjOk X.prog X.w (upd H a o) s.heap a o):Inv X pins σ (upd H a o) s:=by
  have ne:∀ b u,X.s₀.heap.get? b=some u→b≠a:=fun b u e z=>hx u (by rw [← z];exact e);refine ⟨I.ok,I.os,I.bare,⟨I.base.keep,I.base.slot,fun b u e n hx=>?_,I.base.there,fun b xs e=>?_,fun b u xs e=>?_,fun b ps e=>?_⟩,I.loc,I.cell,?_,fun x c e=>?_,fun p hq=>?_,fun b u e=>?_,I.len⟩
  · rw [aj (ne b u e)];exact I.base.free b u e n hx
  · have q:=I.base.tups b xs e;rw [aj (ah q hn)];exact q
  · have q:=I.base.frzs b u xs e;rw [aj (ah q hn)];exact q
  · obtain ⟨m,q⟩:=I.base.tbls b ps e;exact ⟨m,by rw [aj (ah q hn)];exact q⟩
  · rw [aj (abm hL)];exact I.free
  · rw [aj (hC x c e)];exact I.freeC x c e
  · obtain ⟨h1,h2,h3⟩:=I.pin p hq;exact ⟨h1,by rw [aj (hp p hq)];exact h2,h3⟩
  · by_cases hb:b=a
    · subst hb;rw [ad] at e;cases e;exact new
    · rw [aj hb] at e;exact (I.hok b u e).stay (fun c v _ q=>q) (fun c q=>by rw [aj (ah q hn)];exact q) fun c xs q=>by rw [aj (ah q hn)];exact q
open PySem PySem.Spec PyProof.Rows
theorem ObjOk.get {P:Program} {w:World} {H:Hp} {h:Heap} {a:Addr} {o:HO} (x:ObjOk P w H h a o):∃ u,h.get? a=some u:=by
  cases o with
  | lst xs=>obtain ⟨_,_,_,_,e⟩:=x;exact ⟨_,e⟩
  | tup xs=>obtain ⟨_,_,_,o,e,_⟩:=x;exact ⟨_,e⟩
  | dK kvs=>obtain ⟨_,_,_,_,o,_,_,e,_⟩:=x;exact ⟨_,e⟩
  | dT kvs=>obtain ⟨_,_,_,_,o,_,_,e,_⟩:=x;exact ⟨_,e⟩
  | set S n=>obtain ⟨o,_,_,_,e,_⟩:=x;exact ⟨_,e⟩
  | ins C dx fs=>obtain ⟨_,_,_,e,_⟩:=x;exact ⟨_,e⟩
  | own y=>obtain ⟨_,e⟩:=x;exact ⟨_,e⟩
  | xd fs=>obtain ⟨_,⟨_,_,_,e,_⟩,_⟩:=x;exact ⟨_,e⟩
  | rng lo hi=>obtain ⟨_,_,_,e⟩:=x;exact ⟨_,e⟩
  | frz ob u=>obtain ⟨e,_⟩:=x;exact ⟨_,e⟩
  | tbl ps=>exact ⟨_,(show h.get? a=some _ from x)⟩
  | met f y=>exact ⟨_,(show h.get? a=some _ from x)⟩
  | ext φ=>obtain ⟨_,⟨_,e⟩,_⟩:=x;exact ⟨_,e⟩
section
variable {X:Cx}
end
open PySem PySem.Spec PyProof.Rows
theorem oP {c A B:Prop} [Decidable c] (hc:c) (h:A):if decide c=true then A else B:=by
  rw [if_pos (decide_eq_true hc)];exact h
theorem jN {c A B:Prop} [Decidable c] (hc:¬ c) (h:B):if decide c=true then A else B:=by
  rw [if_neg (fun e=>hc (of_decide_eq_true e))];exact h
section
variable {X:Cx} {K:aab}
theorem nA (hK:X.K=K):OpR X (compareOp .In) (rIn K false):=by subst hK;exact gz
theorem tS {es:List Expr} {k:Nat} {pos:Pos} {t:TGs} {n:Nat} (hK:X.K=K) (hc:X.calm=true) (h:PGs X es t)
    (hn:(assignEach es X.env).length=n:=by rfl) (hst:(assignEach es X.env).findIdx? (·.1)=none:=by rfl):PG X (.Tuple es k pos) (wO K n t):=by subst hK;exact dS hc h hn hst
theorem qX {tg l:Expr} {tl:TE} (hK:X.K=K) (hl:PE X l tl):PI X tg l (uy K tl):=by subst hK;exact ba hl
end
theorem lX {H:Hp} {ps:List (Int × Int)} {vs:List V} (p:PairsIn H ps vs):∀ {j:Nat} {x:V},vs[j]?=some x→∃ p,ps[j]?=some p∧PairIn H p x:=by
  induction p with
  | nil=>intro j x h;cases h
  | cons a b ih =>
    intro j x h;cases j with
    | zero=>cases h;exact ⟨_,rfl,a⟩
    | succ j=>exact ih (j:=j) h
open PySem PySem.Spec PyProof.Rows
def nK:Key→PyData
  | .inl i=>.int i
  | .inr x=>.str x
mutual
def Dat (H:Hp):PyData→V→Prop
  | .none,v=>v=.non
  | .bool b,v=>v=.bl b
  | .int i,v=>v=.int i
  | .str x,v=>v=.str x
  | .list ds,v=>∃ a xs,v=.ref a∧H a=some (.lst xs)∧DatAll H ds xs
  | .tuple ds,v=>∃ a xs,v=.ref a∧H a=some (.tup xs)∧DatAll H ds xs
  | .dict kvs,v=>∃ a ks,v=.ref a∧H a=some (.dK ks)∧DatKv H kvs ks
def DatAll (H:Hp):List PyData→List V→Prop
  | [],vs=>vs=[]
  | d :: ds,vs=>∃ v r,vs=v :: r∧Dat H d v∧DatAll H ds r
def DatKv (H:Hp):List (PyData × PyData)→List (Key × V)→Prop
  | [],ks=>ks=[]
  | (k,d) :: r,ks=>∃ q v t,ks=(q,v) :: t∧k=nK q∧Dat H d v∧DatKv H r t
end
mutual
theorem Dat.mono {H H':Hp} (g:Same H H'):∀ (d:PyData) (v:V),Dat H d v→Dat H' d v
  | .none,v,h=>h
  | .bool b,v,h=>h
  | .int i,v,h=>h
  | .str x,v,h=>h
  | .list ds,v,h=>by
    simp only [Dat] at h ⊢;obtain ⟨a,xs,e,h1,h2⟩:=h;exact ⟨a,xs,e,g _ _ h1,DatAll.mono g ds xs h2⟩
  | .tuple ds,v,h=>by
    simp only [Dat] at h ⊢;obtain ⟨a,xs,e,h1,h2⟩:=h;exact ⟨a,xs,e,g _ _ h1,DatAll.mono g ds xs h2⟩
  | .dict kvs,v,h=>by
    simp only [Dat] at h ⊢;obtain ⟨a,xs,e,h1,h2⟩:=h;exact ⟨a,xs,e,g _ _ h1,DatKv.mono g kvs xs h2⟩
theorem DatAll.mono {H H':Hp} (g:Same H H'):∀ (ds:List PyData) (vs:List V),DatAll H ds vs→DatAll H' ds vs
  | [],vs,h=>h
  | d :: ds,vs,h=>by
    simp only [DatAll] at h ⊢;obtain ⟨v,r,e,h1,h2⟩:=h;exact ⟨v,r,e,Dat.mono g d v h1,DatAll.mono g ds r h2⟩
theorem DatKv.mono {H H':Hp} (g:Same H H'):∀ (kvs:List (PyData × PyData)) (ks:List (Key × V)),DatKv H kvs ks→DatKv H' kvs ks
  | [],ks,h=>h
  | (k,d) :: r,ks,h=>by
    simp only [DatKv] at h ⊢;obtain ⟨q,v,t,e1,e2,h1,h2⟩:=h;exact ⟨q,v,t,e1,e2,Dat.mono g d v h1,DatKv.mono g r t h2⟩
end
def off (w:Addr) (H:Hp):Hp:=fun b=>if b=w then none else H b
theorem bq {w b:Addr} {H:Hp} (h:b≠w):off w H b=H b:=if_neg h
theorem off_le {w:Addr} {H:Hp}:Same (off w H) H:=fun b o h=>by
  unfold off at h;by_cases c:b=w
  · rw [if_pos c] at h;cases h
  · rw [if_neg c] at h;exact h
theorem kH {w:Addr} {H H':Hp} (g:But w H H'):Same (off w H) (off w H'):=fun b o h=>by
  by_cases c:b=w
  · unfold off at h;rw [if_pos c] at h;cases h
  · rw [bq c] at h ⊢;exact g b o c h
def uF:PyData→String
  | .none=>"NoneType"
  | .bool _=>"bool"
  | .int _=>"int"
  | .str _=>"str"
  | .list _=>"list"
  | .tuple _=>"tuple"
  | .dict _=>"dict"
theorem Dat.ty {K:aab} {H:Hp} {d:PyData} {v:V} (h:Dat H d v):TyOf K H v (.type (uF d)):=by
  cases d with
  | none=>simp only [Dat] at h;subst h;exact .non
  | bool b=>simp only [Dat] at h;subst h;exact .bl b
  | int i=>simp only [Dat] at h;subst h;exact .int i
  | str x=>simp only [Dat] at h;subst h;exact .str x
  | list ds=>simp only [Dat] at h;obtain ⟨a,xs,rfl,e,_⟩:=h;exact .lst e
  | tuple ds=>simp only [Dat] at h;obtain ⟨a,xs,rfl,e,_⟩:=h;exact .tup e
  | dict kvs=>simp only [Dat] at h;obtain ⟨a,xs,rfl,e,_⟩:=h;exact .dK e
section
variable {X:Cx} {pins:List (Addr × Obj)} {σ:St} {H:Hp} {s:Shared}
theorem Inv.nosys (I:Inv X pins σ H s) {a:Addr} {o:HO} (h:H a=some o):a≠sysModules:=fun e=>by
  obtain ⟨mm,ob,es,ep,g,_⟩:=I.mod.sysm;have:=(I.bs _ _ g).2;rw [← e,h] at this;cases this
theorem jI {P:Program} {w:World} {h:Heap} {q:Key} {v:Value} (e:(ar P w).is q v=true):Reads h v (nK q) []:=by
  rw [iR] at e;rcases aW e with ⟨i,t,rfl,rfl⟩|⟨x,t,rfl,rfl⟩
  · exact .int i t
  · exact .str x t
mutual
theorem Dat.reads (I:Inv X pins σ H s):∀ (d:PyData) (v:V) (u:Value),Dat H d v→RelV v u→∃ as,Reads s.heap u d as∧sysModules∉as
  | .none,v,u,h,r=>by
    simp only [Dat] at h;subst h;cases r;exact ⟨_,.none,by simp⟩
  | .bool b,v,u,h,r=>by
    simp only [Dat] at h;subst h;cases r;exact ⟨_,.bool b,by simp⟩
  | .int i,v,u,h,r=>by
    simp only [Dat] at h;subst h;obtain ⟨t,rfl⟩:=r;exact ⟨_,.int i t,by simp⟩
  | .str x,v,u,h,r=>by
    simp only [Dat] at h;subst h;obtain ⟨t,rfl⟩:=r;exact ⟨_,.str x t,by simp⟩
  | .list ds,v,u,h,r=>by
    simp only [Dat] at h;obtain ⟨a,xs,rfl,hr,hd⟩:=h;cases r;obtain ⟨its,rv,⟨o,n,e1,e2,_,e3⟩,_⟩:=I.list (SqL.of hr);obtain ⟨as,ra,na⟩:=DatAll.reads I ds xs its hd rv;have ho:=hr;refine ⟨_,.list e1 e2 e3 (by simpa using ra),fun z=>?_⟩;rcases aai.mp z with z|z
    · exact I.nosys ho z.symm
    · exact na z
  | .tuple ds,v,u,h,r=>by
    simp only [Dat] at h;obtain ⟨a,xs,rfl,hr,hd⟩:=h;cases r;obtain ⟨its,rv,⟨o,e1,e2,n,e3⟩,_⟩:=I.tuple (SqT.of hr);obtain ⟨as,ra,na⟩:=DatAll.reads I ds xs its hd rv;exact ⟨_,.tuple e1 e2 e3 (by simpa using ra),na⟩
  | .dict kvs,v,u,h,r=>by
    simp only [Dat] at h;obtain ⟨a,ks,rfl,hr,hd⟩:=h;cases r;obtain ⟨_,_,vs,rel,o,es,ep,e1,ex,e3,_,pr,_⟩:=jR I.hok hr;obtain ⟨as,bs,ra,rb,na,nb⟩:=DatKv.reads I kvs ks vs es.toList hd rel pr;have ho:=hr;refine ⟨_,.dict e1 ex.1 e3 ra rb,fun z=>?_⟩;rcases aay.mp z with z|z
    · rcases aai.mp z with z|z
      · exact I.nosys ho z.symm
      · exact na z
    · exact nb z
theorem DatAll.reads (I:Inv X pins σ H s):∀ (ds:List PyData) (vs:List V) (us:List Value),DatAll H ds vs→Vals vs us→∃ as,ReadsAll s.heap us ds as∧sysModules∉as
  | [],vs,us,h,r=>by
    simp only [DatAll] at h;subst h;cases r;exact ⟨_,.nil,by simp⟩
  | d :: ds,vs,us,h,r=>by
    simp only [DatAll] at h;obtain ⟨v,t,rfl,h1,h2⟩:=h;cases r with
    | cons r1 r2 =>
      obtain ⟨as,ra,na⟩:=Dat.reads I d v _ h1 r1;obtain ⟨bs,rb,nb⟩:=DatAll.reads I ds t _ h2 r2;exact ⟨_,.cons ra rb,fun z=>(aay.mp z).elim na nb⟩
theorem DatKv.reads (I:Inv X pins σ H s):∀ (kvs:List (PyData × PyData)) (ks:List (Key × V)) (vs:List (Key × Value)) (es:List DictEntry),DatKv H kvs ks→KV ks vs→Pairs (ar X.prog X.w) es vs →
    ∃ as bs,ReadsAll s.heap (es.map (·.key)) (kvs.map (·.1)) as∧ReadsAll s.heap (es.map (·.val)) (kvs.map (·.2)) bs∧sysModules∉as∧sysModules∉bs
  | [],ks,vs,es,h,r,p=>by
    simp only [DatKv] at h;subst h;cases r;cases p;exact ⟨_,_,.nil,.nil,by simp,by simp⟩
  | (k,d) :: kr,ks,vs,es,h,r,p=>by
    simp only [DatKv] at h;obtain ⟨q,v,t,rfl,rfl,h1,h2⟩:=h;cases r with
    | cons r1 r2 =>
      cases p with
      | cons p1 p2 p3 =>
        obtain ⟨rk,rv⟩:=r1;obtain ⟨as,bs,ra,rb,na,nb⟩:=DatKv.reads I kr t _ _ h2 r2 p3;obtain ⟨cs,rc,nc⟩:=Dat.reads I d v _ h1 rv;have rk':q=_:=rk;subst rk';have kd:=jI (h:=s.heap) p1;refine ⟨[]++as,cs++bs,.cons kd ra,.cons (by dsimp only;rw [p2];exact rc) rb,by simpa using na,fun z=>(aay.mp z).elim nc nb⟩
end
end
open PySem PySem.Spec PyProof.Rows
section
variable {X:Cx}
theorem oZ {i:Int} (h:i.natAbs < 2 ^ 4000):Builtin.Int.intBits i≤2 ^ 20:=by
  have : Builtin.Int.intBits i≤4000:=by
    unfold Builtin.Int.intBits;by_cases c:i=0
    · simp [c]
    · rw [if_neg (by simpa using c)];have h4:i.natAbs≠0:=fun z=>c (Int.natAbs_eq_zero.mp z);exact (Nat.log2_lt h4).mpr h
  have e:(4000:Nat)≤2 ^ 20:=by decide
  lia
theorem fY:OpR X (binaryOp .Mult) (rI (fun i j=>i.natAbs < 2 ^ 4000∧j.natAbs < 2 ^ 4000) fun i j=>.int (i * j)):=opI fun _ _ _ _ _ _ _ hc q=>mul_int q (IntMulOk.of_bits (oZ hc.1) (oZ hc.2))
theorem vb {e k:Expr} {te tk:TE} {p2 pos:Pos} (he:PE X e te) (hk:PE X k tk):PE X (.Subscript e (.Slice none none (some k) p2) pos)
    (fun σ H Q=>te σ H fun x H1=>tk σ H1 fun y H2=>y=.int (-1)∧∃ a xs,x=.ref a∧SqL X.K H2 a xs∧∀ p,H2 p=none→Q (.ref p) (upd H2 p (.lst xs.reverse))):=by
  intro pins s σ H Q I h;refine Subscript_ (thn (he pins s σ H _ I h) fun v s1 ⟨x,H1,I1,r1,q1⟩=>?_);refine wpAny_Slice ?_;rw [evalPart_none];refine wpAny_pure (wpAny_pure ?_);rw [evalPart_some];refine thn (hk pins s1 σ H1 _ I1 q1) fun vk s3 ⟨y,H3,I3,r3,q3⟩=>?_;obtain ⟨rfl,a,xs,rfl,hx,q⟩:=q3;obtain ⟨t,rfl⟩:=r3;cases r1;have I4:Inv X pins σ H3 { s3 with heap:=s3.heap.push { cls:=.type "slice",data:=.fields #[.none,.none,.int (-1) t] } }:=I3.kept (t':=s3.toks) fun b ob q=>aad _ q;obtain ⟨its,r,ht,hz⟩:=I4.list hx;have hlen:=r.length;refine tail_any (ops:=[.ref a,.ref s3.heap.objs.size]) (s:={ s3 with heap:=s3.heap.push { cls:=.type "slice",data:=.fields #[.none,.none,.int (-1) t] } }) ht.isList.typeIs slot_list_getitem.lookup ?_ (by with_unfolding_all rfl);refine wpAny_getItem_list_slice ht.isList (Heap.IsSliceOf.new ..) .none .none (.int (-1) t) (by decide) ?_ (by rw [aam];lia);rw [PySem.W.krv_pick];refine ⟨.ref _,_,I4.laid (t':=s3.toks) (o:=.lst xs.reverse) (fun b ob q=>aad _ q) (aaf _) ?_,rfl,q _ (I4.hok.fresh (aaf _))⟩;exact ⟨by rw [List.length_reverse];exact hz,_,0,r.reverse,aao _ rfl⟩
end
open PySem PySem.Spec PyProof.Rows
theorem Inv.turnedL {X:Cx} {pins:List (Addr × Obj)} {σ:St} {H:Hp} {s:Shared} {h':Heap} {t':Nat} {fp:List Addr} (I:Inv X pins σ H s) (k:∀ b o,b∉fp→s.heap.get? b=some o→h'.get? b=some o) (hf:∀ b∈fp,dh X pins H b):Inv X pins σ H { s with heap:=h',toks:=t' }:=by
  have nit:∀ b u,H b=some u→b∉fp:=fun b u e z=>by rw [(hf b z).1] at e;cases e
  refine I.step (g':=s.gens) (d':=s.drawn) (ch:=fp) (fun b hb=>⟨(hf b hb).2.2.2.1,(hf b hb).2.1,(hf b hb).2.2.2.2.1,(hf b hb).2.2.2.2.2⟩) (fun b o _ _ hc e _=>k b o hc e) (fun b o _ _ hc e _=>⟨o.slots,k b o hc e⟩) (fun _ _ _ _ n=>n)
    (fun b o hc e=>⟨o,k b o hc e⟩) (fun _ _ e=>e) (fun _ _ _ e=>e) (fun b ps e=>⟨#[],by rw [e];simp⟩) (fun m hm=>?_) (fun b u e=>?_) I.bare
  · obtain ⟨o,es,ep,ho,r⟩:=hm;exact ⟨o,es,ep,k _ o (fun z=>(hf _ z).2.1 rfl) ho,r⟩
  · refine (I.hok b u e).stay (fun c v hc q=>k c v ?_ q) (fun _ q=>q) fun _ _ q=>q;rcases hc with z|z
    · rw [z];exact nit b u e
    · exact nit c _ z
def sU (K:aab) (a:Addr):It :=
  ⟨fun i H=>∃ xs x,SqL K H a xs∧xs[i]?=some x,fun i H x H'=>∃ p y,H p=none∧x=.ref p∧H'=upd H p (.tup [.int i,y])∧∀ xs,SqL K H a xs→xs[i]?=some y,fun i H=>∃ xs,SqL K H a xs∧xs.length≤i⟩
theorem pw {P:Program} {w:World} {K:aab} {elts:List Expr} {k:Nat} {pos:Pos} (a e it:Addr) (hei:e≠it):Turn P w K (.Tuple elts k pos) (sU K a) [e,it] e (fun i h=>(∃ old,IsEnum h e it i old)∧h.IsListIter it a i) where
  mem:=by simp
  obj:=fun i h st b hb=>by
    obtain ⟨⟨old,he⟩,o,e1,c,d⟩:=st;rcases aai.mp hb with z|z
    · subst z;exact ⟨_,he,fun v z=>by cases z⟩
    · have z:b=it:=by simpa using z
      subst z;exact ⟨o,e1,fun v z=>by rw [d] at z;cases z⟩
  keep:=fun i h h' st kp=>⟨let ⟨old,he⟩:=st.1;⟨old,kp e (by simp) _ he⟩,st.2.at fun o x=>kp it (by simp) o x⟩
  item:=by
    intro X hP hw hK hc i pins s σ H E I hf st hg;subst hP hw hK;obtain ⟨xs,x,hq,hx⟩:=hg;obtain ⟨its,rv,p,hz⟩:=I.list hq;obtain ⟨u,hu,ru⟩:=rv.get hx;obtain ⟨⟨old,he⟩,hit⟩:=st;have helt:e < s.heap.objs.size:=aal he;have hilt:it < s.heap.objs.size:=by obtain ⟨_,x,_⟩:=hit;exact aal x
    refine wpAny_pyNext_enum_item he hit p.isList (x:=u) (by simpa using hu) hei fun h' ho hit' hT hsz hk=>?_;refine ⟨_,rfl,wpAny_letOwnedTupleGo_enum ho fun h'' he' hs'=>?_⟩;have hs2:aaY e h' h'':=hs';have keep:∀ b o,b∉[e,it]→s.heap.get? b=some o→h''.get? b=some o:=fun b o hb q=>by
      have b1:b≠e:=fun z=>hb (by simp [z]);have b2:b≠it:=fun z=>hb (by simp [z]);exact (hs2.2 b b1).trans (hk b o b1 b2 q)
    have I1:Inv X pins σ H { s with heap:=h'',toks:=s.toks+1 }:=I.turnedL keep hf;have gT:h''.get? s.heap.objs.size=some { cls:=.type "tuple",data:=.seq #[.int i s.toks,u] }:=(hs2.2 _ (abr helt)).trans hT;have fresh:H s.heap.objs.size=none:=I.hok.fresh (aaf _);have I2:=I1.adopt (a:=s.heap.objs.size) (o:=.tup [.int i,x]) fresh I.sz (abr I.lt) (fun y c e1=>by
        obtain ⟨v,q⟩:=I.cell y c e1;exact aaB q.lt) (fun q hq=>aaB (aal (I.pin q hq).1)) ⟨by show 2≤sizeLine;decide,[.int i s.toks,u],.cons ⟨_,rfl⟩ (.cons ru .nil),⟨_,gT,rfl,_,rfl⟩⟩
    refine ⟨.ref s.heap.objs.size,_,I2,rfl,⟨_,x,fresh,rfl,rfl,fun ys hy=>by rw [I.list_inj hy hq];exact hx⟩,⟨⟨u,by simpa using he'⟩,hit'.at fun o y=>(hs2.2 it hei.symm).trans y⟩,fun b hb=>?_⟩;rw [aj]
    · exact (hf b hb).1
    · rcases aai.mp hb with z|z
      · rw [z];exact aaB helt
      · have z:b=it:=by simpa using z
        rw [z];exact aaB hilt
  done:=by
    intro X hP hw hK hc i pins s σ H E I hf st hg;subst hP hw hK;obtain ⟨xs,hq,hx⟩:=hg;obtain ⟨its,rv,p,hz⟩:=I.list hq;obtain ⟨⟨old,he⟩,hit⟩:=st;have hl:=rv.length;refine wpAny_pyNext_enum_end (I.ok.hd hc) he hit p.isList (by simp;lia) fun h' eb=>⟨rfl,I.turnedL (t':=s.toks) (fp:=[e,it]) (fun b o hb q=>eb b o (fun z=>hb (by simp [z])) q) hf⟩
  self:=fun _ _ _ _ _ st h=>by
    obtain ⟨⟨old,he⟩,_⟩:=st;exact wpAny_pyIter_enum he h
def wM (K:aab) (ta:TA):TI:=fun σ H R=>ta σ H fun vs H1=>∃ a,vs=[.ref a]∧(∃ xs,SqL K H1 a xs)∧R (sU K a) H1
theorem tR {X:Cx} {elts:List Expr} {k:Nat} {tpos:Pos} {a:Expr} {ta:TA} {p pos:Pos} (hg:Gl X "enumerate") (hm:X.mg "enumerate" = none) (ha:PA X [a] ta) (hs:starEach [a] X.env=[(false,eval a X.env)]:=by rfl):PI X (.Tuple elts k tpos) (.Call (.Name "enumerate" p) [a] [] pos) (wM X.K ta):=by
  intro pins s σ H R I h;refine Call_ (eX I hg hm boot_enumerate (abf (thn (ha pos pins s σ H _ I h) fun us s1 ⟨vs,H1,I1,r1,q1⟩=>?_) hs rfl));obtain ⟨l,e,⟨xs,hq⟩,q⟩:=q1;subst e;cases r1 with
  | cons r rr =>
    cases rr;cases r;obtain ⟨its,rv,pl,hz⟩:=I1.list hq;refine call_enumerate_list pl.isList fun h' he hit hsz hk=>?_;refine wpAny_pyIter_enum (s:={ s1 with heap:=h' }) he ?_;have I2:Inv X pins σ H1 { s1 with heap:=h' }:=I1.kept (t':=s1.toks) hk;refine ⟨s1.heap.objs.size+1,[s1.heap.objs.size+1,s1.heap.objs.size],_,_,H1,rfl,I2,pw l _ _ (Nat.succ_ne_self _),⟨⟨_,he⟩,hit⟩,fun b hb=>?_,q⟩;have hb2:s1.heap.objs.size≤b:=by
      rcases aai.mp hb with z|z
      · rw [z];exact acC _
      · have z:b=s1.heap.objs.size:=by simpa using z
        rw [z];exact aaf _
    exact I1.fpOk hb2 (I1.hok.fresh hb2)
theorem ss {K:aab} {a:Addr} {xs:List V} {g:TG} {tb:TS} {D:Ends} {σ:St} {H:Hp} (Pv:Nat→St→Hp→Prop) (h0:Pv 0 σ H) (hl:∀ i σ H,i≤xs.length→Pv i σ H→SqL K H a xs)
    (hs:∀ i x p σ H,xs[i]?=some x→Pv i σ H→H p=none→g (.ref p) σ (upd H p (.tup [.int i,x])) fun σ2 H2=>tb { D with nx:=Pv (i+1),ct:=Pv (i+1),bk:=D.nx } σ2 H2) (hd:∀ σ H,Pv xs.length σ H→D.nx σ H) :
    ∃ W:Nat→Nat→St→Hp→Prop,(∃ m,W 0 m σ H)∧∀ i m σ H,W i m σ H →
      ((sU K a).stop i H∧D.nx σ H)∨((sU K a).go i H∧∃ N:St→Hp→Prop,(∀ σ' H',N σ' H'→∃ m',m' < m∧W (i+1) m' σ' H')∧∀ x H',(sU K a).yld i H x H'→g x σ H' fun σ2 H2=>tb { D with nx:=N,ct:=N,bk:=D.nx } σ2 H2):=by
  refine ⟨fun i m σ H=>m=xs.length - i∧i≤xs.length∧Pv i σ H,⟨xs.length,by simp,aa4 _,h0⟩,?_⟩;rintro i m σ H ⟨rfl,hi,p⟩;have q:=hl i σ H hi p;by_cases hlt:i < xs.length
  · refine .inr ⟨⟨xs,xs[i],q,by simp [hlt]⟩,Pv (i+1),fun σ' H' p'=>⟨xs.length - (i+1),by lia,rfl,hlt,p'⟩,fun x H' y=>?_⟩;obtain ⟨pa,z,n,e1,e2,y⟩:=y;subst e1 e2;exact hs i z pa σ _ (y xs q) p n
  · have e:i=xs.length:=by lia
    subst e;exact .inl ⟨⟨xs,q,aaf _⟩,hd σ H p⟩
open PySem PySem.Spec PyProof.Rows
section
variable {prog:Program} {w:World} {κ:Type} [DecidableEq κ] {knd:HeapKind prog w κ} {A:Around} {E:Value→Shared→Prop} {s:Shared}
def bf (xs more:List (κ × Addr × Value)):List (κ × Addr × Value):=more.foldl (fun acc x=>storedH acc x.1 x.2.1 x.2.2) xs
theorem kJ (xs more:List (κ × Addr × Value)) (i:Nat) (x:κ × Addr × Value) (h:more[i]?=some x):bf xs (more.take (i+1))=storedH (bf xs (more.take i)) x.1 x.2.1 x.2.2:=by
  unfold bf;rw [aaE,h,List.foldl_append];rfl
theorem gR (xs:List (κ × Addr × Value)) (k:κ) (a:Addr) (v:Value):(storedH xs k a v).length≤xs.length+1:=by
  unfold storedH;split <;> simp
end
open PySem PySem.Spec PyProof.Rows
def cq (kvs more:List (List Key × V)):List (List Key × V):=more.foldl (fun acc kv=>bt acc kv.1 kv.2) kvs
theorem fI:∀ (more kvs:List (List Key × V)),(cq kvs more).length≤kvs.length+more.length
  | [],kvs=>by show kvs.length≤kvs.length+0;lia
  | p :: r,kvs=>by
    have h1:=fI r (bt kvs p.1 p.2);have h2:=cg kvs p.1 p.2;show (cq (bt kvs p.1 p.2) r).length≤_;rw [aaC];lia
theorem KT.merge {H:Hp} {more:List (List Key × V)} {ys:List (List Key × Addr × Value)} (r:KT H more ys):∀ {kvs:List (List Key × V)} {xs:List (List Key × Addr × Value)},KT H kvs xs→KT H (cq kvs more) (bf xs ys):=by
  unfold KT at r
  induction r with
  | nil=>intro kvs xs q;exact q
  | @cons p q ps qs h t ih =>
    intro kvs xs r0;obtain ⟨h1,h2,h3⟩:=h;have z:=KT.put r0 p.1 h2 h3;have z2:=ih z;show KT H (cq (bt kvs p.1 p.2) ps) (bf (storedH xs q.1 q.2.1 q.2.2) qs);rw [← h1];exact z2
section
variable {prog:Program} {w:World} {κ:Type} [DecidableEq κ] {knd:HeapKind prog w κ} {A:Around} {E:Value→Shared→Prop} {s:Shared}
inductive HitsH (A:Around) (s:Shared) (kb:List (κ × Addr × Value)):List (κ × Addr × Value)→Bool→Prop
  | nil:HitsH A s kb [] true
  | miss {k:κ} {a:Addr} {v:Value} {r:List (κ × Addr × Value)}:atKey kb k=none→HitsH A s kb ((k,a,v) :: r) false
  | hit {k:κ} {a c:Addr} {v y:Value} {r:List (κ × Addr × Value)} {e b:Bool}:atKey kb k=some (c,y)→SeqAt.EqAt A s v y e→HitsH A s kb r b→HitsH A s kb ((k,a,v) :: r) (e && b)
end
open PySem PySem.Spec PyProof.Rows
inductive HitsV (K:aab) (H:Hp) (n:Nat) (kb:List (List Key × V)):List (List Key × V)→Bool→Prop
  | nil:HitsV K H n kb [] true
  | miss {k:List Key} {v:V} {r:List (List Key × V)}:bg kb k=none→HitsV K H n kb ((k,v) :: r) false
  | hit {k:List Key} {v y:V} {r:List (List Key × V)} {e b:Bool}:bg kb k=some y→EqR K H n v y e→HitsV K H n kb r b→HitsV K H n kb ((k,v) :: r) (e && b)
open PySem PySem.Spec PyProof.Rows
section
variable {prog:Program} {w:World} {κ:Type} [DecidableEq κ] {knd:HeapKind prog w κ} {A:Around} {E:Value→Shared→Prop}
theorem DictOfH.at {h:Heap} {d:Addr} {xs:List (κ × Addr × Value)} (m:h.DictOfH knd d xs):∃ o es ep,h.get? d=some o∧o.data=.dict es ep:=let ⟨o,es,ep,h1,_,h2,_⟩:=m;⟨o,es,ep,h1,h2⟩
theorem fk {d:Addr} (hu:knd.room A):∀ (xs acc:List (κ × Addr × Value)) (s:Shared) (Q:PUnit→Shared→Prop),(∀ x∈xs,knd.is s.heap x.1 x.2.1)→s.heap.DictOfH knd d acc→acc.length+xs.length≤sizeLine →
    (∀ h' t',h'.DictOfH knd d (bf acc xs)→aaY d s.heap h'→Q PUnit.unit { s with heap:=h',toks:=t' }) →
    wpAny (model prog w) A (forIn (xs.map fun x=>(Value.ref x.2.1,x.2.2)) PUnit.unit fun (x:Value × Value) (_:PUnit)=>(do dictSet d x.1 x.2;pure (ForInStep.yield PUnit.unit):Sem (ForInStep PUnit))) Q E s
  | [],acc,s,Q,_,hm,_,hQ=>by
    rw [abk,List.forIn_nil];exact wpAny_pure (hQ s.heap s.toks hm (Heap.SameBut.refl _ _))
  | (k,a,v) :: xs,acc,s,Q,hk,hm,hsz,hQ=>by
    rw [aaC] at hsz;rw [aae,List.forIn_cons];obtain ⟨o,es,ep,ho,hd⟩:=DictOfH.at hm;refine wpAny_bind (wpAny_bind (wpAny_dictSet_heap (hsz:=by lia) hu (hk _ (aan ..)) hm fun h₁ hm₁ hs₁=>wpAny_pure ?_));refine fk hu xs (storedH acc k a v) _ Q (fun x hx=>knd.keeps (hk x (aaj _ hx)) ho hd hs₁) hm₁ (by have e:=gR acc k a v;lia) fun h' t' hm' hs'=>?_;exact hQ h' t' hm' (hs₁.trans hs')
variable {s:Shared}
theorem j4 {pairs:List (Sem Value × Sem Value)} {Q:Addr→Shared→Prop} (hu:knd.room A) (hlen:pairs.length≤15)
    (h:wpAny (model prog w) A (evalPairs pairs) (fun vs s₁=>∃ xs:List (κ × Addr × Value),vs=xs.map (fun x=>(Value.ref x.2.1,x.2.2))∧xs.length≤15∧(∀ x∈xs,knd.is s₁.heap x.1 x.2.1)∧s₁.heap.DictOfH knd s.heap.objs.size [] ∧
      ∀ h' t',h'.DictOfH knd s.heap.objs.size (bf [] xs)→aaY s.heap.objs.size s₁.heap h'→Q s.heap.objs.size { s₁ with heap:=h',toks:=t' }) E
      { s with heap:=s.heap.push { cls:=.type "dict",data:=.dict #[] } }) :
    wpAny (model prog w) A (subDict pairs) Q E s:=by
  unfold subDict;refine wpAny_bind (wpAny_alloc ?_);refine wpAny_bind (wpAny_holding ?_);rw [if_pos hlen];refine wpAny_bind (wpAny_mono h (fun vs s₁ h₁=>?_) fun _ _ e=>e);obtain ⟨xs,rfl,hx,hk,hm,hQ⟩:=h₁;have hsz:([]:List (κ × Addr × Value)).length+xs.length≤sizeLine:=by
    rw [sizeLine_eq,abO];lia
  refine wpAny_holding ?_;refine wpAny_bind (fk (knd:=knd) hu xs [] s₁ _ hk hm hsz fun h' t' hm' hs'=>wpAny_pure (wpAny_pure (hQ h' t' hm' hs')))
theorem qu {env:Env} {keys:List (Option Expr)} {values:List Expr} {pos:Pos} {Q:Value→Shared→Prop} (hu:knd.room A)
    (hall:keys.all (·.isSome)=true) (hl:keys.length=values.length) (h0:keys≠[]) (hlen:keys.length≤15)
    (h:wpAny (model prog w) A (evalPairs (pairTrees keys values env pos)) (fun vs s₁=>∃ xs:List (κ × Addr × Value),vs=xs.map (fun x=>(Value.ref x.2.1,x.2.2))∧xs.length≤15∧(∀ x∈xs,knd.is s₁.heap x.1 x.2.1)∧s₁.heap.DictOfH knd s.heap.objs.size [] ∧
      ∀ h' t',h'.DictOfH knd s.heap.objs.size (bf [] xs)→aaY s.heap.objs.size s₁.heap h'→Q (.ref s.heap.objs.size) { s₁ with heap:=h',toks:=t' }) E
      { s with heap:=s.heap.push { cls:=.type "dict",data:=.dict #[] } }) :
    wpAny (model prog w) A (eval (.Dict keys values pos) env) Q E s:=by
  have hn:=pairTrees_length keys values env pos hall hl;have hne:pairTrees keys values env pos≠[]:=by
    intro he;rw [he] at hn;exact h0 (aa8.mp hn.symm)
  rw [arm_eval_Dict,zip_pairTrees keys values env pos hall hl,dictDisplay_pairs _ hne (by lia)];exact wpAny_bind (wpAny_standAt (wpAny_bind (j4 (knd:=knd) (Q:=fun d s'=>wpAny (model prog w) A (pure (Value.ref d)) Q E s') hu (by lia)
    (wpAny_mono h (fun vs s₁ h₁=>by obtain ⟨xs,h1,h2,h3,h4,hq⟩:=h₁;exact ⟨xs,h1,h2,h3,h4,fun h' t' a b=>wpAny_pure (hq h' t' a b)⟩) fun _ _ e=>e))))
end
def uL (trs:List (TE × TE)):TE:=fun σ H Q=>∀ p,H p=none→mS trs σ (upd H p (.dT [])) fun ps H2=>H2 p=some (.dT [])∧∃ bs:List (Addr × List Key × V),ps=bs.map (fun b=>(V.ref b.1,b.2.2))∧(∀ b∈bs,H2 b.1=some (.tup (b.2.1.map kV)))∧bs.length≤15 ∧
  Q (.ref p) (upd H2 p (.dT (cq [] (bs.map (·.2)))))
theorem sN {H:Hp}:∀ {bs:List (Addr × List Key × V)} {ws:List (Value × Value)},VV (bs.map fun b=>(V.ref b.1,b.2.2)) ws→(∀ b∈bs,H b.1=some (.tup (b.2.1.map kV)))→∃ xs:List (List Key × Addr × Value),ws=xs.map (fun x=>(Value.ref x.2.1,x.2.2))∧KT H (bs.map (·.2)) xs
  | [],_,r,_=>by rw [abk] at r;cases r;exact ⟨[],rfl,.nil⟩
  | (a,k,v) :: bs,_,r,hk=>by
    rw [aae] at r;cases r with
    | @cons x y as cs h t =>
      obtain ⟨xs,e,q⟩:=sN t (fun b hb=>hk b (aaj _ hb));obtain ⟨y1,y2⟩:=y;obtain ⟨h1,h2⟩:=h;have e1:y1=Value.ref a:=h1;subst e1;refine ⟨(k,a,y2) :: xs,by rw [e];rfl,.cons ⟨rfl,hk _ (aan ..),h2⟩ q⟩
theorem lV {X:Cx} {pos:Pos} {keys:List (Option Expr)} {values:List Expr} {trs:List (TE × TE)} (hu:X.A.units+1 < cLine) (h:PPs X pos keys values trs) (hall:keys.all (·.isSome)=true:=by rfl) (hl:keys.length=values.length:=by rfl) (h0:keys≠[]:=by simp)
    (h15:keys.length≤15:=by decide):PE X (.Dict keys values pos) (uL trs):=by
  intro pins s σ H Q I q;have hn:=I.hok.fresh (aaf s.heap.objs.size);have I1:=I.laid (a:=s.heap.objs.size) (o:=.dT []) (h':=s.heap.push { cls:=.type "dict",data:=.dict #[] }) (t':=s.toks) (fun _ _ q=>aad _ q) (aaf _) (i6 s.heap I.big);have hr:(tupleKind (ar X.prog X.w)).room X.A:=by show X.A.units < cLine;lia
  refine qu (knd:=tupleKind (ar X.prog X.w)) hr hall hl h0 h15 (thn (h pins _ σ _ _ I1 (q _ hn)) fun ws s2 ⟨ps,H2,I2,rel,e,bs,ep,hk,lk,q2⟩=>?_);subst ep;obtain ⟨xs,ew,rk⟩:=sN rel hk;obtain ⟨z,hd,vs0,r0,dd⟩:=i5 I2.hok e;cases r0;have lx:=aav rk;rw [aaa] at lx;refine ⟨xs,ew,by lia,fun x hx=>?_,dd,fun h' t' dd' hs=>⟨.ref s.heap.objs.size,_,?_,rfl,q2⟩⟩
  · have all:∀ {l:List (List Key × V)} {m:List (List Key × Addr × Value)},KT H2 l m→∀ x∈m,(tupleKind (ar X.prog X.w)).is s2.heap x.1 x.2.1:=by
      intro l m q
      induction q with
      | nil=>intro x hx;exact nomatch hx
      | @cons p q ps qs hq t ih =>
        intro x hx;rcases aai.mp hx with e|hx
        · subst e;exact fJ I2.hok (by rw [← hq.1];exact hq.2.1)
        · exact ih x hx
    exact all rk x hx
  · have hz:(cq [] (bs.map (·.2))).length≤sizeLine:=by
      have h1:=fI (bs.map (·.2)) [];rw [abO,aaa] at h1;rw [sizeLine_eq];lia
    obtain ⟨q1,es,ep,hq,h2,h3,h4,_,h5⟩:=dd';refine cU (ob:=.dT (cq [] (bs.map (·.2)))) I2 (by rw [e];exact True.intro) hs ⟨q1,hq⟩ ⟨hz,hd,_,(KT.merge rk .nil).keeps fun c ys ec=>?_,q1,es,ep,hq,h2,h3,h4,h5⟩;rw [aj (oI ec e (fun z=>nomatch z))];exact ec
open PySem PySem.Spec PyProof.Rows
theorem Inv.retype {X:Cx} {pins:List (Addr × Obj)} {σ:St} {H:Hp} {s:Shared} {a:Addr} {u u':HO} (I:Inv X pins σ H s) (e:H a=some u) (n1:∀ xs,u≠.tup xs) (n2:∀ ps,u≠.tbl ps) (n3:∀ y,u≠.own y) (hf:∀ o v,X.H₀ a≠some (.frz o v))
    (new:ObjOk X.prog X.w H s.heap a u'):Inv X pins σ (upd H a u') s:=by
  have nt:∀ c xs,H c=some (.tup xs)→c≠a:=fun c xs q z=>by rw [z,e] at q;injection q with q;exact n1 _ q
  have no:∀ c y,H c=some (.own y)→c≠a:=fun c y q z=>by rw [z,e] at q;injection q with q;exact n3 _ q
  have nn:∀ c,H c=none→c≠a:=fun c q z=>by rw [z,e] at q;cases q
  refine ⟨I.ok,I.os,I.bare,⟨I.base.keep,I.base.slot,fun b ob q n hx=>?_,I.base.there,fun b xs q=>?_,fun b ob xs q=>?_,fun b ps q=>?_⟩,I.loc,I.cell,?_,fun x c q=>?_,fun p hp=>?_,fun b v q=>?_,I.len⟩
  · have z:=I.base.free b ob q n hx;rw [aj (nn b z)];exact z
  · have z:=I.base.tups b xs q;rw [aj (nt b xs z)];exact z
  · have z:=I.base.frzs b ob xs q;have nb:b≠a:=fun y=>hf ob xs (by rw [← y];exact q);rw [aj nb];exact z
  · obtain ⟨m,z⟩:=I.base.tbls b ps q;have nb:b≠a:=fun y=>by rw [y,e] at z;injection z with z;exact n2 _ z
    exact ⟨m,by rw [aj nb];exact z⟩
  · rw [aj (nn _ I.free)];exact I.free
  · rw [aj (nn _ (I.freeC x c q))];exact I.freeC x c q
  · obtain ⟨h1,h2,h3⟩:=I.pin p hp;exact ⟨h1,by rw [aj (nn _ h2)];exact h2,h3⟩
  · by_cases hb:b=a
    · subst hb;rw [ad] at q;cases q;exact new.stay (fun c v _ q=>q) (fun c q=>by rw [aj (no c _ q)];exact q) fun c xs q=>by rw [aj (nt c xs q)];exact q
    · rw [aj hb] at q;exact (I.hok b v q).stay (fun c v _ q=>q) (fun c q=>by rw [aj (no c _ q)];exact q) fun c xs q=>by rw [aj (nt c xs q)];exact q
def xi (t:TE):TE:=fun σ H Q=>∃ d kvs,H d=some (.dT kvs)∧∀ o,t σ (upd H d (.frz o (.dT kvs))) fun v H'=>H' d=some (.frz o (.dT kvs))∧Q v (upd H' d (.dT kvs))
theorem q_ {X:Cx} {e:Expr} {t:TE} (he:PE X e t):PE X e (xi t):=by
  intro pins s σ H Q I h;obtain ⟨d,kvs,ed,h⟩:=h;have hf:∀ o v,X.H₀ d≠some (.frz o v):=fun o v q=>by
    have z:=I.base.frzs d o v q;rw [ed] at z;cases z
  obtain ⟨z,hd,xs,rel,o,es,ep,ho,c⟩:=(show ObjOk X.prog X.w H s.heap d (.dT kvs) from I.hok d _ ed)
  have I1:Inv X pins σ (upd H d (.frz o (.dT kvs))) s:=I.retype ed (fun _ z=>nomatch z) (fun _ z=>nomatch z) (fun _ z=>nomatch z) hf ⟨ho,I.hok d _ ed⟩;refine thn (he pins s σ _ _ I1 (h o)) fun u s1 ⟨v,H1,I2,r,e1,q⟩=>⟨v,upd H1 d (.dT kvs),?_,r,q⟩
  exact I2.retype e1 (fun _ z=>nomatch z) (fun _ z=>nomatch z) (fun _ z=>nomatch z) hf (show ObjOk X.prog X.w H1 s1.heap d (.frz o (.dT kvs)) from I2.hok d _ e1).2
section
variable {prog:Program} {w:World} {A:Around} {E:Value→Shared→Prop} {s:Shared}
theorem mr {d:Addr} {o:Obj} {es:Array DictEntry} {ep:Nat} {Q:Value→Shared→Prop} (hd:(d == sysModules)=false) (ho:s.heap.get? d=some o) (hc:o.ExactDict) (hdat:o.data=.dict es ep)
    (hQ:Q (.ref s.heap.objs.size) { s with heap:=s.heap.push { cls:=.type "dict_keyiterator",data:=.fields #[.ref d,.int 0 0,.int es.size 0,.int ep 0] } }) :
    wpAny (model prog w) A (pyIter (.ref d)) Q E s:=by
  have hT:s.TypeIs (.ref d) "dict":=⟨o,ho,hc.1⟩
  refine wpAny_pyIter_slot hT F.slot_dict_iter (wpAny_call_entry F.slot_dict_iter hT F.entry_dict_iter ?_ (F.args_dict_iter_1 _));unfold Builtin.«dict.__iter__»;refine wpAny_bind ?_;unfold Builtin.Dict.dictSlotNone;refine wpAny_bind (wpAny_notOrdered_dict hT ?_);show wpAny _ _ (pure (Value.ref d)) _ _ s;refine wpAny_pure ?_;show wpAny _ _ (abT d >>= _) _ _ s;unfold abT;rw [if_neg (by rw [hd];exact aag)];refine wpAny_bind (wpAny_pure ?_);refine wpAny_bind (wpAny_dictEntries ho hdat ?_);refine wpAny_bind (wpAny_dictEpoch ho hdat ?_);refine wpAny_bind (wpAny_newObj_type (wpAny_pure ⟨_,rfl,"dict_keyiterator",_,⟨_,aao _ rfl,rfl⟩,F.slot_dict_keyiterator_next.lookup,?_⟩));simpa [rawInt] using hQ
theorem mf {it d:Addr} {i n ep:Nat} {o:Obj} {es:Array DictEntry} {e:DictEntry} {Q:Option Value→Shared→Prop} (hit:s.heap.IsKeyIter it d i n ep) (hod:s.heap.get? d=some o) (hdd:o.data=.dict es ep) (hsz:es.size=n) (hx:es[i]?=some e)
    (hQ:∀ h',h'.IsKeyIter it d (i+1) n ep→aaY it s.heap h'→Q (some e.key) { s with heap:=h' }) :
    wpAny (model prog w) A (pyNext (.ref it)) Q E s:=by
  obtain ⟨oi,ho,hc,hd⟩:=id hit;unfold pyNext;refine wpAny_bind (wpAny_attempt (wpAny_callSpecial?_slot (name:=abB "__next__") hit.typeIs abK
    (wpAny_call_entry abK hit.typeIs F.entry_dict_keyiterator_next ?_ (F.args_dict_keyiterator_next_1 _))))
  refine wpAny_bind (wpAny_pure ?_);refine wpAny_bind ?_;refine wpAny_bind ?_
  first|refine wpAny_bind (wpAny_typeNameOfWhole_keyiter hit.typeIs (wpAny_pure ?_))|refine wpAny_bind (wpAny_typeNameOf_keyiter hit.typeIs (wpAny_pure ?_))
  refine wpAny_bind (wpAny_fieldsOf ho hd ?_);have hown:abv "dict_keyiterator" = false:=by decide
  simp only [hown,aaH,if_false];show wpAny _ _ (if (Value.ref d == Value.none)=true then _ else _) _ _ s;rw [if_neg (show ¬ ((Value.ref d == Value.none)=true) from aag)];refine wpAny_bind (wpAny_pure ?_);refine wpAny_bind (wpAny_dictEntries hod hdd ?_);rw [if_neg (by rw [hsz];simp)];refine wpAny_bind (wpAny_pure ?_);refine wpAny_bind (wpAny_dictEpoch hod hdd ?_);rw [if_neg (by simp)];refine wpAny_pure ?_;simp only [show ¬ ((i:Int) < 0) from by lia,if_false,aba,hx];refine wpAny_bind ?_
  first|refine wpAny_bind (wpAny_typeNameOfWhole_keyiter hit.typeIs (wpAny_pure ?_))|refine wpAny_bind (wpAny_typeNameOf_keyiter hit.typeIs (wpAny_pure ?_))
  refine wpAny_bind (wpAny_isOneOf_keyiter hit.typeIs ?_);show wpAny _ _ (setField (.ref it) 1 (rawInt ((i:Int)+1)) >>= _) _ _ s;refine wpAny_bind (wpAny_setField ho hd (by simp) ?_);have hit':(s.heap.update it (adb (·.setIfInBounds 1 (rawInt ((i:Int)+1))))).IsKeyIter it d (i+1) n ep :=
    ⟨_,aa5 _ ho (Obj.isFreed_of_fields (acO hd _)),(Obj.cls_mapFields ..).trans hc,by rw [acO hd];simp [rawInt]⟩
  refine wpAny_bind (wpAny_holding ?_);refine wpAny_bind (wpAny_isOneOf_keyiter (s:={ s with heap:=s.heap.update it (adb (·.setIfInBounds 1 (rawInt ((i:Int)+1)))) }) hit'.typeIs ?_);show wpAny _ _ (pure e.key) _ _ _;exact wpAny_pure (wpAny_pure ⟨_,rfl,wpAny_pure (hQ _ hit' (aaR ..))⟩)
theorem mh {it d:Addr} {i n ep:Nat} {o:Obj} {es:Array DictEntry} {Q:Option Value→Shared→Prop} (hh:A.handled=none) (hit:s.heap.IsKeyIter it d i n ep) (hod:s.heap.get? d=some o) (hdd:o.data=.dict es ep) (hsz:es.size=n) (hge:es.size≤i)
    (hQ:∀ h',Heap.ExtBut it s.heap h'→Q none { s with heap:=h' }):wpAny (model prog w) A (pyNext (.ref it)) Q E s:=by
  obtain ⟨oi,ho,hc,hd⟩:=id hit;unfold pyNext;refine wpAny_bind (wpAny_attempt (wpAny_callSpecial?_slot (name:=abB "__next__") hit.typeIs abK
    (wpAny_call_entry abK hit.typeIs F.entry_dict_keyiterator_next ?_ (F.args_dict_keyiterator_next_1 _))))
  refine wpAny_bind (wpAny_pure ?_);refine wpAny_bind ?_;refine wpAny_bind ?_
  first|refine wpAny_bind (wpAny_typeNameOfWhole_keyiter hit.typeIs (wpAny_pure ?_))|refine wpAny_bind (wpAny_typeNameOf_keyiter hit.typeIs (wpAny_pure ?_))
  refine wpAny_bind (wpAny_fieldsOf ho hd ?_);have hown:abv "dict_keyiterator" = false:=by decide
  simp only [hown,aaH,if_false];show wpAny _ _ (if (Value.ref d == Value.none)=true then _ else _) _ _ s;rw [if_neg (show ¬ ((Value.ref d == Value.none)=true) from aag)];refine wpAny_bind (wpAny_pure ?_);refine wpAny_bind (wpAny_dictEntries hod hdd ?_);rw [if_neg (by rw [hsz];simp)];refine wpAny_bind (wpAny_pure ?_);refine wpAny_bind (wpAny_dictEpoch hod hdd ?_);rw [if_neg (by simp)];refine wpAny_pure ?_;simp only [show ¬ ((i:Int) < 0) from by lia,if_false,aba,acj hge];refine wpAny_bind ?_
  first|refine wpAny_bind (wpAny_typeNameOfWhole_keyiter hit.typeIs (wpAny_pure ?_))|refine wpAny_bind (wpAny_typeNameOf_keyiter hit.typeIs (wpAny_pure ?_))
  show wpAny _ _ (setField (.ref it) 0 .none >>= _) _ _ s;refine wpAny_bind (wpAny_setField ho hd (by simp) ?_);show wpAny _ _ (newExc (.type "StopIteration") [] >>= _) _ _ _;refine wpAny_bind ?_;simp only [newExc,newTuple];refine wpAny_bind (wpAny_newObj_type ?_ (by size_fits));refine wpAny_bind (m:=firstArgMember _ _) (wpAny_of_eq (a:=Value.none) (by first|rfl|(simp only [firstArgMember];rfl)) ?_);refine wpAny_newObj_type ?_ (by size_fits);simp only [raiseNew];refine wpAny_bind (wpAny_handled ?_);rw [show A.in1.handled=none from hh];refine wpAny_bind (wpAny_pure (wpAny_throw ?_));refine wpAny_bind (wpAny_isInstance (T:="StopIteration") (b:=true) ⟨_,aao _ rfl,rfl⟩ isSubtype_stop ?_);exact wpAny_pure (hQ _ (((aaR ..).extBut.push _).push _))
end
def Itk (d:Addr) (o:Obj) (kvs:List (List Key × V)):It :=
  ⟨fun i H=>H d=some (.frz o (.dT kvs))∧i < kvs.length,fun i H x H'=>∃ b,x=.ref b∧H'=H∧∀ kv,kvs[i]?=some kv→H b=some (.tup (kv.1.map kV)),fun i H=>H d=some (.frz o (.dT kvs))∧kvs.length≤i⟩
theorem Paired.nth {α β:Type} {R:α→β→Prop} {l:List α} {m:List β} (p:Paired R l m):∀ (i:Nat) (x:α) (y:β),l[i]?=some x→m[i]?=some y→R x y:=by
  induction p with
  | nil=>intro i x y h;cases h
  | cons r t ih =>
    intro i x y h h';cases i with
    | zero=>cases h;cases h';exact r
    | succ i=>exact ih i x y h h'
theorem nN {P:Program} {w:World} {H:Hp} {h:Heap} {d:Addr} {o:Obj} {es:Array DictEntry} {ep:Nat} {kvs:List (List Key × V)} (ok:HOk P w H h) (e:H d=some (.frz o (.dT kvs))) (hd:o.data=.dict es ep) :
    h.get? d=some o∧o.ExactDict∧(d == sysModules)=false∧es.size=kvs.length∧∃ xs,KT H kvs xs∧es.toList=xs.map (entryOfKey (tupleKind (ar P w))):=by
  obtain ⟨ho,z,hs,xs,rel,o2,es2,ep2,ho2,c,dat,l,nd⟩:=(show ObjOk P w H h d (.frz o (.dT kvs)) from ok d _ e)
  rw [ho] at ho2;cases ho2;rw [hd] at dat;cases dat;exact ⟨ho,c,hs,by rw [size_of_entries l,← aav rel],xs,rel,l⟩
theorem pi {P:Program} {w:World} {K:aab} {tg:Expr} (d it:Addr) (o:Obj) (kvs:List (List Key × V)) (es:Array DictEntry) (ep:Nat) (hd:o.data=.dict es ep):Turn P w K tg (Itk d o kvs) [it] it (fun i h=>h.IsKeyIter it d i kvs.length ep) where
  mem:=by simp
  obj:=fun i h st b hb=>by
    have e:b=it:=by simpa using hb
    subst e;obtain ⟨o,e,c,d⟩:=st;exact ⟨o,e,fun v z=>by rw [d] at z;cases z⟩
  keep:=fun i h h' st k=>by
    obtain ⟨o,e,r⟩:=st;exact ⟨o,k it (by simp) o e,r⟩
  item:=by
    intro X hP hw hK hc i pins s σ H E I hf st hg;subst hP hw hK;obtain ⟨e,hlt⟩:=hg;obtain ⟨ho,_,_,hsz,xs,rel,l⟩:=nN I.hok e hd;obtain ⟨f0,f1,f2,f3,f4,f5⟩:=hf it (by simp);have lx:=aav rel;have hx:xs[i]?=some xs[i]:=aac (by lia);refine mf st ho hd hsz (e:=entryOfKey (tupleKind (ar X.prog X.w)) xs[i]) (by rw [entry_at l i,hx];rfl) fun h' st' sb=>?_;have I1:Inv X pins σ H { s with heap:=h' }:=I.turned (t':=s.toks) (fun b o hb e=>(sb.2 b hb).trans e) f0 f1 f3 f4 f5;obtain ⟨oi,e1,c1,d1⟩:=id st';refine ⟨_,rfl,iY (s:={ s with heap:=h' }) e1 c1 d1 (by decide) ⟨.ref xs[i].2.1,H,I1,rfl,⟨_,rfl,rfl,fun kv hkv=>?_⟩,st',fun b hb=>(hf b hb).1⟩⟩;exact (Paired.nth rel i kv _ hkv hx).2.1
  done:=by
    intro X hP hw hK hc i pins s σ H E I hf st hg;subst hP hw hK;obtain ⟨e,hge⟩:=hg;obtain ⟨ho,_,_,hsz,xs,rel,l⟩:=nN I.hok e hd;obtain ⟨f0,f1,f2,f3,f4,f5⟩:=hf it (by simp);exact mh (I.ok.hd hc) st ho hd hsz (by lia) fun h' eb=>⟨rfl,I.turned (t':=s.toks) (fun b o hb e=>eb b o hb e) f0 f1 f3 f4 f5⟩
  self:=fun _ _ _ _ _ st h=>wpAny_pyIter_keyiter st h
def wL (tl:TE):TI:=fun σ H R=>tl σ H fun x H1=>∃ d o kvs,x=.ref d∧H1 d=some (.frz o (.dT kvs))∧R (Itk d o kvs) H1
theorem oG {X:Cx} {tg l:Expr} {tl:TE} (hl:PE X l tl):PI X tg l (wL tl):=by
  intro pins s σ H R I h;refine thn (hl pins s σ H _ I h) fun v s1 ⟨x,H1,I1,r1,q1⟩=>?_;obtain ⟨d,o,kvs,e,hq,q⟩:=q1;subst e;cases r1;obtain ⟨ho,z,hs,xs,rel,o2,es,ep,ho2,c,dat,_⟩:=(show ObjOk X.prog X.w H1 s1.heap d (.frz o (.dT kvs)) from I1.hok d _ hq)
  rw [ho] at ho2;cases ho2;obtain ⟨_,_,_,hsz,_⟩:=nN I1.hok hq dat;refine mr hs ho c dat ?_;refine ⟨s1.heap.objs.size,[s1.heap.objs.size],_,_,H1,rfl,I1.kept (t':=s1.toks) fun b o e=>aad _ e,pi d _ o kvs es ep dat,⟨_,aao _ rfl,rfl,by rw [hsz];rfl⟩,fun b hb=>?_,q⟩;have e:b=s1.heap.objs.size:=by simpa using hb
  subst e;exact I1.fpOk (aaf _) (I1.hok.fresh (aaf _))
end L2
namespace L2
open PySem PySem.Spec PyProof.Rows PySem.W
section
variable {prog:Program} {w:World} {A:Around} {E:Value→Shared→Prop} {s:Shared}
theorem jt (d:Addr) (hd:(d == sysModules)=false) :
    MeetsIn prog w (Builtin.«dict.values» ⟨[.ref d],[]⟩) (fun _ R s=>s.TypeIs (.ref d) "dict" ∧
      R (.ok (.ret (.ref s.heap.objs.size))) { s with heap:=s.heap.push { cls:=.type "dict_values",data:=.fields #[.ref d] } }) :=
  .of_wp fun A R s ⟨hm,h⟩=>by
    refine wpAny_bind ?_;unfold Builtin.Dict.noArgs;refine wpAny_bind (wpAny_notOrdered_dict hm ?_);show wpAny _ _ (pure d) _ _ s;refine wpAny_pure ?_;show wpAny _ _ (abT d >>= _) _ _ s;unfold abT;rw [if_neg (by rw [hd];exact aag)];refine wpAny_bind (wpAny_pure ?_);exact wpAny_bind (wpAny_newObj_type (wpAny_pure ⟨_,rfl,h⟩))
theorem qa {v d:Addr} {o:Obj} {es:Array DictEntry} {ep:Nat} {Q:Value→Shared→Prop} (hv:s.heap.IsValuesView v d) (ho:s.heap.get? d=some o) (hdat:o.data=.dict es ep)
    (hQ:Q (.ref s.heap.objs.size) { s with heap:=s.heap.push { cls:=.type "dict_valueiterator",data:=.fields #[.ref d,.int 0 0,.int es.size 0,.int ep 0] } }) :
    wpAny (model prog w) A (pyIter (.ref v)) Q E s:=by
  obtain ⟨ov,hov,hcv,hdv⟩:=id hv;refine wpAny_pyIter_slot hv.typeIs F.slot_dict_values_iter (wpAny_call_entry F.slot_dict_values_iter hv.typeIs F.entry_dict_values_iter ?_ (F.args_dict_values_iter_1 _));unfold Builtin.«dict_values.__iter__»;refine wpAny_bind (wpAny_pure ?_);refine wpAny_bind ?_;unfold Builtin.Dict_items.dictOf;refine wpAny_bind (wpAny_field hov hdv (x:=.ref d) rfl (wpAny_pure ?_));refine wpAny_bind ?_;unfold Builtin.Dict_items.newIterator;refine wpAny_bind (wpAny_dictEntries ho hdat ?_);refine wpAny_bind (wpAny_dictEpoch ho hdat ?_);have hown:abv "dict_valueiterator" = false:=by decide
  simp only [hown,aaH,if_false];refine wpAny_newObj_type (wpAny_pure ⟨_,rfl,"dict_valueiterator",_,⟨_,aao _ rfl,rfl⟩,F.slot_dict_valueiterator_next.lookup,?_⟩);simpa [rawInt] using hQ
theorem rA {it d:Addr} {i n ep:Nat} {o:Obj} {es:Array DictEntry} {e:DictEntry} {Q:Option Value→Shared→Prop} (hit:s.heap.IsValIter it d i n ep) (hod:s.heap.get? d=some o) (hdd:o.data=.dict es ep) (hsz:es.size=n) (hx:es[i]?=some e)
    (hQ:∀ h',h'.IsValIter it d (i+1) n ep→aaY it s.heap h'→Q (some e.val) { s with heap:=h' }) :
    wpAny (model prog w) A (pyNext (.ref it)) Q E s:=by
  obtain ⟨oi,ho,hc,hd⟩:=id hit;unfold pyNext;refine wpAny_bind (wpAny_attempt (wpAny_callSpecial?_slot (name:=abB "__next__") hit.typeIs abG
    (wpAny_call_entry abG hit.typeIs acT ?_ (acR _))))
  refine wpAny_bind (wpAny_pure ?_);refine wpAny_bind ?_;refine wpAny_bind ?_
  first|refine wpAny_bind (wpAny_typeNameOfWhole_valiter hit.typeIs (wpAny_pure ?_))|refine wpAny_bind (wpAny_typeNameOf_valiter hit.typeIs (wpAny_pure ?_))
  refine wpAny_bind (wpAny_fieldsOf ho hd ?_);have hown:abv "dict_valueiterator" = false:=by decide
  simp only [hown,aaH,if_false];show wpAny _ _ (if (Value.ref d == Value.none)=true then _ else _) _ _ s;rw [if_neg (show ¬ ((Value.ref d == Value.none)=true) from aag)];refine wpAny_bind (wpAny_pure ?_);refine wpAny_bind (wpAny_dictEntries hod hdd ?_);rw [if_neg (by rw [hsz];simp)];refine wpAny_bind (wpAny_pure ?_);refine wpAny_bind (wpAny_dictEpoch hod hdd ?_);rw [if_neg (by simp)];refine wpAny_pure ?_;simp only [show ¬ ((i:Int) < 0) from by lia,if_false,aba,hx];refine wpAny_bind ?_
  first|refine wpAny_bind (wpAny_typeNameOfWhole_valiter hit.typeIs (wpAny_pure ?_))|refine wpAny_bind (wpAny_typeNameOf_valiter hit.typeIs (wpAny_pure ?_))
  refine wpAny_bind (wpAny_isOneOf_valiter hit.typeIs ?_);show wpAny _ _ (setField (.ref it) 1 (rawInt ((i:Int)+1)) >>= _) _ _ s;refine wpAny_bind (wpAny_setField ho hd (by simp) ?_);have hit':(s.heap.update it (adb (·.setIfInBounds 1 (rawInt ((i:Int)+1))))).IsValIter it d (i+1) n ep :=
    ⟨_,aa5 _ ho (Obj.isFreed_of_fields (acO hd _)),(Obj.cls_mapFields ..).trans hc,by rw [acO hd];simp [rawInt]⟩
  refine wpAny_bind (wpAny_holding ?_);refine wpAny_bind (wpAny_isOneOf_valiter (s:={ s with heap:=s.heap.update it (adb (·.setIfInBounds 1 (rawInt ((i:Int)+1)))) }) hit'.typeIs ?_);refine wpAny_bind (wpAny_isOneOf_valiter (s:={ s with heap:=s.heap.update it (adb (·.setIfInBounds 1 (rawInt ((i:Int)+1)))) }) hit'.typeIs ?_);show wpAny _ _ (pure e.val) _ _ _;exact wpAny_pure (wpAny_pure ⟨_,rfl,wpAny_pure (hQ _ hit' (aaR ..))⟩)
theorem pQ {it d:Addr} {i n ep:Nat} {o:Obj} {es:Array DictEntry} {Q:Option Value→Shared→Prop} (hh:A.handled=none) (hit:s.heap.IsValIter it d i n ep) (hod:s.heap.get? d=some o) (hdd:o.data=.dict es ep) (hsz:es.size=n) (hge:es.size≤i)
    (hQ:∀ h',Heap.ExtBut it s.heap h'→Q none { s with heap:=h' }):wpAny (model prog w) A (pyNext (.ref it)) Q E s:=by
  obtain ⟨oi,ho,hc,hd⟩:=id hit;unfold pyNext;refine wpAny_bind (wpAny_attempt (wpAny_callSpecial?_slot (name:=abB "__next__") hit.typeIs abG
    (wpAny_call_entry abG hit.typeIs acT ?_ (acR _))))
  refine wpAny_bind (wpAny_pure ?_);refine wpAny_bind ?_;refine wpAny_bind ?_
  first|refine wpAny_bind (wpAny_typeNameOfWhole_valiter hit.typeIs (wpAny_pure ?_))|refine wpAny_bind (wpAny_typeNameOf_valiter hit.typeIs (wpAny_pure ?_))
  refine wpAny_bind (wpAny_fieldsOf ho hd ?_);have hown:abv "dict_valueiterator" = false:=by decide
  simp only [hown,aaH,if_false];show wpAny _ _ (if (Value.ref d == Value.none)=true then _ else _) _ _ s;rw [if_neg (show ¬ ((Value.ref d == Value.none)=true) from aag)];refine wpAny_bind (wpAny_pure ?_);refine wpAny_bind (wpAny_dictEntries hod hdd ?_);rw [if_neg (by rw [hsz];simp)];refine wpAny_bind (wpAny_pure ?_);refine wpAny_bind (wpAny_dictEpoch hod hdd ?_);rw [if_neg (by simp)];refine wpAny_pure ?_;simp only [show ¬ ((i:Int) < 0) from by lia,if_false,aba,acj hge];refine wpAny_bind ?_
  first|refine wpAny_bind (wpAny_typeNameOfWhole_valiter hit.typeIs (wpAny_pure ?_))|refine wpAny_bind (wpAny_typeNameOf_valiter hit.typeIs (wpAny_pure ?_))
  show wpAny _ _ (setField (.ref it) 0 .none >>= _) _ _ s;refine wpAny_bind (wpAny_setField ho hd (by simp) ?_);show wpAny _ _ (newExc (.type "StopIteration") [] >>= _) _ _ _;refine wpAny_bind ?_;simp only [newExc,newTuple];refine wpAny_bind (wpAny_newObj_type ?_ (by size_fits));refine wpAny_bind (m:=firstArgMember _ _) (wpAny_of_eq (a:=Value.none) (by first|rfl|(simp only [firstArgMember];rfl)) ?_);refine wpAny_newObj_type ?_ (by size_fits);simp only [raiseNew];refine wpAny_bind (wpAny_handled ?_);rw [show A.in1.handled=none from hh];refine wpAny_bind (wpAny_pure (wpAny_throw ?_));refine wpAny_bind (wpAny_isInstance (T:="StopIteration") (b:=true) ⟨_,aao _ rfl,rfl⟩ isSubtype_stop ?_);exact wpAny_pure (hQ _ (((aaR ..).extBut.push _).push _))
end
theorem oe {H:Hp} {P:Program} {w:World}:∀ {kvs:List (List Key × V)} {xs:List (List Key × Addr × Value)},KT H kvs xs→Vals (kvs.map (·.2)) (xs.map (fun x=>x.2.2))
  | _,_,.nil=>.nil
  | _,_,.cons r t=>.cons r.2.2 (oe (P:=P) (w:=w) t)
end L2
namespace L2
theorem u1 {a:Nat} (h:a+64 < PySem.cLine):a+1 < PySem.cLine:=by lia
open PySem PySem.Spec PyProof.Rows
section
variable {prog:Program} {w:World} {A:Around} {E:Value→Shared→Prop} {s:Shared}
end
open PySem PySem.Spec PyProof.Rows
open PySem PySem.Spec PyProof.Rows
def Its (z:Str):It :=
  ⟨fun i _=>i < z.cps.size,fun i H x H'=>H'=H∧∃ c,z.cps[i]?=some c∧x=.str ⟨#[c]⟩,fun i _=>z.cps.size≤i⟩
theorem qx {P:Program} {w:World} {K:aab} {tg:Expr} (it:Addr) (z:Str) (t:Tok):Turn P w K tg (Its z) [it] it (fun i h=>h.IsStrIter it "str_ascii_iterator" z t i) where
  mem:=by simp
  obj:=fun i h st b hb=>by
    have e:b=it:=by simpa using hb
    subst e;obtain ⟨o,e,c,d⟩:=st;exact ⟨o,e,fun v z=>by rw [d] at z;cases z⟩
  keep:=fun i h h' st k=>by
    obtain ⟨o,e,r⟩:=st;exact ⟨o,k it (by simp) o e,r⟩
  item:=by
    intro X hP hw hK hc i pins s σ H E I hf st hg;subst hP hw hK;have hg:i < z.cps.size:=hg;obtain ⟨f0,f1,f2,f3,f4,f5⟩:=hf it (by simp);have hx:z.cps[i]?=some z.cps[i]:=by simp [hg]
    refine wpAny_pyNext_ascii_item st (c:=z.cps[i]) hx fun h' st' sb=>?_;have I1:Inv X pins σ H { s with heap:=h',toks:=s.toks+1 }:=I.turned (t':=s.toks+1) (fun b o hb e=>(sb.2 b hb).trans e) f0 f1 f3 f4 f5;obtain ⟨o,e,c,d⟩:=id st';exact ⟨_,rfl,iY (s:={ s with heap:=h',toks:=s.toks+1 }) e c d (by decide) ⟨.str ⟨#[z.cps[i]]⟩,H,I1,⟨_,rfl⟩,⟨rfl,_,hx,rfl⟩,st',fun b hb=>(hf b hb).1⟩⟩
  done:=by
    intro X hP hw hK hc i pins s σ H E I hf st hg;subst hP hw hK;have hg:z.cps.size≤i:=hg;obtain ⟨f0,f1,f2,f3,f4,f5⟩:=hf it (by simp);exact wpAny_pyNext_ascii_end (I.ok.hd hc) st (by simp [hg]) fun h' eb=>⟨rfl,I.turned (t':=s.toks) (fun b o hb e=>eb b o hb e) f0 f1 f3 f4 f5⟩
  self:=fun _ _ _ _ _ st h=>wpAny_pyIter_striter_ascii st h
def xz (tl:TE):TI:=fun σ H R=>tl σ H fun x H1=>∃ z,x=.str z∧z.cps.all (· < 128)=true∧R (Its z) H1
theorem ko {X:Cx} {tg l:Expr} {tl:TE} (hl:PE X l tl):PI X tg l (xz tl):=by
  intro pins s σ H R I h;refine thn (hl pins s σ H _ I h) fun v s1 ⟨x,H1,I1,r1,q1⟩=>?_;obtain ⟨z,e,ha,q⟩:=q1;subst e;obtain ⟨t,rfl⟩:=r1;refine wpAny_pyIter_ascii ha ?_;refine ⟨s1.heap.objs.size,[s1.heap.objs.size],_,_,H1,rfl,I1.kept (t':=s1.toks) fun b o e=>aad _ e,qx _ z t,⟨_,aao _ rfl,rfl,rfl⟩,fun b hb=>?_,q⟩;have e:b=s1.heap.objs.size:=by simpa using hb
  subst e;exact I1.fpOk (aaf _) (I1.hok.fresh (aaf _))
def v_ (t u:TS):TS:=fun D σ H=>∃ J:St→Hp→Prop,t { D with nx:=J } σ H∧∀ σ' H',J σ' H'→u D σ' H'
theorem dQ {X:Cx} {st:Stmt} {rest:List Stmt} {t u:TS} (h1:PS X st t) (h2:PSs X rest u):PSs X (st :: rest) (v_ t u):=by
  intro pins s σ H D I h;obtain ⟨J,h,hJ⟩:=h;refine wpAny_execs_cons (thn (h1 pins s σ H { D with nx:=J } I h) fun f s1 q=>?_);cases f with
  | next =>
    obtain ⟨σ',H',I',q⟩:=q;exact h2 pins s1 σ' H' D I' (hJ σ' H' q)
  | ret v=>exact q
  | brk=>exact q
  | cont=>exact q
end L2
namespace PySem
open Sem (wp)
namespace F
end F
section
variable {prog:Program} {w:World} {A:Around} {E:Value→Shared→Prop} {h:Heap} {g:Array GenState} {d:Drawn} {t:Nat} {os:OsState} {a:Addr} {vs:Array Value}
end
end PySem
namespace L2
open PySem PySem.Spec PyProof.Rows
section
variable {prog:Program} {w:World} {A:Around} {E:Value→Shared→Prop} {s:Shared}
theorem cr:entryFor table "dict.update.loop" = some Builtin.«dict.update.loop»:=entryFor_of_tree (by kernel_rfl)
theorem cm:plainId "dict.update.loop" = true:=by decide +kernel
end
theorem Paired.app {α β:Type} {R:α→β→Prop} {a c:List α} {b d:List β} (h:Paired R a b) (k:Paired R c d):Paired R (a++c) (b++d):=by
  induction h with
  | nil=>exact k
  | cons x _ ih=>exact .cons x ih
open PySem PySem.Spec PyProof.Rows
theorem dg {X:Cx} (hc:X.calm=true):bv X (.builtin "all") (fun xs H Q=>∃ (p:Addr) (bs:List Bool),xs=[.ref p]∧SqL X.K H p (bs.map V.bl)∧Q (.bl (bs.all id)) H):=by
  intro pins s σ H xs us Q I r h;obtain ⟨p,bs,rfl,hq,q⟩:=h;obtain ⟨u,rfl,rx⟩:=ci r;cases rx;obtain ⟨its,r',pl,hz⟩:=I.list hq;have hlen:=r'.length;rw [aaa] at hlen;have hps:p < s.heap.objs.size:=by obtain ⟨o,n,ho,_⟩:=pl;exact aal ho
  refine call_all_walk (wpAny_pyIter_list pl.isList ?_);refine ⟨s.heap.objs.size,_,_,_,_,_,fun i=>bs.getD i true,rfl,Walks.list (A:=X.A.in1) (I.ok.hd hc) s.heap.objs.size p (aaB hps) its.toArray,⟨⟨_,aao _ rfl,rfl,rfl⟩,pl.isList.at fun o x=>aad _ x⟩,?_,?_⟩
  · intro i v s' Q' E' hP hQ';have hv:its.toArray[i]?=some v:=hP;have hv2:its[i]?=some v:=by simpa using hv
    have hi:i < bs.length:=by
      have:=(aaA.mp hv2).1;lia
    have hb:(bs.map V.bl)[i]?=some (.bl bs[i]):=by rw [aak,aac hi];rfl
    obtain ⟨u,hu,ru⟩:=r'.get hb;rw [hv2] at hu;cases hu;cases ru;have e:bs.getD i true=bs[i]:=by rw [aat,aac hi];rfl
    have hQ2:Q' (bs.getD i true) s':=hQ';rw [e] at hQ2;exact wpAny_pure hQ2
  · intro h' tk k;have I2:Inv X pins σ H { s with heap:=h',toks:=tk }:=by
      refine I.turnedL (fp:=[s.heap.objs.size]) (t':=tk) (fun b o hb x=>k b o (by simpa using hb) (aad _ x)) fun b hb=>?_;have e:b=s.heap.objs.size:=by simpa using hb
      subst e;exact I.fpOk (aaf _) (I.hok.fresh (aaf _))
    have e:(aaO its.toArray.size).all (fun i=>bs.getD i true)=bs.all id:=by
      have e1:its.toArray.size=bs.length:=by simp;lia
      rw [e1];apply Bool.eq_iff_iff.mpr;rw [aaU,aaU];constructor
      · intro hh b hb;obtain ⟨i,hi,e⟩:=List.getElem_of_mem hb;have:=hh i (aaK.mpr hi);rw [aat,aac hi] at this;rw [← e];exact this
      · intro hh i hi;have hi:=aaK.mp hi;rw [aat,aac hi];exact hh _ (abA hi)
    rw [e];exact ⟨.bl (bs.all id),H,I2,rfl,q⟩
open PySem PySem.Spec PyProof.Rows
theorem mM {prog:Program} {w:World} {A:Around} (hh:A.handled=none) (I d:Addr) (hne:d≠I) (o:Obj) (es:Array DictEntry) (ep:Nat) (hdd:o.data=.dict es ep) :
    Walks prog w A I [I,d] [I] es.size (fun i v=>∃ e,es[i]?=some e∧v=e.key) (fun i h=>h.IsKeyIter I d i es.size ep∧h.get? d=some o) where
  sub:=fun b hb=>by simp at hb;simp [hb]
  frame:=fun _ _ _ st hk=>⟨by obtain ⟨o,e,r⟩:=st.1;exact ⟨o,hk I (by simp) o e,r⟩,hk d (by simp) o st.2⟩
  item:=fun i s Q E hi st hQ=>by
    have hx:es[i]?=some es[i]:=aaW hi;refine mf st.1 st.2 hdd rfl hx fun h' hit' hs'=>?_;exact hQ _ h' s.toks ⟨_,hx,rfl⟩ ⟨hit',(hs'.2 d hne).trans st.2⟩ fun b o hb e=>hs'.extBut b o (fun h=>hb (by simp [h])) e
  done:=fun s Q E st hQ=>mh hh st.1 st.2 hdd rfl (aaf _) fun h' he'=>hQ h' s.toks fun b o hb e=>he' b o (fun h=>hb (by simp [h])) e
  self:=fun _ _ _ _ st hQ=>wpAny_pyIter_keyiter st.1 hQ
theorem jC {prog:Program} {w:World} {d:Addr} {o:Obj} {es:Array DictEntry} {ep:Nat} (hs:(d == sysModules)=false) (hx:o.ExactDict) (hdd:o.data=.dict es ep):PySem.W.KdlSrc prog w "dict" d d es.size (fun i v=>∃ e,es[i]?=some e∧v=e.key) (fun h=>h.get? d=some o) where
  type:=fun _ hm=>⟨_,hm,hx.1⟩
  there:=fun _ hm=>⟨aal hm,aal hm⟩
  keep:=fun _ _ hm hk=>hk d (.inl rfl) o hm
  notList:=by decide
  notTuple:=by decide
  hint:=fun _ _ _ _ hm hq=>PySem.W.kdl_hint_dict ⟨_,hm,hx.1⟩ hq
  iter:=fun _ _ hh hm=>⟨_,_,(fun _ _ hq=>mr hs hm hx hdd hq),mM hh _ d (aaB (aal hm)) o es ep hdd,⟨⟨_,aao _ rfl,rfl,rfl⟩,aad _ hm⟩⟩
open PySem PySem.Spec PyProof.Rows
theorem kU {elt tg iter tg2 iter2:Expr} {ifs ifs2:List Expr} {G:List Comprehension} {k:Nat} (hk:G[k]?=some ⟨tg,iter,ifs,0⟩) (hk2:G[k+1]?=some ⟨tg2,iter2,ifs2,0⟩) {scope:Scope} {pos:Pos} {it acc:Value} {env:Env} :
    compTurn (.ListComp elt G scope pos) k it acc env=(do
      standAt iter.pos
      match ← pyNext it with
      | none=>pure (.done .next)
      | some v =>
        letOwnedTupleGo tg it v
        assign tg env v
        let mut ok:=true
        for c in ifs do
          if ok then ok ← isTrue c env (eval c env)
        if ok then do
          let x ← eval iter2 env
          standAt iter2.pos
          let x ← foldedSetIterable iter2 env x
          let i ← holding [x] (pyIter x)
          let _ ← runOwn (.compStart (.ListComp elt G scope pos) (k+1) i acc env) env
          again (.compLoop (.ListComp elt G scope pos) k it acc env)
        else again (.compLoop (.ListComp elt G scope pos) k it acc env)):=by
  unfold compTurn;simp only [hk,hk2];rfl
theorem nU {prog:Program} {w:World} {A:Around} {R:Result→Shared→Prop} {s:Shared} {elt tg iter tg2 iter2:Expr} {ifs ifs2:List Expr} {G:List Comprehension} {k:Nat} (hk:G[k]?=some ⟨tg,iter,ifs,0⟩) (hk2:G[k+1]?=some ⟨tg2,iter2,ifs2,0⟩) {scope:Scope} {pos:Pos} {it acc:Value} {env:Env} (J:Nat→Shared→Prop) (hs2:∀ x,foldedSetIterable iter2 env x=pure x)
    (turn:∀ n s,J n s→wpAny (model prog w) A (pyNext it) (fun r s₁=>match r with
      | none=>R (.ok .next) s₁
      | some v=>wpAny (model prog w) A (letOwnedTupleGo tg it v) (fun _ s₁'=>wpAny (model prog w) A (assign tg env v) (fun _ s₂ =>
          wpAny (model prog w) A (forIn ifs true fun c r=>if r=true then do let ok ← isTrue c env (eval c env);pure (ForInStep.yield ok) else pure (ForInStep.yield r)) (fun ok s₃ =>
            if ok=true then wpAny (model prog w) A (eval iter2 env) (fun x s₄=>wpAny (model prog w) A (pyIter x) (fun it2 s₅ =>
              codeAny (model prog w) A (.compStart (.ListComp elt G scope pos) (k+1) it2 acc env) (fun r s₆=>match r with|.ok _=>∃ m,m < n∧J m s₆|.error _=>False) s₅) (fun _ _=>False) s₄) (fun _ _=>False) s₃
            else ∃ m,m < n∧J m s₃) (fun _ _=>False) s₂) (fun _ _=>False) s₁') (fun _ _=>False) s₁) (fun _ _=>False) s)
    (n:Nat) (h:J n s) :
    codeAny (model prog w) A (.compLoop (.ListComp elt G scope pos) k it acc env) R s:=by
  refine codeAny_loop rfl J (fun n s hI=>?_) n h;show wpAny _ A ((compTurn (.ListComp elt G scope pos) k it acc env).onRaise (fun x=>do noteFrame x env;theTreesLotGoes x)) _ _ s;refine wpAny_noted ?_;rw [kU hk hk2];refine wpAny_bind (wpAny_standAt (wpAny_bind (wpAny_mono (turn n s hI) (fun r s₁ h₁=>?_) fun _ _ h'=>h'.elim)));cases r with
  | none=>exact wpAny_pure h₁
  | some v =>
    refine wpAny_bind (wpAny_mono h₁ (fun _ s₁' h₁'=>?_) fun _ _ h'=>h'.elim);refine wpAny_bind (wpAny_mono h₁' (fun _ s₂ h₂=>wpAny_bind (wpAny_mono h₂ (fun ok s₃ h₃=>?_) fun _ _ h'=>h'.elim)) fun _ _ h'=>h'.elim);cases ok with
    | false=>exact wpAny_pure ⟨rfl,h₃⟩
    | true =>
      refine wpAny_bind (wpAny_mono h₃ (fun x s₄ h₄=>?_) fun _ _ h'=>h'.elim);refine wpAny_bind (wpAny_standAt (wpAny_bind (wpAny_of_eq (hs2 x) (wpAny_bind (wpAny_holding (wpAny_mono h₄ (fun it2 s₅ h₅=>?_) fun _ _ h'=>h'.elim))))));refine wpAny_bind (wpAny_runOwn (codeAny_mono h₅ fun r s₆ h₆=>?_));cases r with
      | ok f=>exact wpAny_pure ⟨rfl,h₆⟩
      | error e=>exact h₆.elim
theorem jb {prog:Program} {w:World} {A:Around} {R:Result→Shared→Prop} {s:Shared} {elt tg2 iter2:Expr} {ifs2:List Expr} {G:List Comprehension} {k:Nat} (hk:G[k]?=some ⟨tg2,iter2,ifs2,0⟩) {scope:Scope} {pos:Pos} {it acc:Value} {env:Env}
    (h0:codeAny (model prog w) A (.compLoop (.ListComp elt G scope pos) k it acc env) R s)
    (h:wpAny (model prog w) A (pyIter it) (fun it' s'=>codeAny (model prog w) A (.compLoop (.ListComp elt G scope pos) k it' acc env) R s')
      (notedBy (model prog w) A env fun x s'=>R (.error x) s') s) :
    codeAny (model prog w) A (.compStart (.ListComp elt G scope pos) k it acc env) R s:=by
  refine codeAny_of_tree ?_;show wpAny _ _ ((compStart (.ListComp elt G scope pos) k it acc env).onRaise (fun x=>do noteFrame x env;standAt theWindowsPlace)) _ _ s;refine wpAny_notedAt ?_;unfold compStart;rw [show (clausesOf (.ListComp elt G scope pos))[k]?=some ⟨tg2,iter2,ifs2,0⟩ from hk];show wpAny _ _ (ask >>= _) _ _ s;refine wpAny_bind (wpAny_askSetting (wpAny_ite ?_));split
  · first
      | exact wpAny_bind (wpAny_pure (wpAny_pure (And.intro rfl h0)))
      | exact wpAny_pure (And.intro rfl h0)
  · first
      | exact wpAny_bind (wpAny_rule (wpAny_bind (wpAny_standAt (wpAny_bind (wpAny_mono h (fun it' s' h'=>wpAny_pure (And.intro rfl h')) fun _ _ x=>x)))))
      | (refine wpAny_bind (wpAny_rule ?_);show wpAny _ _ (standAt iter2.pos >>= _) _ _ s;exact wpAny_bind (wpAny_standAt (wpAny_bind (wpAny_mono h (fun it' s' h'=>wpAny_pure (And.intro rfl h')) fun _ _ x=>x))))
structure PCl (Y:Cx) (c:Comprehension) (r:TI × TG × TT):Prop where
  as:c.is_async=0
  it:PI Y c.target c.iter r.1
  tg:PG Y c.target r.2.1
  fs:gN Y c.ifs r.2.2
  st:∀ E x,foldedSetIterable c.iter E x=pure x
abbrev sS (g2:TG) (tt2:TT) (te:TE) (ys:List V) (σ2:St) (Fin:List V→St→Hp→Prop) (J2:It) (H4:Hp):Prop:=∃ W2:Nat→Nat→List V→St→Hp→Prop,(∃ m,W2 0 m ys σ2 H4)∧∀ i m ys σ H,W2 i m ys σ H →
  (J2.stop i H∧Fin ys σ H) ∨
  (J2.go i H∧ys.length < sizeLine∧∀ x H',J2.yld i H x H'→g2 x σ H' fun σ3 H5=>tt2 σ3 H5 fun b H6=>if b=true then te σ3 H6 fun v H7=>∃ m',m' < m∧W2 (i+1) m' (ys++[v]) σ3 H7 else ∃ m',m' < m∧W2 (i+1) m' ys σ3 H6)
abbrev LcT:List (TI × TG × TT)→TG→TT→TE→List V→St→(List V→St→Hp→Prop)→It→Hp→Prop
  | [],g,tt,te,ys,σ,Fn,J,H=>sS g tt te ys σ Fn J H
  | r :: rs,g,tt,te,ys,σ2,Fn,J2,H4=>∃ W2:Nat→Nat→List V→St→Hp→Prop,(∃ m,W2 0 m ys σ2 H4)∧∀ i m ys σ H,W2 i m ys σ H →
    (J2.stop i H∧Fn ys σ H) ∨
    (J2.go i H∧∀ x H',J2.yld i H x H'→g x σ H' fun σ3 H5=>tt σ3 H5 fun b H6=>if b=true then r.1 σ3 H6 (LcT rs r.2.1 r.2.2 te ys σ3 fun ys' σ' H7=>∃ m',m' < m∧W2 (i+1) m' ys' σ' H7) else ∃ m',m' < m∧W2 (i+1) m' ys σ3 H6)
def vT (Y:Cx) (D:Addr) (P:List (Addr × Obj)) (Fin:List V→St→Hp→Prop) (s:Shared):Prop:=∃ ys its k σ H,Inv Y (Lp D its k :: P) σ H s∧Vals ys its∧ys.length≤sizeLine∧Fin ys σ H
def uC (Y:Cx) (D:Addr) (elt:Expr) (te:TE) (G:List Comprehension) (scope:Scope) (pos:Pos) (rs:List (TI × TG × TT)) (c:Comprehension) (r:TI × TG × TT) (k:Nat):Prop :=
    ∀ (P:List (Addr × Obj)),(∀ p∈P,p.1≠D)→∀ {σ:St} {H:Hp} {s:Shared} {ys:List V} {its:List Value} {kk:Nat} {Fin:List V→St→Hp→Prop},Inv Y (Lp D its kk :: P) σ H s→Vals ys its→ys.length≤sizeLine →
      r.1 σ H (LcT rs r.2.1 r.2.2 te ys σ Fin) →
      wpAny (model Y.prog Y.w) Y.A (eval c.iter Y.env) (fun x s₄=>wpAny (model Y.prog Y.w) Y.A (pyIter x) (fun it2 s₅ =>
        codeAny (model Y.prog Y.w) Y.A (.compStart (.ListComp elt G scope pos) k it2 (.ref D) Y.env) (fun r s₆=>match r with|.ok _=>vT Y D P Fin s₆|.error _=>False) s₅) (fun _ _=>False) s₄) (fun _ _=>False) s
theorem sh {Y:Cx} {τ:Type} {val:τ→St} {nx:St→τ} (hc:Y.calm=true) (hxe:Y.xe=fun _ _=>False) (hrs:∀ {pn:List (Addr × Obj)} {σ':St} {H':Hp} {s':Shared},Inv Y pn σ' H' s'→Inv Y pn (val (nx σ')) H' s')
    {D:Addr} (hDx:D∈Y.ex∨Y.s₀.heap.objs.size≤D) (hDc:∀ x c,Y.env.cells.lookup x=some c→c≠D) (hDp:∀ p∈Y.pn,p.1≠D)
    {elt tg iter tg2 iter2:Expr} {ifs ifs2:List Expr} {te:TE} {g:TG} {tt:TT} {G:List Comprehension} {scope:Scope} {pos:Pos} {k:Nat} {r2:TI × TG × TT} {rs:List (TI × TG × TT)} (hk:G[k]?=some ⟨tg,iter,ifs,0⟩) (hk2:G[k+1]?=some ⟨tg2,iter2,ifs2,0⟩) (hst:∀ x,foldedSetIterable iter2 Y.env x=pure x) (htg:PG Y tg g) (hfs:gN Y ifs tt)
    {P:List (Addr × Obj)} (hP:∀ p∈P,p.1≠D) (inn:uC Y D elt te G scope pos rs ⟨tg2,iter2,ifs2,0⟩ r2 (k+1)) {it:Addr} {fp:List Addr} {tn:Nat→Heap→Prop} {J:It} (T:Turn Y.prog Y.w Y.K tg J fp it tn) (neD:∀ b∈fp,D≠b) (fpY:∀ {H':Hp} {n:Nat} {its:List Value},(∀ b∈fp,H' b=none)→∀ b∈fp,dh Y (Lp D its n :: P) H' b)
    {R:Result→Shared→Prop} {Fin:List V→τ→Hp→Prop} (hR:∀ ys its k t H s,Inv Y (Lp D its k :: P) (val t) H s→Vals ys its→ys.length≤sizeLine→Fin ys t H→R (.ok .next) s)
    {W:Nat→Nat→List V→τ→Hp→Prop} (turn:∀ i m ys t H,W i m ys t H→(J.stop i H∧Fin ys t H) ∨
      (J.go i H∧∀ x H',J.yld i H x H'→g x (val t) H' fun σ3 H5=>tt σ3 H5 fun b H6=>if b=true then r2.1 σ3 H6 (LcT rs r2.2.1 r2.2.2 te ys σ3 fun ys' σ' H7=>∃ m',m' < m∧W (i+1) m' ys' (nx σ') H7) else ∃ m',m' < m∧W (i+1) m' ys (nx σ3) H6))
    {m0 kk:Nat} {ys:List V} {its:List Value} {t:τ} {H:Hp} {s:Shared} (I:Inv Y (Lp D its kk :: P) (val t) H s) (rv:Vals ys its) (hz:ys.length≤sizeLine) (st:tn 0 s.heap) (fr:∀ b∈fp,H b=none) (w0:W 0 m0 ys t H) :
    codeAny (model Y.prog Y.w) Y.A (.compLoop (.ListComp elt G scope pos) k (.ref it) (.ref D) Y.env) R s:=by
  have xe:∀ e s,Y.xe e s→False:=fun e s z=>by rw [hxe] at z;exact z
  refine nU hk hk2 (fun n s'=>∃ i ys its k t H',Inv Y (Lp D its k :: P) (val t) H' s'∧Vals ys its∧ys.length≤sizeLine∧tn i s'.heap∧(∀ b∈fp,H' b=none)∧W i n ys t H') hst ?_ m0 ⟨0,ys,its,kk,t,H,I,rv,hz,st,fr,w0⟩;rintro n s3 ⟨i,ys3,its3,k3,t3,H3,I3,rv3,hz3,st3,fr3,w3⟩;rcases turn i n ys3 t3 H3 w3 with ⟨stop,qn⟩|⟨go,step⟩
  · refine wpAny_mono (T.done Y rfl rfl rfl hc i _ s3 _ H3 (fun _ _=>False) I3 (fpY fr3) st3 stop) (fun r s4 ⟨hr,I4⟩=>?_) fun _ _ z=>z;subst hr;exact hR ys3 its3 k3 t3 H3 s4 I4 rv3 hz3 qn
  · refine wpAny_mono (T.item Y rfl rfl rfl hc i _ s3 _ H3 (fun _ _=>False) I3 (fpY fr3) st3 go) (fun r s4 ⟨u,hr,h4⟩=>?_) fun _ _ z=>z;subst hr;refine wpAny_mono h4 (fun _ s5 ⟨x,H5,I5,r5,y5,st5,fr5⟩=>?_) fun _ _ z=>z;have I5':=I5.pinned (fpY fr5) (T.obj _ _ st5);refine wpAny_mono (htg _ s5 _ H5 x u _ I5' r5 (step x H5 y5)) (fun _ s6 ⟨σ6,H6,I6,q6⟩=>?_) fun e s z=>(xe e s z).elim;refine wpAny_mono (hfs _ s6 σ6 H6 _ I6 q6) (fun ok s7 ⟨H7,I7,q7⟩=>?_) fun e s z=>(xe e s z).elim;have again:∀ {ys':List V} {its':List Value} {k':Nat} {σ':St} {H':Hp} {s':Shared},Inv Y (Lp D its' k' :: (P++bX fp s5.heap)) σ' H' s'→Vals ys' its'→ys'.length≤sizeLine→(∃ m',m' < n∧W (i+1) m' ys' (nx σ') H') →
        ∃ m,m < n∧∃ i ys its k t H',Inv Y (Lp D its k :: P) (val t) H' s'∧Vals ys its∧ys.length≤sizeLine∧tn i s'.heap∧(∀ b∈fp,H' b=none)∧W i m ys t H':=fun {ys' its' k' σ' H' s'} Z rv' hz' hw=>by
      obtain ⟨m',hm,w'⟩:=hw;have pn:∀ {b:Addr} {o:Obj},b∈fp→s5.heap.get? b=some o→_:=fun {b o} hb e=>Z.pin (b,o) (aax _ (aaj _ (aax _ (bY hb e))));refine ⟨m',hm,i+1,ys',its',k',nx σ',H',hrs (Inv.unpinned (pl:=bX fp s5.heap) Z),rv',hz',T.keep _ _ _ st5 fun b hb o e=>(pn hb e).1,fun b hb=>?_,w'⟩;obtain ⟨o,e,d⟩:=T.obj _ _ st5 b hb;exact (pn hb e).2.1
    cases ok with
    | false =>
      rw [if_neg aag] at q7 ⊢;exact again I7 rv3 hz3 q7
    | true =>
      rw [if_pos rfl] at q7 ⊢;refine wpAny_mono (inn (P++bX fp s5.heap) (fun p hp=>?_) I7 rv3 hz3 q7) (fun x s8 h8=>wpAny_mono h8 (fun it2 s9 h9=>codeAny_mono h9 fun r s10 h10=>?_) fun _ _ z=>z) fun _ _ z=>z
      · rcases aay.mp hp with z|z
        · exact hP p z
        · exact abm (neD _ (gE z).1)
      · cases r with
        | error e=>exact h10.elim
        | ok f =>
          obtain ⟨ys',its',k',σ',H',Z,rv',hz',w'⟩:=h10;exact again Z rv' hz' w'
theorem rS {Y:Cx} (hc:Y.calm=true) (hxe:Y.xe=fun _ _=>False) {D:Addr} (hDx:D∈Y.ex∨Y.s₀.heap.objs.size≤D) (hDc:∀ x c,Y.env.cells.lookup x=some c→c≠D) (hDp:∀ p∈Y.pn,p.1≠D)
    {elt:Expr} {te:TE} {G:List Comprehension} {scope:Scope} {pos:Pos} (hbe:PE Y elt te) :
    ∀ (rs:List (TI × TG × TT)) (c:Comprehension) (r:TI × TG × TT) (k:Nat),G[k]?=some c→PCl Y c r→Paired (PCl Y) (G.drop (k+1)) rs →
    uC Y D elt te G scope pos rs c r k:=by
  intro rs;have xe:∀ e s,Y.xe e s→False:=fun e s z=>by rw [hxe] at z;exact z
  have fpx:∀ {fp:List Addr} {P:List (Addr × Obj)} {its:List Value} {kk:Nat} {H2:Hp},(∀ b∈fp,dh Y (Lp D its kk :: P) H2 b)→(∀ b∈fp,D≠b)∧∀ {H':Hp} {n:Nat} {its':List Value},(∀ b∈fp,H' b=none)→∀ b∈fp,dh Y (Lp D its' n :: P) H' b:=fun {fp P its kk H2} f2=>by
    have neD:∀ b∈fp,D≠b:=fun b hb=>(f2 b hb).2.2.2.2.2 (Lp D its kk) (aax _ aan);refine ⟨neD,fun {H' n its'} hn b hb=>⟨hn b hb,(f2 b hb).2.1,(f2 b hb).2.2.1,(f2 b hb).2.2.2.1,(f2 b hb).2.2.2.2.1,fun p hp=>?_⟩⟩;rcases aay.mp hp with z|z
    · exact (f2 b hb).2.2.2.2.2 p (ab3 _ z)
    · rcases aai.mp z with z|z
      · rw [z];exact neD b hb
      · exact (f2 b hb).2.2.2.2.2 p (aax _ (aaj _ z))
  induction rs with
  | nil =>
    intro c r k hk hcl hG P hP σ H s ys its kk Fin I rv hz h;have hk2:G[k+1]?=none:=by
      have l:=aav hG;rw [abh] at l;exact aa6 (by simp at l;lia)
    obtain ⟨tg,iter,ifs,as⟩:=c;have as0:as=0:=hcl.as;subst as0;refine wpAny_mono (hcl.it _ s σ H _ I h) (fun v s1 h1=>wpAny_mono h1 (fun itv s2 h2=>?_) fun e s z=>(xe e s z).elim) fun e s z=>(xe e s z).elim;obtain ⟨it,fp,tn,J,H2,e,I2,T,st2,f2,W,⟨m0,w0⟩,turn⟩:=h2;subst e;have loop:=oR (τ:=St) (val:=fun z=>z) (nx:=fun z=>z) hc hxe (fun Z=>Z) hDx hDc hDp (scope:=scope) (pos:=pos) hbe hk hk2 hcl.tg hcl.fs hP T (fpx f2).1 (fpx f2).2 (R:=fun r s₆=>match r with|.ok _=>vT Y D P Fin s₆|.error _=>False) (fun ys its k t H s I4 rv hz fin=>⟨ys,its,k,t,H,I4,rv,hz,fin⟩) turn I2 rv hz st2 (fun b hb=>(f2 b hb).1) w0;exact jb hk loop (T.self _ 0 _ _ _ st2 loop)
  | cons r2 rs ih =>
    intro c r k hk hcl hG P hP σ H s ys its kk Fin I rv hz h;obtain ⟨c2,hk2,hcl2,hG2⟩:∃ c2,G[k+1]?=some c2∧PCl Y c2 r2∧Paired (PCl Y) (G.drop (k+1+1)) rs:=by
      cases e:G.drop (k+1) with
      | nil=>rw [e] at hG;cases hG
      | cons c2 l =>
        rw [e] at hG;have e1:G[k+1]?=some c2:=by
          have:=congrArg (·[0]?) e;simpa using this
        have e2:G.drop (k+1+1)=l:=by rw [← List.drop_drop,e];rfl
        cases hG with
        | cons a b=>exact ⟨c2,e1,a,by rw [e2];exact b⟩
    obtain ⟨tg,iter,ifs,as⟩:=c;have as0:as=0:=hcl.as;subst as0;obtain ⟨tg2,iter2,ifs2,as2⟩:=c2;have as20:as2=0:=hcl2.as;subst as20;refine wpAny_mono (hcl.it _ s σ H _ I h) (fun v s1 h1=>wpAny_mono h1 (fun itv s2 h2=>?_) fun e s z=>(xe e s z).elim) fun e s z=>(xe e s z).elim;obtain ⟨it,fp,tn,J,H2,e,I2,T,st2,f2,W,⟨m0,w0⟩,turn⟩:=h2;subst e;have loop:=sh (τ:=St) (val:=fun z=>z) (nx:=fun z=>z) hc hxe (fun Z=>Z) hDx hDc hDp (scope:=scope) (pos:=pos) hk hk2 (hcl2.st _) hcl.tg hcl.fs hP (ih _ r2 (k+1) hk2 hcl2 hG2) T (fpx f2).1 (fpx f2).2 (R:=fun r s₆=>match r with|.ok _=>vT Y D P Fin s₆|.error _=>False) (fun ys its k t H s I4 rv hz fin=>⟨ys,its,k,t,H,I4,rv,hz,fin⟩) turn I2 rv hz st2 (fun b hb=>(f2 b hb).1) w0;exact jb hk loop (T.self _ 0 _ _ _ st2 loop)
abbrev uA (cap:List (Option Nat)) (g:TG) (tt:TT) (r2:TI × TG × TT) (rs:List (TI × TG × TT)) (te:TE) (σ:St) (Q:VK) (J:It) (H1:Hp):Prop:=∃ W:Nat→Nat→List V→Hp→Prop,(∃ m,W 0 m [] H1)∧∀ i m ys H,W i m ys H →
  (J.stop i H∧∀ p,H p=none→Q (.ref p) (upd H p (.lst ys))) ∨
  (J.go i H∧∀ x H',J.yld i H x H'→g x (bO cap σ) H' fun σ2 H2=>tt σ2 H2 fun b H3=>if b=true then r2.1 σ2 H3 (LcT rs r2.2.1 r2.2.2 te ys σ2 fun ys' _ H4=>∃ m',m' < m∧W (i+1) m' ys' H4) else ∃ m',m' < m∧W (i+1) m' ys H3)
def xf (cap:List (Option Nat)) (wi:TI) (g:TG) (tt:TT) (r2:TI × TG × TT) (rs:List (TI × TG × TT)) (te:TE):TE:=fun σ H Q=>wi σ H (uA cap g tt r2 rs te σ Q)
section
variable {X:Cx}
theorem ve {elt tg iter:Expr} {ifs:List Expr} {G:List Comprehension} {r2:TI × TG × TT} {rs:List (TI × TG × TT)} {scope:Scope} {pos:Pos} {cl:List (Str × Addr)} {NY:List Str} {cap:List (Option Nat)} {wi:TI} {g:TG} {tt:TT} {te:TE} (hc:X.calm=true) (hi:PI X tg iter wi)
    (hclos:closureFor scope X.env=pure cl) (hci:CellsIn X.env cl) (hcap:CapOk X.env (relabel scope X.env) X.N NY cap)
    (hb:∀ fp s H C,PG (aK X scope cl NY fp s H C) tg g∧gN (aK X scope cl NY fp s H C) ifs tt∧Paired (PCl (aK X scope cl NY fp s H C)) G (r2 :: rs)∧PE (aK X scope cl NY fp s H C) elt te)
    (hkind:scope.kind=.function:=by rfl) (hnc:(scope.names.all fun y=>y.2 != .cell)=true:=by rfl)
    (hnames:(scope.names.all fun y=>y.2 != .local || scope.names.lookup y.1 == some .local)=true:=by rfl)
    (hhas:((relabel scope X.env).names.all fun p=>(p.2 != .cell && p.2 != .free) || (cl.lookup p.1).isSome)=true:=by rfl)
    (hs:∀ x,foldedSetIterable iter X.env x=pure x:=by intro _;rfl) :
    PE X (.ListComp elt (⟨tg,iter,ifs,0⟩ :: G) scope pos) (xf cap wi g tt r2 rs te):=by
  intro pins s σ H Q I h;rw [eval_ListComp];refine wpAny_comprehension_free (use:=none) rfl hs hclos hkind (la hnames) (wpAny_mono (hi pins s σ H _ I h) (fun v s1 h1=>wpAny_mono h1 (fun itv s2 h2=>?_) fun _ _ e=>e) fun _ _ e=>e);obtain ⟨it,fp,tn,J,H2,e,I2,T,st2,f2,W,⟨m0,w0⟩,turn⟩:=h2;subst e;refine wpAny_newObj_type (wpAny_newFunctionEnv (n_ hnc) (by intro y hy;simp at hy) (fun h₁ hns₁ hsb₁=>?_) hkind);dsimp only at hns₁ hsb₁ ⊢;obtain ⟨hC,B,hD⟩:=I2.newC hci hkind hhas hns₁ fun b o hb e=>hsb₁.extBut b o hb (aad _ e);generalize (s2.heap.push { cls:=.type "list",dict:=none,data:=.seq ([]:List Value).toArray }).objs.size=C at hC B ⊢;obtain ⟨hbg,hbt,hbG,hbe⟩:=hb fp s2 H2 C;obtain ⟨c2,G',eG,hcl2,hG'⟩:∃ c2 G',G=c2 :: G'∧PCl (aK X scope cl NY fp s2 H2 C) c2 r2∧Paired (PCl (aK X scope cl NY fp s2 H2 C)) G' rs:=by
    cases hbG with
    | cons a b=>exact ⟨_,_,rfl,a,b⟩
  obtain ⟨tg2,iter2,ifs2,as2⟩:=c2;have as20:as2=0:=hcl2.as;subst as20;have stW:=T.keep _ _ h₁ st2 fun b _ o e=>B.old b o e;have fpl:=T.lt st2;have hDc:=B.neD I2.cellLt (aaf _) hD fun v z=>by cases z
  have loop:=sh (τ:=Unit) (val:=fun _=>bO cap σ) (nx:=fun _=>()) (Y:=aK X scope cl NY fp s2 H2 C) hc rfl (fun Z=>I2.recap f2 B hcap de Z) (.inr (aaf _)) hDc (fun p hp=>by cases hp) (elt:=elt) (te:=te) (G:=⟨tg,iter,ifs,0⟩ :: G) (scope:=scope) (pos:=pos) (k:=0) rfl (show (⟨tg,iter,ifs,0⟩ :: G:List Comprehension)[1]?=some ⟨tg2,iter2,ifs2,0⟩ by rw [eG];rfl) (hcl2.st _) hbg hbt (P:=[]) (fun p hp=>by cases hp)
    (rS (Y:=aK X scope cl NY fp s2 H2 C) hc rfl (.inr (aaf _)) hDc (fun p hp=>by cases hp) hbe rs _ r2 1 (by rw [eG];rfl) hcl2 (by rw [eG];exact hG')) T
    (fun b hb=>abr (fpl b hb)) (fun hn=>I2.fps f2 fpl B (fun p hp=>by rw [aau.mp hp];exact aaf _) hn) (R:=compPost (model X.prog X.w) X.A X.xe none (EP X pins σ Q) (.ref s2.heap.objs.size) C) (fun ys its k _ H s I4 rv hz fin=>I2.lstEnd f2 (aaf _) (abX hC) rfl I4 rv hz fin)
    (W:=fun i m ys _ H=>W i m ys H) (fun i m ys _ H=>turn i m ys H) (t:=()) (I2.blk f2 fpl B hcap de (fun p hp=>by rw [aau.mp hp];exact ⟨hD,aaf _,aaB hC,fun v z=>by cases z⟩) (t':=s2.toks+([]:List (Str × Value)).length)) .nil (aa4 _) stW (fun b hb=>(f2 b hb).1) w0
  exact codeAny_compStart_list loop (T.self _ 0 _ _ _ stW loop)
end
abbrev uz (g2:TG) (tt2:TT) (te:TE) (ys:List V) (σ2:St) (Fin:List V→Hp→Prop) (J2:It) (H4:Hp):Prop:=sS g2 tt2 te ys σ2 (fun ys _ H=>Fin ys H) J2 H4
abbrev uB (cap:List (Option Nat)) (g:TG) (tt:TT) (wi2:TI) (g2:TG) (tt2:TT) (te:TE) (σ:St) (Q:VK) (J:It) (H1:Hp):Prop:=uA cap g tt (wi2,g2,tt2) [] te σ Q J H1
def xg (cap:List (Option Nat)) (wi:TI) (g:TG) (tt:TT) (wi2:TI) (g2:TG) (tt2:TT) (te:TE):TE:=fun σ H Q=>wi σ H (uB cap g tt wi2 g2 tt2 te σ Q)
section
variable {X:Cx}
theorem vf {elt tg iter tg2 iter2:Expr} {ifs ifs2:List Expr} {scope:Scope} {pos:Pos} {cl:List (Str × Addr)} {NY:List Str} {cap:List (Option Nat)} {wi wi2:TI} {g g2:TG} {tt tt2:TT} {te:TE} (hc:X.calm=true) (hi:PI X tg iter wi)
    (hclos:closureFor scope X.env=pure cl) (hci:CellsIn X.env cl) (hcap:CapOk X.env (relabel scope X.env) X.N NY cap)
    (hb:∀ fp s H C,PG (aK X scope cl NY fp s H C) tg g∧gN (aK X scope cl NY fp s H C) ifs tt∧PI (aK X scope cl NY fp s H C) tg2 iter2 wi2∧PG (aK X scope cl NY fp s H C) tg2 g2∧gN (aK X scope cl NY fp s H C) ifs2 tt2∧PE (aK X scope cl NY fp s H C) elt te)
    (hkind:scope.kind=.function:=by rfl) (hnc:(scope.names.all fun y=>y.2 != .cell)=true:=by rfl)
    (hnames:(scope.names.all fun y=>y.2 != .local || scope.names.lookup y.1 == some .local)=true:=by rfl)
    (hhas:((relabel scope X.env).names.all fun p=>(p.2 != .cell && p.2 != .free) || (cl.lookup p.1).isSome)=true:=by rfl)
    (hs:∀ x,foldedSetIterable iter X.env x=pure x:=by intro _;rfl) (hs2:∀ E x,foldedSetIterable iter2 E x=pure x:=by intro _ _;rfl) :
    PE X (.ListComp elt [⟨tg,iter,ifs,0⟩,⟨tg2,iter2,ifs2,0⟩] scope pos) (xg cap wi g tt wi2 g2 tt2 te) :=
  ve (r2:=(wi2,g2,tt2)) (rs:=[]) hc hi hclos hci hcap (fun fp s H C=>by obtain ⟨hbg,hbt,i2,t2,f2,hbe⟩:=hb fp s H C;exact ⟨hbg,hbt,(.cons ⟨rfl,i2,t2,f2,hs2⟩ .nil),hbe⟩) hkind hnc hnames hhas hs
end
open PySem PySem.Spec PyProof.Rows
section
variable {M:Model} {A:Around} {E:Value→Shared→Prop} {s:Shared}
structure Lft (l:List Env) (e:Addr) (x:List Addr) (h h':Heap):Prop where
  keep:∀ b o,b∉l.filterMap (·.frame)→b≠e→b∉x→h.get? b=some o→h'.get? b=some o
  slot:∀ b o,b∈l.filterMap (·.frame)→h.get? b=some o→∃ sl,h'.get? b=some { o with slots:=sl }
end
section
variable {P:Program} {w:World} {K:aab} {mg:Str→Option Value} {base:Heap} {N:List Str} {qual:Str} {scope:Scope} {f:Addr} {cd:Value} {A:Around} {outer:List Env} {s0:Shared} {H0:Hp} {E:XK}
end
structure EC (K:aab) (C:Addr):Prop where
  ex:∃ nm q N bs bm hdct sn sub ab col dd k0 k1 k2 k3 k5 B newId initId bmB mN,ExcBaseFacts B newId initId bmB∧bm.contains (.type "BaseException")=true∧mN ("__init__":Str)=none ∧
    ∀ h,K.In h→h.get? C=some (excClassObj nm q C N bs bm hdct sn sub ab col dd k0 k1 k2 k3 k5 newId)∧h.Ns N mN∧OwnTail h bmB bm
section
variable {X:Cx} {pins0 pins:List (Addr × Obj)} {Cat:St→Addr→Hp→Prop} {σ:St} {H:Hp} {s:Shared}
end
section
variable {M:Model} {A:Around} {E:Value→Shared→Prop} {s:Shared}
end
structure Und (K:aab) (C P:Addr):Prop where
  ex:∃ nm q N bs bm hdct sn sub ab col dd k0 k1 k2 k3 k5 newId nm' q' N' bs' bm' hdct' sn' sub' ab' col' dd' k0' k1' k2' k3' k5' newId',(Value.ref C :: bm).contains (.ref P)=true∧bm'.contains (.type "BaseException")=true ∧
    ∀ h,K.In h→h.get? C=some (excClassObj nm q C N bs bm hdct sn sub ab col dd k0 k1 k2 k3 k5 newId)∧h.get? P=some (excClassObj nm' q' P N' bs' bm' hdct' sn' sub' ab' col' dd' k0' k1' k2' k3' k5' newId')
section
variable {X:Cx} {pins:List (Addr × Obj)} {σ:St} {H:Hp} {s:Shared}
end
section
variable {M:Model} {A:Around} {E:Value→Shared→Prop} {s:Shared}
end
section
variable {X:Cx} {pins:List (Addr × Obj)} {σ:St} {H:Hp} {s:Shared}
end
open PySem PySem.Spec PyProof.Rows
structure Lkp (M:Model) (h:Heap) (C:Addr):Prop where
  ga:ade M h (typeLookup (.ref C) "__getattribute__") (some (.builtin "BaseException.__getattribute__"))
  no:ade M h (typeLookup (.ref C) "__getattr__") none
  cls:ade M h (typeLookup (.ref C) "__class__") (some (.builtin "object.__class__"))
  be:ade M h (isSubtype (.ref C) (.type "BaseException")) true
  obj:ade M h (isSubtype (.ref C) (.type (".".intercalate ("object.__class__".cutAt '.').dropLast))) true
section
variable {prog:Program} {w:World} {A:Around} {E:Value→Shared→Prop} {h:Heap} {g:Array GenState} {d:Drawn} {t:Nat} {os:OsState} {a C:Addr} {o:Obj}
end
structure ExC (K:aab) (C:Addr):Prop where
  lk:∀ (M:Model) (h:Heap),K.In h→Lkp M h C
  cl:(PySem.W.clsIn K C).isSome=true
  sl:∃ B,Slot B "__getattribute__" "BaseException.__getattribute__"
open PySem PySem.Spec PyProof.Rows
open PySem PySem.Spec PyProof.Rows
open PySem PySem.Spec PyProof.Rows
section
variable {K:aab} {C Pa N N':Addr} {nm nm' q q':Str} {bs bs' sub sub':List Value} {hdct hdct':Bool} {sn sn':List Str} {ab ab':Bool} {col col':Option Bool} {dd dd':Option Addr} {k0 k1 k2 k3 k5 k0' k1' k2' k3' k5' oc oc':Option Value}
  {c1 c2:Value} {od od':Option Addr} {es es':Array DictEntry} {n n':Nat} {sl sl':Array (Option Value)}
end
end L2
namespace L2
open PySem
open PySem PySem.Spec PyProof.Rows
open PySem PySem.Spec PyProof.Rows
section
variable {X:Cx}
end
open PySem PySem.Spec PyProof.Rows
section
variable {X:Cx}
end
open PySem PySem.Spec PyProof.Rows
section
variable {prog:Program} {w:World} {A:Around} {E:Value→Shared→Prop} {s:Shared} {I:Addr} {fp wr:List Addr} {G:Array GenState→Array GenState→Prop} {n:Nat} {P:Nat→Value→Prop} {St:Nat→Shared→Prop}
end
end L2
set_option maxHeartbeats 1000000
namespace L2
open PySem PySem.Spec PyProof.Rows
section
variable {X:Cx} {pos:Pos} {t u:TS}
end
open PySem PySem.Spec PyProof.Rows
theorem vN {X:Cx} {pins:List (Addr × Obj)} {σ:St} {H:Hp} {s:Shared} {a:Addr} {y v:V} {u r:Value} {A:Around} {E:Value→Shared→Prop} {H':Hp} {Q:Unit→Shared→Prop} (hu:A.units+1 < cLine) (I:Inv X pins σ H s) (g:DPut H a y v H') (ry:RelV y u) (rv:RelV v r) (h:∀ s',Inv X pins σ H' s'→Q () s') :
    wpAny (model X.prog X.w) A (dictSet a u r) Q E s:=by
  rcases g with ⟨kvs,k,e,ey,l,eH⟩|⟨kvs,k,b,e,ey,eb,l,eH⟩
  · subst ey eH;obtain ⟨z,hd,vs,rel,dd⟩:=jR I.hok e;have hz:vs.length≤sizeLine:=by rw [← rel.length];exact z
    have hl:(bt kvs k v).length≤sizeLine:=by have:=cg kvs k v;lia
    refine wpAny_dictSet_pairs (hsz:=hz) (jK ry) dd fun h' dd' hs=>h _ ?_;have he:∃ q,h'.get? a=some q:=let ⟨q,_,_,hq,_⟩:=dd';⟨q,hq⟩;exact cU I (by rw [e];exact True.intro) hs he (sI hl hd (rel.put k rv) dd')
  · subst ey eH;cases (show u=Value.ref b from ry);obtain ⟨z,hd,xs,rel,dd⟩:=i5 I.hok e;have hz:xs.length≤sizeLine:=by rw [← aav rel];exact z
    have hl:(bt kvs k v).length≤sizeLine:=by have:=cg kvs k v;lia
    have hr:(tupleKind (ar X.prog X.w)).room A:=by show A.units < cLine;lia
    refine wpAny_dictSet_heap (hsz:=hz) hr (fJ I.hok eb) dd fun h' dd' hs=>h _ ?_;obtain ⟨q,es,ep,hq,h2,h3,h4,_,h5⟩:=dd';refine cU I (by rw [e];exact True.intro) hs ⟨q,hq⟩ ⟨hl,hd,_,(rel.put k eb rv).keeps fun c ys ec=>?_,q,es,ep,hq,h2,h3,h4,h5⟩;rw [aj (oI ec e (fun z=>nomatch z))];exact ec
section
variable {X:Cx}
end
open PySem PySem.Spec PyProof.Rows
section
variable {X:Cx}
theorem jA (hc:X.calm=true):bv X (.type "list") (fun xs H Q=>∃ (p:Addr) (lo hi:Int) (n:Nat),xs=[.ref p]∧H p=some (.rng lo hi)∧ab9 lo hi 1=true∧abi lo hi 1=n∧n≤1000 ∧
    ∀ l,H l=none→Q (.ref l) (upd H l (.lst ((aaO n).map fun (k:Nat)=>V.int (lo+k))))):=by
  intro pins s σ H xs us Q I r h;obtain ⟨p,lo,hi,n,rfl,hp,h1,h2,h3,q⟩:=h;obtain ⟨u,rfl,rx⟩:=ci r;cases rx;obtain ⟨t,u,v,e⟩:=(show ObjOk X.prog X.w H s.heap p (.rng lo hi) from I.hok p _ hp)
  refine call_list_range (I.ok.hd hc) e h1 h2 (by lia) fun h' tk acc' c' kp e' hi'=>?_;refine ⟨.ref s.heap.objs.size,_,I.laid (t':=tk) kp (aaf _) (show ObjOk X.prog X.w _ h' _ (.lst ((aaO n).map fun (k:Nat)=>V.int (lo+k))) from ⟨by rw [aaa,abc];exact abX (au h3),acc'.toList,c',?_,by simpa using e'⟩),rfl,q _ (I.hok.fresh (aaf _))⟩;have hl:acc'.toList.length=n:=by simpa using hi'.1
  have key:∀ (ys:List V) (its:List Value),ys.length=its.length→(∀ (j:Nat) (y:V) (v:Value),ys[j]?=some y→its[j]?=some v→RelV y v)→Vals ys its:=by
    intro ys
    induction ys with
    | nil=>intro its hl _;cases its with
      | nil=>exact .nil
      | cons _ _=>simp at hl
    | cons y ys ih=>intro its hl hr;cases its with
      | nil=>simp at hl
      | cons v its=>exact .cons (hr 0 y v rfl rfl) (ih its (by simpa using hl) fun j y' v' a b=>hr (j+1) y' v' (by simpa using a) (by simpa using b))
  refine key _ _ (by rw [aaa,abc,hl]) fun j y v hy hv=>?_;obtain ⟨t,ev⟩:=hi'.2 j v (by simpa using hv);rw [aak] at hy;cases hj:(aaO n)[j]? with
  | none=>rw [hj] at hy;cases hy
  | some k =>
    rw [hj] at hy;cases hy;have hk:k=j:=by
      have:=aaA.mp hj;obtain ⟨hlt,hh⟩:=this;simpa using hh.symm
    subst hk;refine ⟨t,?_⟩;rw [ev,Int.mul_one]
end
end L2
namespace PySem
open Builtin Builtin.Str Builtin.Int
section
variable {prog:Program} {w:World} {A:Around} {E:Value→Shared→Prop} {s:Shared} {x:Str} {t:Tok} {Q:Value→Shared→Prop}
  {I:Addr} {fp wr:List Addr} {G:Array GenState→Array GenState→Prop} {n:Nat} {P:Nat→Value→Prop} {St:Nat→Shared→Prop}
end
end PySem
namespace L2
open PySem PySem.Spec PyProof.Rows
section
variable {X:Cx}
end
open PySem PySem.Spec PyProof.Rows
section
variable {X:Cx}
end
open PySem PySem.Spec PyProof.Rows
section
variable {X:Cx} {pins:List (Addr × Obj)} {σ:St} {H:Hp} {s:Shared} {A:Around} {Q:Value→Shared→Prop} {E:Value→Shared→Prop} {b:Bool}
theorem nM {x:V} {u t:Value} {tp:Addr} {dd:Option Addr} {its:List Value} {n₀:Nat} {sl:Array (Option Value)} (I:Inv X pins σ H s) (rx:RelV x u) (ty:TyOf X.K H x t) (htp:s.heap.get? tp=some ⟨.type "tuple",dd,.seq its.toArray n₀,sl⟩) (e:PySem.W.kitAny X.K t its=some b) (h:∀ tk,Q (.bool b) { s with toks:=tk }) :
    wpAny (model X.prog X.w) A (call (.builtin "isinstance") [u,.ref tp]) Q E s:=by
  cases ty with
  | non=>cases (show u=Value.none from rx);exact abn PySem.W.kitx_none I.kIn True.intro htp e (fun z=>nomatch z) h
  | bl y=>cases (show u=Value.bool y from rx);exact abn PySem.W.kitx_bool I.kIn True.intro htp e (fun z=>nomatch z) h
  | int i=>obtain ⟨t,q⟩:=(show ∃ t,u=Value.int i t from rx);cases q;exact abn PySem.W.kitx_int I.kIn True.intro htp e (fun z=>nomatch z) h
  | str y=>obtain ⟨t,q⟩:=(show ∃ t,u=Value.str y t from rx);cases q;exact abn PySem.W.kitx_str I.kIn True.intro htp e (fun z=>nomatch z) h
  | flt y=>obtain ⟨t,q⟩:=(show ∃ t,u=Value.float y t from rx);cases q;exact abn PySem.W.kitx_float I.kIn True.intro htp e (fun z=>nomatch z) h
  | @lst a xs ea =>
    cases (show u=Value.ref a from rx);obtain ⟨_,_,n,_,h1⟩:=(show ObjOk X.prog X.w H s.heap a (.lst xs) from I.hok a _ ea)
    exact abn acY I.kIn ⟨_,h1,rfl⟩ htp e (fun z=>nomatch z) h
  | @frz a ob xs ea =>
    cases (show u=Value.ref a from rx);obtain ⟨_,_,_,n,_,h1⟩:=(show ObjOk X.prog X.w H s.heap a (.frz ob (.lst xs)) from I.hok a _ ea)
    exact abn acY I.kIn ⟨_,h1,rfl⟩ htp e (fun z=>nomatch z) h
  | @tup a xs ea =>
    cases (show u=Value.ref a from rx);obtain ⟨_,_,_,p⟩:=(show ObjOk X.prog X.w H s.heap a (.tup xs) from I.hok a _ ea)
    obtain ⟨o,h1,h2,_⟩:=p;exact abn PySem.W.kitx_tuple I.kIn ⟨o,h1,h2⟩ htp e (fun z=>nomatch z) h
  | @dK a kvs ea =>
    cases (show u=Value.ref a from rx);obtain ⟨_,_,vs,_,p⟩:=(show ObjOk X.prog X.w H s.heap a (.dK kvs) from I.hok a _ ea)
    obtain ⟨o,es,ep,h1,h2,_⟩:=p;exact abn acv I.kIn ⟨o,h1,h2.1⟩ htp e (fun z=>nomatch z) h
  | @dT a kvs ea =>
    cases (show u=Value.ref a from rx);obtain ⟨_,_,xs,_,o,es,ep,h1,h2,_⟩:=(show ObjOk X.prog X.w H s.heap a (.dT kvs) from I.hok a _ ea)
    exact abn acv I.kIn ⟨o,h1,h2.1⟩ htp e (fun z=>nomatch z) h
  | @ins a C dx fs ea cl ha hn htk hm =>
    cases (show u=Value.ref a from rx);obtain ⟨mA,O,_⟩:=oQ I.hok ea;obtain ⟨od,J,_⟩:=O.look;exact abn (PySem.W.kitx_own (cl.get _) cl.hd ha hn htk hm) I.kIn J htp e (fun z=>nomatch z) h
end
section
variable {X:Cx} {a b c d:Expr} {ta tb tc td:TE} {pos:Pos}
theorem og:∀ (ns:List String) {its:List Value},Vals (ns.map V.ty) its→its=ns.map Value.type
  | [],_,.nil=>rfl
  | n :: ns,_,.cons h t=>by rw [show _=Value.type n from h,og ns t];rfl
theorem gc {K:aab} (hK:X.K=K):bv X (.builtin "isinstance") (fun xs H Q=>∃ (x:V) (tp:Addr) (t:Value) (ns:List String) (b:Bool),xs=[x,.ref tp]∧TyOf K H x t∧H tp=some (.tup (ns.map V.ty))∧PySem.W.kitAny K t (ns.map Value.type)=some b∧Q (.bl b) H):=by
  subst hK;intro pins s σ H xs us Q I r h;obtain ⟨x,tp,t,ns,b,rfl,ty,ht,hk,q⟩:=h;obtain ⟨u1,u2,rfl,r1,r2⟩:=gQ r;cases r2;obtain ⟨_,its,rv,ot,g1,g2,k,g3⟩:=(show ObjOk X.prog X.w H s.heap tp (.tup (ns.map V.ty)) from I.hok tp _ ht)
  have eits:its=ns.map Value.type:=og ns rv;subst eits;obtain ⟨oc,od,dat,sl⟩:=ot;cases (show oc=_ from g2);cases (show dat=_ from g3);exact nM I r1 ty g1 hk fun tk=>⟨.bl b,H,I.tok tk,rfl,q⟩
end
section
variable {X:Cx}
end
open PySem PySem.Spec PyProof.Rows
section
variable {X:Cx} {o e:Expr} {es:List Expr} {to:TE} {t:TA} {name:Str} {apos cpos:Pos} {T id:String} {r:V→List V→Hp→VK→Prop} {K:aab}
end
open PySem PySem.Spec PyProof.Rows
structure Trn (J:It) (n:Nat) (Kp:Hp→Prop) (item:Nat→V→Hp→Hp→Prop):Prop where
  go:∀ i H,i < n→Kp H→J.go i H
  stop:∀ H,Kp H→J.stop n H
  yld:∀ i H x H',i < n→Kp H→J.yld i H x H'→item i x H H'
theorem Trn.list {K:aab} {a:Addr} {xs:List V}:Trn (Itl K a) xs.length (fun H=>SqL K H a xs) (fun i x H H'=>H'=H∧xs[i]?=some x) :=
  ⟨fun i H hi q=>⟨xs,xs[i],q,by simp [hi]⟩,fun H q=>⟨xs,q,aaf _⟩,fun i H x H' hi q y=>⟨y.1,y.2 xs q⟩⟩
theorem Trn.tup {K:aab} {a:Addr} {xs:List V}:Trn (Itt K a) xs.length (fun H=>SqT K H a xs) (fun i x H H'=>H'=H∧xs[i]?=some x) :=
  ⟨fun i H hi q=>⟨xs,xs[i],q,by simp [hi]⟩,fun H q=>⟨xs,q,aaf _⟩,fun i H x H' hi q y=>⟨y.1,y.2 xs q⟩⟩
theorem Trn.range {lo:Int} {n:Nat}:Trn (Itr lo n) n (fun _=>True) (fun i x H H'=>H'=H∧x=.int (lo+i)) :=
  ⟨fun i H hi _=>hi,fun H _=>aaf _,fun i H x H' hi _ y=>y⟩
theorem Trn.str {z:Str}:Trn (Its z) z.cps.size (fun _=>True) (fun i x H H'=>H'=H∧∃ c,z.cps[i]?=some c∧x=.str ⟨#[c]⟩) :=
  ⟨fun i H hi _=>hi,fun H _=>aaf _,fun i H x H' hi _ y=>y⟩
theorem cJ {J:It} {n:Nat} {Kp:Hp→Prop} {item:Nat→V→Hp→Hp→Prop} (T:Trn J n Kp item) {cap:List (Option Nat)} {g:TG} {tt:TT} {te:TE} {σ:St} {H:Hp} {Q:VK} (Pv:Nat→List V→Hp→Prop) (h0:Pv 0 [] H) (hk:∀ i ys H,i≤n→Pv i ys H→Kp H∧ys.length < sizeLine)
    (hs:∀ i x ys H H',i < n→item i x H H'→Pv i ys H→∀ Nx:List V→Hp→Prop,(∀ ys' H2,Pv (i+1) ys' H2→Nx ys' H2)→g x (bO cap σ) H' fun σ2 H2=>tt σ2 H2 fun b H3=>if b=true then te σ2 H3 fun v H4=>Nx (ys++[v]) H4 else Nx ys H3)
    (hd:∀ ys H,Pv n ys H→∀ p,H p=none→Q (.ref p) (upd H p (.lst ys))):wX cap g tt te σ Q J H:=by
  refine ⟨fun i m ys H=>m=n - i∧i≤n∧Pv i ys H,⟨n,by simp,aa4 _,h0⟩,?_⟩;rintro i m ys H ⟨rfl,hi,p⟩;by_cases hlt:i < n
  · refine .inr ⟨T.go i H hlt (hk i ys H hi p).1,(hk i ys H hi p).2,fun x H' y=>?_⟩;exact hs i x ys H H' hlt (T.yld i H x H' hlt (hk i ys H hi p).1 y) p (fun ys' H4=>∃ m',m' < n - i∧m'=n - (i+1)∧i+1≤n∧Pv (i+1) ys' H4) fun ys' H2 h=>⟨_,by lia,rfl,hlt,h⟩
  · have e:i=n:=by lia
    subst e;exact .inl ⟨T.stop H (hk _ ys H hi p).1,hd ys H p⟩
theorem vz {J:It} {n:Nat} {Kp:Hp→Prop} {item:Nat→V→Hp→Hp→Prop} (T:Trn J n Kp item) {cap:List (Option Nat)} {g:TG} {tt:TT} {wi2:TI} {g2:TG} {tt2:TT} {te:TE} {σ:St} {H:Hp} {Q:VK} (Pv:Nat→List V→Hp→Prop) (h0:Pv 0 [] H) (hk:∀ i ys H,i≤n→Pv i ys H→Kp H)
    (hs:∀ i x ys H H',i < n→item i x H H'→Pv i ys H→∀ Nx:List V→Hp→Prop,(∀ ys' H2,Pv (i+1) ys' H2→Nx ys' H2)→g x (bO cap σ) H' fun σ2 H2=>tt σ2 H2 fun b H3=>if b=true then wi2 σ2 H3 (uz g2 tt2 te ys σ2 Nx) else Nx ys H3)
    (hd:∀ ys H,Pv n ys H→∀ p,H p=none→Q (.ref p) (upd H p (.lst ys))):uB cap g tt wi2 g2 tt2 te σ Q J H:=by
  refine ⟨fun i m ys H=>m=n - i∧i≤n∧Pv i ys H,⟨n,by simp,aa4 _,h0⟩,?_⟩;rintro i m ys H ⟨rfl,hi,p⟩;by_cases hlt:i < n
  · refine .inr ⟨T.go i H hlt (hk i ys H hi p),fun x H' y=>?_⟩;exact hs i x ys H H' hlt (T.yld i H x H' hlt (hk i ys H hi p) y) p (fun ys' H4=>∃ m',m' < n - i∧m'=n - (i+1)∧i+1≤n∧Pv (i+1) ys' H4) fun ys' H2 h=>⟨_,by lia,rfl,hlt,h⟩
  · have e:i=n:=by lia
    subst e;exact .inl ⟨T.stop H (hk _ ys H hi p),hd ys H p⟩
theorem vw {J:It} {n:Nat} {Kp:Hp→Prop} {item:Nat→V→Hp→Hp→Prop} (T:Trn J n Kp item) {g2:TG} {tt2:TT} {te:TE} {ys:List V} {σ:St} {H:Hp} {Fin:List V→Hp→Prop} (Pv:Nat→List V→St→Hp→Prop) (h0:Pv 0 ys σ H) (hk:∀ i ys σ H,i≤n→Pv i ys σ H→Kp H∧ys.length < sizeLine)
    (hs:∀ i x ys σ H H',i < n→item i x H H'→Pv i ys σ H→∀ Nx:List V→St→Hp→Prop,(∀ ys' σ' H2,Pv (i+1) ys' σ' H2→Nx ys' σ' H2)→g2 x σ H' fun σ3 H5=>tt2 σ3 H5 fun b H6=>if b=true then te σ3 H6 fun v H7=>Nx (ys++[v]) σ3 H7 else Nx ys σ3 H6)
    (hd:∀ ys σ H,Pv n ys σ H→Fin ys H):uz g2 tt2 te ys σ Fin J H:=by
  refine ⟨fun i m ys σ H=>m=n - i∧i≤n∧Pv i ys σ H,⟨n,by simp,aa4 _,h0⟩,?_⟩;rintro i m ys σ H ⟨rfl,hi,p⟩;by_cases hlt:i < n
  · refine .inr ⟨T.go i H hlt (hk i ys σ H hi p).1,(hk i ys σ H hi p).2,fun x H' y=>?_⟩;exact hs i x ys σ H H' hlt (T.yld i H x H' hlt (hk i ys σ H hi p).1 y) p (fun ys' σ' H4=>∃ m',m' < n - i∧m'=n - (i+1)∧i+1≤n∧Pv (i+1) ys' σ' H4) fun ys' σ' H2 h=>⟨_,by lia,rfl,hlt,h⟩
  · have e:i=n:=by lia
    subst e;exact .inl ⟨T.stop H (hk _ ys σ H hi p).1,hd ys σ H p⟩
theorem oN {X:Cx} {K:aab} (hK:X.K=K):IxR X (rIx K):=by subst hK;exact vH
open PySem PySem.Spec PyProof.Rows
open PySem PySem.Spec PyProof.Rows
section
variable {X:Cx}
end
open PySem PySem.Spec PyProof.Rows
section
variable {X:Cx} {a b c d e:Expr} {ta tb tc td te:TE} {pos:Pos}
end
theorem eqE {K:aab} {H:Hp} {Q:V→Hp→Prop} {a b:Addr} {xs:List V} (ha:SqL K H a xs) (hb:SqL K H b []) (h:Q (.bl (decide (xs=[]))) H):tL K false (.ref a) (.ref b) H Q:=by
  refine ⟨0,a,b,xs,[],by decide,rfl,rfl,ha,hb,?_⟩;by_cases c:xs=[]
  · subst c;exact .inr ⟨fun _=>true,rfl,fun j x y h=>by simp at h,h⟩
  · rw [decide_eq_false c] at h;exact .inl ⟨fun e=>c (aa8.mp e),h⟩
end L2
namespace L2
open PySem PySem.Spec PyProof.Rows PySem.W
def cdO (c:Addr) (qual:Str):HO:=.ext fun h=>h.CodeRec (.ref c) qual
structure LTab (P:Addr) (qual:Str) (H:Hp) (ps:Array Value):Prop where
  tab:H P=some (.tbl ps)
  tri:TriplesOk ps.toList
  cds:∀ pos cv,codeAmong pos ps.toList=some cv→∃ c',cv=.ref c'∧H c'=some (cdO c' qual)
section
variable {X:Cx} {pins:List (Addr × Obj)} {σ:St} {H:Hp} {s:Shared}
end
section
variable {CX:CXT} {P:Program} {w:World} {K:aab} {mg:Str→Option Value} {base:Heap} {k:Nat}
end
section
variable {X:Cx} {pins pl:List (Addr × Obj)} {σ:St} {H:Hp} {s:Shared}
end
section
variable {X:Cx}
end
end L2
namespace L2
open PySem PySem.Spec PyProof.Rows PySem.W
section
variable {X:Cx} {pins pl:List (Addr × Obj)} {σ:St} {H:Hp} {s:Shared}
end
section
variable {X:Cx}
end
end L2
namespace L2
open PySem PySem.Spec PyProof.Rows PySem.W
structure FunC (K:aab) (x qual:Str) (st:Stmt) (f:Addr) (fd:FuncData) (c:Addr):Prop where
  ex:∃ (oc:Value) (od:Option Addr) (kV doc pm:Value) (an:Option Addr) (ct:Value) (osl:Array (Option Value)),
    fd=abH x qual (cF st) (cy st) (ao st) .none kV doc pm an (.ref c) ct∧K.lookup f=some ⟨oc,od,.func fd,osl⟩∧acg K (.ref c) qual=true
  kp:abF K (.ref f)=true
section
variable {P:Program} {w:World} {K:aab} {mg:Str→Option Value} {base:Heap}
end
open PySem PySem.Spec PyProof.Rows
open PySem PySem.Spec PyProof.Rows
open PySem PySem.Spec PyProof.Rows
open PySem PySem.Spec PyProof.Rows
section
variable {prog:Program} {w:World} {A:Around} {E:Value→Shared→Prop} {s:Shared}
end
def Ent (P:Program) (w:World) (d:Addr) (o:Obj) (u:HO) (n:Nat) (rw:Nat→V→V→Hp→Prop) (es:Array DictEntry) (ep:Nat):Prop :=
  o.data=.dict es ep∧es.size=n∧∀ H h,HOk P w H h→H d=some (.frz o u)→h.get? d=some o∧∀ i e,es[i]?=some e→∃ k y,RelV k e.key∧RelV y e.val∧rw i k y H
theorem bZ {J:It} {n:Nat} {Kp:Hp→Prop} {item:Nat→V→Hp→Hp→Prop} (T:Trn J n Kp item) {g:TG} {tb:TS} {D:Ends} {σ:St} {H:Hp} (Pv:Nat→St→Hp→Prop) (h0:Pv 0 σ H) (hk:∀ i σ H,i≤n→Pv i σ H→Kp H)
    (hs:∀ i x σ H H',i < n→item i x H H'→Pv i σ H→g x σ H' fun σ2 H2=>tb { D with nx:=Pv (i+1),ct:=Pv (i+1),bk:=D.nx } σ2 H2) (hd:∀ σ H,Pv n σ H→D.nx σ H) :
    ∃ W:Nat→Nat→St→Hp→Prop,(∃ m,W 0 m σ H)∧∀ i m σ H,W i m σ H →
      (J.stop i H∧D.nx σ H)∨(J.go i H∧∃ N:St→Hp→Prop,(∀ σ' H',N σ' H'→∃ m',m' < m∧W (i+1) m' σ' H')∧∀ x H',J.yld i H x H'→g x σ H' fun σ2 H2=>tb { D with nx:=N,ct:=N,bk:=D.nx } σ2 H2):=by
  refine ⟨fun i m σ H=>m=n - i∧i≤n∧Pv i σ H,⟨n,by simp,aa4 _,h0⟩,?_⟩;rintro i m σ H ⟨rfl,hi,p⟩;have q:=hk i σ H hi p;by_cases hlt:i < n
  · exact .inr ⟨T.go i H hlt q,Pv (i+1),fun σ' H' p'=>⟨n - (i+1),by lia,rfl,hlt,p'⟩,fun x H' y=>hs i x σ H H' hlt (T.yld i H x H' hlt q y) p⟩
  · have e:i=n:=by lia
    subst e;exact .inl ⟨T.stop H q,hd σ H p⟩
def sR (H:Hp) (d:Addr):Prop:=∀ o v,H d≠some (.frz o v)
def vY (t:TE):TE:=fun σ H Q=>t σ H fun v H'=>∃ d o u,sR H d∧H' d=some (.frz o u)∧Q v (upd H' d u)
theorem tT {X:Cx} {e:Expr} {t:TE} (he:PE X e t):PE X e (vY t):=by
  intro pins s σ H Q I h;refine thn (he pins s σ _ _ I h) fun u s1 ⟨v,H1,I2,r,d,o,u',nf,e1,q⟩=>⟨v,upd H1 d u',?_,r,q⟩
  have hf:∀ o v,X.H₀ d≠some (.frz o v):=fun o v q=>nf _ _ (I.base.frzs d o v q);exact I2.retype e1 (fun _ z=>nomatch z) (fun _ z=>nomatch z) (fun _ z=>nomatch z) hf (show ObjOk X.prog X.w H1 s1.heap d (.frz o u') from I2.hok d _ e1).2
end L2
namespace PySem
open Sem (wp)
namespace F
theorem lk_list_keys:typeLookup (.type "list") "keys" = pure none:=by rw [typeLookup_type,builtinLookup_eq_fast];kernel_rfl
end F
section
variable {prog:Program} {w:World} {A:Around} {E:Value→Shared→Prop} {h:Heap} {g:Array GenState} {d:Drawn} {t:Nat} {os:OsState} {a:Addr} {xs:Array Value} {k:Nat}
theorem eY {Q:Option Value→Shared→Prop} (hh:A.handled=none) (hx:h.get? a=some { cls:=.type "list",dict:=none,data:=.seq xs k,slots:=#[] })
    (hQ:∀ h' t',(∀ b o,h.get? b=some o→h'.get? b=some o)→Q none ⟨h',g,d,t',os⟩) :
    wpAny (model prog w) A (getAttr? (.ref a) "keys") Q E ⟨h,g,d,t,os⟩:=by
  have hT:∀ tk',(⟨h,g,d,tk',os⟩:Shared).TypeIs (.ref a) "list":=fun _=>⟨_,hx,rfl⟩
  have f1:=sub_AttributeError;have f3:=F.slot_list_getattribute.lookup;have f4:=F.slot_list_getattribute.bind (.ref a);have f5:=am_list_getattr_none;unfold getAttr? getAttrBy?
  repeat (any_goals (first|assumption|exact hT _|((with_reducible show wpAny _ _ (call (Value.builtin "list.__getattribute__") _ _) _ _ _);refine call_meets F.slot_list_getattribute (hT _) am_entry_list_getattribute (F.args_list_getattribute_2 _ _) (meets_getattribute_miss_list a xs k #[] "keys" _ F.lk_list_keys (by decide +kernel)) ⟨hx,hh,fun h' tk' e hx'=>?_⟩)|wp_step))
  obtain ⟨t',u',he⟩:=hx'.there;show wpAny _ _ (getattributeRaised _ _ _ _ _ _ _) _ _ _;unfold getattributeRaised
  repeat (any_goals (first|assumption|wp_step))
  exact hQ h' tk' hx'.of.1
end
end PySem
namespace L2
open PySem PySem.Spec PyProof.Rows
section
variable {prog:Program} {w:World} {A:Around} {E:Value→Shared→Prop} {s:Shared}
theorem o8 {it l d:Addr} {items:List Value} {Q:Value→Shared→Prop} (hh:A.handled=none) (hu:A.units+1 < cLine) (hdi:d≠it) (hli:l≠it) (hld:l≠d) (h₀:Heap) (xs:List (Addr × List Key × Addr × Value)) (hx:items=xs.map fun x=>.ref x.1) (hsz:xs.length≤1000)
    (hT:∀ x∈xs,x.1≠it∧x.1≠d∧x.2.2.1≠it∧x.2.2.1≠d∧IsTup h₀ x.1 #[.ref x.2.2.1,x.2.2.2]∧(tupleKind (ar prog w)).is h₀ x.2.1 x.2.2.1)
    (hQ:∀ h' t',h'.DictOfH (tupleKind (ar prog w)) d (bf [] (xs.map (·.2)))→(∀ b o,b≠it→b≠d→h₀.get? b=some o→h'.get? b=some o)→Q .none { s with heap:=h',toks:=t' }) :
    ∀ (k i:Nat) (h:Heap) (t:Nat),k+i=xs.length→h.IsListIter it l i→h.IsList l items.toArray→h.DictOfH (tupleKind (ar prog w)) d (bf [] ((xs.map (·.2)).take i))→(∀ b o,b≠it→b≠d→h₀.get? b=some o→h.get? b=some o) →
      codeAny (model prog w) A (.builtin "dict.update.loop" ⟨[.ref d,.ref it,rawInt i,.none],[]⟩) (wants Q E) { s with heap:=h,toks:=t }:=by
  have hlen:items.length=xs.length:=by rw [hx,aaa]
  have kis:∀ {h h':Heap} {ks:List Key} {a:Addr},(tupleKind (ar prog w)).is h ks a→(∀ o,h.get? a=some o→h'.get? a=some o)→(tupleKind (ar prog w)).is h' ks a:=fun {h h' ks a} z kp=>by
    obtain ⟨o,its,n,h1,h2⟩:=z;exact ⟨o,its,n,kp _ h1,h2⟩
  intro k
  induction k with
  | zero =>
    intro i h t hk hit hl hd kp;have hi:i=xs.length:=by lia
    refine codeAny_builtin cr ?_;rw [abz cm];unfold Builtin.«dict.update.loop»;show wpAny _ _ (pyNext (.ref it) >>= _) _ _ _;refine wpAny_bind (wpAny_pyNext_list_end (A:=A.in1) (s:={ s with heap:=h,toks:=t }) hh hit hl (by simp;lia) fun h' eb=>wpAny_bind (wpAny_pure (wpAny_pure (hQ h' t ?_ fun b o b2 b3 z=>eb b o b2 (kp b o b2 b3 z)))));rw [aa3 (by simp;lia)] at hd;obtain ⟨o,es,ep,ho,h1,h2,h3,h4,h5⟩:=hd;have eb':∀ b o,b≠it→h.get? b=some o→h'.get? b=some o:=fun b o hb e=>eb b o hb e;refine ⟨o,es,ep,eb' _ _ hdi ho,h1,h2,h3,fun x hx'=>?_,h5⟩;have hm:∀ y∈bf [] (xs.map (·.2)),∃ z∈xs,z.2.2.1=y.2.1:=by
      have key:∀ (more acc:List (List Key × Addr × Value)),(∀ y∈acc,∃ z∈xs,z.2.2.1=y.2.1)→(∀ y∈more,∃ z∈xs,z.2.2.1=y.2.1)→∀ y∈bf acc more,∃ z∈xs,z.2.2.1=y.2.1:=by
        intro more
        induction more with
        | nil=>intro acc h1 _;exact h1
        | cons m r ih =>
          intro acc h1 h2;refine ih (storedH acc m.1 m.2.1 m.2.2) (fun y hy=>?_) fun y hy=>h2 y (aaj _ hy);unfold storedH at hy;split at hy
          · obtain ⟨z,hz,rfl⟩:=aar.mp hy;obtain ⟨z',hz',e⟩:=h1 z hz;refine ⟨z',hz',?_⟩;unfold putAt;split <;> exact e
          · rcases aay.mp hy with hy|hy
            · exact h1 y hy
            · rw [aau.mp hy];exact h2 m aan
      refine key _ _ (fun y hy=>by simp at hy) fun y hy=>?_;obtain ⟨z,hz,rfl⟩:=aar.mp hy;exact ⟨z,hz,rfl⟩
    obtain ⟨z,hz,e⟩:=hm x hx';refine kis (h4 x hx') fun o e2=>eb' _ _ ?_ e2;rw [← e];exact (hT z hz).2.2.1
  | succ k ih =>
    intro i h t hk hit hl hd kp;have hlt:i < xs.length:=by lia
    have hxi:xs[i]?=some xs[i]:=aac hlt;have hii:items.toArray[i]?=some (.ref xs[i].1):=by rw [hx];simp [hlt]
    obtain ⟨n1,n2,n3,n4,hP,hK⟩:=hT xs[i] (abA hlt);refine codeAny_builtin cr ?_;rw [abz cm];unfold Builtin.«dict.update.loop»;show wpAny _ _ (pyNext (.ref it) >>= _) _ _ _;refine wpAny_bind (wpAny_pyNext_list_item (A:=A.in1) (s:={ s with heap:=h,toks:=t }) hit hl hii fun h' hit' sb=>?_);have sb:aaY it h h':=sb;refine wpAny_bind (wpAny_holding ?_);refine wpAny_bind (wpAny_tryCatch ?_);obtain ⟨oT,hoT,hcT,kT,hdT⟩:=hP;have hT':h'.get? xs[i].1=some oT:=(sb.2 _ n1).trans (kp _ _ n1 n2 hoT);unfold Builtin.Dict.pairItems;refine wpAny_bind (wpAny_typeOf (T:="tuple") ⟨_,hT',hcT⟩ ?_);rw [if_pos (by decide +kernel)];unfold seqItems?;refine wpAny_bind (wpAny_bind (wpAny_load hT' ?_));rw [hdT];refine wpAny_pure (wpAny_pure ?_);have hd':h'.DictOfH (tupleKind (ar prog w)) d (bf [] ((xs.map (·.2)).take i)):=by
      obtain ⟨o,es,ep,ho,h1,h2,h3,h4,h5⟩:=hd;refine ⟨o,es,ep,(sb.2 d hdi).trans ho,h1,h2,h3,fun x hx'=>?_,h5⟩;obtain ⟨o1,i1,n1,g1,g2⟩:=h4 x hx';by_cases c:x.2.1=it
      · obtain ⟨ol,hol,hcl,_⟩:=hit;rw [c,hol] at g1;cases g1;rw [g2.1] at hcl;exact absurd hcl (by decide)
      · exact ⟨o1,i1,n1,(sb.2 _ c).trans g1,g2⟩
    have hK':(tupleKind (ar prog w)).is h' xs[i].2.1 xs[i].2.2.1:=kis hK fun o e=>(sb.2 _ n3).trans (kp _ _ n3 n4 e);refine wpAny_holding (wpAny_dictSet_heap (knd:=tupleKind (ar prog w)) (s:={ s with heap:=h',toks:=t }) (k:=xs[i].2.1) (by show A.units+1 < cLine;lia) hK' hd' (fun h2 hd2 hs2=>wpAny_pure ⟨acl _ (by decide +kernel),?_⟩) ?_)
    · have hs2:aaY d h' h2:=hs2;have e2:(xs.map (·.2))[i]?=some xs[i].2:=by rw [aak,hxi];rfl
      rw [← kJ [] (xs.map (·.2)) i _ e2] at hd2;refine ih (i+1) h2 _ (by lia) ?_ ?_ hd2 ?_
      · exact hit'.at fun o x=>(hs2.2 it (abm hdi)).trans x
      · exact hl.at fun o x=>(hs2.2 l hld).trans ((sb.2 l hli).trans x)
      · exact fun b o b2 b3 z=>(hs2.2 b b3).trans ((sb.2 b b2).trans (kp b o b2 b3 z))
    · have mlen:∀ (more acc:List (List Key × Addr × Value)),(bf acc more).length≤acc.length+more.length:=by
        intro more
        induction more with
        | nil=>intro acc;exact aaf _
        | cons m r ih =>
          intro acc;have a1:=ih (storedH acc m.1 m.2.1 m.2.2);have a2:=gR acc m.1 m.2.1 m.2.2;show (bf (storedH acc m.1 m.2.1 m.2.2) r).length≤_;rw [aaC];lia
      have:=mlen ((xs.map (·.2)).take i) [];rw [aaL,aaa,abO] at this;have:=au hsz;lia
theorem hX {l:Addr} {n:Nat} (xs:List (Addr × List Key × Addr × Value)) {Q:Value→Shared→Prop} (hh:A.handled=none) (hu:A.units+3 < cLine) (hl:s.heap.get? l=some { cls:=.type "list",dict:=none,data:=.seq (xs.map fun x=>Value.ref x.1).toArray n,slots:=#[] }) (hsz:xs.length≤1000)
    (hT:∀ x∈xs,IsTup s.heap x.1 #[.ref x.2.2.1,x.2.2.2]∧(tupleKind (ar prog w)).is s.heap x.2.1 x.2.2.1)
    (h:∀ h' t',h'.DictOfH (tupleKind (ar prog w)) s.heap.objs.size (bf [] (xs.map (·.2)))→(∀ b o,s.heap.get? b=some o→h'.get? b=some o)→Q (.ref s.heap.objs.size) { s with heap:=h',toks:=t' }) :
    wpAny (model prog w) A (call (.type "dict") [.ref l]) Q E s:=by
  refine callType_codes (Q₁:=fun obj s₁=>obj=.ref s.heap.objs.size∧s₁={ s with heap:=s.heap.push { cls:=.type "dict",data:=.dict #[] } }) F.kt_called_dict (F.kt_typeCall_dict_1 _) F.entry_dict_init (kt_code_dict_new _ ⟨rfl,rfl⟩) ?_;rintro obj s₁ ⟨rfl,rfl⟩;have hnew:(s.heap.push { cls:=.type "dict",data:=.dict #[] }).DictOf (ar prog w) s.heap.objs.size []:=Heap.DictOf.new s.heap;have kp:∀ b o,s.heap.get? b=some o→(s.heap.push { cls:=.type "dict",data:=.dict #[] }).get? b=some o:=fun b o q=>aad _ q;have hll:l < s.heap.objs.size:=aal hl;have hl':=kp _ _ hl;refine ⟨hnew.typeIs,F.args_dict_init_2 _ _,?_⟩;unfold Builtin.«dict.__init__»;refine wpAny_bind ?_;unfold acD;refine wpAny_bind (wpAny_notOrdered_dict hnew.typeIs ?_);show wpAny _ _ (pure (s.heap.objs.size,[Value.ref l])) _ _ _;refine wpAny_pure ?_;show wpAny _ _ (abw "dict.__init__" s.heap.objs.size (.ref l) [] .none) _ _ _;unfold abw;refine wpAny_bind (wpAny_typeOf (T:="list") ⟨_,hl',rfl⟩ ?_);rw [if_pos (by decide +kernel)];refine wpAny_bind (eY (A:=A.in1.in1) hh hl' fun h1 t1 k1=>?_);rw [if_pos (by rfl)];refine wpAny_bind (wpAny_rule ?_);have hl1:=k1 _ _ hl';have iL:h1.IsList l (xs.map fun x=>Value.ref x.1).toArray:=⟨_,hl1,rfl,_,rfl⟩
  refine wpAny_bind (wpAny_pyIter_list (s:={ s with heap:=h1,toks:=t1 }) iL (wpAny_pure ⟨acl _ (by decide +kernel),?_⟩));have k2:∀ b o,s.heap.get? b=some o→h1.get? b=some o:=fun b o q=>k1 _ _ (kp _ _ q);have dlt:s.heap.objs.size < h1.objs.size:=aal (k1 _ _ (aao _ rfl));have lt1:∀ b,b < s.heap.objs.size→b≠h1.objs.size∧b≠s.heap.objs.size:=fun b hb=>⟨aaB (ac7 hb dlt),aaB hb⟩
  refine o8 (A:=A.in1) (s:={ s with heap:=h1,toks:=t1 }) (l:=l) (items:=xs.map fun x=>Value.ref x.1) (Q:=fun r s₂=>r=.none∧Q (.ref s.heap.objs.size) s₂) hh (by show A.units+1+1 < cLine;lia) (aaB dlt) (lt1 l hll).1 (lt1 l hll).2 s.heap xs rfl hsz (fun x hx=>?_) (fun h2 t2 hd2 kk=>⟨rfl,h h2 t2 hd2 fun b o q=>kk b o (lt1 b (aal q)).1 (lt1 b (aal q)).2 q⟩) xs.length 0 _ t1 (by lia) ⟨_,aao _ rfl,rfl,rfl⟩ (iL.at fun o x=>aad _ x) ?_ fun b o _ _ q=>aad _ (k2 _ _ q)
  · obtain ⟨hP,hK⟩:=hT x hx;have p1:x.1 < s.heap.objs.size:=by obtain ⟨o,e,_⟩:=hP;exact aal e
    have p2:x.2.2.1 < s.heap.objs.size:=by obtain ⟨o,_,_,e,_⟩:=hK;exact aal e
    exact ⟨(lt1 _ p1).1,(lt1 _ p1).2,(lt1 _ p2).1,(lt1 _ p2).2,hP,hK⟩
  · rw [List.take_zero];refine ⟨_,#[],0,aad _ (k1 _ _ (aao _ rfl)),⟨rfl,rfl,rfl⟩,rfl,rfl,fun x hx=>by simp [bf] at hx,by simp [bf]⟩
end
abbrev PrT:=Addr × Addr × List Key × V
def mL (H:Hp) (b:PrT):Prop:=H b.1=some (.tup [.ref b.2.1,b.2.2.2])∧H b.2.1=some (.tup (b.2.2.1.map kV))
theorem sO {P:Program} {w:World} {H:Hp} {h:Heap} (ok:HOk P w H h):∀ {bs:List PrT} {ws:List Value},Vals (bs.map fun b=>V.ref b.1) ws→(∀ b∈bs,mL H b)→∃ xs:List (Addr × List Key × Addr × Value),ws=xs.map (fun x=>Value.ref x.1)∧KT H (bs.map (·.2.2)) (xs.map (·.2))∧∀ x∈xs,IsTup h x.1 #[.ref x.2.2.1,x.2.2.2]∧(tupleKind (ar P w)).is h x.2.1 x.2.2.1
  | [],_,r,_=>by rw [abk] at r;cases r;exact ⟨[],rfl,.nil,fun x hx=>nomatch hx⟩
  | b :: bs,_,r,hk=>by
    rw [aae] at r;cases r with
    | @cons x y as cs h1 t =>
      obtain ⟨xs,e,q,al⟩:=sO ok t (fun b hb=>hk b (aaj _ hb));obtain ⟨k1,k2⟩:=hk b aan;have e1:y=Value.ref b.1:=h1;subst e1;obtain ⟨_,its,rv,pt⟩:=(show ObjOk P w H h b.1 (.tup [.ref b.2.1,b.2.2.2]) from ok _ _ k1)
      obtain ⟨u1,u2,rfl,r1,r2⟩:=gQ rv;have r1:u1=Value.ref b.2.1:=r1;subst r1;refine ⟨(b.1,b.2.2.1,b.2.1,u2) :: xs,by rw [e];rfl,.cons ⟨rfl,k2,r2⟩ q,fun x hx=>?_⟩;rcases aai.mp hx with rfl|hx
      · exact ⟨pt,fJ ok k2⟩
      · exact al x hx
theorem nZ {X:Cx} (hc:X.calm=true) (hu:X.A.units+64 < cLine):bv X (.type "dict") (fun xs H Q=>∃ (l:Addr) (bs:List PrT),xs=[.ref l]∧H l=some (.lst (bs.map fun b=>V.ref b.1))∧(∀ b∈bs,mL H b)∧bs.length≤1000∧∀ d,H d=none→Q (.ref d) (upd H d (.dT (cq [] (bs.map (·.2.2)))))):=by
  intro pins s σ H xs us Q I r h;obtain ⟨l,bs,rfl,hl,hb,hz,q⟩:=h;obtain ⟨u,rfl,rx⟩:=ci r;cases rx;obtain ⟨z,its,n,rv,gl⟩:=(show ObjOk X.prog X.w H s.heap l (.lst _) from I.hok l _ hl)
  obtain ⟨ys,rfl,rk,al⟩:=sO I.hok rv hb;have ly:=aav rk;rw [aaa,aaa] at ly;refine hX ys (I.ok.hd hc) (by lia) gl (by lia) al fun h' t' dd hk=>?_;refine ⟨.ref s.heap.objs.size,_,I.laid (a:=s.heap.objs.size) (o:=.dT (cq [] (bs.map (·.2.2)))) (t':=t') hk (aaf _) ?_,rfl,q _ (I.hok.fresh (aaf _))⟩;have h1:=fI (bs.map (·.2.2)) [];rw [abO,aaa] at h1;have:=au hz;obtain ⟨o,es,ep,ho,g1,g2,g3,_,g5⟩:=dd;have hb':sysModules < s.heap.objs.size:=I.big;refine ⟨by lia,by simpa using abr hb',_,(KT.merge rk .nil).keeps fun c ys ec=>?_,o,es,ep,ho,g1,g2,g3,g5⟩;rw [aj (fun e=>?_)]
  · exact ec
  · rw [e,I.hok.fresh (aaf _)] at ec;cases ec
open PySem PySem.Spec PyProof.Rows
section
variable {X:Cx}
end
structure FunD (K:aab) (x qual:Str) (st:Stmt) (f:Addr) (fd:FuncData) (tD:Addr):Prop where
  ex:∃ (oc:Value) (od:Option Addr) (kV doc pm:Value) (an:Option Addr) (cdv ct:Value) (osl:Array (Option Value)),
    fd=abH x qual (cF st) (cy st) (ao st) (.ref tD) kV doc pm an cdv ct∧K.lookup f=some ⟨oc,od,.func fd,osl⟩∧acg K cdv qual=true
  kp:abF K (.ref f)=true
section
variable {P:Program} {w:World} {K:aab} {mg:Str→Option Value} {base:Heap}
end
open PySem PySem.Spec PyProof.Rows
def Itd (hi:Int) (n:Nat):It:=⟨fun i _=>i < n,fun i H x H'=>H'=H∧x=.int (hi - i),fun i _=>n≤i⟩
theorem Trn.down {hi:Int} {n:Nat}:Trn (Itd hi n) n (fun _=>True) (fun i x H H'=>H'=H∧x=.int (hi - i)) :=
  ⟨fun i H hi _=>hi,fun H _=>aaf _,fun i H x H' hi _ y=>y⟩
theorem px {P:Program} {w:World} {K:aab} {tg:Expr} (it:Addr) (hi:Int) (n:Nat):Turn P w K tg (Itd hi n) [it] it (fun i h=>IsRangeIter h it (hi+(i:Nat) * (-1)) ((n:Int) - (i:Nat)) (-1)) where
  mem:=by simp
  obj:=fun i h st b hb=>by
    have e:b=it:=by simpa using hb
    subst e;exact ⟨_,st,fun v z=>by
      have z':Data.fields _=Data.cell v:=z;cases z'⟩
  keep:=fun i h h' st k=>k it (by simp) _ st
  item:=by
    intro X hP hw hK hc i pins s σ H E I hf st hg;subst hP hw hK;obtain ⟨f0,f1,f2,f3,f4,f5⟩:=hf it (by simp);have W:=Walks.range (prog:=X.prog) (w:=X.w) (I.ok.hd hc) it hi (-1) n;refine W.item i s _ _ hg st fun v h' tk hv st' kk=>?_;obtain ⟨t,rfl⟩:=hv;have I1:Inv X pins σ H { s with heap:=h',toks:=tk }:=I.turned (fun b o hb e=>kk b o (by simpa using hb) e) f0 f1 f3 f4 f5;refine ⟨_,rfl,iY (s:={ s with heap:=h',toks:=tk }) (n:="range_iterator") st' rfl rfl (by decide) ⟨.int (hi - i),H,I1,⟨t,?_⟩,⟨rfl,rfl⟩,st',fun b hb=>(hf b hb).1⟩⟩;congr 1;lia
  done:=by
    intro X hP hw hK hc i pins s σ H E I hf st hg;subst hP hw hK;obtain ⟨f0,f1,f2,f3,f4,f5⟩:=hf it (by simp);exact wpAny_pyNext_range_end (I.ok.hd hc) st (by have : n≤i:=hg;lia) fun h' eb=>⟨rfl,I.turned (t':=s.toks) (fun b o hb e=>eb b o hb e) f0 f1 f3 f4 f5⟩
  self:=fun _ _ _ _ _ st h=>wpAny_pyIter_rangeiter st h
theorem eQ (a b:Int):abi a b (-1)=if a > b then a - b else 0:=by
  unfold abi;rw [if_neg (by decide)];split
  · rw [show -(-1:Int)=1 by decide,Int.ediv_one];lia
  · rfl
section
variable {X:Cx} {tg:Expr}
def wI (ta:TA):TI:=fun σ H R=>ta σ H fun vs H1=>∃ i j:Int,vs=[.int i,.int j,.int (-1)]∧(-1000≤i∧i≤1000∧-1000≤j∧j≤1000)∧R (Itd i (i - j).toNat) H1
theorem jE {a b c:Expr} {ta:TA} {p pos:Pos} (hg:Gl X "range") (hm:X.mg "range" = none) (ha:PA X [a,b,c] ta) (hs:starEach [a,b,c] X.env=[(false,eval a X.env),(false,eval b X.env),(false,eval c X.env)]:=by rfl) (hs2:starEach [b,c] X.env=[(false,eval b X.env),(false,eval c X.env)]:=by rfl) :
    PI X tg (.Call (.Name "range" p) [a,b,c] [] pos) (wI ta):=by
  intro pins s σ H R I h;refine Call_ (eX I hg hm boot_range (abf (thn (ha pos pins s σ H _ I h) fun us s1 ⟨vs,H1,I1,r1,q1⟩=>?_) (by rw [hs,hs2]) (by rw [hs2];rfl)));obtain ⟨i,j,e,⟨q1,q2,q3,q4⟩,q⟩:=q1;subst e;cases r1 with
  | cons r rr =>
    cases rr with
    | cons r' rr =>
      cases rr with
      | cons r'' rr =>
        cases rr;obtain ⟨t,rfl⟩:=r;obtain ⟨t',rfl⟩:=r';obtain ⟨t'',rfl⟩:=r'';have hsm:ab9 i j (-1)=true:=by
          unfold ab9 Builtin.Range.rangeFitsLong;rw [eQ];simp only [aaS,decide_eq_true_eq,Bool.or_eq_true,beq_iff_eq];refine ⟨⟨⟨⟨?_,?_⟩,?_⟩,?_⟩,?_⟩
          · lia
          · lia
          · decide
          · split <;> lia
          · right;rw [if_neg (by decide)];simp only [aaS,decide_eq_true_eq];lia
        refine call_range_3 (by decide) ?_ (Or.inl (PyProof.noPylong_small (by lia)));refine wpAny_pyIter_range (s:={ s1 with heap:=s1.heap.push { cls:=.type "range",data:=.fields #[.int i t,.int j t',.int (-1) t''] } }) (IsRange.new ..) hsm ?_;have I2:Inv X pins σ H1 { s1 with heap:=s1.heap.push { cls:=.type "range",data:=.fields #[.int i t,.int j t',.int (-1) t''] } }:=I1.kept (t':=s1.toks) fun b o e=>aad _ e;refine ⟨(s1.heap.push { cls:=.type "range",data:=.fields #[.int i t,.int j t',.int (-1) t''] }).objs.size,[(s1.heap.push { cls:=.type "range",data:=.fields #[.int i t,.int j t',.int (-1) t''] }).objs.size],_,_,H1,rfl,
          I2.kept (t':=s1.toks) fun b o e=>aad _ e,px _ i (i - j).toNat,?_,fun b hb=>?_,q⟩
        · have e1:i+((0:Nat):Int) * (-1)=i:=by simp
          have e2:(((i - j).toNat:Nat):Int) - ((0:Nat):Int)=abi i j (-1):=by rw [eQ];split <;> lia
          show IsRangeIter _ _ (i+((0:Nat):Int) * (-1)) ((((i - j).toNat:Nat):Int) - ((0:Nat):Int)) (-1);rw [e1,e2];exact aao _ rfl
        · have e:b=(s1.heap.push { cls:=.type "range",data:=.fields #[.int i t,.int j t',.int (-1) t''] }).objs.size:=by simpa using hb
          subst e;exact I2.fpOk (aaf _) (I2.hok.fresh (aaf _))
end
open PySem PySem.Spec PyProof.Rows
end L2
namespace L2
open PySem PySem.Spec PyProof.Rows PySem.W
section
variable {prog:Program} {w:World} {A:Around} {E:Value→Shared→Prop} {s:Shared}
theorem nI (d:Addr) (hd:(d == sysModules)=false) :
    MeetsIn prog w (Builtin.«dict.__len__» ⟨[.ref d],[]⟩) (fun _ R s=>∃ o es ep,s.heap.get? d=some o∧o.data=.dict es ep∧R (.ok (.ret (.int (es.size:Nat) s.toks))) { s with toks:=s.toks+1 }) :=
  .of_wp fun A R s ⟨o,es,ep,ho,hdat,h⟩=>by
    show wpAny _ _ (dictSize d >>= _) _ _ s;unfold dictSize;refine wpAny_bind (wpAny_bind (wpAny_dictEntries ho hdat (wpAny_pure ?_)));show wpAny _ _ (Builtin.Dict.pendingCount d >>= _) _ _ s;refine wpAny_bind (wpAny_pendingCount_other hd ?_);refine wpAny_ret_mkInt ?_;rw [Nat.add_zero];exact h
theorem gb {d:Addr} {o:Obj} {es:Array DictEntry} {ep:Nat} {Q:Value→Shared→Prop} (hd:(d == sysModules)=false) (ho:s.heap.get? d=some o) (hc:o.ExactDict) (hdat:o.data=.dict es ep) (hfit:(es.size:Int) < 2 ^ 63)
    (h:Q (.int (es.size:Nat) (s.toks+1)) { s with toks:=s.toks+1+1 }):wpAny (model prog w) A (call (.builtin "len") [.ref d]) Q E s:=by
  have hT:s.TypeIs (.ref d) "dict":=⟨o,ho,hc.1⟩
  refine Calls.call_function_entry kind_len plain_len entry_len (args_len1 _) ?_;unfold Builtin.«len»;refine wpAny_bind (m:=oneArg "len" _) (wpAny_pure ?_);refine wpAny_bind (m:=callSpecial? (.ref d) (abB "__len__")) (wpAny_callSpecial?_slot (name:=abB "__len__") hT F.slot_dict_len
    (call_meetsIn F.slot_dict_len hT F.entry_dict_len (F.args_dict_len_1 _) (nI d hd) ⟨o,es,ep,ho,hdat,?_⟩))
  show wpAny _ _ _ _ _ { s with toks:=s.toks+1 };refine wpAny_bind (wpAny_holding (wpAny_pure ?_));refine wpAny_bind (wpAny_letGo ?_);show wpAny _ _ (if ((es.size:Nat):Int) < 0 then _ else _) _ _ _;rw [if_neg (by lia)];show wpAny _ _ (if ((es.size:Nat):Int) ≥ 2 ^ 63 then _ else _) _ _ _;rw [if_neg (by lia)];exact wpAny_bind (wpAny_mkInt (wpAny_pure ⟨_,rfl,h⟩))
end
theorem qp {X:Cx}:bv X (.builtin "len") (fun xs H Q=>∃ a kvs,xs=[V.ref a]∧Rd H a (.dT kvs)∧Q (.int kvs.length) H):=by
  intro pins s σ H xs us Q I r h;obtain ⟨a,kvs,rfl,ha,q⟩:=h;obtain ⟨u,rfl,ru⟩:=ci r;cases ru;obtain ⟨z,hd,xs,rel,o,es,ep,ho,c,dat,l,nd⟩:=mz I.hok ha;have hs:es.size=kvs.length:=by rw [size_of_entries l,← aav rel]
  refine gb hd ho c dat (by rw [hs];rw [sizeLine_eq] at z;lia) ?_;rw [hs];exact ⟨.int kvs.length,H,I.tok _,⟨_,rfl⟩,q⟩
theorem dA {X:Cx}:bv X (.builtin "len") (fun xs H Q=>∃ a n,xs=[V.ref a]∧((∃ ys,(SqL X.K H a ys∨SqT X.K H a ys)∧n=ys.length)∨∃ kvs,Rd H a (.dT kvs)∧n=kvs.length)∧Q (.int (n:Nat)) H):=by
  intro pins s σ H xs us Q I r h;obtain ⟨a,n,rfl,h|h,q⟩:=h
  · obtain ⟨ys,hy,rfl⟩:=h;exact aF pins s σ H _ us Q I r ⟨a,ys,rfl,hy,q⟩
  · obtain ⟨kvs,hy,rfl⟩:=h;exact qp pins s σ H _ us Q I r ⟨a,kvs,rfl,hy,q⟩
theorem jD {X:Cx} {o i:Expr} {td ty:TE} {pos:Pos} (hu:X.A.units+1 < cLine) (hi:PE X i ty) (ho:PE X o td) (hm:behindInMarks .NotIn o=false):PT X (.Compare i [.NotIn] [o] pos) (tB (oj ty td)):=qS (pJ hu hi ho) hm
theorem Trn.keys {d:Addr} {o:Obj} {kvs:List (List Key × V)}:Trn (Itk d o kvs) kvs.length (fun H=>H d=some (.frz o (.dT kvs))) (fun i x H H'=>∃ b,x=.ref b∧H'=H∧∀ kv,kvs[i]?=some kv→H b=some (.tup (kv.1.map kV))) :=
  ⟨fun i H hi q=>⟨q,hi⟩,fun H q=>⟨q,aaf _⟩,fun i H x H' hi q y=>y⟩
open PySem PySem.Spec PyProof.Rows
def wF (e l:Nat→Bool) (n m:Nat):Nat→Nat→Bool
  | _,0=>decide (n < m)
  | j,k+1=>if e j=true then wF e l n m (j+1) k else l j
section
open PySem.SeqAt
open PySem.AutoSeq1 (wpAny_loadPart')
open PySem.MeetsSeq PySem.MeetsSeq2 PySem.MeetsSeq3
end
inductive LtR (K:aab) (H:Hp):Nat→V→V→Bool→Prop
  | int {n:Nat} {a b:Int}:LtR K H n (.int a) (.int b) (decide (a < b))
  | tup {n:Nat} {a b:Addr} {xs ys:List V} {e l:Nat→Bool} (ha:SqT K H a xs) (hb:SqT K H b ys) (h:∀ (j:Nat) x y,xs[j]?=some x→ys[j]?=some y→EqR K H n x y (e j)) (hl:∀ (j:Nat) x y,xs[j]?=some x→ys[j]?=some y→e j=false→LtR K H n x y (l j)) :
      LtR K H (n+1) (.ref a) (.ref b) (wF e l xs.length ys.length 0 (min xs.length ys.length))
section
variable {X:Cx} {pins:List (Addr × Obj)} {σ:St} {H:Hp} {s:Shared}
end
section
variable {X:Cx}
end
open PySem PySem.Spec PyProof.Rows
def Fq (K:aab) (x:Str) (s:Stmt) (f:Addr):Prop:=aaP K mainGlobals x=some (some (.ref f))∧∃ fd,Fun K x x s f fd
theorem Fq.mk4 {K:aab} {x:Str} {st:Stmt} {f:Addr} {oc:Value} {od an:Option Addr} {osl:Array (Option Value)} {kV doc pm cdv ct:Value} (a:aaP K mainGlobals x=some (some (.ref f))) (l:K.lookup f=some ⟨oc,od,.func (abH x x (cF st) (cy st) (ao st) .none kV doc pm an cdv ct),osl⟩)
    (c:acg K cdv x=true) (k:abF K (.ref f)=true):Fq K x st f:=⟨a,_,sr l c k⟩
theorem Fq.use {K:aab} {x:Str} {st:Stmt} {f:Addr} {h:Heap} {mg:Str→Option Value} (q:Fq K x st f) (X:K.In h) (G:h.Ns mainGlobals mg) {ps:List Str}
    (hb:∀ (kV doc pm:Value) (an:Option Addr) (cdv ct:Value) (us:List Value),us.length=ps.length→bindArgs (abH x x (cF st) (cy st) (ao st) .none kV doc pm an cdv ct) ⟨us,[]⟩=pure (ps.zip us)):∃ fd,Fun K x x st f fd∧Binds K fd ps []∧mg x=some (.ref f):=by
  obtain ⟨a,fd,F⟩:=q;exact ⟨fd,F,F.binds hb,acQ X G a⟩
end L2
namespace L2
open PySem PySem.Spec PyProof.Rows PySem.SeqAt
inductive MK where
  | non|int (i:Int)|str (x:Str)|tup (ks:List Int)
  deriving DecidableEq
def bI (b:Bool):Int:=if b then 1 else 0
def jf (k:Int):Value→Bool
  | .int i _=>i == k
  | .bool b=>bI b == k
  | _=>false
theorem bC {k:Int} {v:Value} (h:jf k v=true):(∃ t,v=.int k t)∨∃ b,v=.bool b∧bI b=k:=by
  cases v with
  | int i t=>exact .inl ⟨t,by rw [beq_iff_eq.mp h]⟩
  | bool b=>exact .inr ⟨b,rfl,beq_iff_eq.mp h⟩
  | _=>exact nomatch h
section
variable {A:Around} {E:Value→Shared→Prop} {s:Shared} {prog:Program} {w:World}
theorem lL {b:Bool} {Q:Int→Shared→Prop} (h:Q (hashInt (bI b)) { s with toks:=s.toks+1 }):wpAny (model prog w) A (pyHash (.bool b)) Q E s:=by
  refine PySem.W.pyHash_slot (T:="bool") rfl PySem.F.slot_bool_hash entry_int_hash (args_int_hash _) (beq_builtin_none _) (.inl rfl) ?_;cases b
  · exact (show wpAny _ _ (do ret (← mkInt 0)) _ _ s from wpAny_bind (wpAny_mkInt (wpAny_pure ⟨_,_,rfl,h⟩)))
  · exact (show wpAny _ _ (do ret (← mkInt 1)) _ _ s from wpAny_bind (wpAny_mkInt (wpAny_pure ⟨_,_,rfl,h⟩)))
theorem nh {Q:Int→Shared→Prop} (h:Q (reduceHash 0xFCA86420) { s with toks:=s.toks+1 }):wpAny (model prog w) A (pyHash .none) Q E s :=
  PySem.W.pyHash_slot (T:="NoneType") rfl PySem.F.slot_NoneType_hash PySem.F.entry_NoneType_hash (PySem.F.args_NoneType_hash_1 _) (beq_builtin_none _) (.inl rfl) (wpAny_bind (wpAny_pure (wpAny_bind (wpAny_mkInt (wpAny_pure ⟨_,_,rfl,h⟩)))))
theorem xE {a b:Int} {u v:Value} {Q:Bool→Shared→Prop} (hu:jf a u=true) (hv:jf b v=true) (h:Q (decide (a=b)) s):wpAny (model prog w) A (PySem.eqBool u v) Q E s:=by
  have e:∀ x y:Int,(x == y)=decide (x=y):=fun x y=>rfl;rcases bC hu with ⟨t,rfl⟩|⟨x,rfl,rfl⟩
  · rcases bC hv with ⟨t',rfl⟩|⟨y,rfl,rfl⟩
    · exact EqAt.int_int a t b t' prog w E Q (by rw [e];exact h)
    · exact EqAt.int_bool a t y prog w E Q (by rw [e];exact h)
  · rcases bC hv with ⟨t',rfl⟩|⟨y,rfl,rfl⟩
    · exact EqAt.bool_int x b t' prog w E Q (by rw [e];exact h)
    · refine EqAt.bool_bool x y prog w E Q ?_;have : (x == y)=decide (bI x=bI y):=by cases x <;> cases y <;> rfl
      rw [this];exact h
def kX (prog:Program) (w:World):PySem.KeyKind prog w Int where
  is:=jf
  hash:=hashInt
  inj:=fun v a b ha hb=>by
    rcases bC ha with ⟨t,rfl⟩|⟨x,rfl,rfl⟩
    · exact beq_iff_eq.mp hb
    · exact beq_iff_eq.mp hb
  byValue:=fun k v h=>by rcases bC h with ⟨t,rfl⟩|⟨x,rfl,rfl⟩ <;> rfl
  pyHash:=fun hv h=>by
    rcases bC hv with ⟨t,rfl⟩|⟨x,rfl,rfl⟩
    · exact wpAny_pyHash_int h
    · exact lL h
  eqBool:=fun hu hv h=>xE hu hv h
  «strs»:=fun k x t v h=>by simp [jf] at h
def isM (prog:Program) (w:World) (h:Heap):MK→Value→Prop
  | .non,v=>v=.none
  | .int i,v=>∃ t,v=.int i t
  | .str x,v=>∃ t,v=.str x t
  | .tup ks,v=>∃ a,v=.ref a∧IsTupleKey (kX prog w) h ks a
def hM (w:World):MK→Int
  | .non=>reduceHash 0xFCA86420
  | .int i=>hashInt i
  | .str x=>hashStr w x
  | .tup ks=>reduceHash (abZ (ks.map hashInt))
def dM:MK→Nat
  | .tup ks=>ks.length+1
  | _=>1
theorem isM.inj {h:Heap} {x y:MK} {v:Value} (hx:isM prog w h x v) (hy:isM prog w h y v):x=y:=by
  cases x with
  | non =>
    cases (show v=.none from hx);cases y with
    | non=>rfl
    | int i=>obtain ⟨t,e⟩:=hy;cases e
    | str i=>obtain ⟨t,e⟩:=hy;cases e
    | tup ks=>obtain ⟨a,e,_⟩:=hy;cases e
  | int i =>
    obtain ⟨t,rfl⟩:=hx;cases y with
    | non=>cases (show Value.int i t=.none from hy)
    | int i=>obtain ⟨t,e⟩:=hy;cases e;rfl
    | str i=>obtain ⟨t,e⟩:=hy;cases e
    | tup ks=>obtain ⟨a,e,_⟩:=hy;cases e
  | str i =>
    obtain ⟨t,rfl⟩:=hx;cases y with
    | non=>cases (show Value.str i t=.none from hy)
    | int i=>obtain ⟨t,e⟩:=hy;cases e
    | str i=>obtain ⟨t,e⟩:=hy;cases e;rfl
    | tup ks=>obtain ⟨a,e,_⟩:=hy;cases e
  | tup ks =>
    obtain ⟨a,rfl,ha⟩:=hx;cases y with
    | non=>cases (show Value.ref a=.none from hy)
    | int i=>obtain ⟨t,e⟩:=hy;cases e
    | str i=>obtain ⟨t,e⟩:=hy;cases e
    | tup ks=>obtain ⟨b,e,hb⟩:=hy;cases e;rw [ha.inj hb]
theorem isM.keeps {h h':Heap} {k:MK} {v:Value} {d:Addr} {o:Obj} {es ep} (x:isM prog w h k v) (ho:h.get? d=some o) (hd:o.data=.dict es ep) (hs:aaY d h h'):isM prog w h' k v:=by
  cases k with
  | tup ks=>obtain ⟨a,e,ha⟩:=x;exact ⟨a,e,ha.keeps ho hd hs⟩
  | _=>exact x
theorem isM.kept {h h':Heap} {k:MK} {v:Value} (x:isM prog w h k v) (hk:∀ b o,h.get? b=some o→h'.get? b=some o):isM prog w h' k v:=by
  cases k with
  | tup ks=>obtain ⟨a,e,o,items,n,g,r⟩:=x;exact ⟨a,e,o,items,n,hk _ _ g,r⟩
  | _=>exact x
theorem fT {k:MK} {v:Value} {Q:Int→Shared→Prop} (hu:A.units < cLine) (hk:isM prog w s.heap k v) (h:Q (hM w k) { s with toks:=s.toks+dM k }):wpAny (model prog w) A (pyHash v) Q E s:=by
  cases k with
  | non=>cases (show v=.none from hk);exact nh h
  | int i=>obtain ⟨t,rfl⟩:=hk;exact wpAny_pyHash_int h
  | str i=>obtain ⟨t,rfl⟩:=hk;exact wpAny_pyHash_str h
  | tup ks=>obtain ⟨a,rfl,ha⟩:=hk;exact wpAny_pyHash_tuple hu ha h
theorem cW {h:Heap} {ks:List Int} {a:Addr} (x:IsTupleKey (kX prog w) h ks a):∃ its,h.IsTuple a its:=by
  obtain ⟨o,items,n,ho,hc,hd,hi⟩:=x;exact ⟨items,o,ho,hc,n,hd⟩
theorem i3 {x y:MK} {u v:Value} {Q:Bool→Shared→Prop} (hu:A.units < cLine) (hx:isM prog w s.heap x u) (hy:isM prog w s.heap y v) (h:Q (decide (x=y)) s):wpAny (model prog w) A (PySem.eqBool u v) Q E s:=by
  have no:∀ {x y:MK},¬ x=y→decide (x=y)=false:=fun z=>decide_eq_false z;cases x with
  | non =>
    cases (show u=.none from hx);cases y with
    | non=>cases (show v=.none from hy);exact EqAt.same .none prog w E Q (by simpa using h)
    | int i=>obtain ⟨t,rfl⟩:=hy;rw [no (fun z=>by cases z)] at h;exact EqAt.none_int _ _ prog w E Q h
    | str i=>obtain ⟨t,rfl⟩:=hy;rw [no (fun z=>by cases z)] at h;exact EqAt.none_str _ _ prog w E Q h
    | tup ks=>obtain ⟨a,rfl,ha⟩:=hy;rw [no (fun z=>by cases z)] at h;obtain ⟨_,ht⟩:=cW ha;exact EqAt.none_tuple ht hu prog w E Q h
  | int i =>
    obtain ⟨t,rfl⟩:=hx;cases y with
    | non=>cases (show v=.none from hy);rw [no (fun z=>by cases z)] at h;exact EqAt.int_none _ _ prog w E Q h
    | int j =>
      obtain ⟨t',rfl⟩:=hy;refine EqAt.int_int _ _ _ _ prog w E Q ?_;have : (i == j)=decide (MK.int i=MK.int j):=by
        rw [show (i == j)=decide (i=j) from rfl];by_cases c:i=j
        · subst c;simp
        · rw [decide_eq_false c,no fun z=>c (by cases z;rfl)]
      rw [this];exact h
    | str i=>obtain ⟨t,rfl⟩:=hy;rw [no (fun z=>by cases z)] at h;exact EqAt.int_str _ _ _ _ prog w E Q h
    | tup ks=>obtain ⟨a,rfl,ha⟩:=hy;rw [no (fun z=>by cases z)] at h;obtain ⟨_,ht⟩:=cW ha;exact EqAt.int_tuple _ _ ht hu prog w E Q h
  | str i =>
    obtain ⟨t,rfl⟩:=hx;cases y with
    | non=>cases (show v=.none from hy);rw [no (fun z=>by cases z)] at h;exact EqAt.str_none _ _ prog w E Q h
    | int j=>obtain ⟨t',rfl⟩:=hy;rw [no (fun z=>by cases z)] at h;exact EqAt.str_int _ _ _ _ prog w E Q h
    | str j =>
      obtain ⟨t',rfl⟩:=hy;refine wpAny_eqBool_str ?_;have : decide (i=j)=decide (MK.str i=MK.str j):=by
        by_cases c:i=j
        · subst c;simp
        · rw [decide_eq_false c,no fun z=>c (by cases z;rfl)]
      rw [this];exact h
    | tup ks=>obtain ⟨a,rfl,ha⟩:=hy;rw [no (fun z=>by cases z)] at h;obtain ⟨_,ht⟩:=cW ha;exact EqAt.str_tuple _ _ ht hu prog w E Q h
  | tup ks =>
    obtain ⟨a,rfl,ha⟩:=hx;cases y with
    | non=>cases (show v=.none from hy);rw [no (fun z=>by cases z)] at h;obtain ⟨_,ht⟩:=cW ha;exact EqAt.tuple_none ht hu prog w E Q h
    | int j=>obtain ⟨t',rfl⟩:=hy;rw [no (fun z=>by cases z)] at h;obtain ⟨_,ht⟩:=cW ha;exact EqAt.tuple_int _ _ ht hu prog w E Q h
    | str j=>obtain ⟨t',rfl⟩:=hy;rw [no (fun z=>by cases z)] at h;obtain ⟨_,ht⟩:=cW ha;exact EqAt.tuple_str _ _ ht hu prog w E Q h
    | tup ms =>
      obtain ⟨b,rfl,hb⟩:=hy;refine wpAny_eqBool_tuple hu ha hb ?_;have : decide (ks=ms)=decide (MK.tup ks=MK.tup ms):=by
        by_cases c:ks=ms
        · subst c;simp
        · rw [decide_eq_false c,no fun z=>c (by cases z;rfl)]
      rw [this];exact h
theorem oD {k:MK} {v:Value} {Q:Bool→Shared→Prop} (hk:isM prog w s.heap k v) (h:Q true s):wpAny (model prog w) A (eqIsQuiet 8 v) Q E s:=by
  cases k with
  | non=>cases (show v=.none from hk);rw [eqIsQuiet_byValue 8 rfl];exact wpAny_pure h
  | int i=>obtain ⟨t,rfl⟩:=hk;rw [eqIsQuiet_byValue 8 rfl];exact wpAny_pure h
  | str i=>obtain ⟨t,rfl⟩:=hk;rw [eqIsQuiet_byValue 8 rfl];exact wpAny_pure h
  | tup ks=>obtain ⟨a,rfl,ha⟩:=hk;exact wpAny_eqIsQuiet_tuple ha h
abbrev EM:=MK × Value × Value
def cT (w:World) (x:EM):DictEntry:=⟨hM w x.1,x.2.1,x.2.2⟩
def DictM (prog:Program) (w:World) (h:Heap) (d:Addr) (xs:List EM):Prop :=
  ∃ o es ep,h.get? d=some o∧o.ExactDict∧o.data=.dict es ep∧es.toList=xs.map (cT w)∧(∀ x∈xs,isM prog w h x.1 x.2.1)∧(xs.map (·.1)).Nodup
theorem DictM.typeIs {s:Shared} {d:Addr} {xs:List EM} (hm:DictM prog w s.heap d xs):s.TypeIs (.ref d) "dict":=let ⟨o,_,_,ho,hc,_⟩:=hm;⟨o,ho,hc.1⟩
theorem fL {es:Array DictEntry} {xs:List EM} (he:es.toList=xs.map (cT w)) (j:Nat):es[j]?=(xs[j]?).map (cT w):=by
  rw [← aaD,he,aak]
theorem df {es:Array DictEntry} {xs:List EM} (he:es.toList=xs.map (cT w)):es.size=xs.length:=by
  rw [← aaq,he,aaa]
theorem ixM {xs:List EM} (hn:(xs.map (·.1)).Nodup) {i j:Nat} {k:MK} {p q:Value × Value} (hi:xs[i]?=some (k,p)) (hj:xs[j]?=some (k,q)):i=j:=by
  have hi':(xs.map (·.1))[i]?=some k:=by rw [aak,hi];rfl
  have hj':(xs.map (·.1))[j]?=some k:=by rw [aak,hj];rfl
  exact (List.getElem?_inj (aaA.mp hi').1 hn).mp (hi'.trans hj'.symm)
theorem vW {k:MK} {key:Value} {stored:List Value} {Q:Bool→Shared→Prop} (hkey:isM prog w s.heap k key)
    (hst:∀ v∈stored,∃ k',isM prog w s.heap k' v) (h:Q false s):wpAny (model prog w) A (tableMayTell key stored) Q E s:=by
  unfold tableMayTell;split
  · exact wpAny_pure h
  · refine wpAny_bind (oD hkey ?_);simp only [Bool.not_true,aaH,if_false];refine wpAny_bind ?_;refine wpAny_forIn_list _ (fun rest r s'=>s'=s∧r=(none,())∧∀ v∈rest,∃ k',isM prog w s.heap k' v) _ ?_ ?_ _ _ ⟨rfl,rfl,hst⟩
    · rintro x rest r s' ⟨rfl,rfl,hr⟩;obtain ⟨k',hb⟩:=hr x aan;refine wpAny_bind (oD hb ?_);simp only [Bool.not_true,aaH,if_false];exact wpAny_pure ⟨rfl,rfl,fun v hv=>hr v (aaj _ hv)⟩
    · rintro r s' ⟨rfl,rfl,_⟩;exact wpAny_pure h
theorem kP {d:Addr} {key:Value} {o:Obj} {es ep} {xs:List EM} {k:MK} {Q:Option Nat→Shared→Prop} (hu:A.units < cLine) (hkey:isM prog w s.heap k key)
    (ho:s.heap.get? d=some o) (hd:o.data=.dict es ep) (he:es.toList=xs.map (cT w)) (his:∀ x∈xs,isM prog w s.heap x.1 x.2.1) (hn:(xs.map (·.1)).Nodup)
    (hnone:(∀ (j:Nat) (p:Value × Value),xs[j]?≠some (k,p))→Q none s) (hsome:∀ (j:Nat) (p:Value × Value),xs[j]?=some (k,p)→Q (some j) s) :
    wpAny (model prog w) A (dictFind d key (hM w k)) Q E s:=by
  have hsz:es.size=xs.length:=df he;have haskey:∀ (j:Nat) (p:Value × Value),xs[j]?=some (k,p)→((es[j]?.map (·.hash)) == some (hM w k))=true:=by
    intro j p hj;rw [fL he j,hj];simp [cT]
  have hmem:∀ e∈es,∃ x∈xs,e=cT w x:=by
    intro e hin;have : e∈xs.map (cT w):=he ▸ Array.mem_toList_iff.mpr hin;obtain ⟨x,hx,rfl⟩:=aar.mp this;exact ⟨x,hx,rfl⟩
  have hst:∀ v∈(placesWithHash es.size (fun i=>es[i]?.map (·.hash)) (hM w k)).filterMap (fun i=>es[i]?.map (·.key)),∃ k',isM prog w s.heap k' v:=by
    intro v hv;obtain ⟨i,_,hi⟩:=adf.mp hv;cases hei:es[i]? with
    | none=>rw [hei] at hi;cases hi
    | some e =>
      rw [hei] at hi;obtain rfl:e.key=v:=by simpa using hi
      obtain ⟨x,hx,rfl⟩:=hmem e (Array.mem_of_getElem? hei);exact ⟨x.1,his x hx⟩
  have plain:wpAny (model prog w) A (dictWalkPlain d key (hM w k) es (placesWithHash es.size (fun i=>es[i]?.map (·.hash)) (hM w k))) Q E s:=by
    unfold dictWalkPlain;refine wpAny_bind ?_;refine wpAny_forIn_list _
      (fun rest b s'=>s'=s∧b=(none,())∧∃ i,rest=(List.range' i (es.size - i)).filter (fun i=>(es[i]?.map (·.hash)) == some (hM w k))∧i≤es.size∧∀ j p,j < i→xs[j]?≠some (k,p)) _ ?_ ?_ _ _
      ⟨rfl,rfl,0,by rw [placesWithHash,List.range_eq_range',Nat.sub_zero],aa4 _,fun _ _ h=>absurd h (acq _)⟩
    · rintro x rest b s' ⟨rfl,rfl,i,hr,hi,hno⟩;obtain ⟨hix,hxn,hpx,hskip,hrest⟩:=filter_range'_cons _ _ _ _ _ hr.symm;have hlt:x < es.size:=by lia
      obtain ⟨⟨k',b,v'⟩,hkv⟩:∃ y,xs[x]?=some y:=⟨xs[x]'(by rw [← hsz];exact hlt),aac _⟩
      have hib:isM prog w s'.heap k' b:=his _ (aap hkv);have hex:es[x]?=some ⟨hM w k',b,v'⟩:=by rw [fL he x,hkv];rfl
      have hnext:¬ k'=k→∃ i,rest=(List.range' i (es.size - i)).filter (fun i=>(es[i]?.map (·.hash)) == some (hM w k))∧i≤es.size∧∀ j p,j < i→xs[j]?≠some (k,p):=fun hne =>
        ⟨x+1,by rw [hrest];congr 2;lia,hlt,fun j p hji hj=>by
          rcases acp j i with h|h
          · exact hno j p h hj
          · rcases acp j x with h'|h'
            · have:=hskip j h h';rw [haskey j p hj] at this;exact absurd this (by decide)
            · have : j=x:=by lia
              subst this;rw [hkv] at hj;injection hj with hj;injection hj with hj;exact hne hj⟩
      rw [hex];dsimp only;by_cases hh:(hM w k' == hM w k)=true
      · rw [if_pos hh];refine wpAny_bind (wpAny_dictEpoch ho hd (wpAny_bind (i3 (x:=k') (y:=k) hu hib hkey (wpAny_bind (wpAny_dictEpoch ho hd ?_)))));show wpAny _ _ (if (ep != ep)=true then _ else _) _ E _;rw [if_neg (by simp)];by_cases hkk:k'=k
        · rw [decide_eq_true hkk];subst hkk;exact wpAny_bind (wpAny_rule (wpAny_pure (wpAny_pure (hsome x _ hkv))))
        · rw [decide_eq_false hkk];exact wpAny_bind (wpAny_rule (wpAny_pure ⟨rfl,rfl,hnext hkk⟩))
      · rw [if_neg hh];refine wpAny_pure ⟨rfl,rfl,hnext ?_⟩;intro hkk;rw [hkk] at hh;simp at hh
    · rintro b s' ⟨rfl,rfl,i,hr,hi,hno⟩;refine wpAny_pure (hnone fun j p hj=>?_);rcases acp j i with h|h
      · exact hno j p h hj
      · have hjl:j < es.size:=by
          rw [hsz];rcases acp j xs.length with h'|h'
          · exact h'
          · rw [aa6 h'] at hj;exact nomatch hj
        have:=List.filter_eq_nil_iff.mp hr.symm j (List.mem_range'_1.mpr ⟨h,by lia⟩);exact this (haskey j p hj)
  have strp:∀ (y:Str) (t:Tok),key=.str y t→(es.all fun e=>isExactStrKey e.key)=true→wpAny (model prog w) A (foundByValue d key es y) Q E s:=by
    intro y t hy hall;have hk:k=.str y:=by
      subst hy;cases k with
      | non=>cases (show Value.str y t=.none from hkey)
      | int i=>obtain ⟨t,e⟩:=hkey;cases e
      | str i=>obtain ⟨t,e⟩:=hkey;cases e;rfl
      | tup ks=>obtain ⟨a,e,_⟩:=hkey;cases e
    subst hk;have hiff:∀ (j:Nat) (k':MK) (b v':Value),xs[j]?=some (k',b,v')→(b.isStr y=true↔k'=.str y):=by
      intro j k' b v' hj;have hb:=his _ (aap hj);constructor
      · intro hs;have hbs:∃ t,b=.str y t:=by
          cases b <;> simp_all [Value.isStr]
        obtain ⟨t',rfl⟩:=hbs;exact (isM.inj (x:=.str y) (y:=k') ⟨t',rfl⟩ hb).symm
      · intro hk;subst hk;obtain ⟨t',e⟩:=hb;rw [show b=Value.str y t' from e];simp [Value.isStr]
    unfold foundByValue;cases hf:es.findIdx? (fun e=>e.key.isStr y) with
    | none =>
      refine wpAny_pure (hnone fun j p hj=>?_);have he1:=fL he j;rw [hj] at he1;have hm:=Array.mem_of_getElem? he1;have:=Array.findIdx?_eq_none_iff.mp hf _ hm;have h2:=(hiff j _ _ _ hj).mpr rfl;rw [show (cT w (.str y,p)).key=p.1 from rfl,h2] at this;cases this
    | some i =>
      obtain ⟨hlt,hi,_⟩:=Array.findIdx?_eq_some_iff_getElem.mp hf;obtain ⟨⟨k',b,v'⟩,hkv⟩:∃ z,xs[i]?=some z:=⟨xs[i]'(by rw [← hsz];exact hlt),aac _⟩
      have hex:es[i]?=some ⟨hM w k',b,v'⟩:=by rw [fL he i,hkv];rfl
      have hgi:es[i]=⟨hM w k',b,v'⟩:=by rw [aaW hlt] at hex;exact aa2 hex
      rw [hgi] at hi;have hk':=(hiff i _ _ _ hkv).mp hi;subst hk';dsimp only;rw [hex];dsimp only;refine wpAny_bind (wpAny_dictEpoch ho hd (wpAny_bind (i3 (x:=.str y) (y:=.str y) hu (his _ (aap hkv)) hkey (wpAny_bind (wpAny_dictEpoch ho hd ?_)))));show wpAny _ _ (if (ep != ep)=true then _ else _) _ E _;rw [if_neg (by simp),decide_eq_true rfl];exact wpAny_bind (wpAny_rule (wpAny_pure (hsome i _ hkv)))
  have hany:∀ a,key=.ref a→¬ (es.any fun e=>e.key == Value.ref a && e.hash != hM w k)=true:=by
    intro a ha;rw [← Array.any_toList,List.any_eq_true];rintro ⟨e,hin,hc⟩;obtain ⟨x,hx,rfl⟩:=hmem e (Array.mem_toList_iff.mp hin);simp only [cT,aaS,beq_iff_eq,bne_iff_ne,ne_eq] at hc;obtain ⟨hxa,hne⟩:=hc;have:=his x hx;rw [hxa,← ha] at this;exact hne (by rw [isM.inj this hkey])
  unfold dictFind
  try with_reducible refine wpAny_holding ?_
  refine wpAny_bind (wpAny_dictEntries ho hd ?_);refine (fun (tl:∀ q,isM prog w s.heap k q→(?T:Value→Prop) q)=>?mn) ?tt
  case mn =>
    dsimp only;split
    · next y t =>
      by_cases ha:(es.all fun e=>isExactStrKey e.key)=true
      · rw [if_pos ha];exact strp y t rfl ha
      · rw [if_neg ha];dsimp only;generalize hq:Value.str y t=q at *;by_cases hc:((q :: (placesWithHash es.size (fun i=>es[i]?.map (·.hash)) (hM w k)).filterMap (fun i=>es[i]?.map (·.key))).all carriedByValue)=true
        · rw [if_pos hc];exact plain
        · rw [if_neg hc];exact tl q hkey
    · by_cases hc:((key :: (placesWithHash es.size (fun i=>es[i]?.map (·.hash)) (hM w k)).filterMap (fun i=>es[i]?.map (·.key))).all carriedByValue)=true
      · rw [if_pos hc];exact plain
      · rw [if_neg hc];split
        · rw [if_neg (hany _ rfl)];generalize hq:Value.ref _=q at *;exact tl q hkey
        · exact tl key hkey
  case tt =>
    clear plain strp hany hkey;intro key hkey;by_cases hone:(((placesWithHash es.size (fun i=>es[i]?.map (·.hash)) (hM w k)).filterMap (fun i=>es[i]?.map (·.key))) == [key])=true <;>
    (first|rw [if_pos hone]|rw [if_neg hone]) <;> (first|refine wpAny_bind (wpAny_pure ?_)|refine wpAny_bind (vW hkey hst ?_)) <;> (
    rw [if_neg (by simp)];refine wpAny_bind ?_;refine wpAny_forIn_list _
      (fun rest b s'=>s'=s∧∃ i hit,b=(none,hit)∧rest=(List.range' i (es.size - i)).filter (fun i=>(es[i]?.map (·.hash)) == some (hM w k))∧i≤es.size ∧
        ((hit=none∧∀ j p,j < i→xs[j]?≠some (k,p))∨∃ j p,hit=some j∧j < i∧xs[j]?=some (k,p))) _ ?_ ?_ _ _
      ⟨rfl,0,none,rfl,by rw [placesWithHash,List.range_eq_range',Nat.sub_zero],aa4 _,.inl ⟨rfl,fun _ _ h=>absurd h (acq _)⟩⟩
    · rintro x rest b s' ⟨rfl,i,hit,rfl,hr,hi,hH⟩;obtain ⟨hix,hxn,hpx,hskip,hrest⟩:=filter_range'_cons _ _ _ _ _ hr.symm;have hlt:x < es.size:=by lia
      have hrest':rest=(List.range' (x+1) (es.size - (x+1))).filter (fun i=>(es[i]?.map (·.hash)) == some (hM w k)):=by rw [hrest];congr 2;lia
      obtain ⟨⟨k',b,v'⟩,hkv⟩:∃ y,xs[x]?=some y:=⟨xs[x]'(by rw [← hsz];exact hlt),aac _⟩
      have hib:isM prog w s'.heap k' b:=his _ (aap hkv);have hex:es[x]?=some ⟨hM w k',b,v'⟩:=by rw [fL he x,hkv];rfl
      have hHx:(hit=none∧∀ j p,j < x→xs[j]?≠some (k,p))∨∃ j p,hit=some j∧j < x∧xs[j]?=some (k,p):=by
        rcases hH with ⟨h0,hno⟩|⟨j,p,h1,hji,hj⟩
        · refine .inl ⟨h0,fun j p hjx hj=>?_⟩;rcases acp j i with h|h
          · exact hno j p h hj
          · have:=hskip j h hjx;rw [haskey j p hj] at this;exact absurd this (by decide)
        · exact .inr ⟨j,p,h1,by lia,hj⟩
      have hstay:¬ k'=k→((hit=none∧∀ j p,j < x+1→xs[j]?≠some (k,p))∨∃ j p,hit=some j∧j < x+1∧xs[j]?=some (k,p)):=by
        intro hne;rcases hHx with ⟨h0,hno⟩|⟨j,p,h1,hjx,hj⟩
        · refine .inl ⟨h0,fun j p hjx hj=>?_⟩;rcases acp j x with h|h
          · exact hno j p h hj
          · have hjx':j=x:=by lia
            subst hjx';rw [hkv] at hj;injection hj with hj
            injection hj with hj
            exact hne hj
        · exact .inr ⟨j,p,h1,by lia,hj⟩
      rw [hex];dsimp only;by_cases hh:(hM w k' == hM w k)=true
      · rw [if_pos hh];refine wpAny_bind (wpAny_dictEpoch ho hd (wpAny_bind (i3 (x:=k') (y:=k) hu hib hkey (wpAny_bind (wpAny_dictEpoch ho hd ?_)))));show wpAny _ _ (if (ep != ep)=true then _ else _) _ E _;rw [if_neg (by simp)];by_cases hkk:k'=k
        · rw [decide_eq_true hkk];subst hkk;rcases hHx with ⟨rfl,_⟩|⟨j,p,_,hjx,hj⟩
          · first|rw [if_pos rfl]|skip
            simp only [Option.isSome_none,aaH,if_false]
            first|refine wpAny_bind (wpAny_pure ?_)|skip
            refine wpAny_bind (wpAny_rule ?_);split
            · exact wpAny_pure (wpAny_pure (hsome x _ hkv))
            · exact wpAny_pure ⟨rfl,x+1,some x,rfl,hrest',hlt,.inr ⟨x,_,rfl,ace x,hkv⟩⟩
          · exact absurd (ixM hn hj hkv) (by lia)
        · rw [decide_eq_false hkk];simp only [aaH,if_false];refine wpAny_bind (wpAny_rule ?_)
          first|rw [if_neg (by simp)]|skip
          first
            | exact wpAny_pure ⟨rfl,x+1,hit,rfl,hrest',hlt,hstay hkk⟩
            | exact wpAny_bind (wpAny_pure (wpAny_pure ⟨rfl,x+1,hit,rfl,hrest',hlt,hstay hkk⟩))
      · rw [if_neg hh];refine wpAny_pure ⟨rfl,x+1,hit,rfl,hrest',hlt,hstay ?_⟩;intro hkk;rw [hkk] at hh;simp at hh
    · rintro b s' ⟨rfl,i,hit,rfl,hr,hi,hH⟩;have hall:∀ j,i≤j→j < es.size→((es[j]?.map (·.hash)) == some (hM w k))=false:=by
        intro j h1 h2;have:=List.filter_eq_nil_iff.mp hr.symm j (List.mem_range'_1.mpr ⟨h1,by lia⟩);simpa using this
      rcases hH with ⟨rfl,hno⟩|⟨j,p,rfl,_,hj⟩
      · refine wpAny_pure (hnone fun j p hj=>?_);rcases acp j i with h|h
        · exact hno j p h hj
        · have hjl:j < es.size:=by
            rw [hsz];rcases acp j xs.length with h'|h'
            · exact h'
            · rw [aa6 h'] at hj;exact nomatch hj
          have:=hall j h hjl;rw [haskey j p hj] at this;exact absurd this (by decide)
      · exact wpAny_pure (hsome j p hj))
end
end L2
namespace L2
open PySem PySem.Spec PyProof.Rows PySem.SeqAt
section
variable {A:Around} {E:Value→Shared→Prop} {s:Shared} {prog:Program} {w:World} {d:Addr} {key:Value} {k:MK} {xs:List EM}
def atM (xs:List EM) (k:MK):Option Value:=(xs.find? fun x=>decide (x.1=k)).map (·.2.2)
theorem ik (hn:(xs.map (·.1)).Nodup) {i:Nat} {p:Value × Value} (hx:xs[i]?=some (k,p)):atM xs k=some p.2:=by
  unfold atM;have hm:=aap hx;cases hf:xs.find? (fun x=>decide (x.1=k)) with
  | none =>
    have:=List.find?_eq_none.mp hf _ hm;simp at this
  | some y =>
    have hy:=List.mem_of_find?_eq_some hf;have hk:y.1=k:=by have:=List.find?_some hf;simpa using this
    obtain ⟨j,hj⟩:=abq.mp hy;have : i=j:=ixM (k:=k) (p:=p) (q:=y.2) hn hx (by rw [hj,← hk]);rw [← this,hx] at hj;cases hj;rfl
theorem jh (h:∀ (j:Nat) (p:Value × Value),xs[j]?≠some (k,p)):atM xs k=none:=by
  unfold atM;rw [List.find?_eq_none.mpr]
  · rfl
  · intro x hx hk;obtain ⟨j,hj⟩:=abq.mp hx;exact h j x.2 (by rw [hj,← of_decide_eq_true hk])
def g0 (k:MK) (v:Value) (x:EM):EM:=if x.1=k then (x.1,x.2.1,v) else x
def stM (xs:List EM) (k:MK) (key v:Value):List EM:=if (atM xs k).isSome then xs.map (g0 k v) else xs++[(k,key,v)]
def noM (xs:List EM) (k:MK):List EM:=xs.filter fun x=>decide (x.1≠k)
theorem si {Q:Option Value→Shared→Prop} (hu:A.units < cLine) (hkey:isM prog w s.heap k key) (hm:DictM prog w s.heap d xs)
    (h:Q (atM xs k) { s with toks:=s.toks+dM k }):wpAny (model prog w) A (dictGet d key) Q E s:=by
  obtain ⟨o,es,ep,ho,_,hd,he,his,hn⟩:=hm;unfold dictGet
  try with_reducible refine wpAny_holding ?_
  refine wpAny_bind (fT hu hkey (wpAny_bind (kP (s:={ s with toks:=s.toks+dM k }) hu hkey ho hd he his hn ?_ ?_)))
  · intro hno;rw [jh hno] at h;exact wpAny_pure h
  · intro j p hj;rw [ik hn hj] at h;refine wpAny_bind (wpAny_dictEntries (s:={ s with toks:=s.toks+dM k }) ho hd ?_);rw [fL he j,hj];exact wpAny_pure h
theorem pG (xs:List EM) (k:MK) (v:Value):(xs.map (g0 k v)).map (·.1)=xs.map (·.1):=by
  induction xs with
  | nil=>rfl
  | cons x xs ih =>
    simp only [aae,ih];by_cases hk:x.1=k <;> simp [g0,hk]
theorem tO (xs:List EM) (k:MK) (v:Value) (hn:k∉xs.map (·.1)):xs.map (g0 k v)=xs:=by
  induction xs with
  | nil=>rfl
  | cons x xs ih =>
    simp only [aae,aai,not_or] at hn ⊢;rw [g0,if_neg (fun e=>hn.1 e.symm),ih hn.2]
theorem xp (k:MK) (v:Value):∀ {xs:List EM} {j:Nat} {p:Value × Value},(xs.map (·.1)).Nodup→xs[j]?=some (k,p)→(xs.map (cT w)).modify j (fun e=>{ e with val:=v })=(xs.map (g0 k v)).map (cT w):=by
  intro xs
  induction xs with
  | nil=>intro j p _ hj;simp at hj
  | cons x rest ih =>
    intro j p hn hj;rw [aae,aa9] at hn;cases j with
    | zero =>
      simp only [List.getElem?_cons_zero,Option.some.injEq] at hj;subst hj;rw [aae,aae,tO rest k v hn.1,g0,if_pos rfl,aae];rfl
    | succ j =>
      simp only [acL] at hj;have hmem:k∈rest.map (·.1):=aar.mpr ⟨(k,p),aap hj,rfl⟩;have hne:¬ x.1=k:=fun e=>hn.1 (e ▸ hmem);rw [aae,aae,g0,if_neg hne,aae];show cT w x :: (rest.map (cT w)).modify j _=_;rw [ih hn.2 hj]
theorem xC {j:Nat} {p:Value × Value}:∀ {xs:List EM} {j:Nat} {p:Value × Value},(xs.map (·.1)).Nodup→xs[j]?=some (k,p)→(xs.map (cT w)).eraseIdx j=(noM xs k).map (cT w):=by
  intro xs
  induction xs with
  | nil=>intro j p _ hj;simp at hj
  | cons x rest ih =>
    intro j p hn hj;rw [aae,aa9] at hn;cases j with
    | zero =>
      simp only [List.getElem?_cons_zero,Option.some.injEq] at hj;subst hj;have : noM ((k,p) :: rest) k=rest:=by
        unfold noM;rw [acd,if_neg (by simp)];exact List.filter_eq_self.mpr fun y hy=>by simpa using fun e=>hn.1 (aar.mpr ⟨y,hy,e⟩)
      rw [this];rfl
    | succ j =>
      simp only [acL] at hj;have hmem:k∈rest.map (·.1):=aar.mpr ⟨(k,p),aap hj,rfl⟩;have hne:¬ x.1=k:=fun e=>hn.1 (e ▸ hmem);have : noM (x :: rest) k=x :: noM rest k:=by
        unfold noM;rw [acd,if_pos (by simpa using hne)]
      rw [this,aae,aae,acK,ih hn.2 hj]
theorem pP (hn:(xs.map (·.1)).Nodup):((noM xs k).map (·.1)).Nodup:=acm (List.filter_sublist.map _) hn
theorem uR {v:Value} {Q:Unit→Shared→Prop} (hu:A.units < cLine) (hkey:isM prog w s.heap k key) (hm:DictM prog w s.heap d xs)
    (hQ:∀ h',DictM prog w h' d (stM xs k key v)→aaY d s.heap h'→Q () { s with heap:=h' })
    (hsz:xs.length≤sizeLine):wpAny (model prog w) A (dictSetHashed d key (hM w k) v) Q E s:=by
  obtain ⟨o,es,ep,ho,hc,hd,he,his,hn⟩:=hm;unfold dictSetHashed
  try with_reducible refine wpAny_holding ?_
  refine wpAny_bind (kP hu hkey ho hd he his hn ?_ ?_)
  · intro hno;have hnot:k∉xs.map (·.1):=fun hm=>by
      obtain ⟨x,hx,e⟩:=aar.mp hm;obtain ⟨j,hj⟩:=abq.mp hx;exact hno j x.2 (by rw [hj,← e])
    have est:stM xs k key v=xs++[(k,key,v)]:=by unfold stM;rw [jh hno];rfl
    refine wpAny_bind (wpAny_rule (wpAny_updateDictKeys (hz:=by have e:=df he;lia) ho hd (hQ _ ⟨_,_,ep+1,aa5 _ ho (Obj.isFreed_of_dict (acy hd _)),
      hc.mapDictKeys _,acy hd _,?_,?_,?_⟩ (aaR ..))))
    · rw [est];simp [he,cT]
    · rw [est];intro x hx;rcases aay.mp hx with hx|hx
      · exact (his x hx).keeps ho hd (aaR ..)
      · simp only [aau] at hx;subst hx;exact hkey.keeps ho hd (aaR ..)
    · rw [est];rw [aaG,List.nodup_append];refine ⟨hn,by simp,?_⟩;intro x hx y hy;simp only [aae,abk,aau] at hy;subst hy;exact fun e=>hnot (e ▸ hx)
  · intro j p hj;have est:stM xs k key v=xs.map (g0 k v):=by unfold stM;rw [ik hn hj];rfl
    refine wpAny_bind (wpAny_rule (wpAny_bind (wpAny_updateDict ho hd (wpAny_point (hQ _ ⟨_,_,ep,aa5 _ ho (Obj.isFreed_of_dict (Obj.data_mapDict hd _)),
      hc.mapDict _,Obj.data_mapDict hd _,?_,?_,?_⟩ (aaR ..))))))
    · rw [est];have:=xp (w:=w) k v hn hj;rw [← he] at this;obtain ⟨l⟩:=es;simpa using this
    · rw [est];intro x hx;obtain ⟨y,hy,rfl⟩:=aar.mp hx;unfold g0;split <;> exact (his y hy).keeps ho hd (aaR ..)
    · rw [est];rw [pG];exact hn
theorem wk {v:Value} {Q:Unit→Shared→Prop} (hu:A.units < cLine) (hkey:isM prog w s.heap k key) (hm:DictM prog w s.heap d xs)
    (hQ:∀ h',DictM prog w h' d (stM xs k key v)→aaY d s.heap h'→Q () { s with heap:=h',toks:=s.toks+dM k })
    (hsz:xs.length≤sizeLine):wpAny (model prog w) A (dictSet d key v) Q E s:=by
  unfold dictSet
  try with_reducible refine wpAny_holding ?_
  exact wpAny_bind (fT hu hkey (uR (s:={ s with toks:=s.toks+dM k }) hu hkey hm hQ hsz))
theorem qB {Q:Option DictEntry→Shared→Prop} {v:Value} (hu:A.units < cLine) (hkey:isM prog w s.heap k key) (hm:DictM prog w s.heap d xs) (hv:atM xs k=some v)
    (hQ:∀ e h',e.val=v→DictM prog w h' d (noM xs k)→aaY d s.heap h'→Q (some e) { s with heap:=h',toks:=s.toks+dM k })
    (hsz:xs.length≤sizeLine):wpAny (model prog w) A (acw d key) Q E s:=by
  obtain ⟨o,es,ep,ho,hc,hd,he,his,hn⟩:=hm;unfold acw
  try with_reducible refine wpAny_holding ?_
  refine wpAny_bind (fT hu hkey ?_);refine wpAny_bind (kP (s:={ s with toks:=s.toks+dM k }) hu hkey ho hd he his hn ?_ ?_)
  · intro hno;rw [jh hno] at hv;cases hv
  · intro j p hj;rw [ik hn hj] at hv;refine wpAny_bind (wpAny_dictEntries (s:={ s with toks:=s.toks+dM k }) ho hd ?_);rw [fL he j,hj];refine wpAny_bind (wpAny_updateDictKeys (hz:=by have e:=df he;lia) (s:={ s with toks:=s.toks+dM k }) ho hd (wpAny_pure (hQ _ _ (aa2 hv) ⟨_,_,ep+1,aa5 _ ho (Obj.isFreed_of_dict (acy hd _)),
      hc.mapDictKeys _,acy hd _,?_,?_,pP hn⟩ (aaR ..))))
    · have:=xC (k:=k) (w:=w) (j:=j) (p:=p) hn hj;rw [← he] at this;obtain ⟨l⟩:=es;simpa using this
    · intro x hx;exact (his x (acM.mp hx).1).keeps ho hd (aaR ..)
theorem xw {Q:Value→Shared→Prop} (hu:A.units+1 < cLine) (hkey:isM prog w s.heap k key) (hd:(d == sysModules)=false) (hm:DictM prog w s.heap d xs)
    (h:Q (.bool (atM xs k).isSome) { s with toks:=s.toks+dM k }):wpAny (model prog w) A (compareOp .In key (.ref d)) Q E s:=by
  show wpAny _ _ (do return .bool (← contains (.ref d) key)) Q E s;refine wpAny_bind ?_;unfold contains
  try with_reducible refine wpAny_holding ?_
  refine wpAny_bind (wpAny_specialOf hm.typeIs slot_dict_contains.lookup ?_);show wpAny _ _ (if (some (Value.builtin "dict.__contains__") == some Value.none)=true then _ else _) _ E s;rw [if_neg (by rw [beq_builtin_none];exact aag)];refine wpAny_bind (wpAny_callSpecialUnlessNone?_slot (name:=abB "__contains__") hm.typeIs slot_dict_contains
    (wpAny_call_entry slot_dict_contains hm.typeIs entry_dict_contains ?_ (args_dict_contains _ _)))
  show wpAny _ _ (dictGet d key >>= _) _ _ s;refine wpAny_bind (si (A:=A.in1) hu hkey hm ?_);cases hf:atM xs k with
  | some p =>
    rw [hf] at h;show wpAny _ _ (ret (.bool true)) _ _ _;exact wpAny_pure ⟨_,rfl,wpAny_truthy_bool (wpAny_pure h)⟩
  | none =>
    rw [hf] at h;show wpAny _ _ (Builtin.Dict.pendingKey? d key >>= _) _ _ _;exact wpAny_bind (wpAny_pendingKey_other hd (wpAny_pure ⟨_,rfl,wpAny_truthy_bool (wpAny_pure h)⟩))
theorem qe {v:Value} {Q:Value→Shared→Prop} (hu:A.units+1 < cLine) (hkey:isM prog w s.heap k key) (hm:DictM prog w s.heap d xs) (hv:atM xs k=some v)
    (h:Q v { s with toks:=s.toks+dM k }):wpAny (model prog w) A (getItem (.ref d) key) Q E s:=by
  unfold getItem
  try with_reducible refine wpAny_holding ?_
  refine wpAny_bind (wpAny_sequenceKey hm.typeIs (by decide) ?_);refine wpAny_bind (wpAny_callSpecial?_slot (name:=abB "__getitem__") hm.typeIs slot_dict_getitem
    (wpAny_call_entry slot_dict_getitem hm.typeIs entry_dict_getitem ?_ (args_dict_getitem _ _)))
  show wpAny _ _ (dictGet d key >>= _) _ _ s;refine wpAny_bind (si (A:=A.in1) hu hkey hm ?_);rw [hv];exact wpAny_pure ⟨v,rfl,wpAny_pure h⟩
theorem pC {v:Value} {Q:Unit→Shared→Prop} (hu:A.units+1 < cLine) (hkey:isM prog w s.heap k key) (hm:DictM prog w s.heap d xs)
    (hQ:∀ h',DictM prog w h' d (stM xs k key v)→aaY d s.heap h'→Q () { s with heap:=h',toks:=s.toks+dM k })
    (hsz:xs.length≤sizeLine):wpAny (model prog w) A (setItem (.ref d) key v) Q E s:=by
  unfold setItem
  try with_reducible refine wpAny_holding ?_
  refine wpAny_bind (wpAny_sequenceKey hm.typeIs (by decide) ?_);refine wpAny_bind (wpAny_callSpecial?_slot (name:=abB "__setitem__") hm.typeIs slot_dict_setitem
    (wpAny_call_entry slot_dict_setitem hm.typeIs entry_dict_setitem ?_ (args_dict_setitem _ _ _)))
  show wpAny _ _ (Builtin.Dict.notOrdered "__setitem__" ⟨[.ref d,key,v],[]⟩ >>= _) _ _ s;refine wpAny_bind (wpAny_notOrdered_dict hm.typeIs ?_);show wpAny _ _ (dictSet d key v >>= _) _ _ s;exact wpAny_bind (wk (A:=A.in1) hu hkey hm (fun h' hm' hs'=>wpAny_pure ⟨.none,rfl,wpAny_pure (hQ h' hm' hs')⟩) hsz)
theorem vK {dflt:Value} {Q:Value→Shared→Prop} (hu:A.units+1 < cLine) (hkey:isM prog w s.heap k key) (hd:(d == sysModules)=false) (hm:DictM prog w s.heap d xs)
    (h:Q ((atM xs k).getD dflt) { s with toks:=s.toks+dM k }):wpAny (model prog w) A (call (.builtin "dict.get") [.ref d,key,dflt]) Q E s:=by
  refine wpAny_call_entry PySem.F.slot_dict_get hm.typeIs PySem.F.entry_dict_get ?_ (PySem.F.args_dict_get_3 _ _ _);show wpAny _ _ (dictGet d key >>= _) _ _ s;refine wpAny_bind (si (A:=A.in1) hu hkey hm ?_);cases hf:atM xs k with
  | some v =>
    rw [hf] at h;exact wpAny_pure ⟨v,rfl,h⟩
  | none =>
    rw [hf] at h;show wpAny _ _ (Builtin.Dict.missed d key >>= _) _ _ _;exact wpAny_bind (wpAny_missed_other hd (wpAny_pure ⟨dflt,rfl,h⟩))
theorem ur {v:Value} {Q:Value→Shared→Prop} (hu:A.units+1 < cLine) (hkey:isM prog w s.heap k key) (hm:DictM prog w s.heap d xs) (hv:atM xs k=some v) (more:List Value) (hmo:more=[]∨∃ x,more=[x])
    (hQ:∀ h',DictM prog w h' d (noM xs k)→aaY d s.heap h'→Q v { s with heap:=h',toks:=s.toks+dM k })
    (hsz:xs.length≤sizeLine):wpAny (model prog w) A (call (.builtin "dict.pop") (.ref d :: key :: more)) Q E s:=by
  have ha:argsOk "dict.pop" ⟨.ref d :: key :: more,[]⟩:=by
    rcases hmo with q|⟨x,q⟩
    · subst q;exact PySem.F.args_dict_pop_2 _ _
    · subst q;exact PySem.F.args_dict_pop_3 _ _ _
  have hne:xs≠[]:=fun e=>by subst e;cases hv
  refine wpAny_call_entry act hm.typeIs PySem.F.entry_dict_pop ?_ ha;obtain ⟨o,es,ep,ho,hc,hd,he,his,hn⟩:=id hm;have hes:es.isEmpty=false:=by
    have:=df he;have h0:xs.length≠0:=fun z=>hne (aa8.mp z);rw [Array.isEmpty_eq_false_iff];intro z;rw [z] at this;exact h0 this.symm
  unfold Builtin.«dict.pop»;refine wpAny_bind ?_;unfold Builtin.Dict.keyAndDefault;refine wpAny_bind (wpAny_notOrdered_dict hm.typeIs ?_);rcases hmo with rfl|⟨x,rfl⟩
  · show wpAny _ _ (pure (d,key,none)) _ _ s;refine wpAny_pure ?_;dsimp only;refine (fun (tl:(?T1:Prop))=>?mn1) ?tt1
    case mn1 =>
      by_cases hp:(keyPart key).isSome=true
      · rw [if_pos hp];refine wpAny_bind (wpAny_pure ?_);simp only [aaH,if_false];refine wpAny_bind ?_;exact tl
      · rw [if_neg hp];refine wpAny_bind (wpAny_dictEntries ho hd (wpAny_bind (wpAny_pure ?_)));rw [hes];simp only [aaH,if_false];refine wpAny_bind ?_;exact tl
    case tt1 =>
      refine qB (A:=A.in1) hu hkey hm hv (fun e h' ev hm' hs'=>?_) hsz;simp only [Option.isNone_some,aaH,if_false];exact wpAny_bind (wpAny_letGo (wpAny_pure ⟨e.val,rfl,by rw [ev];exact hQ h' hm' hs'⟩))
  · show wpAny _ _ (pure (d,key,some x)) _ _ s;refine wpAny_pure ?_;dsimp only;refine (fun (tl:(?T2:Prop))=>?mn2) ?tt2
    case mn2 =>
      by_cases hp:(keyPart key).isSome=true
      · rw [if_pos hp];refine wpAny_bind (wpAny_pure ?_);simp only [aaH,if_false];refine wpAny_bind ?_;exact tl
      · rw [if_neg hp];refine wpAny_bind (wpAny_dictEntries ho hd (wpAny_bind (wpAny_pure ?_)));rw [hes];simp only [aaH,if_false];refine wpAny_bind ?_;exact tl
    case tt2 =>
      refine qB (A:=A.in1) hu hkey hm hv (fun e h' ev hm' hs'=>?_) hsz;simp only [Option.isNone_some,aaH,if_false];exact wpAny_bind (wpAny_letGo (wpAny_pure ⟨e.val,rfl,by rw [ev];exact hQ h' hm' hs'⟩))
end
end L2
namespace L2
open PySem PySem.Spec PyProof.Rows PySem.SeqAt
def BiL:List Int→List V→Prop:=Paired fun k x=>x=.int k∨∃ b,x=.bl b∧k=bI b
def MkIn (H:Hp):MK→V→Prop
  | .non,v=>v=.non
  | .int i,v=>v=.int i
  | .str x,v=>v=.str x
  | .tup ks,v=>∃ b xs,v=.ref b∧H b=some (.tup xs)∧BiL ks xs
theorem MkIn.mono {H H':Hp} {k:MK} {v:V} (g:∀ b xs,H b=some (.tup xs)→H' b=some (.tup xs)) (h:MkIn H k v):MkIn H' k v:=by
  cases k with
  | tup ks=>obtain ⟨b,xs,e,hb,r⟩:=h;exact ⟨b,xs,e,g _ _ hb,r⟩
  | _=>exact h
theorem BiL.ints (ks:List Int):BiL ks (ks.map V.int):=by
  unfold BiL
  induction ks with
  | nil=>exact .nil
  | cons k ks ih=>exact .cons (.inl rfl) ih
theorem MkIn.pair {H:Hp} {b:Addr} {i j:Int} (h:H b=some (.tup [.int i,.int j])):MkIn H (.tup [i,j]) (.ref b):=⟨b,_,rfl,h,BiL.ints [i,j]⟩
abbrev KEn:=MK × V × V
def DmO (w:World) (kvs:List KEn) (o:Obj):Prop:=o.ExactDict∧∃ es ep,o.data=.dict es ep∧Paired (fun (p:KEn) (e:DictEntry)=>e.hash=hM w p.1∧RelV p.2.1 e.key∧RelV p.2.2 e.val) kvs es.toList
def dmX (w:World) (a:Addr) (kvs:List KEn):HO:=.ext fun h=>∃ o,h.get? a=some o∧DmO w kvs o
structure DmIn (w:World) (H:Hp) (a:Addr) (kvs:List KEn):Prop where
  at_:H a=some (dmX w a kvs)
  keys:∀ p∈kvs,MkIn H p.1 p.2.1
  nd:(kvs.map (·.1)).Nodup
  len:kvs.length≤1000
theorem DmIn.mono {w:World} {H H':Hp} {a:Addr} {kvs:List KEn} (g:Same H H') (h:DmIn w H a kvs):DmIn w H' a kvs:=⟨g _ _ h.at_,fun p hp=>(h.keys p hp).mono fun b xs=>g b _,h.nd,h.len⟩
def Pd (w:World) (H:Hp) (a:Addr) (es:List (MK × V)):Prop :=
  (∃ kvs:List (List Int × V),H a=some (.dT (kvs.map fun p=>(p.1.map Sum.inl,p.2)))∧es=kvs.map fun p=>(.tup p.1,p.2)) ∨
  (∃ kvs,DmIn w H a kvs∧es=kvs.map fun p=>(p.1,p.2.2))∨(H a=some (.dK [])∧es=[])
theorem Pd.mono {w:World} {H H':Hp} {a:Addr} {es:List (MK × V)} (g:Same H H') (h:Pd w H a es):Pd w H' a es:=by
  rcases h with ⟨kvs,h,e⟩|⟨kvs,h,e⟩|⟨h,e⟩
  · exact .inl ⟨kvs,g _ _ h,e⟩
  · exact .inr (.inl ⟨kvs,h.mono g,e⟩)
  · exact .inr (.inr ⟨g _ _ h,e⟩)
theorem jX {P:Program} {w:World}:∀ {ks:List Int} {xs:List V} {us:List Value},BiL ks xs→Vals xs us→ItemsAre (kX P w) ks us
  | _,_,_,.nil,r=>by cases r;exact .nil
  | _,_,_,.cons h t,r=>by
    cases r with
    | cons r1 r2 =>
      refine .cons ?_ (jX t r2);rcases h with rfl|⟨b,rfl,rfl⟩
      · obtain ⟨t,rfl⟩:=r1;exact beq_self_eq_true _
      · cases r1;exact beq_self_eq_true _
section
variable {X:Cx} {pins:List (Addr × Obj)} {σ:St} {H:Hp} {s:Shared} {a:Addr}
theorem gG (I:Inv X pins σ H s) {k:MK} {v:V} {u:Value} (h:MkIn H k v) (r:RelV v u):isM X.prog X.w s.heap k u:=by
  cases k with
  | non=>cases (show v=.non from h);exact r
  | int i=>cases (show v=.int i from h);exact r
  | str i=>cases (show v=.str i from h);exact r
  | tup ks =>
    obtain ⟨b,xs,rfl,hb,bl⟩:=h;cases r;obtain ⟨_,its,rv,o,h1,h2,n,h3⟩:=(show ObjOk X.prog X.w H s.heap b (.tup xs) from I.hok b _ hb)
    exact ⟨b,rfl,o,its.toArray,n,h1,h2,h3,by simpa using jX bl rv⟩
theorem nG (I:Inv X pins σ H s) {o:HO} (h:H a=some o):(a == sysModules)=false:=beq_eq_false_iff_ne.mpr (I.nosys h)
abbrev KM:List KEn→List EM→Prop:=Paired fun p q=>p.1=q.1∧RelV p.2.1 q.2.1∧RelV p.2.2 q.2.2
theorem uw {w:World}:∀ {kvs:List KEn} {es:List DictEntry},Paired (fun (p:KEn) (e:DictEntry)=>e.hash=hM w p.1∧RelV p.2.1 e.key∧RelV p.2.2 e.val) kvs es→∃ xs:List EM,KM kvs xs∧es=xs.map (cT w)
  | _,_,.nil=>⟨[],.nil,rfl⟩
  | _,_,.cons (a:=p) (b:=e) h t=>by
    obtain ⟨xs,r,rfl⟩:=uw t;refine ⟨(p.1,e.key,e.val) :: xs,.cons ⟨rfl,h.2⟩ r,?_⟩;obtain ⟨h1,h2,h3⟩:=e;rw [aae];congr 1;unfold cT;rw [← h.1]
theorem ub {kvs:List KEn} {xs:List EM} (r:KM kvs xs):kvs.map (·.1)=xs.map (·.1):=by
  induction r with
  | nil=>rfl
  | cons h t ih=>rw [aae,aae,ih,h.1]
theorem wG (I:Inv X pins σ H s) {kvs:List KEn} {xs:List EM} (r:KM kvs xs) (h:∀ p∈kvs,MkIn H p.1 p.2.1):∀ x∈xs,isM X.prog X.w s.heap x.1 x.2.1:=by
  induction r with
  | nil=>intro x hx;exact nomatch hx
  | @cons p q ps qs h1 t ih =>
    intro x hx;rcases aai.mp hx with e|hx
    · rw [e,← h1.1];exact gG I (h p aan) h1.2.1
    · exact ih (fun p hp=>h p (aaj _ hp)) x hx
theorem i_ (I:Inv X pins σ H s) {kvs:List KEn} (d:DmIn X.w H a kvs):∃ xs:List EM,KM kvs xs∧DictM X.prog X.w s.heap a xs:=by
  obtain ⟨⟨o,ho,hx,es,ep,hd,rel⟩,_⟩:=(show ObjOk X.prog X.w H s.heap a (dmX X.w a kvs) from I.hok a _ d.at_)
  obtain ⟨xs,r,e⟩:=uw rel;exact ⟨xs,r,o,es,ep,ho,hx,hd,e,wG I r d.keys,by rw [← ub r];exact d.nd⟩
abbrev PM:List (MK × V)→List EM→Prop:=Paired fun p q=>p.1=q.1∧RelV p.2 q.2.2
theorem mt {P:Program} {w:World}:∀ {ks:List Int} {us:List Value},ItemsAre (ar P w) (ks.map Sum.inl) us→ItemsAre (kX P w) ks us
  | [],_,h=>by rw [abk] at h;cases h;exact .nil
  | k :: ks,_,h=>by
    rw [aae] at h;cases h with
    | cons h t =>
      refine .cons ?_ (mt t);rw [iR] at h;rcases aW h with ⟨i,t,e,rfl⟩|⟨x,t,e,rfl⟩
      · cases e;exact beq_self_eq_true _
      · cases e
theorem sG {P:Program} {w:World} {h:Heap}:∀ {kvs:List (List Int × V)} {ys:List (List Key × Addr × Value)},Paired (fun (p:List Key × V) q=>p.1=q.1∧RelV p.2 q.2.2) (kvs.map fun p=>(p.1.map Sum.inl,p.2)) ys→(∀ x∈ys,IsTupleKey (ar P w) h x.1 x.2.1) →
    ∃ xs:List EM,PM (kvs.map fun p=>(.tup p.1,p.2)) xs∧ys.map (entryOfKey (tupleKind (ar P w)))=xs.map (cT w)∧(∀ x∈xs,isM P w h x.1 x.2.1)∧xs.map (·.1)=kvs.map fun p=>MK.tup p.1
  | [],_,r,_=>by rw [abk] at r;cases r;exact ⟨[],.nil,rfl,(fun x hx=>nomatch hx),rfl⟩
  | p :: kvs,_,r,hk=>by
    rw [aae] at r;cases r with
    | @cons _ q _ qs h t =>
      obtain ⟨xs,r1,r2,r3,r4⟩:=sG (P:=P) (w:=w) t fun x hx=>hk x (aaj _ hx);have hq:=hk q aan;rw [← h.1] at hq;obtain ⟨o,items,n,g1,g2,g3,g4⟩:=hq;refine ⟨(.tup p.1,.ref q.2.1,q.2.2) :: xs,.cons ⟨rfl,h.2⟩ r1,?_,fun x hx=>?_,by rw [aae,aae,r4]⟩
      · rw [aae,aae,r2];congr 1;obtain ⟨q1,q2,q3⟩:=q;unfold entryOfKey cT;dsimp only at h ⊢;rw [← h.1];have : (tupleKind (ar P w)).hash (p.1.map Sum.inl)=hM w (.tup p.1):=by
          show reduceHash (abZ ((p.1.map Sum.inl).map (ar P w).hash))=reduceHash (abZ (p.1.map hashInt));rw [aaM];rfl
        rw [this]
      · rcases aai.mp hx with rfl|hx
        · exact ⟨q.2.1,rfl,o,items,n,g1,g2,g3,mt g4⟩
        · exact r3 x hx
theorem oh {l:List (List Int × V)} (h:(l.map fun p=>p.1.map (Sum.inl:Int→Key)).Nodup):(l.map fun p=>MK.tup p.1).Nodup:=by
  induction l with
  | nil=>exact ac0
  | cons p l ih =>
    rw [aae,aa9] at h ⊢;refine ⟨fun hm=>h.1 ?_,ih h.2⟩;obtain ⟨q,hq,e⟩:=aar.mp hm;injection e with e
    exact aar.mpr ⟨q,hq,by rw [e]⟩
theorem iJ (I:Inv X pins σ H s) {es:List (MK × V)} (d:Pd X.w H a es):∃ xs:List EM,PM es xs∧DictM X.prog X.w s.heap a xs∧(a == sysModules)=false∧es.length≤sizeLine:=by
  rcases d with ⟨kvs,h,rfl⟩|⟨kvs,h,rfl⟩|⟨h,rfl⟩
  · obtain ⟨z,hd,ys,rel,o,es,ep,h1,h2,h3,h4,h5,h6⟩:=i5 I.hok h;obtain ⟨xs,r1,r2,r3,r4⟩:=sG (P:=X.prog) (w:=X.w) (h:=s.heap) (Paired.mapP rel fun _ _ z=>⟨z.1,z.2.2⟩) h5;refine ⟨xs,r1,⟨o,es,ep,h1,h2,h3,by rw [h4,r2],r3,?_⟩,hd,by simpa using z⟩;rw [r4];refine oh ?_;have : ys.map (·.1)=kvs.map fun p=>p.1.map (Sum.inl:Int→Key):=by
      have e:∀ {l:List (List Key × V)} {m:List (List Key × Addr × Value)},KT H l m→m.map (·.1)=l.map (·.1):=by
        intro l m q
        induction q with
        | nil=>rfl
        | cons h t ih=>rw [aae,aae,ih,h.1]
      rw [e rel,aaM];rfl
    rw [← this];exact h6
  · obtain ⟨xs,r,dd⟩:=i_ I h;refine ⟨xs,?_,dd,nG I h.at_,by rw [aaa];have:=h.len;rw [sizeLine_eq];lia⟩;have : ∀ {l:List KEn} {m:List EM},KM l m→PM (l.map fun p=>(p.1,p.2.2)) m:=by
      intro l m q
      induction q with
      | nil=>exact .nil
      | cons h t ih=>exact .cons ⟨h.1,h.2.2⟩ ih
    exact this r
  · obtain ⟨z,hd,vs,rel,dd⟩:=jR I.hok h;cases rel;obtain ⟨o,es,ep,h1,h2,h3,_,h4,_⟩:=dd;refine ⟨[],.nil,⟨o,es,ep,h1,h2,h3,?_,(fun x hx=>nomatch hx),ac0⟩,hd,aa4 _⟩;have:=h4.length;cases hl:es.toList with
    | nil=>rfl
    | cons e r=>rw [hl] at this;simp at this
theorem qT {es:List (MK × V)} {xs:List EM} (r:PM es xs) (k:MK):RelO (bg es k) (atM xs k):=by
  induction r with
  | nil=>exact True.intro
  | @cons p q ps qs h t ih =>
    obtain ⟨h1,h2⟩:=h;by_cases e:p.1=k
    · have e':q.1=k:=h1.symm.trans e;have b:atM (q :: qs) k=some q.2.2:=by simp [atM,abe,e']
      rw [dr e,b];exact h2
    · have e':¬ q.1=k:=fun z=>e (h1.trans z);have b:atM (q :: qs) k=atM qs k:=by simp [atM,abe,e']
      rw [dt e,b];exact ih
def lf (w:World) (H:Hp) (a:Addr) (y:V) (r:Option V):Prop:=∃ es k,Pd w H a es∧MkIn H k y∧r=bg es k
theorem rE (I:Inv X pins σ H s) {y:V} {r:Option V} {u:Value} (g:lf X.w H a y r) (ry:RelV y u):∃ k xs,isM X.prog X.w s.heap k u∧DictM X.prog X.w s.heap a xs∧(a == sysModules)=false∧RelO r (atM xs k)∧xs.length≤sizeLine:=by
  obtain ⟨es,k,hd,hk,rfl⟩:=g;obtain ⟨xs,rel,dd,hs,hz⟩:=iJ I hd;exact ⟨k,xs,gG I hk ry,dd,hs,qT rel k,by rw [← aav rel];exact hz⟩
end
def v6 (w:World) (td ty:TE):TE:=fun σ H Q=>td σ H fun x H1=>ty σ H1 fun y H2=>∃ a v,x=.ref a∧lf w H2 a y (some v)∧Q v H2
def uJ (w:World) (ty td:TE):TE:=fun σ H Q=>ty σ H fun y H1=>td σ H1 fun x H2=>∃ a o,x=.ref a∧lf w H2 a y o∧Q (.bl o.isSome) H2
def uK (w:World) (td ty tx:TE):TE:=fun σ H Q=>td σ H fun x H1=>∃ a es,x=.ref a∧Pd w H1 a es∧ty σ H1 fun y H2=>tx σ H2 fun z H3=>∃ o,lf w H3 a y o∧Q (o.getD z) H3
section
variable {X:Cx} {o i e f value:Expr} {pos pos' tpos apos cpos:Pos} {td ty tv tx:TE} {w:World}
theorem kq {pins:List (Addr × Obj)} {σ:St} {H:Hp} {s:Shared} {a:Addr} {es:List (MK × V)} (I:Inv X pins σ H s) (d:Pd X.w H a es):s.TypeIs (.ref a) "dict"∧(∀ b,Value.ref a=.ref b→∃ ob,s.heap.get? b=some ob∧ob.dict=none):=by
  obtain ⟨xs,rel,dd,hs,hz⟩:=iJ I d;obtain ⟨ob,_,_,h1,h2,_⟩:=id dd;exact ⟨dd.typeIs,fun b q=>by cases q;exact ⟨ob,h1,h2.2.1⟩⟩
theorem bH (hw:X.w=w) (hu:X.A.units+1 < cLine) (ho:PE X o td) (hi:PE X i ty) (hs:vS i):PE X (.Subscript o i pos) (v6 w td ty):=by
  subst hw;intro pins s σ H Q I h;refine on adg.lookup hs (thn (ho pins s σ H _ I h) fun u s1 ⟨x,H1,I1,rx,q1⟩=>thn (hi pins s1 σ H1 _ I1 q1) fun iv s2 ⟨y,H2,I2,ry,a,v,ex,g,q2⟩=>?_);subst ex;obtain rfl:u=Value.ref a:=rx;obtain ⟨k,xs,hk,dd,_,ro,_⟩:=rE I2 g ry;obtain ⟨w',hw,rw'⟩:=RelO.some_of ro;exact ⟨dd.typeIs,qe hu hk dd hw ⟨v,H2,I2.tok _,rw',q2⟩⟩
theorem re (hw:X.w=w) (hu:X.A.units+1 < cLine) (hi:PE X i ty) (ho:PE X o td):PC X .In i o (uJ w ty td):=by
  subst hw;intro pins s σ H Q I h;refine thn (hi pins s σ H _ I h) fun iv s1 ⟨y,H1,I1,ry,q1⟩=>thn (ho pins s1 σ H1 _ I1 q1) fun u s2 ⟨x,H2,I2,rx,a,ov,ex,g,q2⟩=>?_;subst ex;obtain rfl:u=Value.ref a:=rx;obtain ⟨k,xs,hk,dd,hs,ro,_⟩:=rE I2 g ry;refine xw hu hk hs dd ?_;rw [← ro.isSome_eq];exact ⟨.bl ov.isSome,H2,I2.tok _,rfl,q2⟩
theorem vc (hw:X.w=w) (hu:X.A.units+1 < cLine) (hi:PE X i ty) (ho:PE X o td) (hm:behindInMarks .In o=false):PE X (.Compare i [.In] [o] pos) (uJ w ty td):=vm (re hw hu hi ho) hm
theorem uZ (hw:X.w=w) (hu:X.A.units+1 < cLine) (hi:PE X i ty) (ho:PE X o td) (hm:behindInMarks .In o=false):PT X (.Compare i [.In] [o] pos) (tB (uJ w ty td)):=qS (re hw hu hi ho) hm
theorem qZ (hw:X.w=w) (hu:X.A.units+1 < cLine) (ho:PE X o td) (he:PE X e ty) (hf:PE X f tx) (m:M2 X o "get" apos e f cpos):PE X (.Call (.Attribute o "get" apos) [e,f] [] cpos) (uK w td ty tx):=by
  subst hw;intro pins s σ H Q I h;refine wpAny_Call_method m.base m.few m.line abL PySem.F.slot_dict_get PySem.F.type_dict_get (thn (ho pins s σ H _ I h) fun u s1 ⟨x,H1,I1,rx,a,es,ex,d,q1⟩=>?_);subst ex;obtain rfl:u=Value.ref a:=rx;obtain ⟨t1,t2⟩:=kq I1 d;refine ⟨t1,t2,?_⟩;rw [m.trees];refine abQ rfl (acx (abU (thn (he pins s1 σ H1 _ I1 q1) fun iv s2 ⟨y,H2,I2,ry,q2⟩ =>
    abU (thn (hf pins s2 σ H2 _ I2 q2) fun fv s3 ⟨z,H3,I3,rz,ov,g,q3⟩=>acS ?_))))
  obtain ⟨k,xs,hk,dd,hs,ro,_⟩:=rE I3 g ry;exact vK hu hk hs dd ⟨_,H3,I3.tok _,ro.getD rz,q3⟩
end
end L2
namespace L2
open PySem PySem.Spec PyProof.Rows PySem.SeqAt PySem.W
section
variable {prog:Program} {w:World} {A:Around} {E:Value→Shared→Prop} {s:Shared}
theorem lK {a:Addr} {Q:Bool→Shared→Prop} (hT:s.TypeIs (.ref a) "tuple") (h:Q false s):wpAny (model prog w) A (Builtin.Dict.quietEq (.ref a)) Q E s:=by
  unfold Builtin.Dict.quietEq;exact wpAny_bind (wpAny_specialOf hT PySem.F.slot_tuple_eq.lookup (wpAny_pure h))
theorem sx {hs:List Int} (hn:hs.Nodup) (x:Int):(hs.filter fun y=>y == x).length≤1:=by
  have : (hs.filter fun y=>y == x).length=hs.count x:=by rw [List.count_eq_length_filter]
  rw [this];exact List.nodup_iff_count.mp hn x
theorem sE {id:String} {d:Addr} {o:Obj} {es:Array DictEntry} {ep:Nat} {Q:Array DictEntry→Shared→Prop} (ho:s.heap.get? d=some o) (hd:o.data=.dict es ep)
    (hk:∀ e∈es.toList,∃ a,e.key=.ref a∧s.TypeIs (.ref a) "tuple") (hn:(es.toList.map (·.hash)).Nodup) (h:Q es s) :
    wpAny (model prog w) A (Builtin.Dict.entriesForEmpty id d) Q E s:=by
  unfold Builtin.Dict.entriesForEmpty;refine wpAny_bind (wpAny_dictEntries ho hd ?_);refine wpAny_bind ?_;rw [← Array.forIn_toList];refine wpAny_forIn_list _ (fun rest r s'=>s'=s∧∀ e∈rest,e∈es.toList) _ ?_ ?_ _ _ ⟨rfl,fun _ z=>z⟩
  · rintro e rest r s' ⟨rfl,hr⟩;obtain ⟨a,ha,hT⟩:=hk e (hr e aan);rw [ha];refine wpAny_bind (lK hT ?_);have hl:¬ (es.filter (fun y=>y.hash == e.hash)).size > 1:=by
      have e1:(es.filter (fun y=>y.hash == e.hash)).size=((es.toList.map (·.hash)).filter fun y=>y == e.hash).length:=by
        rw [← aaq,Array.toList_filter,List.filter_map,aaa];rfl
      rw [e1];have:=sx hn e.hash;lia
    simp only [Bool.not_false,if_true];rw [if_neg hl];exact wpAny_pure ⟨rfl,fun x hx=>hr x (aaj _ hx)⟩
  · rintro r s' ⟨rfl,_⟩;exact wpAny_pure h
theorem wS {o:Addr} {xs:List EM} {Q:Value→Shared→Prop} (hoS:(o == sysModules)=false) (ho:DictM prog w s.heap o xs) (hsz:xs.length≤sizeLine) (hne:xs≠[]) (htup:∀ x∈xs,∃ ks,x.1=.tup ks) (hn:(xs.map fun x=>hM w x.1).Nodup)
    (h:∀ h',DictM prog w h' s.heap.objs.size xs→aaY s.heap.objs.size (s.heap.push { cls:=.type "dict",data:=.dict #[] }) h'→Q (.ref s.heap.objs.size) { s with heap:=h' }) :
    wpAny (model prog w) A (call (.type "dict") [.ref o]) Q E s:=by
  refine callType_codes (Q₁:=fun obj s₁=>obj=.ref s.heap.objs.size∧s₁={ s with heap:=s.heap.push { cls:=.type "dict",data:=.dict #[] } }) F.kt_called_dict (F.kt_typeCall_dict_1 _) F.entry_dict_init (kt_code_dict_new _ ⟨rfl,rfl⟩) ?_;rintro obj s₁ ⟨rfl,rfl⟩;obtain ⟨oo,eso,epo,hoo,hco,hdo,heo,hio,hno⟩:=ho;have kp:∀ b u,s.heap.get? b=some u→(s.heap.push { cls:=.type "dict",data:=.dict #[] }).get? b=some u:=fun b u q=>aad _ q;have hoo':=kp _ _ hoo;have hT:({ s with heap:=s.heap.push { cls:=.type "dict",data:=.dict #[] } }:Shared).TypeIs (.ref o) "dict":=⟨oo,hoo',hco.1⟩
  have hdo':s.heap.objs.size≠o:=fun e=>absurd (aal hoo) (by rw [e];exact abE _);have hod:(s.heap.push { cls:=.type "dict",data:=.dict #[] }).get? s.heap.objs.size=some { cls:=.type "dict",data:=.dict #[] }:=aao _ rfl;have hTn:({ s with heap:=s.heap.push { cls:=.type "dict",data:=.dict #[] } }:Shared).TypeIs (.ref s.heap.objs.size) "dict":=⟨_,hod,rfl⟩
  refine ⟨hTn,F.args_dict_init_2 _ _,?_⟩;unfold Builtin.«dict.__init__»;refine wpAny_bind ?_;unfold acD;refine wpAny_bind (wpAny_notOrdered_dict hTn ?_);show wpAny _ _ (pure (s.heap.objs.size,[Value.ref o])) _ _ _;refine wpAny_pure ?_;show wpAny _ _ (abw "dict.__init__" s.heap.objs.size (.ref o) [] .none) _ _ _;unfold abw;refine wpAny_bind (wpAny_typeOf hT ?_);rw [if_neg (by decide)];refine wpAny_bind ?_;unfold Builtin.Dict.merge;refine wpAny_bind ?_;unfold Builtin.Dict.readDirectly;refine wpAny_bind (wpAny_isInstance hT isSubtype_dict_dict ?_);simp only [Bool.not_true,aaH,if_false];refine wpAny_bind (wpAny_specialOf hT F.slot_dict_iter.lookup (wpAny_pure ?_));simp only [beq_self_eq_true,if_true];refine wpAny_bind (wpAny_pure ?_);unfold Builtin.Dict.mergeDict;rw [if_neg (by simpa using hdo')];unfold abT;rw [if_neg (by rw [hoS];exact aag)];refine wpAny_bind (wpAny_pure ?_);refine wpAny_bind (wpAny_dictEntries hoo' hdo ?_);dsimp only;have hmem:∀ e∈eso.toList,∃ x∈xs,e=cT w x:=fun e he=>by
    rw [heo] at he;obtain ⟨x,hx,rfl⟩:=aar.mp he;exact ⟨x,hx,rfl⟩
  have hkeys:∀ e∈eso.toList,∃ a,e.key=.ref a∧({ s with heap:=s.heap.push { cls:=.type "dict",data:=.dict #[] } }:Shared).TypeIs (.ref a) "tuple":=fun e he=>by
    obtain ⟨x,hx,rfl⟩:=hmem e he;obtain ⟨ks,ek⟩:=htup x hx;have:=hio x hx;rw [ek] at this;obtain ⟨a,e1,o1,its,n,g1,g2,_⟩:=this;exact ⟨a,e1,o1,kp _ _ g1,g2⟩
  have hsome:eso.size≠0:=by rw [df heo];exact fun z=>hne (aa8.mp z)
  have hfew:(decide (eso.size≤8) && eso.all fun e=>(keyPart e.key).isSome)=false:=by
    rw [Bool.and_eq_false_iff];right;rw [← Array.all_toList];rw [List.all_eq_false];have h0:0 < eso.toList.length:=by rw [aaq];lia
    refine ⟨eso.toList[0],abA h0,?_⟩;obtain ⟨a,ha,_⟩:=hkeys _ (abA h0);rw [ha];exact aag
  rw [hfew];simp only [Bool.not_false,if_true];refine wpAny_bind (wpAny_dictEntries hod rfl ?_);rw [if_pos (by rfl)];refine wpAny_bind (sE hoo' hdo hkeys (by rw [heo,aaM];exact hn) ?_);rw [if_pos (by simpa using hsome)];have hto:eso.size≤sizeLine+1:=by rw [df heo];lia
  refine wpAny_bind (wpAny_updateDictKeysTo (es:=#[]) (ep:=0) hod rfl (wpAny_pure ?_) hto);show wpAny _ _ (Builtin.Dict.addKeywords s.heap.objs.size [] >>= _) _ _ _;have hsb:=aaR (s.heap.push { cls:=.type "dict",data:=.dict #[] }) s.heap.objs.size (Obj.mapDictKeys fun _=>eso);refine wpAny_bind (wpAny_pure (wpAny_pure ⟨rfl,h _ ⟨_,eso,0+1,aa5 _ hod rfl,⟨rfl,rfl,rfl⟩,rfl,heo,fun x hx=>?_,hno⟩ hsb⟩));exact ((hio x hx).kept kp).keeps hod rfl hsb
end
open PySem PySem.Spec PyProof.Rows
section
variable {X:Cx} {pins:List (Addr × Obj)} {σ:St} {H:Hp} {s:Shared}
theorem iV {P:Program} {w:World} {h:Heap}:∀ {ks:List Key} {us:List Value},Vals (ks.map kV) us→∃ as,ReadsAll h us (ks.map nK) as∧sysModules∉as
  | [],_,r=>by rw [abk] at r;cases r;exact ⟨_,.nil,by simp⟩
  | k :: ks,_,r=>by
    rw [aae] at r;cases r with
    | cons h t =>
      obtain ⟨as,ra,na⟩:=iV (P:=P) (w:=w) t;exact ⟨_,.cons (jI (P:=P) (w:=w) (jK h)) ra,by simpa using na⟩
end
end L2
namespace L2
open PySem PySem.Spec PyProof.Rows PySem.SeqAt PySem.W
def fi (kvs:List KEn) (k:MK) (y v:V):List KEn:=if (kvs.any fun e=>decide (e.1=k))=true then kvs.map (fun e=>if e.1=k then (e.1,e.2.1,v) else e) else kvs++[(k,y,v)]
def bM (kvs:List KEn) (k:MK):List KEn:=kvs.filter fun e=>decide (e.1≠k)
def rdE (kvs:List KEn):List (MK × V):=kvs.map fun e=>(e.1,e.2.2)
theorem tI (kvs:List KEn) (k:MK) (y v:V):rdE (fi kvs k y v)=bt (rdE kvs) k v:=by
  have ha:(kvs.any fun e=>decide (e.1=k))=((rdE kvs).any fun e=>decide (e.1=k)):=by unfold rdE;rw [List.any_map];rfl
  unfold fi bt;rw [← ha];by_cases c:(kvs.any fun e=>decide (e.1=k))=true
  · rw [if_pos c,if_pos c];unfold rdE;rw [aaM,aaM];refine List.map_congr_left fun e _=>?_;show _=if e.1=k then (e.1,v) else (e.1,e.2.2)
    by_cases h:e.1=k
    · simp [h]
    · simp [h]
  · rw [if_neg c,if_neg c];unfold rdE;rw [aaG];rfl
theorem fS (kvs:List KEn):(rdE kvs).map (·.1)=kvs.map (·.1):=by unfold rdE;rw [aaM];rfl
theorem lM {kvs:List KEn} {k:MK} {y v:V} {e:KEn} (h:e∈fi kvs k y v):(∃ e0∈kvs,e.1=e0.1∧e.2.1=e0.2.1∧(e.2.2=e0.2.2∨e.2.2=v))∨e=(k,y,v):=by
  unfold fi at h;split at h
  · obtain ⟨e0,h0,rfl⟩:=aar.mp h;left;refine ⟨e0,h0,?_⟩;split
    · exact ⟨rfl,rfl,.inr rfl⟩
    · exact ⟨rfl,rfl,.inl rfl⟩
  · rcases aay.mp h with h|h
    · exact .inl ⟨e,h,rfl,rfl,.inl rfl⟩
    · exact .inr (aau.mp h)
theorem eR (kvs:List KEn) (k:MK) (y v:V):(fi kvs k y v).length≤kvs.length+1:=by
  unfold fi;split
  · rw [aaa];lia
  · rw [aaw];exact aaf _
theorem tP {kvs:List KEn} {k:MK} {y v:V} (h:(kvs.map (·.1)).Nodup):((fi kvs k y v).map (·.1)).Nodup:=by
  rw [← fS,tI];cases c:bg (rdE kvs) k with
  | none=>exact t6 v (by rw [fS];exact h) c
  | some x =>
    have : ((bt (rdE kvs) k v).map (·.1))=(rdE kvs).map (·.1):=by
      unfold bt;rw [cY,c];simp only [Option.isSome_some,if_true,aaM];refine List.map_congr_left fun e _=>?_;show (if e.1=k then (e.1,v) else e).1=e.1;split <;> rfl
    rw [this,fS];exact h
theorem sH {kvs:List KEn} {k:MK} (h:(kvs.map (·.1)).Nodup):((bM kvs k).map (·.1)).Nodup:=acm (List.filter_sublist.map _) h
theorem DmIn.to {w:World} {H:Hp} {a:Addr} {kvs ks:List KEn} (d:DmIn w H a kvs) (hk:∀ e∈ks,MkIn H e.1 e.2.1) (hn:(ks.map (·.1)).Nodup) (hl:ks.length≤1000):DmIn w (upd H a (dmX w a ks)) a ks :=
  ⟨ad,fun p hp=>(hk p hp).mono fun b xs e=>by rw [aj (oI e d.at_ (fun z=>nomatch z))];exact e,hn,hl⟩
theorem DmIn.put {w:World} {H:Hp} {a:Addr} {kvs:List KEn} {k:MK} {y:V} (v:V) (d:DmIn w H a kvs) (hk:MkIn H k y) (hl:kvs.length < 1000):DmIn w (upd H a (dmX w a (fi kvs k y v))) a (fi kvs k y v) :=
  d.to (fun e he=>by
    rcases lM he with ⟨e0,h0,e1,e2,_⟩|rfl
    · rw [e1,e2];exact d.keys _ h0
    · exact hk) (tP d.nd) (by have:=eR kvs k y v;lia)
theorem DmIn.drop {w:World} {H:Hp} {a:Addr} {kvs:List KEn} (k:MK) (d:DmIn w H a kvs):DmIn w (upd H a (dmX w a (bM kvs k))) a (bM kvs k) :=
  d.to (fun e he=>d.keys _ (acM.mp he).1) (sH d.nd) (aa1 (abW _ _) d.len)
theorem kM {kvs:List KEn} {xs:List EM} (r:KM kvs xs) (k:MK):RelO (bg (rdE kvs) k) (atM xs k):=by
  refine qT ?_ k;unfold rdE
  induction r with
  | nil=>exact .nil
  | cons h t ih=>exact .cons ⟨h.1,h.2.2⟩ ih
theorem ua {kvs:List KEn} {xs:List EM} (r:KM kvs xs) (k:MK) {v:V} {u:Value} (rv:RelV v u):KM (kvs.map fun e=>if e.1=k then (e.1,e.2.1,v) else e) (xs.map (g0 k u)):=by
  induction r with
  | nil=>exact .nil
  | @cons p q ps qs h t ih =>
    rw [aae,aae];refine .cons ?_ ih;unfold g0;by_cases e:p.1=k
    · rw [if_pos e,if_pos (h.1.symm.trans e)];exact ⟨h.1,h.2.1,rv⟩
    · rw [if_neg e,if_neg (fun z=>e (h.1.trans z))];exact h
theorem vA {kvs:List KEn} {xs:List EM} (r:KM kvs xs) (k:MK) {y v:V} {key u:Value} (ry:RelV y key) (rv:RelV v u):KM (fi kvs k y v) (stM xs k key u):=by
  have e:(kvs.any fun e=>decide (e.1=k))=(atM xs k).isSome:=by
    rw [← (kM r k).isSome_eq,← cY];unfold rdE;rw [List.any_map];rfl
  unfold fi stM;rw [e];by_cases q:(atM xs k).isSome=true
  · rw [if_pos q,if_pos q];exact ua r k rv
  · rw [if_neg q,if_neg q];exact Paired.snoc r ⟨rfl,ry,rv⟩
theorem oM {kvs:List KEn} {xs:List EM} (r:KM kvs xs) (k:MK):KM (bM kvs k) (noM xs k):=by
  unfold bM noM
  induction r with
  | nil=>exact .nil
  | @cons p q ps qs h t ih =>
    rw [acd,acd];by_cases e:p.1=k
    · rw [if_neg (by simp [e]),if_neg (by simp [h.1.symm.trans e])];exact ih
    · rw [if_pos (by simp [e]),if_pos (by simpa using fun z=>e (h.1.trans z))];exact .cons h ih
theorem kR {P:Program} {w:World} {h:Heap} {H:Hp} {a:Addr} {kvs:List KEn} {xs:List EM} (r:KM kvs xs) (d:DictM P w h a xs):ObjOk P w H h a (dmX w a kvs):=by
  obtain ⟨o,es,ep,ho,hx,hd,he,_,_⟩:=d;refine ⟨⟨o,ho,hx,es,ep,hd,?_⟩,⟨o,ho⟩,fun h1 h2 ⟨o,e,q⟩ k=>⟨o,k _ e,q⟩⟩;rw [he];have : ∀ {l:List KEn} {m:List EM},KM l m→Paired (fun (p:KEn) (e:DictEntry)=>e.hash=hM w p.1∧RelV p.2.1 e.key∧RelV p.2.2 e.val) l (m.map (cT w)):=by
    intro l m q
    induction q with
    | nil=>exact .nil
    | @cons p q ps qs h t ih=>exact .cons ⟨by rw [h.1];rfl,h.2⟩ ih
  exact this r
def wn (w:World) (td ty tv:TE):TS:=fun D σ H=>tv σ H fun v H1=>td σ H1 fun x H2=>ty σ H2 fun y H3=>∃ a kvs k,x=.ref a∧DmIn w H3 a kvs∧MkIn H3 k y∧kvs.length < 1000∧D.nx σ (upd H3 a (dmX w a (fi kvs k y v)))
def v5 (w:World) (td ty:TE):TE:=fun σ H Q=>td σ H fun x H1=>∃ a es,x=.ref a∧Pd w H1 a es∧ty σ H1 fun y H2=>∃ kvs k v,DmIn w H2 a kvs∧MkIn H2 k y∧bg (rdE kvs) k=some v∧Q v (upd H2 a (dmX w a (bM kvs k)))
section
variable {X:Cx} {o i e f value:Expr} {pos pos' tpos apos cpos:Pos} {td ty tv tx:TE} {w:World}
theorem pV {pins:List (Addr × Obj)} {σ:St} {H:Hp} {s:Shared} {a:Addr} {kvs:List KEn} {k:MK} {y v:V} {u r:Value} {A:Around} {E:Value→Shared→Prop} {Q:Unit→Shared→Prop} (hu:A.units+1 < cLine) (I:Inv X pins σ H s) (d:DmIn X.w H a kvs) (hk:MkIn H k y) (hl:kvs.length < 1000) (ry:RelV y u) (rv:RelV v r) (h:∀ s',Inv X pins σ (upd H a (dmX X.w a (fi kvs k y v))) s'→Q () s') :
    wpAny (model X.prog X.w) A (setItem (.ref a) u r) Q E s:=by
  obtain ⟨xs,rel,dd⟩:=i_ I d;have lx:=aav rel;refine pC hu (gG I hk ry) dd (fun h' dd' hs=>h _ ?_) (by rw [sizeLine_eq];lia);have he:∃ q,h'.get? a=some q:=let ⟨q,_,_,hq,_⟩:=dd';⟨q,hq⟩;exact cU I (by rw [d.at_];exact True.intro) hs he (kR (vA rel k ry rv) dd')
theorem ie (hw:X.w=w) (hu:X.A.units+1 < cLine) (ho:PE X o td) (hi:PE X i ty) (hv:PE X value tv) (hs:swapsWith value (some (.Subscript o i pos')) pos.line X.env=pure false) :
    PS X (.Assign [.Subscript o i pos'] value pos) (wn w td ty tv):=by
  subst hw;intro pins s σ H D I h;refine wpAny_Assign_Subscript (thn (hv pins s σ H _ I h) fun r s1 ⟨v,H1,I1,rv,q1⟩=>thn (ho pins s1 σ H1 _ I1 q1) fun u s2 ⟨x,H2,I2,rx,q2⟩=>thn (hi pins s2 σ H2 _ I2 q2) fun iv s3 ⟨y,H3,I3,ry,a,kvs,k,ex,d,hk,hl,q3⟩=>?_) hs;subst ex;obtain rfl:u=Value.ref a:=rx;exact pV hu I3 d hk hl ry rv fun s4 I4=>⟨σ,_,I4,q3⟩
theorem tU (hw:X.w=w) (hu:X.A.units+1 < cLine) (ho:PE X o td) (he:PE X e ty) (m:M1 X o "pop" apos e cpos):PE X (.Call (.Attribute o "pop" apos) [e] [] cpos) (v5 w td ty):=by
  subst hw;intro pins s σ H Q I h;refine wpAny_Call_method m.base m.few m.line abL act PySem.F.type_dict_pop (thn (ho pins s σ H _ I h) fun u s1 ⟨x,H1,I1,rx,a,es,ex,d,q1⟩=>?_);subst ex;obtain rfl:u=Value.ref a:=rx;obtain ⟨t1,t2⟩:=kq I1 d;refine ⟨t1,t2,?_⟩;rw [m.trees];refine abQ rfl (acx (abU (thn (he pins s1 σ H1 _ I1 q1) fun iv s2 ⟨y,H2,I2,ry,kvs,k,v,dm,hk,l,q2⟩=>acS ?_)));obtain ⟨xs,rel,dd⟩:=i_ I2 dm;have lx:=aav rel;obtain ⟨w',hw,rw'⟩:=RelO.some_of (v:=v) (o:=atM xs k) (by rw [← l];exact kM rel k);refine ur hu (gG I2 hk ry) dd hw [] (.inl rfl) (fun h' dd' hs=>⟨v,_,?_,rw',q2⟩) (by rw [sizeLine_eq];have:=dm.len;lia);have he:∃ q,h'.get? a=some q:=let ⟨q,_,_,hq,_⟩:=dd';⟨q,hq⟩;exact cU I2 (by rw [dm.at_];exact True.intro) hs he (kR (oM rel k) dd')
end
theorem jS {X:Cx} {w:World} (hw:X.w=w):bv X (.builtin "len") (fun xs H Q=>∃ a es,xs=[V.ref a]∧Pd w H a es∧Q (.int es.length) H):=by
  subst hw;intro pins s σ H xs us Q I r h;obtain ⟨a,es,rfl,ha,q⟩:=h;obtain ⟨u,rfl,ru⟩:=ci r;cases ru;obtain ⟨xs,rel,⟨o,en,ep,ho,c,dat,l,_,_⟩,hd,z⟩:=iJ I ha;have hs:en.size=es.length:=by rw [df l,← aav rel]
  refine gb hd ho c dat (by rw [hs];rw [sizeLine_eq] at z;lia) ?_;rw [hs];exact ⟨.int es.length,H,I.tok _,⟨_,rfl⟩,q⟩
theorem vF {es:Array DictEntry} {ws:List Value} (hl:ws.length=es.size) (hw:∀ (j:Nat) (v:Value),ws[j]?=some v→∃ e,es[j]?=some e∧v=e.key):ws=es.toList.map (·.key):=by
  refine List.ext_getElem? fun i=>?_;by_cases hi:i < es.size
  · have hi':i < ws.length:=by lia
    obtain ⟨en,e2,e3⟩:=hw i _ (aac hi');have e4:es.toList[i]?=some en:=by rw [← e2];exact aaD
    rw [aak,e4,aac hi',e3];rfl
  · rw [aa6 (by lia),aa6 (by rw [aaa,aaq];lia)]
theorem nO {H:Hp}:∀ {kvs:List (List Int × V)} {ys:List (List Key × Addr × Value)},KT H (kvs.map fun p=>(p.1.map Sum.inl,p.2)) ys→∃ ks:List KEn,rdE ks=(kvs.map fun p=>(MK.tup p.1,p.2))∧(∀ e∈ks,MkIn H e.1 e.2.1)∧ks.map (·.2.1)=ys.map fun y=>V.ref y.2.1
  | [],_,r=>by rw [abk] at r;cases r;exact ⟨[],rfl,(fun x hx=>nomatch hx),rfl⟩
  | p :: kvs,_,r=>by
    rw [aae] at r;cases r with
    | @cons _ q _ qs h t =>
      obtain ⟨ks,r1,r2,r3⟩:=nO t;refine ⟨(.tup p.1,.ref q.2.1,p.2) :: ks,by unfold rdE at r1 ⊢;rw [aae,aae,r1],fun x hx=>?_,by rw [aae,aae,r3]⟩;rcases aai.mp hx with rfl|hx
      · exact ⟨q.2.1,_,rfl,h.2.1,by rw [aaM];exact BiL.ints p.1⟩
      · exact r2 x hx
theorem nY {X:Cx} {w:World} (hw:X.w=w) (hc:X.calm=true):bv X (.type "dict") (fun xs H Q=>∃ (a:Addr) (kvs:List (List Int × V)),xs=[.ref a]∧H a=some (.dT (kvs.map fun p=>(p.1.map Sum.inl,p.2)))∧kvs≠[]∧(kvs.map fun p=>hM w (.tup p.1)).Nodup∧kvs.length≤1000 ∧
    ∀ (p:Addr) (ks:List KEn),H p=none→DmIn w (upd H p (dmX w p ks)) p ks→rdE ks=(kvs.map fun p=>(MK.tup p.1,p.2))→Q (.ref p) (upd H p (dmX w p ks))):=by
  subst hw;intro pins s σ H xs us Q I r h;obtain ⟨a,kvs,rfl,ha,hne,hn,hl,q⟩:=h;obtain ⟨u,rfl,ru⟩:=ci r;cases ru;obtain ⟨z,hd,ys,rel,o,es,ep,h1,h2,h3,h4,h5,h6⟩:=i5 I.hok ha;obtain ⟨xs,r1,r2,r3,r4⟩:=sG (P:=X.prog) (w:=X.w) (h:=s.heap) (Paired.mapP rel fun _ _ z=>⟨z.1,z.2.2⟩) h5;obtain ⟨ks,k1,k2,k3⟩:=nO rel;have nd:(xs.map (·.1)).Nodup:=by
    rw [r4];refine oh ?_;have e:∀ {l:List (List Key × V)} {m:List (List Key × Addr × Value)},KT H l m→m.map (·.1)=l.map (·.1):=by
      intro l m q
      induction q with
      | nil=>rfl
      | cons h t ih=>rw [aae,aae,ih,h.1]
    have : ys.map (·.1)=kvs.map fun p=>p.1.map (Sum.inl:Int→Key):=by rw [e rel,aaM];rfl
    rw [← this];exact h6
  have lx:=aav r1;rw [aaa] at lx;have dx:DictM X.prog X.w s.heap a xs:=⟨o,es,ep,h1,h2,h3,by rw [h4,r2],r3,nd⟩
  refine wS hd dx (by rw [sizeLine_eq];lia) (fun z=>hne (by rw [z] at lx;exact aa8.mp lx)) (fun x hx=>?_) (by rw [show xs.map (fun x=>hM X.w x.1)=(xs.map (·.1)).map (hM X.w) by rw [aaM];rfl,r4,aaM];exact hn) fun h' dd' hs=>?_
  · have:=aca (f:=(·.1)) hx;rw [r4] at this;obtain ⟨p,_,e⟩:=aar.mp this;exact ⟨p.1,e.symm⟩
  have kk:ks.map (·.1)=xs.map (·.1):=by rw [← fS,k1,r4,aaM];rfl
  have rk:KM ks xs:=by
    have e1:xs.map (fun x=>x.2.1)=ys.map fun y=>Value.ref y.2.1:=by
      have:=congrArg (List.map fun e:DictEntry=>e.key) r2;rw [aaM,aaM] at this;exact this.symm
    have go:∀ {l:List KEn} {m:List EM} {n:List (List Key × Addr × Value)},l.map (·.1)=m.map (·.1)→l.map (·.2.1)=n.map (fun y=>V.ref y.2.1)→m.map (fun x=>x.2.1)=n.map (fun y=>Value.ref y.2.1)→PM (rdE l) m→KM l m:=by
      intro l
      induction l with
      | nil=>intro m n e _ _ _;cases m with
        | nil=>exact .nil
        | cons _ _=>simp at e
      | cons p l ih =>
        intro m n e e2 e3 pm;cases m with
        | nil=>simp at e
        | cons q m =>
          cases n with
          | nil=>simp at e2
          | cons y n =>
            rw [aae,aae] at e e2 e3;injection e with e' e
            injection e2 with e2' e2
            injection e3 with e3' e3
            cases pm with
            | cons ph pt=>exact .cons ⟨e',by rw [e2',e3'];rfl,ph.2⟩ (ih e e2 e3 pt)
    exact go kk k3 e1 (by rw [k1];exact r1)
  have np:=I.hok.fresh (aaf s.heap.objs.size);refine ⟨.ref s.heap.objs.size,_,I.laid (a:=s.heap.objs.size) (o:=dmX X.w s.heap.objs.size ks) (t':=s.toks) (fun b q hq=>?_) (aaf _) (kR rk dd'),rfl,q _ ks np ⟨ad,fun p hp=>(k2 p hp).mono fun b xs e=>by rw [aj (ah e np)];exact e,by rw [kk];exact nd,by have:=aav rk;lia⟩ k1⟩;exact (hs.2 b (aaB (aal hq))).trans (aad _ hq)
def TyP (w:World) (K:aab) (H:Hp) (x:V) (t:Value):Prop:=TyOf K H x t∨∃ a es,x=.ref a∧Pd w H a es∧t=.type "dict"
theorem ge {X:Cx} {n:String} {w:World} {K:aab} (hw:X.w=w) (hK:X.K=K):bv X (.builtin "isinstance") (fun xs H Q=>∃ x t b,xs=[x,.ty n]∧TyP w K H x t∧ach K t (.type n)=some b∧Q (.bl b) H):=by
  subst hw hK;intro pins s σ H xs us Q I r h;obtain ⟨x,t,b,rfl,ty,e,q⟩:=h;obtain ⟨u,w',rfl,rx,rt⟩:=gQ r;cases rt;rcases ty with ty|⟨a,es,rfl,d,rfl⟩
  · exact jO I rx ty e fun tk=>⟨.bl b,H,I.tok _,rfl,q⟩
  · cases rx;obtain ⟨xs,rel,⟨o,en,ep,ho,c,_⟩,_⟩:=iJ I d;exact abg acv I.kIn ⟨_,ho,c.1⟩ e (fun z=>nomatch z) fun tk=>⟨.bl b,H,I.tok _,rfl,q⟩
end L2
namespace L2
open PySem PySem.Spec PyProof.Rows PySem.W
def Itw (d:Addr) (o:Obj) (u:HO) (vs:List V):It :=
  ⟨fun i H=>H d=some (.frz o u)∧i < vs.length,fun i H x H'=>H'=H∧vs[i]?=some x,fun i H=>H d=some (.frz o u)∧vs.length≤i⟩
theorem mO {P:Program} {w:World} {K:aab} {tg:Expr} (d it:Addr) (o:Obj) (u:HO) (vs:List V) (es:Array DictEntry) (ep:Nat) (hd:o.data=.dict es ep) (hv:Vals vs (es.toList.map fun e:DictEntry=>e.val)):Turn P w K tg (Itw d o u vs) [it] it (fun i h=>h.IsValIter it d i vs.length ep) where
  mem:=by simp
  obj:=fun i h st b hb=>by
    have e:b=it:=by simpa using hb
    subst e;obtain ⟨o,e,c,d⟩:=st;exact ⟨o,e,fun v z=>by rw [d] at z;cases z⟩
  keep:=fun i h h' st k=>by
    obtain ⟨o,e,r⟩:=st;exact ⟨o,k it (by simp) o e,r⟩
  item:=by
    intro X hP hw hK hc i pins s σ H E I hf st hg;subst hP hw hK;obtain ⟨e,hlt⟩:=hg;obtain ⟨ho,_⟩:=(show ObjOk X.prog X.w H s.heap d (.frz o u) from I.hok d _ e)
    have lv:vs.length=es.size:=by have:=hv.length;simpa using this
    obtain ⟨f0,f1,f2,f3,f4,f5⟩:=hf it (by simp);have hx:es[i]?=some es[i]:=aaW (by lia);have hkv:vs[i]?=some vs[i]:=aac hlt;have hr:RelV vs[i] es[i].val:=by
      obtain ⟨u',h1,h2⟩:=Vals.get hv hkv;rw [aak,aaD,hx] at h1;cases h1;exact h2
    refine rA st ho hd lv.symm (e:=es[i]) hx fun h' st' sb=>?_;have I1:Inv X pins σ H { s with heap:=h' }:=I.turned (t':=s.toks) (fun b o hb e=>(sb.2 b hb).trans e) f0 f1 f3 f4 f5;obtain ⟨oi,e1,c1,d1⟩:=id st';refine ⟨_,rfl,iY (s:={ s with heap:=h' }) e1 c1 d1 (by decide) ⟨vs[i],H,I1,hr,⟨rfl,hkv⟩,st',fun b hb=>(hf b hb).1⟩⟩
  done:=by
    intro X hP hw hK hc i pins s σ H E I hf st hg;subst hP hw hK;obtain ⟨e,hge⟩:=hg;obtain ⟨ho,_⟩:=(show ObjOk X.prog X.w H s.heap d (.frz o u) from I.hok d _ e)
    have lv:vs.length=es.size:=by have:=hv.length;simpa using this
    obtain ⟨f0,f1,f2,f3,f4,f5⟩:=hf it (by simp);exact pQ (I.ok.hd hc) st ho hd lv.symm (by lia) fun h' eb=>⟨rfl,I.turned (t':=s.toks) (fun b o hb e=>eb b o hb e) f0 f1 f3 f4 f5⟩
  self:=fun _ _ _ _ _ st h=>wpAny_pyIter_valiter st h
def vI (w:World) (te:TE):TI:=fun σ H R=>te σ H fun x H1=>∃ d es u,x=.ref d∧Pd w H1 d es∧H1 d=some u∧∀ o,R (Itw d o u (es.map (·.2))) (upd H1 d (.frz o u))
theorem qV {X:Cx} {tg:Expr} {o:Expr} {to:TE} {apos cpos:Pos} {w:World} (hw:X.w=w) (ho:PE X o to)
    (hbase:attributeBase o "values" X.env (eval o X.env)=eval o X.env:=by rfl) (hline:(apos.endLine == cpos.line)=true:=by rfl):PI X tg (.Call (.Attribute o "values" apos) [] [] cpos) (vI w to):=by
  subst hw;intro pins s σ H R I h;refine wpAny_Call_method0_late hbase hline (thn (ho pins s σ H _ I h) fun v s1 ⟨x,H1,I1,r1,d,es,u,ex,hp,hu,q1⟩=>?_);subst ex;cases r1;obtain ⟨xs,rel,⟨ob,en,ep,g,c,dat,l,_,_⟩,hs,z⟩:=iJ I1 hp;have hv:Vals (es.map (·.2)) (en.toList.map fun e:DictEntry=>e.val):=by
    rw [l,aaM];have : ∀ {l:List (MK × V)} {m:List EM},PM l m→Vals (l.map (·.2)) (m.map ((fun e:DictEntry=>e.val) ∘ cT X.w)):=by
      intro l m q
      induction q with
      | nil=>exact .nil
      | cons h t ih=>exact .cons h.2 ih
    exact this rel
  have lv:es.length=en.size:=by have:=hv.length;simpa using this
  have hn:(∀ ys,u≠.tup ys)∧(∀ ps,u≠.tbl ps)∧(∀ y,u≠.own y)∧∀ o v,u≠.frz o v:=by
    rcases hp with ⟨kvs,h,_⟩|⟨kvs,h,_⟩|⟨h,_⟩
    · rw [hu] at h;cases h;exact ⟨fun _ z=>(by cases z),fun _ z=>(by cases z),fun _ z=>(by cases z),fun _ _ z=>(by cases z)⟩
    · have h:=h.at_;rw [hu] at h;cases h;exact ⟨fun _ z=>(by cases z),fun _ z=>(by cases z),fun _ z=>(by cases z),fun _ _ z=>(by cases z)⟩
    · rw [hu] at h;cases h;exact ⟨fun _ z=>(by cases z),fun _ z=>(by cases z),fun _ z=>(by cases z),fun _ _ z=>(by cases z)⟩
  have nf:∀ o v,X.H₀ d≠some (.frz o v):=fun o v q=>by
    have z:=I1.base.frzs d o v q;rw [hu] at z;injection z with z;exact hn.2.2.2 _ _ z
  have I2:Inv X pins σ (upd H1 d (.frz ob u)) s1:=I1.retype hu hn.1 hn.2.1 hn.2.2.1 nf ⟨g,I1.hok d _ hu⟩;have q:=q1 ob;generalize hH2:upd H1 d (.frz ob u)=H2 at I2 q;have hT:s1.TypeIs (.ref d) "dict":=⟨ob,g,c.1⟩
  refine ⟨"dict","dict.values",abL,PySem.F.slot_dict_values,PySem.F.type_dict_values,hT,fun a e=>by cases e;exact ⟨ob,g,c.2.1⟩,abQ rfl (PySem.evalArgs_none ?_)⟩;refine call_meetsIn PySem.F.slot_dict_values hT PySem.F.entry_dict_values (PySem.F.args_dict_values_1 _) (jt d hs) ⟨hT,?_⟩;have g1:(s1.heap.push { cls:=.type "dict_values",data:=.fields #[.ref d] }).get? d=some ob:=aad _ g;refine qa (s:={ s1 with heap:=s1.heap.push { cls:=.type "dict_values",data:=.fields #[.ref d] } }) (v:=s1.heap.objs.size) (d:=d) ⟨_,aao _ rfl,rfl,rfl⟩ g1 dat ?_;have kp:∀ b o,s1.heap.get? b=some o→((s1.heap.push { cls:=.type "dict_values",data:=.fields #[.ref d] }).push { cls:=.type "dict_valueiterator",data:=.fields #[.ref d,.int 0 0,.int en.size 0,.int ep 0] }).get? b=some o:=fun b o e=>aad _ (aad _ e);have hsz2:(s1.heap.push { cls:=.type "dict_values",data:=.fields #[.ref d] }).objs.size=s1.heap.objs.size+1:=ab1 _ _;refine ⟨(s1.heap.push { cls:=.type "dict_values",data:=.fields #[.ref d] }).objs.size,[(s1.heap.push { cls:=.type "dict_values",data:=.fields #[.ref d] }).objs.size],_,_,H2,rfl,I2.kept (t':=s1.toks) kp,mO d _ ob u (es.map (·.2)) en ep dat hv,⟨_,aao _ rfl,rfl,by rw [aaa,lv];rfl⟩,fun b hb=>?_,q⟩;have e:b=(s1.heap.push { cls:=.type "dict_values",data:=.fields #[.ref d] }).objs.size:=by simpa using hb
  have hb2:s1.heap.objs.size≤b:=by rw [e,hsz2];exact acC _
  exact I2.fpOk hb2 (I2.hok.fresh hb2)
theorem Trn.valsM {d:Addr} {o:Obj} {u:HO} {vs:List V}:Trn (Itw d o u vs) vs.length (fun H=>H d=some (.frz o u)) (fun i x H H'=>H'=H∧vs[i]?=some x) :=
  ⟨fun i H hi q=>⟨q,hi⟩,fun H q=>⟨q,aaf _⟩,fun i H x H' hi q y=>y⟩
def Dx0 (w:World) (H:Hp) (d:PyData) (v:V):Prop:=Dat H d v ∨
  (∃ (a:Addr) (kvs:List (List Key × V)) (ds:List PyData),v=.ref a∧H a=some (.dT kvs)∧Paired (Dat H) ds (kvs.map (·.2))∧d=.dict ((kvs.map fun p=>.tuple (p.1.map nK)).zip ds)) ∨
  ∃ (a:Addr) (kvs:List KEn) (ks ds:List PyData),v=.ref a∧DmIn w H a kvs∧Paired (Dat H) ks (kvs.map (·.2.1))∧Paired (Dat H) ds (kvs.map (·.2.2))∧d=.dict (ks.zip ds)
def Dx1 (w:World) (H:Hp) (d:PyData) (v:V):Prop:=Dx0 w H d v∨∃ (a:Addr) (xs:List V) (ds:List PyData),v=.ref a∧Paired (Dx0 w H) ds xs∧((H a=some (.lst xs)∧d=.list ds)∨(H a=some (.tup xs)∧d=.tuple ds))
theorem Dx0.mono {w:World} {H H':Hp} (g:Same H H') {d:PyData} {v:V} (h:Dx0 w H d v):Dx0 w H' d v:=by
  have m:∀ {ds:List PyData} {vs:List V},Paired (Dat H) ds vs→Paired (Dat H') ds vs:=fun p=>Paired.mapP p fun d v z=>Dat.mono g d v z;rcases h with h|⟨a,kvs,ds,e,h1,h2,h3⟩|⟨a,kvs,ks,ds,e,h1,h2,h3,h4⟩
  · exact .inl (Dat.mono g d v h)
  · exact .inr (.inl ⟨a,kvs,ds,e,g _ _ h1,m h2,h3⟩)
  · exact .inr (.inr ⟨a,kvs,ks,ds,e,h1.mono g,m h2,m h3,h4⟩)
theorem Dx1.mono {w:World} {H H':Hp} (g:Same H H') {d:PyData} {v:V} (h:Dx1 w H d v):Dx1 w H' d v:=by
  rcases h with h|⟨a,xs,ds,e,h1,h2⟩
  · exact .inl (h.mono g)
  · exact .inr ⟨a,xs,ds,e,Paired.mapP h1 fun _ _ z=>z.mono g,h2.imp (fun ⟨x,y⟩=>⟨g _ _ x,y⟩) fun ⟨x,y⟩=>⟨g _ _ x,y⟩⟩
section
variable {X:Cx} {pins:List (Addr × Obj)} {σ:St} {H:Hp} {s:Shared}
theorem dZ (I:Inv X pins σ H s):∀ {ds:List PyData} {vs:List V} {us:List Value},Paired (Dat H) ds vs→Vals vs us→∃ as,ReadsAll s.heap us ds as∧sysModules∉as
  | _,_,_,.nil,r=>by cases r;exact ⟨_,.nil,by simp⟩
  | _,_,_,.cons h t,r=>by
    cases r with
    | cons r1 r2 =>
      obtain ⟨as,ra,na⟩:=Dat.reads I _ _ _ h r1;obtain ⟨bs,rb,nb⟩:=dZ I t r2;exact ⟨_,.cons ra rb,fun z=>(aay.mp z).elim na nb⟩
theorem j3:∀ {as bs:List PyData},as.length=bs.length→(as.zip bs).map (·.1)=as
  | [],[],_=>rfl
  | [],_ :: _,h=>by simp at h
  | _ :: _,[],h=>by simp at h
  | a :: as,b :: bs,h=>by simp only [acn,aae,j3 (acr h)]
theorem j2:∀ {as bs:List PyData},as.length=bs.length→(as.zip bs).map (·.2)=bs
  | [],[],_=>rfl
  | [],_ :: _,h=>by simp at h
  | _ :: _,[],h=>by simp at h
  | a :: as,b :: bs,h=>by simp only [acn,aae,j2 (acr h)]
theorem oX (I:Inv X pins σ H s):∀ {kvs:List (List Key × V)} {ys:List (List Key × Addr × Value)},KT H kvs ys→∃ as,ReadsAll s.heap (ys.map fun y=>Value.ref y.2.1) (kvs.map fun p=>PyData.tuple (p.1.map nK)) as∧sysModules∉as
  | _,_,.nil=>⟨_,.nil,by simp⟩
  | _,_,.cons (a:=p) (b:=q) h t=>by
    obtain ⟨its,rv,⟨o2,f1,f2,n,f3⟩,_⟩:=I.tuple (SqT.of h.2.1);obtain ⟨as,ra,na⟩:=iV (P:=X.prog) (w:=X.w) (h:=s.heap) rv;obtain ⟨bs,rb,nb⟩:=oX I t;exact ⟨_,.cons (.tuple f1 f2 f3 (by simpa using ra)) rb,fun z=>(aay.mp z).elim na nb⟩
theorem Dx0.reads (I:Inv X pins σ H s) {d:PyData} {v:V} {u:Value} (h:Dx0 X.w H d v) (r:RelV v u):∃ as,Reads s.heap u d as∧sysModules∉as:=by
  rcases h with h|⟨a,kvs,ds,rfl,ha,hd,rfl⟩|⟨a,kvs,ks,ds,rfl,ha,hk,hd,rfl⟩
  · exact Dat.reads I d v u h r
  · cases r;obtain ⟨_,_,ys,rel,o,es,ep,e1,ex,e3,e4,_,_⟩:=i5 I.hok ha;obtain ⟨as,ra,na⟩:=oX I rel;have hv:Vals (kvs.map (·.2)) (ys.map fun y=>y.2.2):=oe (P:=X.prog) (w:=X.w) rel;obtain ⟨bs,rb,nb⟩:=dZ I hd hv;have ek:es.toList.map (·.key)=ys.map fun y=>Value.ref y.2.1:=by rw [e4,aaM];rfl
    have ev:es.toList.map (·.val)=ys.map fun y=>y.2.2:=by rw [e4,aaM];rfl
    have hl:(kvs.map fun p=>PyData.tuple (p.1.map nK)).length=ds.length:=by rw [aav hd,aaa,aaa]
    refine ⟨_,.dict e1 ex.1 e3 (by rw [ek,j3 hl];exact ra) (by rw [ev,j2 hl];exact rb),fun z=>?_⟩;rcases aay.mp z with z|z
    · rcases aai.mp z with z|z
      · exact I.nosys ha z.symm
      · exact na z
    · exact nb z
  · cases r;obtain ⟨xs,rel,o,es,ep,e1,ex,e3,e4,_,_⟩:=i_ I ha;have hvk:Vals (kvs.map (·.2.1)) (xs.map fun x=>x.2.1):=by
      have : ∀ {l:List KEn} {m:List EM},KM l m→Vals (l.map (·.2.1)) (m.map fun x=>x.2.1):=by
        intro l m q
        induction q with
        | nil=>exact .nil
        | cons h t ih=>exact .cons h.2.1 ih
      exact this rel
    have hvv:Vals (kvs.map (·.2.2)) (xs.map fun x=>x.2.2):=by
      have : ∀ {l:List KEn} {m:List EM},KM l m→Vals (l.map (·.2.2)) (m.map fun x=>x.2.2):=by
        intro l m q
        induction q with
        | nil=>exact .nil
        | cons h t ih=>exact .cons h.2.2 ih
      exact this rel
    obtain ⟨as,ra,na⟩:=dZ I hk hvk;obtain ⟨bs,rb,nb⟩:=dZ I hd hvv;have ek:es.toList.map (·.key)=xs.map fun x=>x.2.1:=by rw [e4,aaM];rfl
    have ev:es.toList.map (·.val)=xs.map fun x=>x.2.2:=by rw [e4,aaM];rfl
    have hl:ks.length=ds.length:=by rw [aav hd,aav hk,aaa,aaa]
    refine ⟨_,.dict e1 ex.1 e3 (by rw [ek,j3 hl];exact ra) (by rw [ev,j2 hl];exact rb),fun z=>?_⟩;rcases aay.mp z with z|z
    · rcases aai.mp z with z|z
      · exact I.nosys ha.at_ z.symm
      · exact na z
    · exact nb z
theorem fM (I:Inv X pins σ H s):∀ {ds:List PyData} {vs:List V} {us:List Value},Paired (Dx0 X.w H) ds vs→Vals vs us→∃ as,ReadsAll s.heap us ds as∧sysModules∉as
  | _,_,_,.nil,r=>by cases r;exact ⟨_,.nil,by simp⟩
  | _,_,_,.cons h t,r=>by
    cases r with
    | cons r1 r2 =>
      obtain ⟨as,ra,na⟩:=h.reads I r1;obtain ⟨bs,rb,nb⟩:=fM I t r2;exact ⟨_,.cons ra rb,fun z=>(aay.mp z).elim na nb⟩
theorem Dx1.reads (I:Inv X pins σ H s) {d:PyData} {v:V} {u:Value} (h:Dx1 X.w H d v) (r:RelV v u):∃ as,Reads s.heap u d as∧sysModules∉as:=by
  rcases h with h|⟨a,xs,ds,rfl,hp,⟨ha,rfl⟩|⟨ha,rfl⟩⟩
  · exact h.reads I r
  · cases r;obtain ⟨its,rv,⟨o,n,e1,e2,_,e3⟩,_⟩:=I.list (SqL.of ha);obtain ⟨as,ra,na⟩:=fM I hp rv;refine ⟨_,.list e1 e2 e3 (by simpa using ra),fun z=>?_⟩;rcases aai.mp z with z|z
    · exact I.nosys ha z.symm
    · exact na z
  · cases r;obtain ⟨its,rv,⟨o,e1,e2,n,e3⟩,_⟩:=I.tuple (SqT.of ha);obtain ⟨as,ra,na⟩:=fM I hp rv;exact ⟨_,.tuple e1 e2 e3 (by simpa using ra),na⟩
theorem i4 (I:Inv X pins σ H s):∀ {ds:List PyData} {vs:List V} {us:List Value},Paired (Dx1 X.w H) ds vs→Vals vs us→∃ as,ReadsAll s.heap us ds as∧sysModules∉as
  | _,_,_,.nil,r=>by cases r;exact ⟨_,.nil,by simp⟩
  | _,_,_,.cons h t,r=>by
    cases r with
    | cons r1 r2 =>
      obtain ⟨as,ra,na⟩:=h.reads I r1;obtain ⟨bs,rb,nb⟩:=i4 I t r2;exact ⟨_,.cons ra rb,fun z=>(aay.mp z).elim na nb⟩
theorem jc {w:World} (hw:X.w=w) (hg:X.A.guards=some []) (hu:X.A.units+64 < cLine):bv X (.builtin "repr") (fun xs H Q=>∃ (L:Addr) (vs:List V) (ds:List PyData),xs=[.ref L]∧H L=some (.lst vs)∧Paired (Dx1 w H) ds vs∧(PyData.list ds).showable=true∧(PyData.list ds).depth≤60∧(PyData.list ds).shown.length≤sizeLine∧Q (.str (PyData.list ds).shown) H):=by
  subst hw;intro pins s σ H xs us Q I r h;obtain ⟨L,vs,ds,rfl,hL,hd,hs,hdp,hl,q⟩:=h;obtain ⟨u,rfl,ru⟩:=ci r;cases ru;obtain ⟨its,rv,⟨o,n,e1,e2,_,e3⟩,_⟩:=I.list (SqL.of hL);obtain ⟨as,ra,na⟩:=i4 I hd rv;refine repr_of_reads' (.list e1 e2 e3 (by simpa using ra)) hs (fun _ z=>?_) hg (by lia) (fun _ _ e=>e) (fun h' u tk hk=>?_) hl
  · rcases aai.mp z with z|z
    · exact I.nosys hL z.symm
    · exact na z
  · exact ⟨.str _,H,I.kept hk,⟨u,rfl⟩,q⟩
end
end L2
namespace L2
open PySem PySem.Spec PyProof.Rows PySem.W
theorem ml (b:Bool) (i:Int) (t:Tok):Gives (Builtin.«int.__lt__» ⟨[.bool b,.int i t],[]⟩) (.val (Value.bool (decide ((if b=true then (1:Int) else 0) < i)))) :=
  .of_wp fun M A E s Q h=>by obtain ⟨hp,g,d,tk,os⟩:=s;wp_walk;exact ⟨_,rfl,h⟩
theorem mw (b:Bool) (i:Int) (t:Tok):Gives (Builtin.«int.__gt__» ⟨[.bool b,.int i t],[]⟩) (.val (Value.bool (decide ((if b=true then (1:Int) else 0) > i)))) :=
  .of_wp fun M A E s Q h=>by obtain ⟨hp,g,d,tk,os⟩:=s;wp_walk;exact ⟨_,rfl,h⟩
section
variable {A:Around} {E:Value→Shared→Prop} {s:Shared} {prog:Program} {w:World}
theorem xD {a b:Int} {u v:Value} {Q:Value→Shared→Prop} (hu:jf a u=true) (hv:jf b v=true) (h:Q (.bool (decide (a < b))) s):wpAny (model prog w) A (richCompare .Lt u v) Q E s:=by
  rcases bC hu with ⟨t,rfl⟩|⟨x,rfl,rfl⟩
  · rcases bC hv with ⟨t',rfl⟩|⟨y,rfl,rfl⟩
    · exact richCompare_gives (op:=.Lt) (typeIs_int s _ t) (typeIs_int s _ t') F.slot_int_lt F.entry_int_lt (F.args_int_lt_2 _ _) (gives_int_lt _ _ t t') (fun x=>nomatch x) h
    · exact SeqAt.rc_sub_first_or (op:=.Lt) (typeIs_int s a t) rfl (by decide) F.sub_bool_int F.slot_bool_gt_refl
        (call_gives F.slot_bool_gt_refl rfl F.entry_int_gt (F.args_int_gt_2 _ _) (mw y a t) ⟨nofun,h⟩) (.inl rfl)
  · rcases bC hv with ⟨t',rfl⟩|⟨y,rfl,rfl⟩
    · exact SeqAt.rc_left_or (op:=.Lt) rfl (typeIs_int s b t') (by decide) F.sub_int_bool F.slot_bool_lt
        (call_gives F.slot_bool_lt rfl F.entry_int_lt (F.args_int_lt_2 _ _) (ml x b t') ⟨nofun,h⟩) (.inl rfl)
    · exact richCompare_gives (op:=.Lt) (T:="bool") rfl rfl F.slot_bool_lt F.entry_int_lt (F.args_int_lt_2 _ _) (gives_int_lt_bools x y) (fun x=>nomatch x) h
theorem nH {a b:Int} {u v:Value} {Q:Value→Shared→Prop} (hh:A.handled=none) (hu:jf a u=true) (hv:jf b v=true)
    (h:∀ h' tk,(∀ c o,s.heap.get? c=some o→h'.get? c=some o)→Q (if b < a then v else u) { s with heap:=h',toks:=tk }) :
    wpAny (model prog w) A (call (.builtin "min") [u,v]) Q E s:=by
  have hT:(s.heap.push { cls:=.type "tuple",data:=.seq #[u,v] }).IsTuple s.heap.objs.size #[u,v]:=⟨_,aao _ rfl,rfl,0,rfl⟩
  refine call_min_two (wpAny_pyIter_tuple hT ?_);have hsz:(s.heap.push { cls:=.type "tuple",data:=.seq #[u,v] }).objs.size=s.heap.objs.size+1:=ab1 ..;have hcmp:CmpOf prog w A.in1 .Lt (fun i x=>(#[u,v]:Array Value)[i]?=some x) (fun i j=>decide ((if i=0 then a else b) < (if j=0 then a else b))):=fun i j vi vj s' Q E hi hj h=>by
    have key:∀ (i:Nat) (x:Value),(#[u,v]:Array Value)[i]?=some x→jf (if i=0 then a else b) x=true:=fun i x hx=>by
      match i,hx with
      | 0,hx=>cases hx;exact hu
      | 1,hx=>cases hx;exact hv
      | _+2,hx=>cases hx
    exact xD (key i vi hi) (key j vj hj) h
  refine ⟨_,[_,s.heap.objs.size],[_],_,_,_,_,rfl,Walks.tuple (A:=A.in1) hh _ s.heap.objs.size (by rw [hsz];exact aaB (ace _)) #[u,v],
    ⟨⟨_,aao _ rfl,rfl,rfl⟩,hT.push _⟩,fun c hc=>?_,by simp,hcmp,fun x h' tk hP hk=>?_⟩
  · show c < ((s.heap.push _).push _).objs.size;rw [ab1,hsz];rcases aai.mp hc with rfl|hc
    · rw [hsz];exact ace _
    · rcases aai.mp hc with rfl|hc
      · exact Nat.lt_succ_of_lt (ace _)
      · cases hc
  · have hold:∀ c o,s.heap.get? c=some o→h'.get? c=some o:=fun c o e=>by
      refine hk c o (fun hm=>?_) (aad _ (aad _ e));rcases aai.mp hm with e1|hm
      · have:=aal e;rw [e1,hsz] at this;exact abE _ (Nat.lt_of_succ_lt this)
      · cases hm
    have:=h h' tk hold;have hx:x=if b < a then v else u:=by
      have hP':(#[u,v]:Array Value)[argBest (fun i j=>decide ((if i=0 then a else b) < (if j=0 then a else b))) 1]?=some x:=hP;by_cases hba:b < a
      · have e:argBest (fun i j=>decide ((if i=0 then a else b) < (if j=0 then a else b))) 1=1:=by simp [argBest,hba]
        rw [e] at hP';rw [if_pos hba];cases hP';rfl
      · have e:argBest (fun i j=>decide ((if i=0 then a else b) < (if j=0 then a else b))) 1=0:=by simp [argBest,hba]
        rw [e] at hP';rw [if_neg hba];cases hP';rfl
    rw [hx];exact this
theorem ju {l:Addr} {items:Array Value} {b:Bool} {x:Value} {Q:Value→Shared→Prop} (hl:s.heap.IsList l items)
    (hx:items[(bI b).toNat]?=some x) (h:Q x s):wpAny (model prog w) A (getItem (.ref l) (.bool b)) Q E s:=by
  obtain ⟨o,ho,hc,ne,hd⟩:=id hl;unfold getItem
  try with_reducible refine wpAny_holding ?_
  first|refine wpAny_bind (wpAny_pure ?_)|skip
  refine wpAny_bind (wpAny_sequenceKey hl.typeIs (by decide) ?_);refine wpAny_bind (wpAny_callSpecial?_slot (name:=abB "__getitem__") hl.typeIs slot_list_getitem
    (wpAny_call_entry slot_list_getitem hl.typeIs entry_list_getitem ?_ (args_list_getitem _ _)))
  show wpAny _ _ (Builtin.List.listSubscript? (.bool b) >>= _) _ _ s;refine wpAny_bind ?_;unfold Builtin.List.listSubscript?;refine wpAny_bind (wpAny_specialOf (T:="bool") rfl F.slot_bool_index.lookup ?_);show wpAny _ _ (asIndex (.bool b) >>= _) _ E s;refine wpAny_bind (wpAny_of_eq (a:=bI b) (by cases b <;> rfl) ?_);rw [if_neg (by cases b <;> decide)];refine wpAny_pure ?_;have e:bI b=(((bI b).toNat:Nat):Int):=by cases b <;> rfl
  generalize (bI b).toNat=j at hx e;rw [e];show wpAny _ _ ((seqItemAt l j >>= fun r=>pure (r.map (j,·))) >>= _) _ _ s;refine wpAny_bind (wpAny_bind (wpAny_seqItemAt ho hd (wpAny_pure ?_)));rw [hx]
  first
    | exact wpAny_bind (wpAny_pure (wpAny_pure ⟨x,rfl,wpAny_pure h⟩))
    | exact wpAny_pure ⟨x,rfl,wpAny_pure h⟩
end
def BiV (k:Int) (x:V):Prop:=x=.int k∨∃ b,x=.bl b∧k=bI b
theorem BiV.raw {k:Int} {x:V} {u:Value} (h:BiV k x) (r:RelV x u):jf k u=true:=by
  rcases h with rfl|⟨b,rfl,rfl⟩
  · obtain ⟨t,rfl⟩:=r;exact beq_self_eq_true _
  · cases r;exact beq_self_eq_true _
theorem nX {X:Cx} (hc:X.calm=true):bv X (.builtin "min") (fun xs H Q=>∃ x y i j,xs=[x,y]∧BiV i x∧BiV j y∧Q (if j < i then y else x) H):=by
  intro pins s σ H xs us Q I r h;obtain ⟨x,y,i,j,rfl,hx,hy,q⟩:=h;obtain ⟨u,w',rfl,rx,ry⟩:=gQ r;refine nH (I.ok.hd hc) (hx.raw rx) (hy.raw ry) fun h' tk k=>⟨_,H,I.kept k,?_,q⟩
  by_cases hj:j < i
  · rw [if_pos hj,if_pos hj];exact ry
  · rw [if_neg hj,if_neg hj];exact rx
def xn (K:aab):R2:=fun x y H Q=>∃ p xs i v,x=.ref p∧BiV i y∧SqL K H p xs∧xs[i.toNat]?=some v∧0≤i∧Q v H
theorem rO {X:Cx} {K:aab} (hK:X.K=K):IxR X (xn K):=by
  subst hK;intro value slice pins s σ H x y v u Q I rx ry h hs;obtain ⟨p,xs,i,z,rfl,hy,hq,he,h0,q⟩:=h;cases rx;obtain ⟨its,r,pl,hz⟩:=I.list hq;obtain ⟨w,ew,rw'⟩:=r.get he;have hl:=r.length;have hn:=gH;have fin:EP X pins σ Q w s:=⟨z,H,I,rw',q⟩
  have hi:i.toNat < xs.length:=(aaA.mp he).1;rcases hy with rfl|⟨b,rfl,rfl⟩
  · obtain ⟨t,rfl⟩:=ry;exact item_listR pl.isList h0 (by lia) (by simpa using ew) fin hs
  · cases ry;exact subscriptTail_builtinR (x:=w) pl.isList.typeIs slot_list_getitem.lookup (ju (Q:=fun r s'=>r=w∧EP X pins σ Q r s') pl.isList (by simpa using ew) ⟨rfl,fin⟩) hs
end L2
namespace Tim
open PySem PyProof.Rows
structure Ord (M:Model) (A:Around) (E:Value→Shared→Prop) (s:Shared) (κ:SortKind) (P:Keyed→Prop) (lt:Keyed→Keyed→Bool):Prop where
  ask:∀ {x y:Keyed} {st:SortSt} {Q:Option Bool→SortSt→Prop},P x→P y→kindOf st=κ→Q (some (lt x y)) st→wpS M A E s (lt' x y) Q st
  asym:∀ {x y:Keyed},P x→P y→lt x y=true→lt y x=false
  trans:∀ {x y z:Keyed},P x→P y→P z→lt y x=false→lt z y=false→lt z x=false
section
variable {M:Model} {A:Around} {E:Value→Shared→Prop} {s:Shared} {κ:SortKind} {P:Keyed→Prop} {lt:Keyed→Keyed→Bool}
structure Bnd (B:Nat→Bool) (n k:Nat):Prop where
  le:k≤n
  lo:∀ i,i < k→B i=true
  hi:∀ i,k≤i→i < n→B i=false
end
end Tim
namespace Tim
open PySem PyProof.Rows
def Le (lt:Keyed→Keyed→Bool) (x y:Keyed):Prop:=lt y x=false
structure Mg (lt:Keyed→Keyed→Bool) (a b out:List Keyed) (ia ib:Nat):Prop where
  ha:ia≤a.length
  hb:ib≤b.length
  perm:out.Perm (a.take ia++b.take ib)
  srt:out.Pairwise (Le lt)
  le:∀ x∈out,∀ y,(y∈a.drop ia∨y∈b.drop ib)→Le lt x y
section
variable {lt:Keyed→Keyed→Bool} {a b out:List Keyed} {ia ib:Nat}
end
structure SameS (st st':SortSt):Prop where
  arr:arrOf st'=arrOf st
  pend:pendingOf st'=pendingOf st
  kind:kindOf st'=kindOf st
  fail:failedOf st'=failedOf st
section
variable {M:Model} {A:Around} {E:Value→Shared→Prop} {s:Shared} {κ:SortKind} {P:Keyed→Prop} {lt:Keyed→Keyed→Bool}
def below (lt:Keyed→Keyed→Bool) (key:Keyed) (a:Array Keyed) (base:Nat) (i:Nat):Bool:=match a[base+i]? with|some x=>lt x key|none=>false
end
end Tim
namespace Tim
open PySem PyProof.Rows
structure Mh (lt:Keyed→Keyed→Bool) (a b out:List Keyed) (na nb:Nat):Prop where
  ha:na≤a.length
  hb:nb≤b.length
  perm:out.Perm (a.drop na++b.drop nb)
  srt:out.Pairwise fun x y=>Le lt y x
  le:∀ x∈out,∀ y,(y∈a.take na∨y∈b.take nb)→Le lt y x
section
variable {lt:Keyed→Keyed→Bool} {a b out:List Keyed} {na nb:Nat}
end
section
variable {M:Model} {A:Around} {E:Value→Shared→Prop} {s:Shared} {κ:SortKind} {P:Keyed→Prop} {lt:Keyed→Keyed→Bool}
end
end Tim
namespace Tim
open PySem PyProof.Rows
def seg (L:List Keyed) (s n:Nat):List Keyed:=(L.drop s).take n
structure Mrgd (lt:Keyed→Keyed→Bool) (L L':List Keyed) (s n:Nat):Prop where
  ex:∃ R,R.Perm (seg L s n)∧R.Pairwise (Le lt)∧L'=L.take s++R++L.drop (s+n)
section
variable {M:Model} {A:Around} {E:Value→Shared→Prop} {s:Shared} {κ:SortKind} {P:Keyed→Prop} {lt:Keyed→Keyed→Bool}
end
end Tim
namespace Tim
open PySem PyProof.Rows
def vx (a:Array Keyed) (i:Nat):Keyed:=(a[i]?).getD (Value.none,Value.none)
section
variable (lt:Keyed→Keyed→Bool)
def Up (a:Array Keyed) (lo n:Nat):Prop:=∀ i j,i < j→j < n→Le lt (vx a (lo+i)) (vx a (lo+j))
end
structure Kp (a a':Array Keyed) (lo:Nat):Prop where
  perm:a'.Perm a
  low:∀ k,k < lo→a'[k]?=a[k]?
structure SameA (st st':SortSt):Prop where
  pend:pendingOf st'=pendingOf st
  kind:kindOf st'=kindOf st
  fail:failedOf st'=failedOf st
section
variable {M:Model} {A:Around} {E:Value→Shared→Prop} {s:Shared} {κ:SortKind} {P:Keyed→Prop} {lt:Keyed→Keyed→Bool}
end
end Tim
namespace Tim
open PySem PyProof.Rows
section
variable {M:Model} {A:Around} {E:Value→Shared→Prop} {s:Shared} {κ:SortKind} {P:Keyed→Prop} {lt:Keyed→Keyed→Bool}
end
def wU (lt:Keyed→Keyed→Bool) (a:Array Keyed):List (Nat × Nat × Nat)→Nat→Nat→Prop
  | [],f,t=>f=t
  | (s,n,_) :: r,f,t=>s=f∧1≤n∧Up lt a s n∧wU lt a r (s+n) t
section
variable {lt:Keyed→Keyed→Bool} {a a':Array Keyed}
end
end Tim
namespace Tim
open PySem PyProof.Rows
structure SI (κ:SortKind) (lt:Keyed→Keyed→Bool) (a₀:Array Keyed) (st:SortSt) (lo:Nat):Prop where
  kind:kindOf st=κ
  fail:failedOf st=none
  perm:(arrOf st).Perm a₀
  runs:wU lt (arrOf st) (pendingOf st).toList 0 lo
  le:lo≤a₀.size
section
variable {M:Model} {A:Around} {E:Value→Shared→Prop} {s:Shared} {κ:SortKind} {P:Keyed→Prop} {lt:Keyed→Keyed→Bool} {a₀:Array Keyed}
end
end Tim
namespace Tim
open PySem PyProof.Rows
section
variable {prog:Program} {w:World} {A:Around} {E:Value→Shared→Prop} {s:Shared}
end
end Tim
namespace L2
open PySem PySem.Spec PyProof.Rows
theorem jP:∀ {ws:List Value} {ns:List Int},IntsAre ws ns→Vals (ns.map V.int) ws
  | _,_,.nil=>.nil
  | _,_,.cons n t h=>.cons ⟨t,rfl⟩ (jP h)
open PySem PySem.Spec PyProof.Rows
open PySem PySem.Spec PyProof.Rows
section
variable {prog:Program} {w:World} {A:Around} {E:Value→Shared→Prop} {s:Shared}
end
end L2
namespace L2
open PySem
def Rise (xs:Array Nat):Prop:=xs.toList.Pairwise (· < ·)
theorem Rise.lt {xs:Array Nat} (h:Rise xs) {i k v u:Nat} (hi:xs[i]?=some v) (hk:xs[k]?=some u) (l:i < k):v < u:=by
  rw [← aaD] at hi hk;obtain ⟨h1,e1⟩:=aaA.mp hi;obtain ⟨h2,e2⟩:=aaA.mp hk;rw [← e1,← e2];exact List.pairwise_iff_getElem.mp h i k h1 h2 l
theorem sP {xs:Array Nat} (h:Rise xs) (j:Nat):∀ (fuel lo hi:Nat),hi - lo≤fuel→lo≤hi→hi≤xs.size→(∀ i v,xs[i]?=some v→i < lo→v < j)→(∀ i v,xs[i]?=some v→hi≤i→j≤v) →
    ∃ r,SetTable.below.go xs j fuel lo hi=r∧r≤xs.size∧(∀ i v,xs[i]?=some v→i < r→v < j)∧(∀ i v,xs[i]?=some v→r≤i→j≤v):=by
  intro fuel
  induction fuel with
  | zero =>
    intro lo hi hf h1 h2 a b;have : lo=hi:=by lia
    subst this;exact ⟨lo,rfl,h2,a,b⟩
  | succ fuel ih =>
    intro lo hi hf h1 h2 a b;unfold SetTable.below.go;by_cases c:lo < hi
    · rw [if_pos c];have hm:(lo+hi) / 2 < xs.size:=by lia
      have em:xs[(lo+hi) / 2]?=some xs[(lo+hi) / 2]:=aaW hm;have eg:xs.getD ((lo+hi) / 2) j=xs[(lo+hi) / 2]:=by rw [abN,em];rfl
      simp only [eg];by_cases d:xs[(lo+hi) / 2] < j
      · rw [if_pos d];refine ih _ _ (by lia) (by lia) h2 (fun i v hv hi'=>?_) b;by_cases e:i=(lo+hi) / 2
        · rw [e,em] at hv;cases hv;exact d
        · exact ac7 (h.lt hv em (by lia)) d
      · rw [if_neg d];refine ih _ _ (by lia) (by lia) (by lia) a fun i v hv hi'=>?_;by_cases e:i=(lo+hi) / 2
        · rw [e,em] at hv;cases hv;lia
        · have:=h.lt em hv (by lia);lia
    · rw [if_neg c];have : lo=hi:=by lia
      subst this;exact ⟨lo,rfl,h2,a,b⟩
theorem jg {xs:Array Nat} (h:Rise xs) (j:Nat):aaX xs j≤xs.size∧(∀ i v,xs[i]?=some v→i < aaX xs j→v < j)∧(∀ i v,xs[i]?=some v→aaX xs j≤i→j≤v):=by
  obtain ⟨r,e,h1,h2,h3⟩:=sP h j xs.size 0 xs.size (by lia) (by lia) (aaf _) (fun i v _ z=>absurd z (acq _)) (fun i v hv z=>by
    rw [acj (by lia)] at hv;cases hv)
  unfold aaX;rw [e];exact ⟨h1,h2,h3⟩
theorem n0 {xs:Array Nat} (h:Rise xs) {i v:Nat} (hv:xs[i]?=some v):aaX xs (v+1)=i+1:=by
  obtain ⟨h1,h2,h3⟩:=jg h (v+1);have hi:i < xs.size:=by
    rw [← aaD] at hv;exact (by simpa using (aaA.mp hv).1)
  have a:¬ aaX xs (v+1)≤i:=fun z=>by have:=h3 i v hv z;lia
  by_cases c:aaX xs (v+1)=i+1
  · exact c
  · have hk:i+1 < xs.size:=by lia
    have e:=aaW hk;have l1:=h2 _ _ e (by lia);have l2:=h.lt hv e (by lia);lia
theorem mI {xs:Array Nat} (h:Rise xs):aaX xs 0=0:=by
  obtain ⟨h1,h2,h3⟩:=jg h 0;by_cases c:aaX xs 0=0
  · exact c
  · have hk:0 < xs.size:=by lia
    have:=h2 _ _ (aaW hk) (by lia);lia
theorem Rise.put {xs:Array Nat} (h:Rise xs) {j:Nat} (hj:xs[aaX xs j]?≠some j):Rise (SetTable.insertAt xs (aaX xs j) j):=by
  obtain ⟨h1,h2,h3⟩:=jg h j;unfold Rise;rw [SetTable.toList_insertAt];generalize aaX xs j=r at *;have hp:=List.pairwise_iff_getElem.mp h;rw [List.pairwise_append];refine ⟨ac3 (List.take_sublist _ _) h,?_,fun a ha b hb=>?_⟩
  · rw [List.pairwise_cons];refine ⟨fun a ha=>?_,ac3 (List.drop_sublist _ _) h⟩;obtain ⟨i,hi⟩:=abq.mp ha;rw [List.getElem?_drop,aaD] at hi;have l:=h3 _ _ hi (by lia);by_cases e:a=j
    · subst e
      exfalso
      by_cases e0:i=0
      · subst e0;exact hj hi
      · have hlt:r < xs.size:=by
          rw [← aaD] at hi;have:=(aaA.mp hi).1;simp at this;lia
        have er:=aaW hlt;have l2:=h.lt er hi (by lia);have l3:=h3 _ _ er (aaf _);lia
    · lia
  · obtain ⟨i,hi⟩:=abq.mp ha;have hir:i < r:=by
      have:=(aaA.mp hi).1;rw [aaL] at this;lia
    rw [List.getElem?_take,if_pos hir,aaD] at hi;have l1:=h2 _ _ hi hir;rcases aai.mp hb with rfl|hb
    · exact l1
    · obtain ⟨k,hk⟩:=abq.mp hb;rw [List.getElem?_drop,aaD] at hk;have:=h3 _ _ hk (by lia);lia
theorem fm {α:Type} (xs:Array α) (p:Nat) (x:α):(SetTable.insertAt xs p x).size=xs.size+1:=by
  rw [← aaq,(SetTable.insertAt_perm xs p x).length_eq,Array.toList_push,aaw,aaq];rfl
def Okm (m:Nat):Prop:=m=7∨m=15∨m=31∨m=63∨m=127∨m=255∨m=511∨m=1023
def rnd (m:Nat):Nat→Nat→Nat
  | 0,i=>i
  | L+1,i=>rnd m L ((i * 5+1) % (m+1))
theorem kl (m a b i:Nat):rnd m (a+b) i=rnd m b (rnd m a i):=by
  induction a generalizing i with
  | zero=>rw [Nat.zero_add];rfl
  | succ a ih=>rw [Nat.succ_add];exact ih _
def qO (m:Nat):Nat→Nat→Nat
  | 0,_=>0
  | L+1,i=>2 ^ i ||| qO m L ((i * 5+1) % (m+1))
theorem oB {m:Nat}:∀ {L i j:Nat},(qO m L i).testBit j=true→∃ a,a < L∧rnd m a i=j
  | 0,_,_,h=>by simp [qO] at h
  | L+1,i,j,h=>by
    unfold qO at h;rw [Nat.testBit_or,Bool.or_eq_true] at h;rcases h with h|h
    · have : i=j:=by
        rw [Nat.testBit_two_pow] at h;exact of_decide_eq_true h
      exact ⟨0,Nat.succ_pos _,this⟩
    · obtain ⟨a,ha,e⟩:=oB h;exact ⟨a+1,Nat.succ_lt_succ ha,e⟩
theorem tG {m:Nat} (h:Okm m):rnd m (m+1) 0=0∧qO m (m+1) 0=2 ^ (m+1) - 1:=by
  rcases h with rfl|rfl|rfl|rfl|rfl|rfl|rfl|rfl <;> decide +kernel
theorem uV {m:Nat} (h:Okm m) {i j:Nat} (hi:i≤m) (hj:j≤m):∃ L,L≤m∧rnd m L i=j:=by
  obtain ⟨h0,hall⟩:=tG h;have get:∀ k,k≤m→∃ a,a < m+1∧rnd m a 0=k:=fun k hk=>oB (by rw [hall,Nat.testBit_two_pow_sub_one];exact decide_eq_true (by lia));obtain ⟨a,ha,ea⟩:=get i hi;obtain ⟨b,hb,eb⟩:=get j hj;by_cases c:a≤b
  · refine ⟨b - a,by lia,?_⟩;rw [← ea,← kl,show a+(b - a)=b by lia,eb]
  · refine ⟨m+1 - a+b,by lia,?_⟩;rw [← ea,← kl,show a+(m+1 - a+b)=(m+1)+b by lia,kl,h0,eb]
def lp (m:Nat):Nat→Nat→Nat→Nat × Nat
  | 0,i,p=>(i,p)
  | L+1,i,p=>lp m L ((i * 5+1+p / 32) % (m+1)) (p / 32)
theorem vy (m a b i p:Nat):lp m (a+b) i p=lp m b (lp m a i p).1 (lp m a i p).2:=by
  induction a generalizing i p with
  | zero=>rw [Nat.zero_add];rfl
  | succ a ih=>rw [Nat.succ_add];exact ih _ _
theorem xq (m L i p:Nat):(lp m L i p).2=p / 32 ^ L:=by
  induction L generalizing i p with
  | zero=>simp [lp]
  | succ L ih =>
    show (lp m L _ (p / 32)).2=_;rw [ih,Nat.div_div_eq_div_mul,Nat.pow_succ,Nat.mul_comm]
theorem xr (m L i p:Nat) (h:i≤m):(lp m L i p).1≤m:=by
  induction L generalizing i p with
  | zero=>exact h
  | succ L ih=>exact ih _ _ (Nat.le_of_lt_succ (Nat.mod_lt _ (Nat.succ_pos _)))
theorem t8 (m L i:Nat):(lp m L i 0).1=rnd m L i:=by
  induction L generalizing i with
  | zero=>rfl
  | succ L ih =>
    show (lp m L ((i * 5+1+0 / 32) % (m+1)) (0 / 32)).1=rnd m L ((i * 5+1) % (m+1));rw [Nat.zero_div,Nat.add_zero,ih]
theorem uu {m:Nat} (h:Okm m) {i p j:Nat} (hi:i≤m) (hp:p < 2 ^ 64) (hj:j≤m):∃ L,L≤m+13∧(lp m L i p).1=j:=by
  have h2:(lp m 13 i p).2=0:=by
    rw [xq,Nat.div_eq_of_lt];exact aas hp (by decide)
  obtain ⟨L,hL,e⟩:=uV h (xr m 13 i p hi) hj;refine ⟨13+L,by lia,?_⟩;rw [vy,h2,t8,e]
theorem oY (h:Int):abM h < 2 ^ 64:=by
  unfold abM;have h1:=abV h (show (0:Int) < 2 ^ 64 by decide);have h0:=aco h (show (2 ^ 64:Int)≠0 by decide);lia
end L2
namespace L2
open PySem
theorem dD {t:SetTable} (hd:t.dummies=#[]) (j:Nat):(t.slot j=.empty∧t.place[aaX t.place j]?≠some j)∨∃ i,t.slot j=.live i:=by
  unfold SetTable.slot;by_cases c:t.place[aaX t.place j]?=some j
  · right;simp [c]
  · left;refine ⟨?_,c⟩;have : ac8 t.dummies j=false:=by rw [hd];simp [ac8]
    simp [c,this]
theorem pO {t:SetTable} (hd:t.dummies=#[]) {j:Nat} (h:j∉t.place.toList):t.slot j=.empty:=by
  rcases dD hd j with ⟨e,_⟩|⟨i,e⟩
  · exact e
  · exfalso
    unfold SetTable.slot at e;by_cases c:t.place[aaX t.place j]?=some j
    · rw [← aaD] at c;exact h (aap c)
    · have : ac8 t.dummies j=false:=by rw [hd];simp [ac8]
      simp [c,this] at e
theorem qM {t:SetTable} (hd:t.dummies=#[]) {h:Int} {L:Nat}:∀ (m:Nat) (p:SetTable.Probe) (fuel:Nat),p.more=m→p.dummy=none →
    (∀ p':SetTable.Probe,p'.i=(SetTable.leap t.mask p.i p.perturb).1→p'.j=p'.i→p'.perturb=p.perturb / 32→p'.more=abP t.mask p'.i - p'.i→p'.dummy=none→∀ fuel',10 * L+1≤fuel'→∃ j,ab8 t (fun _=>h+1) h fuel' p'=some (.empty j none)∧t.slot j=.empty) →
    m+1+(10 * L+1)≤fuel→∃ j,ab8 t (fun _=>h+1) h fuel p=some (.empty j none)∧t.slot j=.empty:=by
  intro m;have hne:((h+1) == h)=false:=by
    rw [beq_eq_false_iff_ne];lia
  induction m with
  | zero =>
    intro p fuel hm hdm nx hf;obtain ⟨f,rfl⟩:∃ f,fuel=f+1:=⟨fuel - 1,by lia⟩
    unfold ab8;rcases dD hd p.j with ⟨e,_⟩|⟨i,e⟩
    · rw [e];exact ⟨p.j,by simp [hdm],e⟩
    · rw [e];simp only [hne,aaH,if_false];refine nx _ ?_ ?_ ?_ ?_ ?_ f (by lia)
      · simp [acf,hm]
      · simp [acf,hm]
      · simp [acf,hm,SetTable.leap]
      · simp [acf,hm]
      · simp [acf,hm,hdm]
  | succ m ih =>
    intro p fuel hm hdm nx hf;obtain ⟨f,rfl⟩:∃ f,fuel=f+1:=⟨fuel - 1,by lia⟩
    unfold ab8;rcases dD hd p.j with ⟨e,_⟩|⟨i,e⟩
    · rw [e];exact ⟨p.j,by simp [hdm],e⟩
    · rw [e];simp only [hne,aaH,if_false];have ea:t.advance p={ p with j:=p.j+1,more:=p.more - 1 }:=by
        unfold acf;rw [if_pos (by lia)]
      rw [ea];exact ih _ f (by simp only;lia) hdm nx (by lia)
theorem t7 (m i:Nat):abP m i - i≤9:=by
  unfold abP;split <;> lia
theorem ud {t:SetTable} (hd:t.dummies=#[]) {h:Int} {j0:Nat} (h0:t.slot j0=.empty):∀ (L:Nat) (p:SetTable.Probe) (fuel:Nat),p.j=p.i→p.more=abP t.mask p.i - p.i→p.dummy=none→(lp t.mask L p.i p.perturb).1=j0→10 * L+1≤fuel →
    ∃ j,ab8 t (fun _=>h+1) h fuel p=some (.empty j none)∧t.slot j=.empty:=by
  intro L
  induction L with
  | zero =>
    intro p fuel h1 h2 h3 h4 h5;obtain ⟨f,rfl⟩:∃ f,fuel=f+1:=⟨fuel - 1,by lia⟩
    have e:p.j=j0:=h1.trans h4;unfold ab8;rw [e,h0];exact ⟨j0,by simp [h3],h0⟩
  | succ L ih =>
    intro p fuel h1 h2 h3 h4 h5;have:=t7 t.mask p.i;refine qM hd (L:=L) p.more p fuel rfl h3 (fun p' e1 e2 e3 e4 e5 fuel' hf=>ih p' fuel' e2 e4 e5 ?_ hf) (by lia);rw [e1,e3];exact h4
theorem md {α:Type} [DecidableEq α]:∀ {l l':List α},l.Nodup→(∀ x∈l,x∈l')→l.length≤l'.length
  | [],_,_,_=>aa4 _
  | a :: l,l',n,h=>by
    obtain ⟨n1,n2⟩:=aa9.mp n;have ha:=h a aan;have:=md (l:=l) (l':=l'.erase a) n2 fun x hx=>(List.mem_erase_of_ne (fun e=>n1 (by rw [← e];exact hx))).mpr (h x (aaj _ hx));rw [List.length_erase_of_mem ha] at this;have:=ack ha;simp only [aaC];lia
theorem pA {xs:List Nat} {m:Nat} (h:xs.length≤m):∃ j,j≤m∧j∉xs:=by
  refine ab0 fun c=>?_;have:=md (l:=aaO (m+1)) (l':=xs) List.nodup_range fun x hx=>ab0 fun z=>c ⟨x,by have:=aaK.mp hx;lia,z⟩;rw [abc] at this;lia
theorem qf {t:SetTable} (hd:t.dummies=#[]) (hm:Okm t.mask) (hs:t.place.size≤t.mask) (h:Int):∃ j,t.freeSlot h=some (j,false)∧t.place[aaX t.place j]?≠some j:=by
  obtain ⟨j0,hj0,hn⟩:=pA (xs:=t.place.toList) (m:=t.mask) (by rw [aaq];exact hs);obtain ⟨L,hL,e⟩:=uu hm (i:=abM h % (t.mask+1)) (p:=abM h) (Nat.le_of_lt_succ (Nat.mod_lt _ (Nat.succ_pos _))) (oY h) hj0;obtain ⟨j,g,hj⟩:=ud hd (h:=h) (pO hd hn) L (t.probeStart h) (10 * acA t.mask) rfl rfl rfl e (by unfold acA;lia);refine ⟨j,?_,?_⟩
  · unfold SetTable.freeSlot SetTable.probe;rw [g];rfl
  · rcases dD hd j with ⟨_,z⟩|⟨i,z⟩
    · exact z
    · rw [hj] at z;cases z
theorem vL {l:List (Option Nat)} {j k:Nat} (h:l[j]?=some none):((l.set j (some k)).filterMap id).Perm (k :: l.filterMap id):=by
  induction l generalizing j with
  | nil=>simp at h
  | cons a l ih =>
    cases j with
    | zero =>
      simp at h;subst h;simp
    | succ j =>
      simp only [acL] at h;have:=ih h;cases a with
      | none=>simpa using this
      | some v =>
        simp only [List.set_cons_succ,abo,id];exact (this.cons v).trans (List.Perm.swap _ _ _)
theorem ue {l:List (Option Nat)} (h:(l.filterMap id).length < l.length):∃ j:Nat,l[j]?=some none:=by
  induction l with
  | nil=>simp at h
  | cons a l ih =>
    cases a with
    | none=>exact ⟨0,rfl⟩
    | some v =>
      simp only [abo,id,aaC] at h;obtain ⟨j,e⟩:=ih (by lia);exact ⟨j+1,e⟩
theorem qg {m:Nat} {owner:Array (Option Nat)} {j0:Nat} (h0:owner[j0]?=some none):∀ (L i p fuel:Nat),(lp m L i p).1=j0→L+1≤fuel→∃ j,abR m owner fuel i p=some j∧owner[j]?=some none:=by
  intro L
  induction L with
  | zero =>
    intro i p fuel e hf;obtain ⟨f,rfl⟩:∃ f,fuel=f+1:=⟨fuel - 1,by lia⟩
    have e:i=j0:=e;subst e;unfold abR;have hz:((owner.getD (i+0) (some 0)).isNone)=true:=by rw [Nat.add_zero,abN,h0];rfl
    have hr:abP m i+1 - i=(abP m i - i)+1:=by
      unfold abP;split <;> lia
    rw [hr,List.range_succ_eq_map,List.find?_cons_of_pos (p:=fun k=>(owner.getD (i+k) (some 0)).isNone) hz];exact ⟨i,rfl,h0⟩
  | succ L ih =>
    intro i p fuel e hf;obtain ⟨f,rfl⟩:∃ f,fuel=f+1:=⟨fuel - 1,by lia⟩
    unfold abR;cases c:(aaO (abP m i+1 - i)).find? fun k=>(owner.getD (i+k) (some 0)).isNone with
    | some k =>
      refine ⟨i+k,rfl,?_⟩;have hk:=List.find?_some c;rw [abN] at hk;cases d:owner[i+k]? with
      | none=>rw [d] at hk;simp at hk
      | some v =>
        rw [d] at hk;simp only [Option.getD_some] at hk;cases v with
        | none=>rfl
        | some _=>simp at hk
    | none=>exact ih _ _ f e (by lia)
def qt (m:Nat) (owner:Array (Option Nat)) (k:Nat):Prop:=owner.size=m+1∧(owner.toList.filterMap id).Perm (aaO k)
theorem rJ {m:Nat} (hm:Okm m) {owner:Array (Option Nat)} {k:Nat} (h:qt m owner k) (hk:k≤m) (hh:Int):∃ j,abR m owner (acA m) (abM hh % (m+1)) (abM hh)=some j∧qt m (owner.setIfInBounds j (some k)) (k+1):=by
  obtain ⟨h1,h2⟩:=h;obtain ⟨j0,e0⟩:=ue (l:=owner.toList) (by rw [h2.length_eq,abc,aaq];lia);rw [aaD] at e0;have hj0:j0≤m:=by
    have : j0 < owner.size:=by
      rw [← aaD] at e0;have:=(aaA.mp e0).1;simpa using this
    lia
  obtain ⟨L,hL,e⟩:=uu hm (i:=abM hh % (m+1)) (p:=abM hh) (Nat.le_of_lt_succ (Nat.mod_lt _ (Nat.succ_pos _))) (oY hh) hj0;obtain ⟨j,g,hj⟩:=qg e0 L _ _ (acA m) e (by unfold acA;lia);refine ⟨j,g,by rw [Array.size_setIfInBounds];exact h1,?_⟩;rw [Array.toList_setIfInBounds];rw [← aaD] at hj;refine (vL hj).trans ((h2.cons k).trans ?_);rw [ab6];exact (List.perm_append_comm (l₁:=[k]))
theorem mq {m:Nat} (hm:Okm m):∀ (hs:List Int) (owner:Array (Option Nat)) (k:Nat),qt m owner k→k+hs.length≤m →
    ∃ owner',hs.foldl (fun acc h=>do let (owner,k) ← acc;let j ← abR m owner (acA m) (abM h % (m+1)) (abM h);pure (owner.setIfInBounds j (some k),k+1)) (some (owner,k))=some (owner',k+hs.length)∧qt m owner' (k+hs.length)
  | [],owner,k,h,_=>⟨owner,rfl,h⟩
  | hh :: hs,owner,k,h,hl=>by
    simp only [aaC] at hl;obtain ⟨j,e,h'⟩:=rJ hm h (by lia) hh;obtain ⟨o',e',h''⟩:=mq hm hs _ (k+1) h' (by lia);refine ⟨o',?_,by rw [aaC,show k+(hs.length+1)=k+1+hs.length by lia];exact h''⟩;rw [List.foldl_cons];simp only [Option.bind_eq_bind,Option.bind_some,e,Option.pure_def];rw [aaC,show k+(hs.length+1)=k+1+hs.length by lia];exact e'
theorem pX {m:Nat} (hm:Okm m) (hs:Array Int) (h:hs.size≤m):∃ owner,SetTable.layClean m hs=some owner∧qt m owner hs.size:=by
  have h0:qt m (Array.replicate (m+1) none) 0:=by
    refine ⟨Array.size_replicate,?_⟩;rw [Array.toList_replicate];rw [List.filterMap_replicate];exact List.Perm.refl _
  obtain ⟨o,e,hi⟩:=mq hm hs.toList _ 0 h0 (by rw [aaq];lia);rw [aaq,Nat.zero_add] at e hi;refine ⟨o,?_,hi⟩;unfold SetTable.layClean;rw [← Array.foldl_toList,e];rfl
end L2
namespace L2
open PySem
theorem mo (owner:Array (Option Nat)):∀ n,n≤owner.size→((aaO n).filterMap fun j=>(owner.getD j none).map (j,·)).map (·.2)=(owner.toList.take n).filterMap id
  | 0,_=>by simp
  | n+1,h=>by
    have hn:n < owner.size:=by lia
    have e:owner[n]?=some owner[n]:=aaW hn;have e2:owner.toList[n]?=some owner[n]:=by rw [aaD];exact e
    rw [ab6,ac5,aaG,mo owner n (by lia),aaE,e2,ac5];congr 1;simp only [abo,List.filterMap_nil,adc,id];rw [abN,e];simp only [Option.getD_some];cases owner[n] <;> simp
theorem rH (owner:Array (Option Nat)) (n:Nat):(((aaO n).filterMap fun j=>(owner.getD j none).map (j,·)).map (·.1)).Pairwise (· < ·):=by
  have : (((aaO n).filterMap fun j=>(owner.getD j none).map (j,·)).map (·.1)).Sublist (aaO n):=by
    induction n with
    | zero=>simp
    | succ n ih =>
      rw [ab6,ac5,aaG];refine ih.append ?_;rw [abo];generalize owner.getD n none=z;cases z <;> simp
  exact ac3 this List.pairwise_lt_range
theorem pY {m:Nat} (hm:Okm m) (f mv:Nat) (led plain:Bool) (hs:Array Int) (h:hs.size≤m):∃ t order,SetTable.laid m f mv led plain hs=some (t,order)∧t.mask=m∧t.dummies=#[]∧t.led=led∧t.plain=plain∧Rise t.place∧t.place.size=hs.size∧order.toList.Perm (aaO hs.size):=by
  obtain ⟨owner,e,h1,h2⟩:=pX hm hs h;have es:=mo owner (m+1) (by lia);rw [aa3 (by rw [aaq];lia)] at es;refine ⟨{ mask:=m,place:=(((aaO (m+1)).filterMap fun j=>(owner.getD j none).map (j,·)).map (·.1)).toArray,dummies:=#[],finger:=f,led:=led,moves:=mv,plain:=plain },(((aaO (m+1)).filterMap fun j=>(owner.getD j none).map (j,·)).map (·.2)).toArray,by unfold SetTable.laid;rw [e];rfl,rfl,rfl,rfl,rfl,rH owner (m+1),?_,?_⟩
  · have:=congrArg abJ es;rw [aaa,h2.length_eq,abc] at this;simp only [aam,aaa];exact this
  · simp only [List.toList_toArray] at *;rw [es];exact h2
structure GT (n:Nat) (b:Bool) (t:SetTable):Prop where
  okm:Okm t.mask
  dum:t.dummies=#[]
  pl:t.plain=true
  rise:Rise t.place
  size:t.place.size=n
  led:t.led=b
  room:n * 5 < t.mask * 3
structure GT1 (n:Nat) (b:Bool) (t:SetTable):Prop where
  okm:Okm t.mask
  dum:t.dummies=#[]
  pl:t.plain=true
  rise:Rise t.place
  size:t.place.size=n
  led:t.led=b
  room:(n - 1) * 5 < t.mask * 3
theorem GT.fits {n:Nat} {b:Bool} {t:SetTable} (h:GT n b t):t.fits n=true:=by
  have:=h.room;simp only [SetTable.fits,SetTable.fill,h.size,h.dum,aaS,beq_iff_eq,decide_eq_true_eq,true_and];show n+0≤t.mask;lia
theorem rW (b:Bool):GT 0 b (.fresh 0 0 b):=⟨.inl rfl,rfl,rfl,List.Pairwise.nil,rfl,rfl,(show 0 * 5 < 7 * 3 by decide)⟩
theorem GT1.fits {n:Nat} {b:Bool} {t:SetTable} (h:GT1 n b t):t.fits n=true:=by
  have h1:=h.room;have h2:7≤t.mask:=by rcases h.okm with e|e|e|e|e|e|e|e <;> lia
  simp only [SetTable.fits,SetTable.fill,h.size,h.dum,aaS,beq_iff_eq,decide_eq_true_eq,true_and];show n+0≤t.mask;lia
theorem t_ {n:Nat} {b:Bool} {t:SetTable} {es:Array (Int × Value)} (h:GT n b t) (hn:es.size=n) (hh:Int) (x:Value):∃ es1 t1,layNew t es hh x=(es1,t1,false,false)∧es1.toList.Perm (es.toList++[(hh,x)])∧GT1 (n+1) b t1∧es1.size=n+1:=by
  have hr:=h.room;have h2:7≤t.mask:=by rcases h.okm with e|e|e|e|e|e|e|e <;> lia
  obtain ⟨j,e,hj⟩:=qf h.dum h.okm (by rw [h.size];lia) hh;have hd:ac8 t.dummies j=false:=by rw [h.dum];simp [ac8]
  have g:GT1 (n+1) b (t.put j).1:=⟨h.okm,by simp only [SetTable.put,hd];exact h.dum,h.pl,h.rise.put hj,by simp only [SetTable.put];rw [fm,h.size],h.led,by simp only [SetTable.put];lia⟩
  have hs:(SetTable.insertAt es (t.put j).2 (hh,x)).size=n+1:=by rw [fm,hn]
  have hp:=SetTable.insertAt_perm es (t.put j).2 (hh,x);rw [Array.toList_push] at hp;have hf:=g.fits;refine ⟨_,_,?_,hp,g,hs⟩;unfold layNew;rw [e];simp only [SetTable.orStandIn,hs,hf,if_true,Bool.not_true]
theorem rX {n m:Nat} (hm:Okm m) (h1:(n - 1) * 5 < m * 3) (h2:n * 5 ≥ m * 3) (h3:n≤300):Okm (SetTable.sizeAbove (aci n) - 1)∧n * 5 < (SetTable.sizeAbove (aci n) - 1) * 3:=by
  unfold Okm;rcases hm with rfl|rfl|rfl|rfl|rfl|rfl|rfl|rfl
  · have : n=5:=by lia
    subst this;decide
  · have : n=9:=by lia
    subst this;decide
  · have : n=19:=by lia
    subst this;decide
  · have : n=38:=by lia
    subst this;decide
  · have : n=77:=by lia
    subst this;decide
  · have : n=153:=by lia
    subst this;decide
  · lia
  · lia
theorem sw {α:Type} {es:List α}:∀ {l:List Nat},(∀ i∈l,i < es.length)→(l.filterMap (es[·]?)).length=l.length
  | [],_=>rfl
  | i :: l,h=>by
    have hi:=h i aan;rw [abo,aac hi];simp only [aaC];rw [sw fun k hk=>h k (aaj _ hk)]
theorem m_ {n:Nat} {b:Bool} {t:SetTable} {es:Array (Int × Value)} (h:GT1 n b t) (hn:es.size=n) (hf:t.tooFull=true) (h3:n≤300):∃ es2 t2,relayAll t es (aci es.size)=(es2,t2,false)∧es2.toList.Perm es.toList∧GT n b t2:=by
  have hfull:n * 5 ≥ t.mask * 3:=by
    have:=hf;simp only [SetTable.tooFull,SetTable.fill,h.size,h.dum,decide_eq_true_eq] at this;exact this
  obtain ⟨o1,o2⟩:=rX h.okm h.room hfull h3;obtain ⟨t2,order,e,e1,e2,e3,e4,e5,e6,e7⟩:=pY o1 t.finger (t.movedTo (SetTable.sizeAbove (aci n) - 1)) t.led t.plain (es.map (·.1)) (by rw [Array.size_map];lia);rw [Array.size_map,hn] at e6 e7;have g:GT n b t2:=⟨by rw [e1];exact o1,e2,e4.trans h.pl,e5,e6,e3.trans h.led,by rw [e1];exact o2⟩
  have hc:coversAll order es.size=true:=by
    unfold coversAll;rw [hn];exact List.isPerm_iff.mpr e7
  have hz:(order.filterMap (es[·]?)).size=n:=by
    rw [← aaq,Array.toList_filterMap];have : (fun i:Nat=>es[i]?)=fun i:Nat=>es.toList[i]?:=by funext i;rw [aaD]
    rw [this,sw fun i hi=>?_,e7.length_eq,abc];have:=aaK.mp (e7.mem_iff.mp hi);rw [aaq];lia
  have hp:=relayAll_perm t es (aci es.size);have er:relayAll t es (aci es.size)=(order.filterMap (es[·]?),t2,false):=by
    unfold relayAll;rw [hn] at *;have : t.relaid (es.map (·.1)) (aci n)=some (t2,order):=e;rw [this];simp only [hc,hz,g.fits,Bool.and_self,if_true]
  rw [er] at hp;exact ⟨_,t2,er,hp,g⟩
open PySem PySem.Spec PyProof.Rows
def kOf:Value→Int
  | .int i _=>i
  | _=>0
def SetI (prog:Program) (w:World) (h:Heap) (a:Addr) (ks:List Int) (b:Bool):Prop :=
  ∃ o es ep t,h.get? a=some o∧o.ExactSet∧o.data=.set es ep t∧ElemsOf (intKind prog w) es.toList∧es.toList.map (fun e=>kOf e.2)=ks∧GT ks.length b t∧ks.Nodup∧ks.length≤300
section
variable {prog:Program} {w:World} {A:Around} {E:Value→Shared→Prop} {s:Shared}
theorem SetI.to {h h':Heap} {a:Addr} {ks:List Int} {b:Bool} (hS:SetI prog w h a ks b) (e:∀ o,h.get? a=some o→h'.get? a=some o):SetI prog w h' a ks b:=by
  obtain ⟨o,es,ep,t,ho,r⟩:=hS;exact ⟨o,es,ep,t,e _ ho,r⟩
theorem sF {es:List (Int × Value)} (h:ElemsOf (intKind prog w) es) {i:Int}:(∃ e∈es,(intKind prog w).is i e.2=true)↔i∈es.map fun e=>kOf e.2:=by
  rw [List.mem_map];constructor
  · rintro ⟨e,he,hi⟩;obtain ⟨t,ht⟩:=acZ hi;exact ⟨e,he,by rw [ht];rfl⟩
  · rintro ⟨e,he,hi⟩;obtain ⟨⟨k,hk,_⟩,_⟩:=h e he;obtain ⟨t,ht⟩:=acZ hk;rw [ht] at hi;have : k=i:=hi;rw [this] at hk;exact ⟨e,he,hk⟩
theorem SetI.laid {h:Heap} {a:Addr} {o:Obj} {es es':Array (Int × Value)} {ep:Nat} {t t':SetTable} {b:Bool} (ho:h.get? a=some o) (hex:o.ExactSet) (hd:o.data=.set es ep t) (hel:ElemsOf (intKind prog w) es'.toList) (nd:(es'.toList.map fun e=>kOf e.2).Nodup) (hl:es'.size≤300) (g:GT es'.size b t') :
    SetI prog w (h.update a (Obj.putSet es' t')) a (es'.toList.map fun e=>kOf e.2) b:=by
  have hg:=aa5 (Obj.putSet es' t') ho (by rw [putSet_of es' t' hd];rfl);rw [putSet_of es' t' hd] at hg;have e:(es'.toList.map fun e=>kOf e.2).length=es'.size:=by rw [aaa,aaq]
  exact ⟨_,es',ep+1,t',hg,hex,rfl,hel,rfl,by rw [e];exact g,nd,by rw [e];exact hl⟩
theorem tw {a:Addr} {ks:List Int} {b:Bool} {i:Int} {tk:Tok} {Q:Bool→Shared→Prop} (hS:SetI prog w s.heap a ks b) (hl:ks.length < 300)
    (h:∀ r h' ks',aaY a s.heap h'→SetI prog w h' a ks' b→(∀ k,k∈ks'↔k=i∨k∈ks)→ks'.length≤ks.length+1→Q r { s with heap:=h' }) :
    wpAny (model prog w) A (setAddHashed a (.int i tk) (hashInt i)) Q E s:=by
  obtain ⟨o,es,ep,t,ho,hex,hd,hel,hks,gt,nd,h300⟩:=id hS;have lk:ks.length=es.size:=by rw [← hks,aaa,aaq]
  rw [lk] at gt hl;have hf:=gt.fits;have hkey:=intKind_is prog w i tk;have hb:es.size < scanBound:=by unfold scanBound;lia
  unfold setAddHashed setAddHashedIn;refine wpAny_holding (wpAny_bind (wpAny_setState_of ho hd hf ?_));dsimp only;rw [byScan_of (knd:=intKind prog w) rfl hb hel];simp only [if_true];unfold setAddByScan;refine wpAny_bind (wpAny_bind (wpAny_rule (wpAny_bind (wpAny_setScan_of (knd:=intKind prog w) (k:=i) hkey ho hd hf hel ?_))));have hm:=sF hel (i:=i);rw [hks] at hm;cases hr:List.findIdx? (fun e=>(intKind prog w).is i e.2) es.toList with
  | some j =>
    obtain ⟨hj,hpj,_⟩:=List.findIdx?_eq_some_iff_getElem.mp hr;have hik:i∈ks:=hm.mp ⟨_,abA hj,hpj⟩;dsimp only;refine wpAny_pure (wpAny_pure ?_);exact h _ s.heap ks (Heap.SameBut.refl a s.heap) hS (fun k=>⟨.inr,fun z=>z.elim (fun z=>by rw [z];exact hik) id⟩) (acC _)
  | none =>
    have hni:i∉ks:=fun z=>by
      obtain ⟨e,he,hp⟩:=hm.mpr z;have:=List.findIdx?_eq_none_iff.mp hr e he;rw [hp] at this;cases this
    dsimp only;obtain ⟨es1,t1,e1,p1,g1,z1⟩:=t_ gt rfl (hashInt i) (.int i tk);rw [e1];dsimp only;have hel1:ElemsOf (intKind prog w) es1.toList:=(hel.push hkey rfl).perm p1;have pk:(es1.toList.map fun e=>kOf e.2).Perm (ks++[i]):=by
      have:=p1.map fun e=>kOf e.2;rw [aaG,hks] at this;exact this
    have nd1:(es1.toList.map fun e=>kOf e.2).Nodup:=by
      rw [pk.nodup_iff,List.nodup_append];refine ⟨nd,by simp,fun x hx y hy e=>hni ?_⟩;rw [← aau.mp hy,← e];exact hx
    have fin:∀ (h':Heap) (ks':List Int),aaY a s.heap h'→SetI prog w h' a ks' b→ks'.Perm (ks++[i])→Q true { s with heap:=h' }:=fun h' ks' sb hS' hp=>by
      refine h true h' ks' sb hS' (fun k=>?_) (by rw [hp.length_eq,aaw];exact aaf _);rw [hp.mem_iff,List.mem_append,aau,or_comm]
    refine wpAny_bind (wpAny_pure ?_);rw [g1.pl];simp only [if_true];refine wpAny_bind ?_;rw [hashByValue_scannable 8 (x:=.int i tk) rfl];refine wpAny_pure ?_;simp only [plainKind,if_true,Bool.not_false,abS];refine wpAny_bind (wpAny_storeSet_of ho hd ?_ (fits_of_scanBound (by unfold scanBound;lia)));have hg:=aa5 (Obj.putSet es1 t1) ho (by rw [putSet_of es1 t1 hd];rfl);rw [putSet_of es1 t1 hd] at hg;have sb1:=aaR s.heap a (Obj.putSet es1 t1);by_cases c:t1.tooFull=true
    · rw [if_pos c];obtain ⟨es2,t2,e2,p2,g2⟩:=m_ g1 z1 c (by lia);rw [e2];dsimp only;have z2:es2.size=es.size+1:=by
        have:=p2.length_eq;rw [aaq,aaq] at this;lia
      refine wpAny_bind (wpAny_pure ?_);refine wpAny_bind (wpAny_storeSet_of hg rfl ?_ (fits_of_scanBound (by unfold scanBound;lia)));refine wpAny_pure (wpAny_pure ?_);have pk2:=(p2.map fun e=>kOf e.2).trans pk;exact fin _ _ (sb1.trans (aaR _ a _)) (SetI.laid hg hex rfl (hel1.perm p2) ((p2.map fun e=>kOf e.2).nodup_iff.mpr nd1) (by lia) (by rw [z2];exact g2)) pk2
    · rw [if_neg c];refine wpAny_pure (wpAny_pure ?_);have g:GT es1.size b t1:=by
        refine ⟨g1.okm,g1.dum,g1.pl,g1.rise,by rw [z1];exact g1.size,g1.led,?_⟩;have:=c;simp only [SetTable.tooFull,SetTable.fill,g1.size,g1.dum,decide_eq_true_eq] at this;rw [z1];have e0:(#[]:Array Nat).size=0:=rfl;rw [e0] at this;lia
      exact fin _ _ sb1 (SetI.laid ho hex hd hel1 nd1 (by lia) g) pk
end
end L2
set_option maxHeartbeats 3200000
namespace L2
open PySem PySem.Spec PyProof.Rows
section
variable {prog:Program} {w:World} {A:Around} {E:Value→Shared→Prop} {s:Shared}
variable {R:Result→Shared→Prop} {I:Addr} {fp wr:List Addr} {G:Array GenState→Array GenState→Prop} {n:Nat} {P:Nat→Value→Prop} {St:Nat→Shared→Prop}
theorem qK (W:WalksS prog w A.in1 I fp wr G n P St) (S:Addr) (hSf:S∉fp) (val:Nat→Int) (hval:∀ i v,P i v→∃ t,v=.int (val i) t) (hn:n≤300) {b:Bool} :
    ∀ (k i:Nat) (s:Shared) (ks:List Int),n - i=k→i≤n→St i s→SetI prog w s.heap S ks b→(∀ x,x∈ks↔∃ j,j < i∧val j=x)→ks.length≤i →
      (∀ s' ks',Moved (S :: wr) G s s'→SetI prog w s'.heap S ks' b→(∀ x,x∈ks'↔∃ j,j < n∧val j=x)→R (.ok (.ret .none)) s') →
      codeAny (model prog w) A (.builtin "set.update.loop" ⟨[.ref S,.ref I],[]⟩) R s:=by
  have hSw:S∉wr:=fun h=>hSf (W.sub _ h);intro k
  induction k with
  | zero =>
    intro i s ks hk hi hst hS hx hl hR;obtain rfl:i=n:=by lia
    refine codeAny_builtin F.entry_set_update_loop ?_;rw [abz acH _];refine wpAny_bind (m:=pyNext (.ref I)) (W.done s _ _ hst fun s' hm=>wpAny_pure (hR s' ks (hm.mono fun b hb=>aaj _ hb) (hS.to fun o ho=>hm.heap S _ hSw ho) hx))
  | succ k ih =>
    intro i s ks hk hi hst hS hx hl hR;refine codeAny_builtin F.entry_set_update_loop ?_;rw [abz acH _];refine wpAny_bind (m:=pyNext (.ref I)) (W.item i s _ _ (by lia) hst fun v s' hP hst' hm=>?_);obtain ⟨t,rfl⟩:=hval i v hP;have hS':SetI prog w s'.heap S ks b:=hS.to fun o ho=>hm.heap S _ hSw ho;refine wpAny_bind (m:=holding [Value.int (val i) t] (setAdd S (.int (val i) t))) (wpAny_holding ?_);unfold setAdd;refine wpAny_holding (wpAny_bind ((intKind prog w).pyHash (k:=val i) (intKind_is _ _ _ _) ?_));refine tw (s:={ s' with toks:=s'.toks+1 }) hS' (by lia) fun r h' ks' sb hS2 hx' hl'=>?_;refine wpAny_pure ⟨plainId_quiet acH _,ih (i+1) _ ks' (by lia) (by lia) (W.frame _ s' _ _ hst' (acC _) fun c hc o e=>?_) hS2 (fun x=>?_) (by lia) fun s'' ks'' hm'' hS'' hx''=>?_⟩
    · rw [sb.2 c (fun h:c=S=>hSf (by rw [← h];exact hc))];exact e
    · rw [hx' x,hx x];constructor
      · rintro (z|⟨j,hj,z⟩)
        · exact ⟨i,by lia,z.symm⟩
        · exact ⟨j,by lia,z⟩
      · rintro ⟨j,hj,z⟩;by_cases c:j=i
        · subst c;exact .inl z.symm
        · exact .inr ⟨j,by lia,z⟩
    · refine hR s'' ks'' (Moved.trans W.gtrans ((hm.mono fun b hb=>aaj _ hb).then_heap (acC _) fun c o hc e=>?_) hm'') hS'' hx'';rw [sb.2 c (fun h:c=S=>hc (by rw [h];exact aan))];exact e
end
section
variable {prog:Program} {w:World} {A:Around} {E:Value→Shared→Prop} {s:Shared}
theorem qH (a:Value) {Q₁:Value→Shared→Prop}
    (h:Q₁ (.ref s.heap.objs.size) { s with heap:=s.heap.push { cls:=.type "set",dict:=none,data:=.set #[] 0 (.fresh 0 0 (!w.params.followText "set-order")) } }) :
    codeAny (model prog w) A (.call (.builtin "set.__new__") ⟨[.type "set",a],[]⟩) (wants Q₁ E) s:=by
  refine codeAny_of_tree ?_;refine wpAny_bind (m:=checkBuiltinCall "set.__new__" ⟨[.type "set",a],[]⟩) (wpAny_of_eq (F.newCall_set_1 a) (wpAny_pure ⟨plainId_quiet F.plain_set_new _,codeAny_builtin F.entry_set_new ?_⟩));rw [abz F.plain_set_new _];unfold Builtin.«set.__new__» Builtin.Frozenset.newClass;have hsub:=sub_set_self;obtain ⟨hp,g,d,tk,os⟩:=s;dsimp only
  wp_walk
  refine wpAny_askSetting (wpAny_pure ?_);dsimp only;simp only [newObj];refine wpAny_bind (wpAny_alloc (wpAny_pure ?_));exact wpAny_pure h
end
open PySem PySem.Spec PyProof.Rows
abbrev cS (w:World):Obj:={ cls:=.type "set",dict:=none,data:=.set #[] 0 (.fresh 0 0 (!w.params.followText "set-order")) }
section
variable {prog:Program} {w:World} {A:Around} {E:Value→Shared→Prop} {s:Shared}
theorem lB {l:Addr} {items:Array Value} {ns:List Int} {Q:Value→Shared→Prop} (hh:A.handled=none) (hl:s.heap.IsList l items) (hi:IntsAre items.toList ns) (hb:items.size≤300)
    (h:∀ (h':Heap) (tk:Nat) (ks:List Int),SetI prog w h' s.heap.objs.size ks (!w.params.followText "set-order")→(∀ x,x∈ks↔x∈ns)→(∀ b o,b < s.heap.objs.size→s.heap.get? b=some o→h'.get? b=some o)→Q (.ref s.heap.objs.size) { s with heap:=h',toks:=tk }) :
    wpAny (model prog w) A (call (.type "set") [.ref l]) Q E s:=by
  have hlen:ns.length=items.size:=by
    have:=(jP hi).length;rw [aaa,aaq] at this;exact this
  obtain ⟨c,tl,hmro⟩:=F.called_set.mro;have hmade:=F.called_set.made;have hsub:=F.called_set.sub;refine wpAny_call (codeAny_of_tree ?_);show wpAny _ _ (callAny (.type "set") _) _ _ _;refine wpAny_pure ⟨acl _ (by decide +kernel),codeAny_builtin F.entry_type_call ?_⟩;rw [Around.under_plain (weight_type_call_type "set" [.ref l] []) rfl];have h1:=F.called_set.notType;have h2:=F.called_set.canCreate;have hct:=F.typeCall_set_1 (.ref l)
  repeat (any_goals (first|assumption|wp_step))
  refine codeAny_mono (qH (.ref l) (E:=E) (Q₁:=fun obj s₁=>obj=.ref s.heap.objs.size∧s₁={ s with heap:=s.heap.push (cS w) }) ⟨rfl,rfl⟩) fun r s₁ hr=>?_;cases r with
  | error e=>exact hr
  | ok fl =>
    cases fl with
    | ret obj =>
      obtain ⟨rfl,rfl⟩:=hr;have hS:(s.heap.push (cS w)).get? s.heap.objs.size=some (cS w):=aao _ rfl;have hT:Shared.TypeIs { s with heap:=s.heap.push (cS w) } (.ref s.heap.objs.size) "set":=⟨_,hS,rfl⟩
      have hli:=F.called_set.init.lookup;have hbi:=F.called_set.init.bind (.ref s.heap.objs.size)
      repeat (any_goals (first|assumption|wp_step))
      refine codeAny_mono (codeAny_call_builtin (R:=wants (fun r s₂=>r=.none∧∃ h' tk ks,s₂={ s with heap:=h',toks:=tk }∧SetI prog w h' s.heap.objs.size ks (!w.params.followText "set-order")∧(∀ x,x∈ks↔x∈ns) ∧
          ∀ b o,b < s.heap.objs.size→s.heap.get? b=some o→h'.get? b=some o) E) F.called_set.init.plain F.entry_set_init (check_set_init_1 hT ?_)) fun r₂ s₂ hr₂=>?_
      · have hlS:l < s.heap.objs.size:=by obtain ⟨ol,hol,_⟩:=hl;exact aal hol
        obtain ⟨ol,hol,hcl,nl,hdl⟩:=hl;obtain ⟨ocls,odict,odata,oslots⟩:=ol;simp only at hcl hdl;subst hcl;subst hdl;have hol':(s.heap.push (cS w)).get? l=some { cls:=.type "list",dict:=odict,data:=.seq items nl,slots:=oslots }:=aad _ hol;have hsls:=F.sub_list_set;have hslf:=F.sub_list_frozenset;have hne:(Value.type "list" == Value.type "dict")=false:=by decide
        have hl1:(s.heap.push (cS w)).IsList l items:=⟨_,hol',rfl,nl,rfl⟩
        unfold Builtin.«set.__init__» noKeywords Builtin.Frozenset.updateFrom;generalize hPI:pyIter=PI
        wp_walk
        subst hPI;refine wpAny_pyIter_list hl1 (wpAny_bind (wpAny_runValue ?_));have hh3:A.in1.in1.in1.handled=none:=by simp [hh]
        have hneI:l≠(s.heap.push (cS w)).objs.size:=by
          rw [ab1];exact aaB (Nat.lt_succ_of_lt hlS)
        have hSf:s.heap.objs.size∉[(s.heap.push (cS w)).objs.size,l]:=by
          rw [ab1];simp only [aai,aaV,or_false,not_or];exact ⟨aaB (ace _),abr hlS⟩
        refine qK (b:=!w.params.followText "set-order") ((Walks.list hh3 _ l hneI items).toS) s.heap.objs.size hSf (fun i=>ns.getD i 0) (fun i v hv=>IntsAre.int_at hi i v (by rw [aaD];exact hv)) hb items.size 0 _ [] (by lia) (aa4 _)
          ⟨⟨_,aao _ rfl,rfl,rfl⟩,(hl1.push _)⟩ ?hS0 (fun x=>⟨fun z=>by simp at z,fun ⟨j,hj,_⟩=>absurd hj (acq _)⟩) (aaf _) ?hR
        case hS0=>exact ⟨cS w,#[],0,_,aad _ hS,⟨rfl,rfl,rfl⟩,rfl,fun e he=>by simp at he,rfl,rW _,ac0,by decide⟩
        case hR =>
          intro s' ks hm hS' hx;obtain ⟨h',g',d',tk',os'⟩:=s';have eg:g'=s.gens:=hm.gens;have ed:d'=s.drawn:=hm.drawn;have eo:os'=s.os:=hm.os;subst eg;subst ed;subst eo;refine wpAny_pure ?_;show wpAny _ _ (ret Value.none) _ _ _;refine wpAny_pure ⟨rfl,h',tk',ks,rfl,hS',fun x=>(hx x).trans ?_,fun b o hb e=>?_⟩
          · constructor
            · rintro ⟨j,hj,z⟩;have hj':j < ns.length:=by lia
              have z:ns.getD j 0=x:=z;rw [aat,aac hj'] at z;have z:ns[j]=x:=z;rw [← z];exact abA hj'
            · intro z;obtain ⟨j,hj,e⟩:=List.getElem_of_mem z;refine ⟨j,by lia,?_⟩;show ns.getD j 0=x;rw [aat,aac hj];exact e
          · refine hm.heap b o (fun hmem=>?_) (aad _ (aad _ e));rw [ab1] at hmem;simp only [aai,aaV,or_false] at hmem;rcases hmem with e'|e'
            · exact absurd e' (aaB hb)
            · exact absurd e' (aaB (Nat.lt_succ_of_lt hb))
      · cases r₂ with
        | error e=>exact hr₂
        | ok fl₂ =>
          cases fl₂ with
          | ret r =>
            obtain ⟨rfl,h',tk,ks,rfl,hS',hx,hk'⟩:=hr₂
            repeat (any_goals (first|assumption|wp_step))
            exact h _ _ ks hS' hx hk'
          | _=>exact hr₂
    | _=>exact hr
end
end L2
namespace PySem.F
theorem slot_set_iterator_next:Slot "set_iterator" "__next__" "set_iterator.__next__" :=
  .of (owner:="set_iterator") (n:="__next__") (by rw [typeLookup_type,builtinLookup_eq_fast];kernel_rfl) (by decide +kernel) (by decide +kernel) (by decide +kernel) (by first|exact .inl (by decide +kernel)|exact .inr (by decide +kernel)) (by rw [isSubtype_type];kernel_rfl)
theorem entry_set_iterator_next:entryFor table "set_iterator.__next__" = some Builtin.«set_iterator.__next__»:=entryFor_of_tree (by kernel_rfl)
theorem entry_set_iter:entryFor table "set.__iter__" = some Builtin.«frozenset.__iter__»:=entryFor_alias (id':="frozenset.__iter__") (by kernel_rfl) rfl (by decide +kernel) (by kernel_rfl)
theorem db:Manifest.owners.lookup (String.ofList ['r','o','t','a','r','e','t','i','_','t','e','s'].reverse)=some Manifest.sig_set_iterator:=by kernel_rfl
theorem args_set_iterator_next_1 (a:Value):argsOk "set_iterator.__next__" ⟨[a],[]⟩:=by
  unfold argsOk;rw [signature?_of (id:="set_iterator.__next__") (n:=['_','_','t','x','e','n','_','_']) (o:=['r','o','t','a','r','e','t','i','_','t','e','s']) (by kernel_rfl) db]
  kernel_rfl
theorem slot_set_iterator_iter:Slot "set_iterator" "__iter__" "set_iterator.__iter__" :=
  .of (owner:="set_iterator") (n:="__iter__") (by rw [typeLookup_type,builtinLookup_eq_fast];kernel_rfl) (by decide +kernel) (by decide +kernel) (by decide +kernel) (by first|exact .inl (by decide +kernel)|exact .inr (by decide +kernel)) (by rw [isSubtype_type];kernel_rfl)
theorem entry_set_iterator_iter:entryFor table "set_iterator.__iter__" = some Builtin.«dict_keyiterator.__iter__»:=entryFor_alias (id':="dict_keyiterator.__iter__") (by kernel_rfl) rfl (by decide +kernel) (by kernel_rfl)
theorem args_set_iterator_iter_1 (a:Value):argsOk "set_iterator.__iter__" ⟨[a],[]⟩:=by
  unfold argsOk;rw [signature?_of (id:="set_iterator.__iter__") (n:=['_','_','r','e','t','i','_','_']) (o:=['r','o','t','a','r','e','t','i','_','t','e','s']) (by kernel_rfl) db]
  kernel_rfl
end PySem.F
namespace L2
open PySem PySem.Spec PyProof.Rows
theorem iZ {α:Type}:∀ {l:List α} {i:Nat} (h:i < l.length),(l[i] :: l.eraseIdx i).Perm l
  | [],_,h=>absurd h (acq _)
  | a :: l,0,_=>List.Perm.refl _
  | a :: l,i+1,h=>by
    have hi:i < l.length:=by simpa using h
    rw [List.getElem_cons_succ,acK];exact (List.Perm.swap _ _ _).trans ((iZ hi).cons a)
theorem oF {α:Type} (next:Nat→Nat):∀ (n k:Nat) (left:List α) (out:Array α),left.length=n→(pickOrder.go next n k left out).toList.Perm (out.toList++left)
  | 0,k,left,out,h=>by
    rw [aa8.mp h,acJ];exact List.Perm.refl _
  | n+1,k,left,out,h=>by
    have hi:next k % left.length < left.length:=Nat.mod_lt _ (by lia);unfold pickOrder.go;rw [aac hi];dsimp only;refine (oF next n (k+1) _ _ (by rw [List.length_eraseIdx_of_lt hi];lia)).trans ?_;rw [Array.toList_push,abb];exact List.Perm.append_left _ (iZ hi)
theorem pI {α:Type} (next:Nat→Nat) (xs:Array α):(pickOrder next xs).toList.Perm xs.toList:=by
  have:=oF next xs.size 0 xs.toList #[] (aaq ..);unfold pickOrder;simpa using this
def cO (w:World) (d:Addr) (es:Array (Int × Value)) (ep:Nat):Array (Int × Value):=if w.params.followText "set-order" = true then pickOrder (w.params.setOrder d ep) es else es
theorem im (w:World) (d:Addr) (es:Array (Int × Value)) (ep:Nat):(cO w d es ep).toList.Perm es.toList:=by
  unfold cO;split
  · exact pI _ _
  · exact List.Perm.refl _
theorem fq (w:World) (d:Addr) (es:Array (Int × Value)) (ep:Nat):(cO w d es ep).size=es.size:=by
  have:=(im w d es ep).length_eq
  rwa [aaq,aaq] at this
def itO (slot i:Nat) (d:Addr) (n ep:Nat):Obj:={ cls:=.type "set_iterator",data:=.fields #[.int slot 0,.int i 0,.ref d,.int n 0,.int ep 0] }
section
variable {prog:Program} {w:World} {A:Around} {E:Value→Shared→Prop} {s:Shared}
theorem qI {d:Addr} {o:Obj} {es:Array (Int × Value)} {ep:Nat} {t:SetTable} {Q:Value→Shared→Prop} (ho:s.heap.get? d=some o) (hex:o.ExactSet) (hd:o.data=.set es ep t) (g:GT es.size (!w.params.followText "set-order") t)
    (hQ:Q (.ref s.heap.objs.size) { s with heap:=s.heap.push (itO 0 0 d es.size ep) }):wpAny (model prog w) A (pyIter (.ref d)) Q E s:=by
  have hT:s.TypeIs (.ref d) "set":=⟨o,ho,hex.1⟩
  refine wpAny_pyIter_slot hT F.slot_set_iter (wpAny_call_entry F.slot_set_iter hT F.entry_set_iter ?_ (F.args_set_iter_1 _));obtain ⟨m,pl,dm,fg,ld,mv,pn⟩:=t;have e1:pn=true:=g.pl;subst e1;unfold Builtin.«frozenset.__iter__» Builtin.Frozenset.slot0 Builtin.Frozenset.sizeOf setDrawn setsByText setEntries setEpoch;refine wpAny_bind (wpAny_bind (wpAny_pure (wpAny_pure ?_)));refine wpAny_bind (wpAny_bind (wpAny_bind (wpAny_setState_of ho hd g.fits (wpAny_pure (wpAny_pure ?_)))));refine wpAny_bind (wpAny_bind (wpAny_setState_of ho hd g.fits ?_));dsimp only;refine wpAny_bind (wpAny_bind (wpAny_askSetting (wpAny_pure (wpAny_pure ?_))));split
  · rename_i hc
    exfalso
    revert hc;show ¬ ((!w.params.followText "set-order" && _)=true);generalize w.params.followText "set-order" = bb;cases bb
    · exact aag
    · exact aag
  · refine wpAny_bind (wpAny_pure ?_);refine wpAny_bind (wpAny_bind (wpAny_setState_of ho hd g.fits (wpAny_pure ?_)));refine wpAny_bind ?_;unfold newFields;refine wpAny_newObj_type ?_ (by size_fits);exact wpAny_pure ⟨_,rfl,"set_iterator",_,⟨_,aao _ rfl,rfl⟩,F.slot_set_iterator_next.lookup,hQ⟩
def ui (w:World) (h:Heap) (it d:Addr) (t:SetTable) (n ep i:Nat):Prop:=∃ slot,h.get? it=some (itO slot i d n ep)∧(w.params.followText "set-order" = false→aaX t.place slot=i)
theorem lw {d:Addr} {o:Obj} {es:Array (Int × Value)} {ep i slot:Nat} {t:SetTable} {Q:Option (Value × Nat)→Shared→Prop} (ho:s.heap.get? d=some o) (hd:o.data=.set es ep t) (g:GT es.size (!w.params.followText "set-order") t) (hs:w.params.followText "set-order" = false→aaX t.place slot=i)
    (hQ:∀ r:Option (Value × Nat),((cO w d es ep)[i]?=none→r=none)→(∀ e,(cO w d es ep)[i]?=some e→∃ slot',r=some (e.2,slot')∧(w.params.followText "set-order" = false→aaX t.place slot'=i+1))→Q r s):wpAny (model prog w) A (setNext d slot i ep) Q E s:=by
  unfold setNext setsByText;refine wpAny_bind (wpAny_setState_of ho hd g.fits ?_);dsimp only;refine wpAny_bind (wpAny_bind (wpAny_askSetting (wpAny_pure ?_)));cases hb:w.params.followText "set-order" with
  | true =>
    have hw:cO w d es ep=pickOrder (w.params.setOrder d ep) es:=by unfold cO;rw [if_pos hb]
    rw [hw] at hQ;have hb':(model prog w).w.params.followText "set-order" = true:=hb;rw [if_pos hb'];simp only [bne_self_eq_false,aaH,if_false];unfold setWalk setsByText;refine wpAny_bind (wpAny_bind (wpAny_setState_of ho hd g.fits ?_));dsimp only;refine wpAny_bind (wpAny_bind (wpAny_askSetting (wpAny_pure ?_)));rw [if_pos hb'];refine wpAny_bind (wpAny_askSetting (wpAny_pure ?_));refine wpAny_pure (hQ _ (fun z=>?_) (fun e z=>⟨slot,?_,fun z2=>by rw [hb] at z2;cases z2⟩))
    · show Option.map _ ((pickOrder (w.params.setOrder d ep) es)[i]?)=none;rw [z];rfl
    · show Option.map _ ((pickOrder (w.params.setOrder d ep) es)[i]?)=_;rw [z];rfl
  | false =>
    have hw:cO w d es ep=es:=by unfold cO;rw [if_neg (by rw [hb];decide)]
    rw [hw] at hQ;rw [hb] at g;obtain ⟨m,pl,dm,fg,ld,mv,pn⟩:=t;have e1:pn=true:=g.pl;have e2:ld=true:=g.led;subst e1 e2;have hsl:=hs hb;have hrise:Rise pl:=g.rise;have hsz:pl.size=es.size:=g.size;have hb':¬ (model prog w).w.params.followText "set-order" = true:=fun z=>by
      have : w.params.followText "set-order" = true:=z;rw [hb] at this;cases this
    rw [if_neg hb'];split
    · rename_i hc;exact absurd hc aag
    · refine wpAny_bind (wpAny_pure ?_);rw [show aaX pl slot=i from hsl];refine wpAny_pure (hQ _ (fun z=>by rw [z]) (fun e z=>?_));have hi:i < es.size:=by
        rw [← aaD] at z;have:=(aaA.mp z).1;simpa using this
      have hp:pl[i]?=some pl[i]:=aaW (by lia);refine ⟨pl[i]+1,by rw [z,hp],fun _=>n0 hrise hp⟩
theorem qG {it d:Addr} {o:Obj} {es:Array (Int × Value)} {ep i:Nat} {t:SetTable} {e:Int × Value} {Q:Option Value→Shared→Prop} (hit:ui w s.heap it d t es.size ep i) (ho:s.heap.get? d=some o) (hd:o.data=.set es ep t) (g:GT es.size (!w.params.followText "set-order") t) (hx:(cO w d es ep)[i]?=some e)
    (hQ:∀ h',ui w h' it d t es.size ep (i+1)→aaY it s.heap h'→Q (some e.2) { s with heap:=h' }):wpAny (model prog w) A (pyNext (.ref it)) Q E s:=by
  obtain ⟨slot,hi,hs⟩:=id hit;have hT:s.TypeIs (.ref it) "set_iterator":=⟨_,hi,rfl⟩
  unfold pyNext;refine wpAny_bind (wpAny_attempt (wpAny_callSpecial?_slot (name:=abB "__next__") hT F.slot_set_iterator_next (wpAny_call_entry F.slot_set_iterator_next hT F.entry_set_iterator_next ?_ (F.args_set_iterator_next_1 _))));unfold Builtin.«set_iterator.__next__»;refine wpAny_bind (wpAny_pure ?_);refine wpAny_bind (wpAny_fieldsOf hi rfl ?_);dsimp only;unfold setEntries;refine wpAny_bind (wpAny_bind (wpAny_setState_of ho hd g.fits (wpAny_pure ?_)));simp only [bne_self_eq_false,aaH,if_false,aba];refine wpAny_bind (lw ho hd g hs fun r _ hr=>?_);obtain ⟨slot',rfl,hs'⟩:=hr e hx;dsimp only;refine wpAny_bind (wpAny_setField_rec (cls:=.type "set_iterator") hi (by simp) fun h1 g1 sb1=>?_);refine wpAny_bind (wpAny_setField_rec (cls:=.type "set_iterator") (s:={ s with heap:=h1 }) g1 (by simp) fun h2 g2 sb2=>?_);refine wpAny_pure ⟨_,rfl,wpAny_pure (hQ h2 ⟨slot',?_,hs'⟩ (sb1.trans sb2))⟩;rw [g2];simp [itO,rawInt]
theorem tz {it d:Addr} {o:Obj} {es:Array (Int × Value)} {ep i:Nat} {t:SetTable} {Q:Option Value→Shared→Prop} (hh:A.handled=none) (hit:ui w s.heap it d t es.size ep i) (ho:s.heap.get? d=some o) (hd:o.data=.set es ep t) (g:GT es.size (!w.params.followText "set-order") t) (hx:es.size≤i)
    (hQ:∀ h',Heap.ExtBut it s.heap h'→Q none { s with heap:=h' }):wpAny (model prog w) A (pyNext (.ref it)) Q E s:=by
  obtain ⟨slot,hi,hs⟩:=id hit;have hT:s.TypeIs (.ref it) "set_iterator":=⟨_,hi,rfl⟩
  unfold pyNext;refine wpAny_bind (wpAny_attempt (wpAny_callSpecial?_slot (name:=abB "__next__") hT F.slot_set_iterator_next (wpAny_call_entry F.slot_set_iterator_next hT F.entry_set_iterator_next ?_ (F.args_set_iterator_next_1 _))));unfold Builtin.«set_iterator.__next__»;refine wpAny_bind (wpAny_pure ?_);refine wpAny_bind (wpAny_fieldsOf hi rfl ?_);dsimp only;unfold setEntries;refine wpAny_bind (wpAny_bind (wpAny_setState_of ho hd g.fits (wpAny_pure ?_)));simp only [bne_self_eq_false,aaH,if_false,aba];refine wpAny_bind (lw ho hd g hs fun r hn _=>?_);obtain rfl:=hn (by rw [acj];rw [fq];exact hx);dsimp only;refine wpAny_bind (wpAny_setField hi rfl (by simp) ?_);refine wpAny_bind (m:=newExc (.type "StopIteration") []) ?_;simp only [newExc,newTuple];refine wpAny_bind (wpAny_newObj_type ?_ (by size_fits));refine wpAny_bind (m:=firstArgMember _ _) (wpAny_of_eq (a:=Value.none) (by first|rfl|(simp only [firstArgMember];rfl)) ?_);refine wpAny_newObj_type ?_ (by size_fits);simp only [raiseNew];refine wpAny_bind (wpAny_handled ?_);rw [show A.in1.handled=none from hh];refine wpAny_bind (wpAny_pure (wpAny_throw ?_));refine wpAny_bind (wpAny_isInstance (T:="StopIteration") (b:=true) ⟨_,aao _ rfl,rfl⟩ isSubtype_stop ?_);exact wpAny_pure (hQ _ (((aaR ..).extBut.push _).push _))
end
open PySem PySem.Spec PyProof.Rows
section
variable {prog:Program} {w:World} {A:Around} {E:Value→Shared→Prop} {s:Shared}
theorem qJ {r:Addr} {Q:Bool→Shared→Prop} (hT:s.TypeIs (.ref r) "set") (h:Q false s):wpAny (model prog w) A (Builtin.List.listLengthHint (.ref r)) Q E s:=by
  unfold Builtin.List.listLengthHint;refine wpAny_bind (wpAny_specialOf hT PySem.F.slot_set_len.lookup ?_);generalize hid:("set.__len__":String)=id0
  wp_delta
  rw [show splitId id0=some ("set","__len__") from by subst hid;decide +kernel];subst hid;refine wpAny_bind (wpAny_isInstance (T:="set") (b:=true) hT (by rw [isSubtype_type];kernel_rfl) ?_);refine wpAny_ite_split (fun hab=>absurd hab (by decide)) (fun _=>?_);refine wpAny_ite_split (fun _=>?_) (fun hab=>absurd (by decide +kernel) hab);exact wpAny_bind (wpAny_typeOf hT (wpAny_pure h))
theorem o7 (hh:A.handled=none) (I d:Addr) (hne:d≠I) {o:Obj} {es:Array (Int × Value)} {ep:Nat} {t:SetTable} (hd:o.data=.set es ep t) (g:GT es.size (!w.params.followText "set-order") t) :
    Walks prog w A I [I,d] [I] es.size (fun i v=>∃ e,(cO w d es ep)[i]?=some e∧v=e.2) (fun i h=>ui w h I d t es.size ep i∧h.get? d=some o) where
  sub:=fun b hb=>by simp at hb;simp [hb]
  frame:=fun _ _ _ st hk=>⟨by obtain ⟨sl,e,r⟩:=st.1;exact ⟨sl,hk I (by simp) _ e,r⟩,hk d (by simp) o st.2⟩
  item:=fun i s Q E hi st hQ=>by
    have hx:(cO w d es ep)[i]?=some ((cO w d es ep)[i]'(by rw [fq];exact hi)):=aaW _;exact qG st.1 st.2 hd g hx fun h' hit' hs'=>hQ _ h' s.toks ⟨_,hx,rfl⟩ ⟨hit',(hs'.2 d hne).trans st.2⟩ fun b o hb e=>hs'.extBut b o (fun h=>hb (by simp [h])) e
  done:=fun s Q E st hQ=>tz hh st.1 st.2 hd g (aaf _) fun h' he'=>hQ h' s.toks fun b o hb e=>he' b o (fun h=>hb (by simp [h])) e
  self:=fun i s Q E st hQ=>by
    obtain ⟨sl,e,r⟩:=st.1;have hT:s.TypeIs (.ref I) "set_iterator":=⟨_,e,rfl⟩
    refine wpAny_pyIter_slot hT F.slot_set_iterator_iter (wpAny_call_entry F.slot_set_iterator_iter hT F.entry_set_iterator_iter ?_ (F.args_set_iterator_iter_1 _));show wpAny _ _ (ret (.ref I)) _ _ s;exact wpAny_pure ⟨_,rfl,"set_iterator",_,hT,F.slot_set_iterator_next.lookup,hQ⟩
theorem tf {d:Addr} {o:Obj} {es:Array (Int × Value)} {ep:Nat} {t:SetTable} (hx:o.ExactSet) (hd:o.data=.set es ep t) (g:GT es.size (!w.params.followText "set-order") t):PySem.W.KdlSrc prog w "set" d d es.size (fun i v=>∃ e,(cO w d es ep)[i]?=some e∧v=e.2) (fun h=>h.get? d=some o) where
  type:=fun _ hm=>⟨_,hm,hx.1⟩
  there:=fun _ hm=>⟨aal hm,aal hm⟩
  keep:=fun _ _ hm hk=>hk d (.inl rfl) o hm
  notList:=by decide
  notTuple:=by decide
  hint:=fun _ _ _ _ hm hq=>qJ ⟨_,hm,hx.1⟩ hq
  iter:=fun _ s hh hm=>⟨_,_,(fun _ _ hq=>qI hm hx hd g hq),o7 hh _ d (aaB (aal hm)) hd g,⟨⟨0,aao _ rfl,fun _=>mI g.rise⟩,aad _ hm⟩⟩
end
def vQ (w:World) (o:Obj) (ks:List Int):Prop:=∃ es ep t,o.ExactSet∧o.data=.set es ep t∧(∀ e∈es.toList,∃ i tk,e.2=.int i tk∧e.1=hashInt i)∧es.toList.map (fun e=>kOf e.2)=ks∧GT es.size (!w.params.followText "set-order") t∧ks.Nodup
theorem rR:∀ {es:List (Int × Value)},(∀ e∈es,∃ i tk,e.2=.int i tk)→IntsAre (es.map (·.2)) (es.map fun e=>kOf e.2)
  | [],_=>.nil
  | e :: es,h=>by
    obtain ⟨i,tk,hi⟩:=h e aan;rw [aae,aae,hi];exact .cons i tk (rR fun x hx=>h x (aaj _ hx))
open PySem PySem.Spec PyProof.Rows
theorem io:∀ {ns:List Int} {ws:List Value},Vals (ns.map V.int) ws→IntsAre ws ns
  | [],[],_=>.nil
  | [],_ :: _,h=>nomatch h
  | n :: ns,_,.cons h t=>by
    obtain ⟨tk,rfl⟩:=h;exact .cons n tk (io t)
theorem qm {X:Cx} (hc:X.calm=true):bv X (.type "set") (fun xs H Q=>∃ (p:Addr) (ns:List Int),xs=[.ref p]∧SqL X.K H p (ns.map V.int)∧ns.length≤300 ∧
    ∀ (S:Addr) (o:Obj) (u:HO) (ks:List Int),H S=none→vQ X.w o ks→(∀ x,x∈ks↔x∈ns)→Q (.ref S) (upd H S (.frz o u))):=by
  intro pins s σ H xs us Q I r h;obtain ⟨p,ns,rfl,hq,hn,q⟩:=h;obtain ⟨v,rfl,rv⟩:=ci r;cases rv;obtain ⟨its,r',pl,hz⟩:=I.list hq;have hlen:=r'.length;rw [aaa] at hlen;refine lB (I.ok.hd hc) pl.isList (ns:=ns) (io (by simpa using r')) (by simp only [aam];lia) fun h' tk ks hS hx hk=>?_;obtain ⟨o,es,ep,t,ho,hex,hd,hel,hks,g,nd,h300⟩:=hS;have lk:ks.length=es.size:=by rw [← hks,aaa,aaq]
  rw [lk] at g;have hok:vQ X.w o ks:=⟨es,ep,t,hex,hd,fun e he=>by
    obtain ⟨⟨k,h1,h2⟩,_⟩:=hel e he;obtain ⟨tk,ht⟩:=acZ h1;exact ⟨k,tk,ht,h2⟩,hks,g,nd⟩
  refine ⟨.ref s.heap.objs.size,_,I.laid (t':=tk) (fun b u e=>hk b u (aal e) e) (aaf _) (o:=.frz o (.set (fun k=>ks.any (· == k)) es.size)) ?_,rfl,q _ o _ ks (I.hok.fresh (aaf _)) hok hx⟩;refine ⟨ho,o,es,ep,t,ho,hex,hd,hel,fun k=>?_,by unfold scanBound;lia,g.fits,rfl⟩;rw [sF hel,hks,List.any_eq_true];constructor
  · rintro ⟨x,h1,h2⟩;rw [← beq_iff_eq.mp h2];exact h1
  · intro h1;exact ⟨k,h1,by simp⟩
end L2
namespace PySem.F
end PySem.F
namespace L2
open PySem PySem.Spec PyProof.Rows
structure SI (prog:Program) (w:World) (h:Heap) (a:Addr) (o:Obj) (es:Array (Int × Value)) (ep:Nat) (t:SetTable):Prop where
  at':h.get? a=some o
  ex:o.ExactSet
  dat:o.data=.set es ep t
  fit:t.fits es.size=true
  els:ElemsOf (intKind prog w) es.toList
  few:es.size < scanBound
section
variable {prog:Program} {w:World} {A:Around} {E:Value→Shared→Prop} {s:Shared}
end
open PySem PySem.Spec PyProof.Rows
section
variable {prog:Program} {w:World} {A:Around} {E:Value→Shared→Prop} {s:Shared}
end
open PySem PySem.Spec PyProof.Rows
section
variable {prog:Program} {w:World} {A:Around} {E:Value→Shared→Prop} {s:Shared}
end
open PySem PySem.Spec PyProof.Rows
section
variable {prog:Program} {w:World} {A:Around} {E:Value→Shared→Prop} {s:Shared}
end
open PySem PySem.Spec PyProof.Rows
section
variable {prog:Program} {w:World} {A:Around} {E:Value→Shared→Prop} {s:Shared}
end
open PySem PySem.Spec PyProof.Rows
section
variable {prog:Program} {w:World} {A:Around} {E:Value→Shared→Prop} {s:Shared}
end
open PySem PySem.Spec PyProof.Rows
open PySem PySem.Spec PyProof.Rows
open PySem PySem.Spec PyProof.Rows
theorem iT:∀ (more kvs:List (Key × V)),(cC kvs more).length≤kvs.length+more.length
  | [],kvs=>by show kvs.length≤kvs.length+0;lia
  | p :: r,kvs=>by
    have h1:=iT r (bt kvs p.1 p.2);have h2:=cg kvs p.1 p.2;show (cC (bt kvs p.1 p.2) r).length≤_;rw [aaC];lia
theorem rD {X:Cx}:MtM X "dict.update" (fun x xs H Q=>∃ a b kvs more,x=.ref a∧xs=[.ref b]∧H a=some (.dK kvs)∧H b=some (.dK more)∧a≠b∧kvs.length+more.length≤sizeLine∧Q .non (upd H a (.dK (cC kvs more)))):=by
  intro pins s σ H x vs v us Q I rx rv h;obtain ⟨a,b,kvs,more,rfl,rfl,e,e',hab,hz,q⟩:=h;cases rx;obtain ⟨u,rfl,ru⟩:=rv.one;cases ru;obtain ⟨z,hd,xs,rel,dd⟩:=jR I.hok e;obtain ⟨z',hd',ys,rel',dd'⟩:=jR I.hok e';have lx:=aav rel;have ly:=aav rel';refine call_meetsIn PySem.F.slot_dict_update dd.typeIs PySem.F.entry_dict_update (PySem.F.args_dict_update_2 _ _) (meets_dict_update (ar X.prog X.w) a b hab hd') ⟨xs,ys,dd,dd',by lia,fun h' dn _ hs=>?_⟩;have hl:=iT more kvs;have dn':=dn;obtain ⟨q1,es,ep,hq,_⟩:=dn;exact ⟨.non,_,cU (t':=s.toks) (ob:=.dK (cC kvs more)) I (by rw [e];exact True.intro) hs ⟨q1,hq⟩ ⟨by lia,hd,_,KV.merge rel' rel,dn'⟩,rfl,q⟩
open PySem PySem.Spec PyProof.Rows
def Itz (K:aab) (a b:Addr):It :=
  ⟨fun i H=>∃ xs ys x y,SqL K H a xs∧SqL K H b ys∧xs[i]?=some x∧ys[i]?=some y,
   fun i H v H'=>∃ p x y,H p=none∧v=.ref p∧H'=upd H p (.tup [x,y])∧(∀ xs,SqL K H a xs→xs[i]?=some x)∧∀ ys,SqL K H b ys→ys[i]?=some y,
   fun i H=>∃ xs ys,SqL K H a xs∧SqL K H b ys∧(xs.length≤i∨ys.length≤i)⟩
theorem qw {P:Program} {w:World} {K:aab} {elts:List Expr} {k:Nat} {pos:Pos} (a b z TI TO i1 i2:Addr) (D:ZipApart z TI TO i1 i2 a b):Turn P w K (.Tuple elts k pos) (Itz K a b) [z,TI,TO,i1,i2] z (fun i h=>IsZip h z TI TO .none∧IsPair h TI (.ref i1) (.ref i2)∧(∃ u v,IsPair h TO u v)∧h.IsListIter i1 a i∧h.IsListIter i2 b i) where
  mem:=by simp
  obj:=fun i h st c hc=>by
    obtain ⟨h1,h2,⟨u,v,h3⟩,⟨o4,e4,c4,d4⟩,o5,e5,c5,d5⟩:=st;simp only [aai,aaV,or_false] at hc;rcases hc with rfl|rfl|rfl|rfl|rfl
    · exact ⟨_,h1,fun v z=>by cases z⟩
    · exact ⟨_,h2,fun v z=>by cases z⟩
    · exact ⟨_,h3,fun v z=>by cases z⟩
    · exact ⟨o4,e4,fun v z=>by rw [d4] at z;cases z⟩
    · exact ⟨o5,e5,fun v z=>by rw [d5] at z;cases z⟩
  keep:=fun i h h' st kp=>by
    obtain ⟨h1,h2,⟨u,v,h3⟩,h4,h5⟩:=st;exact ⟨kp z (by simp) _ h1,kp TI (by simp) _ h2,⟨u,v,kp TO (by simp) _ h3⟩,h4.at fun o x=>kp i1 (by simp) o x,h5.at fun o x=>kp i2 (by simp) o x⟩
  item:=by
    intro X hP hw hK hc i pins s σ H E I hf st hg;subst hP hw hK;obtain ⟨xs,ys,x,y,hq,hq',hx,hy⟩:=hg;obtain ⟨its,rv,p,hz⟩:=I.list hq;obtain ⟨its',rv',p',hz'⟩:=I.list hq';obtain ⟨u,hu,ru⟩:=rv.get hx;obtain ⟨u',hu',ru'⟩:=rv'.get hy;obtain ⟨h1,h2,⟨c1,c2,h3⟩,h4,h5⟩:=st;have lz:z < s.heap.objs.size:=aal h1;refine wpAny_pyNext_zip_item D h1 h2 h3 h4 h5 p.isList p'.isList (x:=u) (y:=u') (by simpa using hu) (by simpa using hu') fun h' a1 a2 a3 a4 a5 a6 hk=>?_;refine ⟨_,rfl,wpAny_letOwnedTupleGo_zip a1 fun h'' he' hs'=>?_⟩;have hs2:aaY z h' h'':=hs';have keep:∀ b o,b∉[z,TI,TO,i1,i2]→s.heap.get? b=some o→h''.get? b=some o:=fun b o hb q=>by
      simp only [aai,aaV,or_false,not_or] at hb;exact (hs2.2 b hb.1).trans (hk b o hb.1 hb.2.2.1 hb.2.2.2.1 hb.2.2.2.2 q)
    have I1:Inv X pins σ H { s with heap:=h'',toks:=s.toks }:=I.turnedL keep hf;have gT:h''.get? s.heap.objs.size=some { cls:=.type "tuple",data:=.seq #[u,u'] }:=(hs2.2 _ (abr lz)).trans a5;have fresh:H s.heap.objs.size=none:=I.hok.fresh (aaf _);have I2:=I1.adopt (a:=s.heap.objs.size) (o:=.tup [x,y]) fresh I.sz (abr I.lt) (fun y c e1=>by
        obtain ⟨v,q⟩:=I.cell y c e1;exact aaB q.lt) (fun q hq=>aaB (aal (I.pin q hq).1)) ⟨by show 2≤sizeLine;decide,[u,u'],.cons ru (.cons ru' .nil),⟨_,gT,rfl,_,rfl⟩⟩
    have hTI':IsPair h'' TI (.ref i1) (.ref i2):=(hs2.2 _ D.TIz).trans (hk _ _ D.TIz D.TITO D.TIi1 D.TIi2 h2);refine ⟨.ref s.heap.objs.size,_,I2,rfl,⟨_,x,y,fresh,rfl,rfl,fun zs hy'=>by rw [I.list_inj hy' hq];exact hx,fun zs hy'=>by rw [I.list_inj hy' hq'];exact hy⟩,⟨he',hTI',⟨_,_,(hs2.2 _ D.TOz).trans a2⟩,a3.at fun o y=>(hs2.2 i1 D.i1z).trans y,a4.at fun o y=>(hs2.2 i2 D.i2z).trans y⟩,fun c hc=>?_⟩;rw [aj]
    · exact (hf c hc).1
    · have : ∀ {o},s.heap.get? c=some o→c≠s.heap.objs.size:=fun e=>aaB (aal e);simp only [aai,aaV,or_false] at hc;rcases hc with rfl|rfl|rfl|rfl|rfl
      · exact this h1
      · exact this h2
      · exact this h3
      · obtain ⟨o,e,_⟩:=h4;exact this e
      · obtain ⟨o,e,_⟩:=h5;exact this e
  done:=by
    intro X hP hw hK hc i pins s σ H E I hf st hg;subst hP hw hK;obtain ⟨xs,ys,hq,hq',hx⟩:=hg;obtain ⟨its,rv,p,hz⟩:=I.list hq;obtain ⟨its',rv',p',hz'⟩:=I.list hq';obtain ⟨h1,h2,⟨c1,c2,h3⟩,h4,h5⟩:=st;have hl:=rv.length;have hl':=rv'.length;refine wpAny_pyNext_zip_end (I.ok.hd hc) D h1 h2 h3 h4 h5 p.isList p'.isList ?_ fun h' hk=>⟨rfl,I.turnedL (t':=s.toks) (fp:=[z,TI,TO,i1,i2]) (fun b o hb q=>?_) hf⟩
    · rcases hx with hx|hx
      · exact .inl (by simp;lia)
      · exact .inr (by simp;lia)
    · simp only [aai,aaV,or_false,not_or] at hb;exact hk b o hb.1 hb.2.2.1 hb.2.2.2.1 hb.2.2.2.2 q
  self:=fun _ _ _ _ _ st h=>wpAny_pyIter_zip st.1 h
def xx (K:aab) (ta:TA):TI:=fun σ H R=>ta σ H fun vs H1=>∃ a b,vs=[.ref a,.ref b]∧(∃ xs,SqL K H1 a xs)∧(∃ ys,SqL K H1 b ys)∧R (Itz K a b) H1
theorem u_ {X:Cx} {elts:List Expr} {k:Nat} {tpos:Pos} {a b:Expr} {ta:TA} {p pos:Pos} (hg:Gl X "zip") (hm:X.mg "zip" = none) (ha:PA X [a,b] ta) (hs:starEach [a,b] X.env=(false,eval a X.env) :: starEach [b] X.env:=by rfl) (hpl:(backTo pos (starEach [b] X.env)).any (·.1)=false:=by rfl):PI X (.Tuple elts k tpos) (.Call (.Name "zip" p) [a,b] [] pos) (xx X.K ta):=by
  intro pins s σ H R I h;refine Call_ (eX I hg hm boot_zip (abf (thn (ha pos pins s σ H _ I h) fun us s1 ⟨vs,H1,I1,r1,q1⟩=>?_) hs hpl));obtain ⟨l1,l2,e,⟨xs,hq⟩,⟨ys,hq'⟩,q⟩:=q1;subst e;obtain ⟨u1,u2,rfl,r1',r2'⟩:=gQ r1;cases r1';cases r2';obtain ⟨its,rv,pl,hz⟩:=I1.list hq;obtain ⟨its',rv',pl',hz'⟩:=I1.list hq';have n1:l1 < s1.heap.objs.size:=by obtain ⟨o,e,_⟩:=pl.isList;exact aal e
  have n2:l2 < s1.heap.objs.size:=by obtain ⟨o,e,_⟩:=pl'.isList;exact aal e
  refine call_zip_2 pl.isList pl'.isList fun h' hz hTI hTO hi1 hi2 hsz hk=>?_;refine wpAny_pyIter_zip (s:={ s1 with heap:=h' }) hz ?_;have I2:Inv X pins σ H1 { s1 with heap:=h' }:=I1.kept (t':=s1.toks) hk;refine ⟨s1.heap.objs.size+4,[s1.heap.objs.size+4,s1.heap.objs.size+2,s1.heap.objs.size+3,s1.heap.objs.size,s1.heap.objs.size+1],_,_,H1,rfl,I2,qw l1 l2 _ _ _ _ _ (zipApart_new n1 n2),⟨hz,hTI,⟨_,_,hTO⟩,hi1,hi2⟩,fun c hc=>?_,q⟩;have hb2:s1.heap.objs.size≤c:=by
    simp only [aai,aaV,or_false] at hc;rcases hc with rfl|rfl|rfl|rfl|rfl
    · exact ac9 _ _
    · exact ac9 _ _
    · exact ac9 _ _
    · exact aaf _
    · exact ac9 _ _
  exact I1.fpOk hb2 (I1.hok.fresh hb2)
open PySem PySem.Spec PyProof.Rows
section
variable {X:Cx} {a b c d:Expr} {ta tb tc td:TE} {pos:Pos}
end
theorem jd {X:Cx} (hc:X.calm=true):bv X (.type "list") (fun xs H Q=>∃ (dd:Addr) (kvs:List (List Int × V)),xs=[.ref dd]∧H dd=some (.dT (kvs.map fun p=>(p.1.map Sum.inl,p.2)))∧kvs.length≤1000 ∧
    ∀ (l:Addr) (ks:List KEn),H l=none→rdE ks=(kvs.map fun p=>(MK.tup p.1,p.2))→(∀ e∈ks,MkIn H e.1 e.2.1)→Q (.ref l) (upd H l (.lst (ks.map (·.2.1))))):=by
  intro pins s σ H xs us Q I r h;obtain ⟨dd,kvs,rfl,hH,hl,q⟩:=h;obtain ⟨u,rfl,ru⟩:=ci r;cases ru;obtain ⟨z,hd,ys,rel,o,es,ep,ho,cx,dat,h4,h5,h6⟩:=i5 I.hok hH;obtain ⟨ks,k1,k2,k3⟩:=nO rel;have hsz:es.size=kvs.length:=by
    have : es.toList.length=ys.length:=by rw [h4,aaa]
    rw [← aaq,this,← aav rel,aaa]
  refine PySem.W.kdl_call (jC (nG I hH) cx dat) (I.ok.hd hc) ho (by rw [sizeLine_eq];lia) fun h' tk acc' c' kp e hi=>?_;have ea:acc'.toList=es.toList.map (·.key):=vF (by rw [aaq];exact hi.1) fun j v hv=>hi.2 j v (by rw [← aaD];exact hv);have hV:Vals (ks.map (·.2.1)) acc'.toList:=by
    rw [ea,h4,aaM,k3];have go:∀ m:List (List Key × Addr × Value),Vals (m.map fun y=>V.ref y.2.1) (m.map ((fun e:DictEntry=>e.key) ∘ entryOfKey (tupleKind (ar X.prog X.w)))):=by
      intro m
      induction m with
      | nil=>exact .nil
      | cons h t ih=>exact .cons rfl ih
    exact go ys
  have lk:ks.length=kvs.length:=by have:=congrArg abJ k1;simpa [rdE] using this
  exact ⟨.ref s.heap.objs.size,_,I.laid (t':=tk) kp (aaf _) (show ObjOk X.prog X.w _ h' _ (.lst (ks.map (·.2.1))) from ⟨by rw [aaa,sizeLine_eq];lia,acc'.toList,c',hV,by simpa using e⟩),rfl,q _ ks (I.hok.fresh (aaf _)) k1 k2⟩
end L2
namespace L2
open PySem PySem.Spec PyProof.Rows PySem.W
section
variable {prog:Program} {w:World} {A:Around} {E:Value→Shared→Prop} {s:Shared} {d:Addr} {key:Value} {k:MK} {xs:List EM}
theorem sY {Q:Option DictEntry→Shared→Prop} (hu:A.units < cLine) (hkey:isM prog w s.heap k key) (hm:DictM prog w s.heap d xs) (hv:atM xs k=none)
    (hQ:Q none { s with toks:=s.toks+dM k }):wpAny (model prog w) A (acw d key) Q E s:=by
  obtain ⟨o,es,ep,ho,hc,hd,he,his,hn⟩:=hm;unfold acw
  try with_reducible refine wpAny_holding ?_
  refine wpAny_bind (fT hu hkey ?_);refine wpAny_bind (kP (s:={ s with toks:=s.toks+dM k }) hu hkey ho hd he his hn ?_ ?_)
  · intro hno;exact wpAny_pure hQ
  · intro j p hj;rw [ik hn hj] at hv;cases hv
theorem u0 {x:Value} {Q:Value→Shared→Prop} (hu:A.units+1 < cLine) (hkey:isM prog w s.heap k key) (hs:(d == sysModules)=false) (hm:DictM prog w s.heap d xs) (hv:atM xs k=none)
    (hQ:∀ t,Q x { s with toks:=t }):wpAny (model prog w) A (call (.builtin "dict.pop") [.ref d,key,x]) Q E s:=by
  have ha:argsOk "dict.pop" ⟨[.ref d,key,x],[]⟩:=PySem.F.args_dict_pop_3 _ _ _;refine wpAny_call_entry act hm.typeIs PySem.F.entry_dict_pop ?_ ha;obtain ⟨o,es,ep,ho,hc,hd,he,his,hn⟩:=id hm;unfold Builtin.«dict.pop»;refine wpAny_bind ?_;unfold Builtin.Dict.keyAndDefault;refine wpAny_bind (wpAny_notOrdered_dict hm.typeIs ?_);show wpAny _ _ (pure (d,key,some x)) _ _ s;refine wpAny_pure ?_;dsimp only;refine (fun (tl:(?T2:Prop))=>?mn2) ?tt2
  case mn2 =>
    by_cases hp:(keyPart key).isSome=true
    · rw [if_pos hp];refine wpAny_bind (wpAny_pure ?_);simp only [aaH,if_false];refine wpAny_bind ?_;exact tl
    · rw [if_neg hp];refine wpAny_bind (wpAny_dictEntries ho hd (wpAny_bind (wpAny_pure ?_)));cases hes:es.isEmpty with
      | false =>
        simp only [aaH,if_false];refine wpAny_bind ?_;exact tl
      | true =>
        simp only [if_true];refine wpAny_bind (wpAny_rule (wpAny_bind (wpAny_pure ?_)));simp only [Option.isNone_none,if_true];exact wpAny_bind (wpAny_missedRemoval_other hs (wpAny_bind (wpAny_rule (wpAny_pure ⟨x,rfl,hQ s.toks⟩))))
  case tt2 =>
    refine sY (A:=A.in1) hu hkey hm hv ?_;simp only [Option.isNone_none,if_true];exact wpAny_bind (wpAny_missedRemoval_other hs (wpAny_bind (wpAny_rule (wpAny_pure ⟨x,rfl,hQ _⟩))))
end
def uI (w:World) (td ty tx:TE):TE:=fun σ H Q=>td σ H fun x H1=>∃ a es,x=.ref a∧Pd w H1 a es∧ty σ H1 fun y H2=>tx σ H2 fun z H3=>∃ kvs k,DmIn w H3 a kvs∧MkIn H3 k y∧(∀ v,bg (rdE kvs) k=some v→Q v (upd H3 a (dmX w a (bM kvs k))))∧(bg (rdE kvs) k=none→Q z H3)
section
variable {X:Cx} {o e f:Expr} {apos cpos:Pos} {td ty tx:TE} {w:World}
theorem lT (hw:X.w=w) (hu:X.A.units+1 < cLine) (ho:PE X o td) (he:PE X e ty) (hf:PE X f tx) (m:M2 X o "pop" apos e f cpos):PE X (.Call (.Attribute o "pop" apos) [e,f] [] cpos) (uI w td ty tx):=by
  subst hw;intro pins s σ H Q I h;refine wpAny_Call_method m.base m.few m.line abL act PySem.F.type_dict_pop (thn (ho pins s σ H _ I h) fun u s1 ⟨x,H1,I1,rx,a,es,ex,d,q1⟩=>?_);subst ex;obtain rfl:u=Value.ref a:=rx;obtain ⟨t1,t2⟩:=kq I1 d;refine ⟨t1,t2,?_⟩;rw [m.trees];refine abQ rfl (acx (abU (thn (he pins s1 σ H1 _ I1 q1) fun iv s2 ⟨y,H2,I2,ry,q2⟩ =>
    abU (thn (hf pins s2 σ H2 _ I2 q2) fun fv s3 ⟨z,H3,I3,rz,kvs,k,dm,hk,qy,qn⟩=>acS ?_))))
  obtain ⟨xs,rel,dd⟩:=i_ I3 dm;have lx:=aav rel;cases l:bg (rdE kvs) k with
  | some v =>
    obtain ⟨w',hw,rw'⟩:=RelO.some_of (v:=v) (o:=atM xs k) (by rw [← l];exact kM rel k);refine ur hu (gG I3 hk ry) dd hw [fv] (.inr ⟨_,rfl⟩) (fun h' dd' hs=>⟨v,_,?_,rw',qy v l⟩) (by rw [sizeLine_eq];have:=dm.len;lia);have he:∃ q,h'.get? a=some q:=let ⟨q,_,_,hq,_⟩:=dd';⟨q,hq⟩;exact cU I3 (by rw [dm.at_];exact True.intro) hs he (kR (oM rel k) dd')
  | none =>
    have hn:atM xs k=none:=by
      have:=kM rel k;rw [l] at this;cases e:atM xs k with
      | none=>rfl
      | some _=>rw [e] at this;exact this.elim
    exact u0 hu (gG I3 hk ry) (nG I3 dm.at_) dd hn fun t=>⟨z,H3,I3.tok _,rz,qn l⟩
end
open PySem PySem.Spec PyProof.Rows
section
variable {prog:Program} {w:World} {A:Around} {E:Value→Shared→Prop} {s:Shared}
abbrev PrI:=Addr × (Int × Tok) × Value
def kvI (x:PrI):Key × Value:=(.inl x.2.1.1,x.2.2)
theorem pU {rs:List (Key × Value)} {i:Nat} {r:Key × Value} (h:rs[i]?=some r):merged [] (rs.take (i+1))=stored (merged [] (rs.take i)) r.1 r.2:=by
  unfold merged;rw [aaE,h];show ((rs.take i)++[r]).foldl _ _=_;rw [List.foldl_append];rfl
theorem jF:∀ (rs acc:List (Key × Value)),(merged acc rs).length≤acc.length+rs.length
  | [],acc=>aaf _
  | r :: rs,acc=>by
    have a1:=jF rs (stored acc r.1 r.2);have a2:=stored_length_le acc r.1 r.2;show (merged (stored acc r.1 r.2) rs).length≤_;rw [aaC];lia
theorem o9 {it l d:Addr} {items:List Value} {Q:Value→Shared→Prop} (hh:A.handled=none) (hdi:d≠it) (hli:l≠it) (hld:l≠d) (h₀:Heap) (xs:List PrI) (hx:items=xs.map fun x=>.ref x.1) (hsz:xs.length≤1000)
    (hT:∀ x∈xs,x.1≠it∧x.1≠d∧IsTup h₀ x.1 #[.int x.2.1.1 x.2.1.2,x.2.2])
    (hQ:∀ h' t',h'.DictOf (ar prog w) d (merged [] (xs.map kvI))→(∀ b o,b≠it→b≠d→h₀.get? b=some o→h'.get? b=some o)→Q .none { s with heap:=h',toks:=t' }) :
    ∀ (k i:Nat) (h:Heap) (t:Nat),k+i=xs.length→h.IsListIter it l i→h.IsList l items.toArray→h.DictOf (ar prog w) d (merged [] ((xs.map kvI).take i))→(∀ b o,b≠it→b≠d→h₀.get? b=some o→h.get? b=some o) →
      codeAny (model prog w) A (.builtin "dict.update.loop" ⟨[.ref d,.ref it,rawInt i,.none],[]⟩) (wants Q E) { s with heap:=h,toks:=t }:=by
  have hlen:items.length=xs.length:=by rw [hx,aaa]
  intro k
  induction k with
  | zero =>
    intro i h t hk hit hl hd kp;have hi:i=xs.length:=by lia
    refine codeAny_builtin cr ?_;rw [abz cm];unfold Builtin.«dict.update.loop»;show wpAny _ _ (pyNext (.ref it) >>= _) _ _ _;refine wpAny_bind (wpAny_pyNext_list_end (A:=A.in1) (s:={ s with heap:=h,toks:=t }) hh hit hl (by simp;lia) fun h' eb=>wpAny_bind (wpAny_pure (wpAny_pure (hQ h' t ?_ fun b o b2 b3 z=>eb b o b2 (kp b o b2 b3 z)))));rw [aa3 (by simp;lia)] at hd;exact hd.extBut eb hdi
  | succ k ih =>
    intro i h t hk hit hl hd kp;have hlt:i < xs.length:=by lia
    have hxi:xs[i]?=some xs[i]:=aac hlt;have hii:items.toArray[i]?=some (.ref xs[i].1):=by rw [hx];simp [hlt]
    obtain ⟨n1,n2,hP⟩:=hT xs[i] (abA hlt);refine codeAny_builtin cr ?_;rw [abz cm];unfold Builtin.«dict.update.loop»;show wpAny _ _ (pyNext (.ref it) >>= _) _ _ _;refine wpAny_bind (wpAny_pyNext_list_item (A:=A.in1) (s:={ s with heap:=h,toks:=t }) hit hl hii fun h' hit' sb=>?_);have sb:aaY it h h':=sb;refine wpAny_bind (wpAny_holding ?_);refine wpAny_bind (wpAny_tryCatch ?_);obtain ⟨oT,hoT,hcT,kT,hdT⟩:=hP;have hT':h'.get? xs[i].1=some oT:=(sb.2 _ n1).trans (kp _ _ n1 n2 hoT);unfold Builtin.Dict.pairItems;refine wpAny_bind (wpAny_typeOf (T:="tuple") ⟨_,hT',hcT⟩ ?_);rw [if_pos (by decide +kernel)];unfold seqItems?;refine wpAny_bind (wpAny_bind (wpAny_load hT' ?_));rw [hdT];refine wpAny_pure (wpAny_pure ?_);have hd':h'.DictOf (ar prog w) d (merged [] ((xs.map kvI).take i)):=by
      obtain ⟨o,es,ep,ho,r⟩:=hd;exact ⟨o,es,ep,(sb.2 d hdi).trans ho,r⟩
    have e2:(xs.map kvI)[i]?=some (kvI xs[i]):=by rw [aak,hxi];rfl
    refine wpAny_holding (wpAny_dictSet_pairs (knd:=ar prog w) (s:={ s with heap:=h',toks:=t }) (k:=.inl xs[i].2.1.1) (by simp [ar,gZ,Value.isInt]) hd' (fun h2 hd2 hs2=>wpAny_pure ⟨acl _ (by decide +kernel),?_⟩) ?_)
    · have hs2:aaY d h' h2:=hs2;have hd2:h2.DictOf (ar prog w) d (stored (merged [] ((xs.map kvI).take i)) (kvI xs[i]).1 (kvI xs[i]).2):=hd2;rw [← pU e2] at hd2;refine ih (i+1) h2 _ (by lia) ?_ ?_ hd2 ?_
      · exact hit'.at fun o x=>(hs2.2 it (abm hdi)).trans x
      · exact hl.at fun o x=>(hs2.2 l hld).trans ((sb.2 l hli).trans x)
      · exact fun b o b2 b3 z=>(hs2.2 b b3).trans ((sb.2 b b2).trans (kp b o b2 b3 z))
    · have:=jF ((xs.map kvI).take i) [];rw [aaL,aaa,abO] at this;have:=au hsz;lia
theorem hZ {l:Addr} {n:Nat} (xs:List PrI) {Q:Value→Shared→Prop} (hh:A.handled=none) (hl:s.heap.get? l=some { cls:=.type "list",dict:=none,data:=.seq (xs.map fun x=>Value.ref x.1).toArray n,slots:=#[] }) (hsz:xs.length≤1000)
    (hT:∀ x∈xs,IsTup s.heap x.1 #[.int x.2.1.1 x.2.1.2,x.2.2])
    (h:∀ h' t',h'.DictOf (ar prog w) s.heap.objs.size (merged [] (xs.map kvI))→(∀ b o,s.heap.get? b=some o→h'.get? b=some o)→Q (.ref s.heap.objs.size) { s with heap:=h',toks:=t' }) :
    wpAny (model prog w) A (call (.type "dict") [.ref l]) Q E s:=by
  refine callType_codes (Q₁:=fun obj s₁=>obj=.ref s.heap.objs.size∧s₁={ s with heap:=s.heap.push { cls:=.type "dict",data:=.dict #[] } }) F.kt_called_dict (F.kt_typeCall_dict_1 _) F.entry_dict_init (kt_code_dict_new _ ⟨rfl,rfl⟩) ?_;rintro obj s₁ ⟨rfl,rfl⟩;have hnew:(s.heap.push { cls:=.type "dict",data:=.dict #[] }).DictOf (ar prog w) s.heap.objs.size []:=Heap.DictOf.new s.heap;have kp:∀ b o,s.heap.get? b=some o→(s.heap.push { cls:=.type "dict",data:=.dict #[] }).get? b=some o:=fun b o q=>aad _ q;have hll:l < s.heap.objs.size:=aal hl;have hl':=kp _ _ hl;refine ⟨hnew.typeIs,F.args_dict_init_2 _ _,?_⟩;unfold Builtin.«dict.__init__»;refine wpAny_bind ?_;unfold acD;refine wpAny_bind (wpAny_notOrdered_dict hnew.typeIs ?_);show wpAny _ _ (pure (s.heap.objs.size,[Value.ref l])) _ _ _;refine wpAny_pure ?_;show wpAny _ _ (abw "dict.__init__" s.heap.objs.size (.ref l) [] .none) _ _ _;unfold abw;refine wpAny_bind (wpAny_typeOf (T:="list") ⟨_,hl',rfl⟩ ?_);rw [if_pos (by decide +kernel)];refine wpAny_bind (eY (A:=A.in1.in1) hh hl' fun h1 t1 k1=>?_);rw [if_pos (by rfl)];refine wpAny_bind (wpAny_rule ?_);have hl1:=k1 _ _ hl';have iL:h1.IsList l (xs.map fun x=>Value.ref x.1).toArray:=⟨_,hl1,rfl,_,rfl⟩
  refine wpAny_bind (wpAny_pyIter_list (s:={ s with heap:=h1,toks:=t1 }) iL (wpAny_pure ⟨acl _ (by decide +kernel),?_⟩));have k2:∀ b o,s.heap.get? b=some o→h1.get? b=some o:=fun b o q=>k1 _ _ (kp _ _ q);have dlt:s.heap.objs.size < h1.objs.size:=aal (k1 _ _ (aao _ rfl));have lt1:∀ b,b < s.heap.objs.size→b≠h1.objs.size∧b≠s.heap.objs.size:=fun b hb=>⟨aaB (ac7 hb dlt),aaB hb⟩
  have hd1:h1.DictOf (ar prog w) s.heap.objs.size []:=by
    obtain ⟨o,es,ep,ho,r⟩:=hnew;exact ⟨o,es,ep,k1 _ _ ho,r⟩
  refine o9 (A:=A.in1) (s:={ s with heap:=h1,toks:=t1 }) (l:=l) (items:=xs.map fun x=>Value.ref x.1) (Q:=fun r s₂=>r=.none∧Q (.ref s.heap.objs.size) s₂) hh (aaB dlt) (lt1 l hll).1 (lt1 l hll).2 s.heap xs rfl hsz (fun x hx=>?_) (fun h2 t2 hd2 kk=>⟨rfl,h h2 t2 hd2 fun b o q=>kk b o (lt1 b (aal q)).1 (lt1 b (aal q)).2 q⟩) xs.length 0 _ t1 (by lia) ⟨_,aao _ rfl,rfl,rfl⟩ (iL.at fun o x=>aad _ x) ?_ fun b o _ _ q=>aad _ (k2 _ _ q)
  · have hP:=hT x hx;have p1:x.1 < s.heap.objs.size:=by obtain ⟨o,e,_⟩:=hP;exact aal e
    exact ⟨(lt1 _ p1).1,(lt1 _ p1).2,hP⟩
  · rw [List.take_zero];obtain ⟨o,es,ep,ho,r⟩:=hd1;exact ⟨o,es,ep,aad _ ho,r⟩
end
theorem jG:∀ (rs acc:List (Key × V)),(cC acc rs).length≤acc.length+rs.length
  | [],acc=>aaf _
  | r :: rs,acc=>by
    have a1:=jG rs (bt acc r.1 r.2);have a2:(bt acc r.1 r.2).length≤acc.length+1:=by
      unfold bt;split
      · rw [aaa];lia
      · rw [aaw];exact aaf _
    show (cC (bt acc r.1 r.2) rs).length≤_;rw [aaC];lia
open PySem PySem.Spec PyProof.Rows
section
variable {X:Cx}
def tJ:V→List V→Hp→VK→Prop:=fun x vs H Q=>∃ l xs i y,x=.ref l∧vs=[.int i,y]∧H l=some (.lst xs)∧0≤i∧i≤xs.length∧xs.length≤1000∧Q .non (upd H l (.lst (xs.take i.toNat++y :: xs.drop i.toNat)))
theorem pR:MtM X "list.insert" tJ:=by
  intro pins s σ H x vs v us Q I rx rv h;obtain ⟨l,xs,i,y,rfl,rfl,hH,h0,h1,h2,q⟩:=h;cases rx;obtain ⟨u1,u,rfl,ru1,ru⟩:=gQ rv;obtain ⟨t,rfl⟩:=ru1;obtain ⟨z,its,n,r,hl,e⟩:=I.lstM hH;have hs:=sizeLine_eq;have hsz:its.toArray.size≤sizeLine:=by rw [aam];lia
  refine call_meets F.slot_list_insert ⟨_,e,rfl⟩ F.entry_list_insert (F.args_list_insert_3 _ _ _) (AutoSeq1.list_insert_list_int_val_1 l its.toArray n i t u (by rw [fitsIndex_both (by lia) (by lia)];exact aag) hsz) ⟨e,?_⟩;refine ⟨.non,_,I.lset (its':=its.take i.toNat++u :: its.drop i.toNat) hH e ?_ ?_ ?_,rfl,q⟩
  · show (its.toArray.extract 0 (if i < 0 then (i+((its.toArray.size:Nat):Int)).toNat else min i.toNat its.toArray.size)).push u++its.toArray.extract (if i < 0 then (i+((its.toArray.size:Nat):Int)).toNat else min i.toNat its.toArray.size)=_;have hk:(if i < 0 then (i+((its.toArray.size:Nat):Int)).toNat else min i.toNat its.toArray.size)=i.toNat:=by
      rw [if_neg (by lia),aam,acN (by lia)]
    rw [hk];apply Array.ext';simp;exact aa3 (by rw [abh];exact aaf _)
  · exact (r.take i.toNat).append (.cons ru (r.drop i.toNat))
  · rw [aaw,aaC,aaL,abh];lia
end
abbrev PrV:=Addr × Int × V
def mK (H:Hp) (b:PrV):Prop:=H b.1=some (.tup [.int b.2.1,b.2.2])
theorem sM {P:Program} {w:World} {H:Hp} {h:Heap} (ok:HOk P w H h):∀ {bs:List PrV} {ws:List Value},Vals (bs.map fun b=>V.ref b.1) ws→(∀ b∈bs,mK H b)→∃ xs:List PrI,ws=xs.map (fun x=>Value.ref x.1)∧KV (bs.map fun b=>((.inl b.2.1:Key),b.2.2)) (xs.map kvI)∧∀ x∈xs,IsTup h x.1 #[.int x.2.1.1 x.2.1.2,x.2.2]
  | [],_,r,_=>by rw [abk] at r;cases r;exact ⟨[],rfl,.nil,fun _ h=>nomatch h⟩
  | b :: bs,_,r,hb=>by
    rw [aae] at r;cases r with
    | cons r1 rr =>
      obtain ⟨xs,e1,e2,e3⟩:=sM ok rr fun x hx=>hb x (aaj _ hx);subst e1;cases r1;obtain ⟨_,its,rv,pt⟩:=(show ObjOk P w H h b.1 (.tup [.int b.2.1,b.2.2]) from ok _ _ (hb b aan))
      obtain ⟨u1,u2,rfl,⟨t1,rfl⟩,r2⟩:=gQ rv;refine ⟨(b.1,(b.2.1,t1),u2) :: xs,rfl,.cons ⟨rfl,r2⟩ e2,fun x hx=>?_⟩;rcases aai.mp hx with rfl|hx
      · exact pt
      · exact e3 x hx
theorem je {X:Cx} (hc:X.calm=true):bv X (.type "dict") (fun xs H Q=>∃ (l:Addr) (bs:List PrV),xs=[.ref l]∧H l=some (.lst (bs.map fun b=>V.ref b.1))∧(∀ b∈bs,mK H b)∧bs.length≤1000∧∀ d,H d=none→Q (.ref d) (upd H d (.dK (cC [] (bs.map fun b=>((.inl b.2.1:Key),b.2.2)))))):=by
  intro pins s σ H xs us Q I r h;obtain ⟨l,bs,rfl,hl,hb,hz,q⟩:=h;obtain ⟨u,rfl,rx⟩:=ci r;cases rx;obtain ⟨z,its,n,rv,gl⟩:=(show ObjOk X.prog X.w H s.heap l (.lst _) from I.hok l _ hl)
  obtain ⟨ys,rfl,rk,al⟩:=sM I.hok rv hb;have ly:=rv.length;rw [aaa,aaa] at ly;refine hZ ys (I.ok.hd hc) gl (by lia) al fun h' t' dd hk=>?_;refine ⟨.ref s.heap.objs.size,_,I.laid (a:=s.heap.objs.size) (o:=.dK (cC [] (bs.map fun b=>((.inl b.2.1:Key),b.2.2)))) (t':=t') hk (aaf _) ?_,rfl,q _ (I.hok.fresh (aaf _))⟩;have h1:=jG (bs.map fun b=>((.inl b.2.1:Key),b.2.2)) [];rw [abO,aaa] at h1;have:=au hz;have hb':sysModules < s.heap.objs.size:=I.big;exact ⟨by lia,by simpa using abr hb',_,KV.merge rk .nil,dd⟩
open PySem PySem.Spec PyProof.Rows
theorem dY:∀ {ws:List Value} {ns:List Int},IntsAre ws ns→Vals (ns.map V.int) ws
  | _,_,.nil=>.nil
  | _,_,.cons n t h=>.cons ⟨t,rfl⟩ (dY h)
theorem fP {X:Cx} (hx:X.ex=[]) (hc:X.calm=true) {pins:List (Addr × Obj)} {s:Shared} {σ:St} {H:Hp} {Q:VK} (I:Inv X pins σ H s) {T:String} {r d:Addr} {n:Nat} {P:Nat→Value→Prop} {OK:Heap→Prop} (K:PySem.W.KdlSrc X.prog X.w T r d n P OK) (hok:OK s.heap) (hn:n < 64) {ns:List Int}
    (hP:∀ ws:List Value,ws.length=n→(∀ (j:Nat) (v:Value),ws[j]?=some v→P j v)→IntsAre ws ns)
    (q:∀ (D:Addr) (ms:List Int),H D=none→ms.Perm ns→ms.Pairwise (·≤·)→Q (.ref D) (upd H D (.lst (ms.map V.int)))):wpAny (model X.prog X.w) X.A (call (.builtin "sorted") [.ref r]) (EP X pins σ Q) X.xe s:=by
  obtain ⟨m,F⟩:=I.fr;refine PySem.W.kdu_sorted K (I.ok.hd hc) F (news:=eh X.base s.heap X.env.locals) rB hok (aa1 (abX hn) (by decide)) ?_;intro D h1 tk0 ws F1 N1 hD hwl hwP;have hI:=hP ws hwl hwP;have nD0:=N1 (D,_) aan;have keptG:∀ {g:Heap} {o1:Obj},Fr X.base X.env.locals g m→News X.base X.env.locals g ((D,o1) :: eh X.base s.heap X.env.locals)→∀ b o,b≠X.env.locals→s.heap.get? b=some o→g.get? b=some o:=fun {g o1} Fg Ng b o hb q=>by
    cases w:X.base.get? b with
    | some u =>
      have:=F.keep b u w;rw [q] at this;cases this;exact Fg.keep b _ w
    | none=>exact (Ng (b,o) (aaj _ (gY hb w q))).1
  have fresh:s.heap.get? D=none:=by
    cases g:s.heap.get? D with
    | none=>rfl
    | some o=>exact absurd (hD (D,o) (gY nD0.2.1 nD0.2.2 g)) (abE _)
  have neL:∀ b o,H b=some o→b≠X.env.locals:=fun b o e z=>by rw [z,I.free] at e;cases e
  have gD0:h1.get? D=some (seqObj "list" ws.toArray 0):=nD0.1;refine wpAny_call_entry slot_list_sort ⟨_,gD0,rfl⟩ entry_list_sort (list_sort_tree (s:={ s with heap:=h1,toks:=tk0 }) gD0 hI (by lia) fun out ms o1 o2 o3=>⟨_,rfl,?_⟩) (args_list_sort _);obtain ⟨c,hc'⟩:=sortedHeap_at (out:=out) gD0;have old:∀ b o,b≠D→h1.get? b=some o→(sortedHeap h1 D ws out).get? b=some o:=fun b o hb q=>(sortedHeap_old hb (aal q)).trans q;show EP X pins σ Q (.ref D) { s with heap:=sortedHeap h1 D ws out,toks:=tk0 };have F'':Fr X.base X.env.locals (sortedHeap h1 D ws out) m:=by
    obtain ⟨⟨oL,es',ep',g1,r1⟩,kb,ab⟩:=F1;exact ⟨⟨oL,es',ep',old _ _ (abm nD0.2.1) g1,r1⟩,fun b o e=>old _ _ (fun z=>by rw [z,nD0.2.2] at e;cases e) (kb b o e),ab⟩
  have N'':News X.base X.env.locals (sortedHeap h1 D ws out) ((D,seqObj "list" out c) :: eh X.base s.heap X.env.locals):=by
    intro p hp;rcases aai.mp hp with e|hp
    · subst e;exact ⟨hc',nD0.2.1,nD0.2.2⟩
    · have:=N1 p (aaj _ hp);exact ⟨old _ _ (aaB (hD p hp)) this.1,this.2⟩
  generalize sortedHeap h1 D ws out=h'' at hc' F'' N'' ⊢;have kp:=keptG F'' N'';have I1:Inv X pins σ H { s with heap:=h'',toks:=tk0 }:=by
    refine I.step (g':=s.gens) (d':=s.drawn) (t':=tk0) (ch:=[]) (fun _ z=>nomatch z) (fun b o hb _ _ e _=>kp b o hb e) (fun b o hb _ _ e _=>⟨o.slots,kp b o hb e⟩) (fun _ _ _ _ n=>n) (fun b o _ e=>?_) (fun _ _ e=>e) (fun _ _ _ e=>e) (fun b ps e=>⟨#[],by rw [e];simp⟩) (fun m' hm=>?_) (fun b u e=>?_) I.bare
    · by_cases hb:b=X.env.locals
      · obtain ⟨o',_,_,g,_⟩:=F''.ns;exact ⟨o',by rw [hb];exact g⟩
      · exact ⟨o,kp b o hb e⟩
    · have : m'=m:=by
        obtain ⟨o1,es1,ep1,g1,d1,_,f1⟩:=hm;obtain ⟨o2,es2,ep2,g2,d2,_,f2⟩:=F.ns;rw [g1] at g2;cases g2;rw [d1] at d2;cases d2;funext x;rw [← f1 x,← f2 x]
      rw [this];exact F''.ns
    · refine (I.hok b u e).stay (fun c' v hc q=>kp c' v ?_ q) (fun _ q=>q) fun _ _ q=>q;rcases hc with rfl|hc
      · exact neL _ _ e
      · exact neL _ _ hc
  have hnD:H D=none:=by
    cases g:H D with
    | none=>rfl
    | some o =>
      obtain ⟨u,hu⟩:=(I.hok D o g).get;rw [fresh] at hu;cases hu
  have vv:=dY o1;have lm:ms.length≤sizeLine:=by
    have e1:=o2.length_eq;have e3:64≤sizeLine:=by decide
    have e2:=(dY hI).length;rw [aaa] at e2;lia
  have I2:=I1.adopt2 (o:=.lst (ms.map V.int)) hnD (fun u hu=>by
      obtain ⟨o',q⟩:=I.base.there D u hu (by rw [hx];simp);rw [fresh] at q;cases q) nD0.2.1 (fun x c e z=>by
      obtain ⟨v,o,ho,_⟩:=I.cell x c e;rw [z,fresh] at ho;cases ho) (fun p hp z=>by
      have:=(I.pin p hp).1;rw [z,fresh] at this;cases this) ⟨(by rw [aaa];exact lm),_,c,vv,(by rw [Array.toArray_toList];exact hc')⟩
  exact ⟨.ref D,_,I2,rfl,q D ms hnD o2 o3⟩
theorem jJ {prog:Program} {w:World}:∀ {es:List DictEntry} {vs:List (Key × Value)},Pairs (ar prog w) es vs→∀ {ns:List Int},vs.map (·.1)=ns.map Sum.inl→IntsAre (es.map (·.key)) ns
  | _,_,.nil,ns,h=>by
    cases ns with
    | nil=>exact .nil
    | cons _ _=>simp at h
  | _,_,.cons (e:=e) (kv:=kv) h1 h2 t,ns,h=>by
    cases ns with
    | nil=>simp at h
    | cons n ns =>
      simp only [aae,List.cons.injEq] at h;rcases aW h1 with ⟨i,u,e1,e2⟩|⟨x,u,e1,e2⟩
      · rw [e1] at h;have e3:i=n:=Sum.inl.inj h.1;rw [aae,e2,e3];exact .cons n u (jJ t h.2)
      · rw [e1] at h;cases h.1
theorem rL {κ:Type} {kvs:List (κ × V)} {vs:List (κ × Value)} (r:KV kvs vs):kvs.map (·.1)=vs.map (·.1):=by
  induction r with
  | nil=>rfl
  | cons h _ ih=>rw [aae,aae,h.1,ih]
theorem dq {X:Cx} (hx:X.ex=[]) (hc:X.calm=true):bv X (.builtin "sorted") (fun xs H Q=>∃ (dd:Addr) (kvs:List (Key × V)) (ns:List Int),xs=[.ref dd]∧H dd=some (.dK kvs)∧kvs.map (·.1)=ns.map Sum.inl∧kvs.length < 64 ∧
    ∀ (D:Addr) (ms:List Int),H D=none→ms.Perm ns→ms.Pairwise (·≤·)→Q (.ref D) (upd H D (.lst (ms.map V.int)))):=by
  intro pins s σ H xs us Q I r h;obtain ⟨dd,kvs,ns,rfl,hH,hks,h64,q⟩:=h;obtain ⟨u,rfl,ru⟩:=ci r;cases ru;obtain ⟨zz,hsys,vs,rel,o,es,ep,ho,cx,dat,_,pr,nd⟩:=(show ObjOk X.prog X.w H s.heap dd (.dK kvs) from I.hok dd _ hH)
  have hsz:es.size=kvs.length:=by
    have e1:=pr.length;have e2:=aav rel;rw [aaq] at e1;lia
  refine fP hx hc I (jC hsys cx dat) ho (by lia) (ns:=ns) (fun ws hl hw=>?_) q;have hk:vs.map (·.1)=ns.map Sum.inl:=by rw [← rL rel];exact hks
  have e:ws=es.toList.map (·.key):=by
    refine List.ext_getElem? fun i=>?_;by_cases hi:i < es.size
    · have hi':i < ws.length:=by lia
      obtain ⟨en,e2,e3⟩:=hw i _ (aac hi');have e4:es.toList[i]?=some en:=by rw [← e2];exact aaD
      rw [aak,e4,aac hi',e3];rfl
    · rw [aa6 (by lia),aa6 (by rw [aaa,aaq];lia)]
  rw [e];exact jJ pr hk
open PySem PySem.Spec PyProof.Rows
theorem jw {kx vx tg iter tg2 iter2:Expr} {ifs ifs2:List Expr} {G:List Comprehension} {k:Nat} (hk:G[k]?=some ⟨tg,iter,ifs,0⟩) (hk2:G[k+1]?=some ⟨tg2,iter2,ifs2,0⟩) {scope:Scope} {pos:Pos} {it acc:Value} {env:Env} :
    compTurn (.DictComp kx vx G scope pos) k it acc env=(do
      standAt iter.pos
      match ← pyNext it with
      | none=>pure (.done .next)
      | some v =>
        letOwnedTupleGo tg it v
        assign tg env v
        let mut ok:=true
        for c in ifs do
          if ok then ok ← isTrue c env (eval c env)
        if ok then do
          let x ← eval iter2 env
          standAt iter2.pos
          let x ← foldedSetIterable iter2 env x
          let i ← holding [x] (pyIter x)
          let _ ← runOwn (.compStart (.DictComp kx vx G scope pos) (k+1) i acc env) env
          again (.compLoop (.DictComp kx vx G scope pos) k it acc env)
        else again (.compLoop (.DictComp kx vx G scope pos) k it acc env)):=by
  unfold compTurn;simp only [hk,hk2];rfl
theorem ja {kx vx tg2 iter2:Expr} {ifs2:List Expr} {G:List Comprehension} {k:Nat} (hk:G[k]?=some ⟨tg2,iter2,ifs2,0⟩) (hk2:G[k+1]?=none) {scope:Scope} {pos:Pos} {it:Value} {D:Addr} {env:Env} :
    compTurn (.DictComp kx vx G scope pos) k it (.ref D) env=(do
      standAt iter2.pos
      match ← pyNext it with
      | none=>pure (.done .next)
      | some v =>
        letOwnedTupleGo tg2 it v
        assign tg2 env v
        let mut ok:=true
        for c in ifs2 do
          if ok then ok ← isTrue c env (eval c env)
        if ok then
          (do
            let kv ← eval kx env
            let vv ← holding [kv] (eval vx env)
            standAt { kx.pos with endLine:=vx.pos.endLine,endCol:=vx.pos.endCol }
            holding [kv,vv] (dictSet D kv vv))
        again (.compLoop (.DictComp kx vx G scope pos) k it (.ref D) env)):=by
  unfold compTurn;simp only [hk,hk2];rfl
theorem nW {prog:Program} {w:World} {A:Around} {R:Result→Shared→Prop} {s:Shared} {kx vx tg iter tg2 iter2:Expr} {ifs ifs2:List Expr} {G:List Comprehension} {k:Nat} (hk:G[k]?=some ⟨tg,iter,ifs,0⟩) (hk2:G[k+1]?=some ⟨tg2,iter2,ifs2,0⟩) {scope:Scope} {pos:Pos} {it acc:Value} {env:Env} (J:Nat→Shared→Prop) (hs2:∀ x,foldedSetIterable iter2 env x=pure x)
    (turn:∀ n s,J n s→wpAny (model prog w) A (pyNext it) (fun r s₁=>match r with
      | none=>R (.ok .next) s₁
      | some v=>wpAny (model prog w) A (letOwnedTupleGo tg it v) (fun _ s₁'=>wpAny (model prog w) A (assign tg env v) (fun _ s₂ =>
          wpAny (model prog w) A (forIn ifs true fun c r=>if r=true then do let ok ← isTrue c env (eval c env);pure (ForInStep.yield ok) else pure (ForInStep.yield r)) (fun ok s₃ =>
            if ok=true then wpAny (model prog w) A (eval iter2 env) (fun x s₄=>wpAny (model prog w) A (pyIter x) (fun it2 s₅ =>
              codeAny (model prog w) A (.compStart (.DictComp kx vx G scope pos) (k+1) it2 acc env) (fun r s₆=>match r with|.ok _=>∃ m,m < n∧J m s₆|.error _=>False) s₅) (fun _ _=>False) s₄) (fun _ _=>False) s₃
            else ∃ m,m < n∧J m s₃) (fun _ _=>False) s₂) (fun _ _=>False) s₁') (fun _ _=>False) s₁) (fun _ _=>False) s)
    (n:Nat) (h:J n s) :
    codeAny (model prog w) A (.compLoop (.DictComp kx vx G scope pos) k it acc env) R s:=by
  refine codeAny_loop rfl J (fun n s hI=>?_) n h;show wpAny _ A ((compTurn (.DictComp kx vx G scope pos) k it acc env).onRaise (fun x=>do noteFrame x env;theTreesLotGoes x)) _ _ s;refine wpAny_noted ?_;rw [jw hk hk2];refine wpAny_bind (wpAny_standAt (wpAny_bind (wpAny_mono (turn n s hI) (fun r s₁ h₁=>?_) fun _ _ h'=>h'.elim)));cases r with
  | none=>exact wpAny_pure h₁
  | some v =>
    refine wpAny_bind (wpAny_mono h₁ (fun _ s₁' h₁'=>?_) fun _ _ h'=>h'.elim);refine wpAny_bind (wpAny_mono h₁' (fun _ s₂ h₂=>wpAny_bind (wpAny_mono h₂ (fun ok s₃ h₃=>?_) fun _ _ h'=>h'.elim)) fun _ _ h'=>h'.elim);cases ok with
    | false=>exact wpAny_pure ⟨rfl,h₃⟩
    | true =>
      refine wpAny_bind (wpAny_mono h₃ (fun x s₄ h₄=>?_) fun _ _ h'=>h'.elim);refine wpAny_bind (wpAny_standAt (wpAny_bind (wpAny_of_eq (hs2 x) (wpAny_bind (wpAny_holding (wpAny_mono h₄ (fun it2 s₅ h₅=>?_) fun _ _ h'=>h'.elim))))));refine wpAny_bind (wpAny_runOwn (codeAny_mono h₅ fun r s₆ h₆=>?_));cases r with
      | ok f=>exact wpAny_pure ⟨rfl,h₆⟩
      | error e=>exact h₆.elim
theorem nV {prog:Program} {w:World} {A:Around} {R:Result→Shared→Prop} {s:Shared} {kx vx tg2 iter2:Expr} {ifs2:List Expr} {G:List Comprehension} {k:Nat} (hk:G[k]?=some ⟨tg2,iter2,ifs2,0⟩) (hk2:G[k+1]?=none) {scope:Scope} {pos:Pos} {it:Value} {D:Addr} {env:Env} (J:Nat→Shared→Prop)
    (turn:∀ n s,J n s→wpAny (model prog w) A (pyNext it) (fun r s₁=>match r with
      | none=>R (.ok .next) s₁
      | some v=>wpAny (model prog w) A (letOwnedTupleGo tg2 it v) (fun _ s₁'=>wpAny (model prog w) A (assign tg2 env v) (fun _ s₂ =>
          wpAny (model prog w) A (forIn ifs2 true fun c r=>if r=true then do let ok ← isTrue c env (eval c env);pure (ForInStep.yield ok) else pure (ForInStep.yield r)) (fun ok s₃ =>
            if ok=true then wpAny (model prog w) A (eval kx env) (fun kv s₄=>wpAny (model prog w) A (eval vx env) (fun vv s₅ =>
              wpAny (model prog w) A (dictSet D kv vv) (fun _ s₆=>∃ m,m < n∧J m s₆) (fun _ _=>False) s₅) (fun _ _=>False) s₄) (fun _ _=>False) s₃
            else ∃ m,m < n∧J m s₃) (fun _ _=>False) s₂) (fun _ _=>False) s₁') (fun _ _=>False) s₁) (fun _ _=>False) s)
    (n:Nat) (h:J n s) :
    codeAny (model prog w) A (.compLoop (.DictComp kx vx G scope pos) k it (.ref D) env) R s:=by
  refine codeAny_loop rfl J (fun n s hI=>?_) n h;show wpAny _ A ((compTurn (.DictComp kx vx G scope pos) k it (.ref D) env).onRaise (fun x=>do noteFrame x env;theTreesLotGoes x)) _ _ s;refine wpAny_noted ?_;rw [ja hk hk2];refine wpAny_bind (wpAny_standAt (wpAny_bind (wpAny_mono (turn n s hI) (fun r s₁ h₁=>?_) fun _ _ h'=>h'.elim)));cases r with
  | none=>exact wpAny_pure h₁
  | some v =>
    refine wpAny_bind (wpAny_mono h₁ (fun _ s₁' h₁'=>?_) fun _ _ h'=>h'.elim);refine wpAny_bind (wpAny_mono h₁' (fun _ s₂ h₂=>wpAny_bind (wpAny_mono h₂ (fun ok s₃ h₃=>?_) fun _ _ h'=>h'.elim)) fun _ _ h'=>h'.elim);cases ok with
    | false=>exact wpAny_pure ⟨rfl,h₃⟩
    | true =>
      exact wpAny_bind (wpAny_bind (wpAny_mono h₃ (fun kv s₄ h₄=>wpAny_bind (wpAny_holding (wpAny_mono h₄ (fun vv s₅ h₅=>wpAny_bind (wpAny_standAt (wpAny_holding (wpAny_mono h₅ (fun _ s₆ h₆=>wpAny_pure ⟨rfl,h₆⟩) fun _ _ h'=>h'.elim)))) fun _ _ h'=>h'.elim))) fun _ _ h'=>h'.elim))
theorem nR {prog:Program} {w:World} {A:Around} {R:Result→Shared→Prop} {s:Shared} {kx vx tg2 iter2:Expr} {ifs2:List Expr} {G:List Comprehension} {k:Nat} (hk:G[k]?=some ⟨tg2,iter2,ifs2,0⟩) {scope:Scope} {pos:Pos} {it acc:Value} {env:Env}
    (h0:codeAny (model prog w) A (.compLoop (.DictComp kx vx G scope pos) k it acc env) R s)
    (h:wpAny (model prog w) A (pyIter it) (fun it' s'=>codeAny (model prog w) A (.compLoop (.DictComp kx vx G scope pos) k it' acc env) R s')
      (notedBy (model prog w) A env fun x s'=>R (.error x) s') s) :
    codeAny (model prog w) A (.compStart (.DictComp kx vx G scope pos) k it acc env) R s:=by
  refine codeAny_of_tree ?_;show wpAny _ _ ((compStart (.DictComp kx vx G scope pos) k it acc env).onRaise (fun x=>do noteFrame x env;standAt theWindowsPlace)) _ _ s;refine wpAny_notedAt ?_;unfold compStart;rw [show (clausesOf (.DictComp kx vx G scope pos))[k]?=some ⟨tg2,iter2,ifs2,0⟩ from hk];show wpAny _ _ (ask >>= _) _ _ s;refine wpAny_bind (wpAny_askSetting (wpAny_ite ?_));split
  · first
      | exact wpAny_bind (wpAny_pure (wpAny_pure (And.intro rfl h0)))
      | exact wpAny_pure (And.intro rfl h0)
  · first
      | exact wpAny_bind (wpAny_rule (wpAny_bind (wpAny_standAt (wpAny_bind (wpAny_mono h (fun it' s' h'=>wpAny_pure (And.intro rfl h')) fun _ _ x=>x)))))
      | (refine wpAny_bind (wpAny_rule ?_);show wpAny _ _ (standAt iter2.pos >>= _) _ _ s;exact wpAny_bind (wpAny_standAt (wpAny_bind (wpAny_mono h (fun it' s' h'=>wpAny_pure (And.intro rfl h')) fun _ _ x=>x))))
abbrev o6 (g2:TG) (tt2:TT) (tk tv:TE) (D:Addr) (σ2:St) (Fin:St→Hp→Prop) (J2:It) (H4:Hp):Prop:=∃ W2:Nat→Nat→St→Hp→Prop,(∃ m,W2 0 m σ2 H4)∧∀ i m σ H,W2 i m σ H →
  (J2.stop i H∧Fin σ H) ∨
  (J2.go i H∧∀ x H',J2.yld i H x H'→g2 x σ H' fun σ3 H5=>tt2 σ3 H5 fun b H6=>if b=true then tk σ3 H6 fun k H7=>tv σ3 H7 fun v H8=>∃ H9,DPut H8 D k v H9∧∃ m',m' < m∧W2 (i+1) m' σ3 H9 else ∃ m',m' < m∧W2 (i+1) m' σ3 H6)
theorem rT {Y:Cx} (hu:Y.A.units+1 < cLine) (hc:Y.calm=true) (hxe:Y.xe=fun _ _=>False) {D:Addr}
    {kx vx:Expr} {tk tv:TE} {G:List Comprehension} {scope:Scope} {pos:Pos} (hbk:PE Y kx tk) (hbv:PE Y vx tv)
    {c:Comprehension} {r:TI × TG × TT} {k:Nat} (hk:G[k]?=some c) (hcl:PCl Y c r) (hk2:G[k+1]?=none)
    {P:List (Addr × Obj)} {σ:St} {H:Hp} {s:Shared} {Fin:St→Hp→Prop} (I:Inv Y P σ H s)
      (h:r.1 σ H (o6 r.2.1 r.2.2 tk tv D σ Fin)) :
      wpAny (model Y.prog Y.w) Y.A (eval c.iter Y.env) (fun x s₄=>wpAny (model Y.prog Y.w) Y.A (pyIter x) (fun it2 s₅ =>
        codeAny (model Y.prog Y.w) Y.A (.compStart (.DictComp kx vx G scope pos) k it2 (.ref D) Y.env) (fun r s₆=>match r with|.ok _=>∃ σ' H',Inv Y P σ' H' s₆∧Fin σ' H'|.error _=>False) s₅) (fun _ _=>False) s₄) (fun _ _=>False) s:=by
  have xe:∀ e s,Y.xe e s→False:=fun e s z=>by rw [hxe] at z;exact z
  obtain ⟨tg,iter,ifs,as⟩:=c;have as0:as=0:=hcl.as;subst as0;refine wpAny_mono (hcl.it _ s σ H _ I h) (fun v s1 h1=>wpAny_mono h1 (fun itv s2 h2=>?_) fun e s z=>(xe e s z).elim) fun e s z=>(xe e s z).elim;obtain ⟨it,fp,tn,J,H2,e,I2,T,st2,f2,W,⟨m0,w0⟩,turn⟩:=h2;subst e;have fpYs:∀ {H':Hp},(∀ b∈fp,H' b=none)→∀ b∈fp,dh Y P H' b:=fun {H'} hn b hb=>⟨hn b hb,(f2 b hb).2⟩
  have loop:codeAny (model Y.prog Y.w) Y.A (.compLoop (.DictComp kx vx G scope pos) k (.ref it) (.ref D) Y.env) (fun r s₆=>match r with|.ok _=>∃ σ' H',Inv Y P σ' H' s₆∧Fin σ' H'|.error _=>False) s2:=by
    refine nV hk hk2 (fun n s'=>∃ i σ H',Inv Y P σ H' s'∧tn i s'.heap∧(∀ b∈fp,H' b=none)∧W i n σ H') ?_ m0 ⟨0,σ,H2,I2,st2,fun b hb=>(f2 b hb).1,w0⟩;rintro n s3 ⟨i,σ3,H3,I3,st3,fr3,w3⟩;rcases turn i n σ3 H3 w3 with ⟨stop,qn⟩|⟨go,step⟩
    · refine wpAny_mono (T.done Y rfl rfl rfl hc i _ s3 _ H3 (fun _ _=>False) I3 (fpYs fr3) st3 stop) (fun r s4 ⟨hr,I4⟩=>?_) fun _ _ z=>z;subst hr;exact ⟨σ3,H3,I4,qn⟩
    · refine wpAny_mono (T.item Y rfl rfl rfl hc i _ s3 _ H3 (fun _ _=>False) I3 (fpYs fr3) st3 go) (fun r s4 ⟨u,hr,h4⟩=>?_) fun _ _ z=>z;subst hr;refine wpAny_mono h4 (fun _ s5 ⟨x,H5,I5,r5,y5,st5,fr5⟩=>?_) fun _ _ z=>z;have I5':=I5.pinned (fpYs fr5) (T.obj _ _ st5);refine wpAny_mono (hcl.tg _ s5 _ H5 x u _ I5' r5 (step x H5 y5)) (fun _ s6 ⟨σ6,H6,I6,q6⟩=>?_) fun e s z=>(xe e s z).elim;refine wpAny_mono (hcl.fs _ s6 σ6 H6 _ I6 q6) (fun ok s7 ⟨H7,I7,q7⟩=>?_) fun e s z=>(xe e s z).elim;have again:∀ {σ':St} {H':Hp} {s':Shared},Inv Y (P++bX fp s5.heap) σ' H' s'→(∃ m',m' < n∧W (i+1) m' σ' H') →
          ∃ m,m < n∧∃ i σ H',Inv Y P σ H' s'∧tn i s'.heap∧(∀ b∈fp,H' b=none)∧W i m σ H':=fun {σ' H' s'} Z hw=>by
        obtain ⟨m',hm,w'⟩:=hw;have pn:∀ {b:Addr} {o:Obj},b∈fp→s5.heap.get? b=some o→_:=fun {b o} hb e=>Z.pin (b,o) (aax _ (aax _ (bY hb e)));refine ⟨m',hm,i+1,σ',H',Inv.unpinned (pl:=bX fp s5.heap) Z,T.keep _ _ _ st5 fun b hb o e=>(pn hb e).1,fun b hb=>?_,w'⟩;obtain ⟨o,e,d⟩:=T.obj _ _ st5 b hb;exact (pn hb e).2.1
      cases ok with
      | false =>
        rw [if_neg aag] at q7 ⊢;exact again I7 q7
      | true =>
        rw [if_pos rfl] at q7 ⊢;refine wpAny_mono (hbk _ s7 σ6 H7 _ I7 q7) (fun kv s8 ⟨k,H8,I8,r8,q8⟩=>?_) fun e s z=>(xe e s z).elim;refine wpAny_mono (hbv _ s8 σ6 H8 _ I8 q8) (fun vv s9 ⟨v,H9,I9,r9,H10,put,q9⟩=>?_) fun e s z=>(xe e s z).elim;exact vN (X:=Y) (A:=Y.A) hu I9 put r8 r9 fun s10 I10=>again I10 q9
  exact nR hk loop (T.self _ 0 _ _ _ st2 loop)
abbrev uD (cap:List (Option Nat)) (g:TG) (tt:TT) (r2:TI × TG × TT) (tk tv:TE) (ob:HO) (σ:St) (Q:VK) (J:It) (H1:Hp):Prop:=∃ W:Addr→Nat→Nat→Hp→Prop,(∀ p,H1 p=none→∃ m,W p 0 m (upd H1 p ob))∧∀ p i m H,H1 p=none→W p i m H →
  (J.stop i H∧Q (.ref p) H) ∨
  (J.go i H∧∀ x H',J.yld i H x H'→g x (bO cap σ) H' fun σ2 H2=>tt σ2 H2 fun b H3=>if b=true then r2.1 σ2 H3 (o6 r2.2.1 r2.2.2 tk tv p σ2 fun _ H6=>∃ m',m' < m∧W p (i+1) m' H6) else ∃ m',m' < m∧W p (i+1) m' H3)
def v8 (cap:List (Option Nat)) (wi:TI) (g:TG) (tt:TT) (r2:TI × TG × TT) (tk tv:TE) (ob:HO):TE:=fun σ H Q=>wi σ H (uD cap g tt r2 tk tv ob σ Q)
section
variable {X:Cx}
theorem vg {r2:TI × TG × TT} {c2:Comprehension} {ob:HO} {kx vx tg iter:Expr} {ifs:List Expr} {scope:Scope} {pos:Pos} {cl:List (Str × Addr)} {NY:List Str} {cap:List (Option Nat)} {wi:TI} {g:TG} {tt:TT} {tk tv:TE} (hob:ob=.dK []∨ob=.dT []) (hu:X.A.units+1 < cLine) (hc:X.calm=true) (hi:PI X tg iter wi)
    (hclos:closureFor scope X.env=pure cl) (hci:CellsIn X.env cl) (hcap:CapOk X.env (relabel scope X.env) X.N NY cap)
    (hb:∀ fp s H C,PG (aK X scope cl NY fp s H C) tg g∧gN (aK X scope cl NY fp s H C) ifs tt∧PCl (aK X scope cl NY fp s H C) c2 r2∧PE (aK X scope cl NY fp s H C) kx tk∧PE (aK X scope cl NY fp s H C) vx tv)
    (hkind:scope.kind=.function:=by rfl) (hnc:(scope.names.all fun y=>y.2 != .cell)=true:=by rfl)
    (hnames:(scope.names.all fun y=>y.2 != .local || scope.names.lookup y.1 == some .local)=true:=by rfl)
    (hhas:((relabel scope X.env).names.all fun p=>(p.2 != .cell && p.2 != .free) || (cl.lookup p.1).isSome)=true:=by rfl)
    (hs:∀ x,foldedSetIterable iter X.env x=pure x:=by intro _;rfl) :
    PE X (.DictComp kx vx [⟨tg,iter,ifs,0⟩,c2] scope pos) (v8 cap wi g tt r2 tk tv ob):=by
  intro pins s σ H Q I h;rw [arm_eval_DictComp];refine wpAny_comprehension_free (use:=none) rfl hs hclos hkind (la hnames) (wpAny_mono (hi pins s σ H _ I h) (fun v s1 h1=>wpAny_mono h1 (fun itv s2o h2=>?_) fun _ _ e=>e) fun _ _ e=>e);obtain ⟨it,fp,tn,J,H2o,e,I2o,T,st2o,f2o,W,w00,turn⟩:=h2;subst e;have freshO:H2o s2o.heap.objs.size=none:=I2o.hok.fresh (aaf _);obtain ⟨m0,w0⟩:=w00 _ freshO;have obk:ObjOk X.prog X.w (upd H2o s2o.heap.objs.size ob) (s2o.heap.push { cls:=.type "dict",data:=.dict #[] }) s2o.heap.objs.size ob:=by
    rcases hob with rfl|rfl
    · exact mC s2o.heap I2o.big
    · exact i6 s2o.heap I2o.big
  have I2:=I2o.laid (a:=s2o.heap.objs.size) (o:=ob) (h':=s2o.heap.push { cls:=.type "dict",data:=.dict #[] }) (t':=s2o.toks) (fun _ _ q=>aad _ q) (aaf _) obk;have st2:tn 0 (s2o.heap.push { cls:=.type "dict",data:=.dict #[] }):=T.keep _ _ _ st2o fun b _ o e=>aad _ e;have f2:∀ b∈fp,dh X pins (upd H2o s2o.heap.objs.size ob) b:=fun b hb=>by
    obtain ⟨h1,h2⟩:=f2o b hb;refine ⟨?_,h2⟩;rw [aj (fun z=>?_)]
    · exact h1
    · obtain ⟨o,e,_⟩:=T.obj _ _ st2o b hb;exact absurd (aal e) (by rw [z];exact abE _)
  refine wpAny_newObj_type ?_;have hsz0:(s2o.heap.push { cls:=.type "dict",data:=.dict #[] }).objs.size=s2o.heap.objs.size+1:=ab1 _ _;generalize hs2:({ s2o with heap:=s2o.heap.push { cls:=.type "dict",data:=.dict #[] } }:Shared)=s2 at I2 st2 ⊢;generalize hHH:upd H2o s2o.heap.objs.size ob=H2 at I2 f2 w0;have hDs:s2.heap.objs.size=s2o.heap.objs.size+1:=by rw [← hs2];exact hsz0
  have st2:tn 0 s2.heap:=by rw [← hs2];exact st2
  generalize hDD:s2o.heap.objs.size=DD at freshO w0 hDs ⊢;refine wpAny_newFunctionEnv (n_ hnc) (by intro y hy;simp at hy) (fun h₁ hns₁ hsb₁=>?_) hkind
  try dsimp only at hns₁ hsb₁ ⊢
  have B:=I2.blkC hci hkind hhas (aaf _) (fun b o e=>hsb₁.extBut b o (aaB (aal e)) (aad _ e)) ⟨_,hns₁⟩;have fpl:=T.lt st2;obtain ⟨hbg,hbt,hcl2,hbk,hbv⟩:=hb fp s2 H2 s2.heap.objs.size;obtain ⟨tg2,iter2,ifs2,as2⟩:=c2;have as20:as2=0:=hcl2.as;subst as20;have fpYs:∀ {H':Hp},(∀ b∈fp,H' b=none)→∀ b∈fp,dh (aK X scope cl NY fp s2 H2 s2.heap.objs.size) [] H' b:=fun hn=>I2.fps f2 fpl B (fun p hp=>by cases hp) hn;have IY0:=I2.blk f2 fpl B hcap de (P:=[]) (fun p hp=>by cases hp) (t':=s2.toks+([]:List (Str × Value)).length);have hcY:(aK X scope cl NY fp s2 H2 s2.heap.objs.size).calm=true:=hc;have stW:tn 0 h₁:=T.keep _ _ _ st2 fun b _ o e=>B.old b o e;have loop:∀ s₃:Shared,s₃={ s2 with heap:=h₁,toks:=s2.toks+([]:List (Str × Value)).length } →
      codeAny (model X.prog X.w) X.A (.compLoop (.DictComp kx vx [⟨tg,iter,ifs,0⟩,⟨tg2,iter2,ifs2,0⟩] scope pos) 0 (.ref it) (.ref DD) (compEnvC scope cl s2.heap.objs.size X.env))
        (compPost (model X.prog X.w) X.A X.xe none (EP X pins σ Q) (.ref DD) s2.heap.objs.size) s₃:=by
    rintro s₃ rfl;refine nW (k:=0) rfl rfl (fun n s'=>∃ i H',Inv (aK X scope cl NY fp s2 H2 s2.heap.objs.size) [] (bO cap σ) H' s'∧tn i s'.heap∧(∀ b∈fp,H' b=none)∧W DD i n H') (hcl2.st _) ?_ m0
      ⟨0,H2,IY0,stW,fun b hb=>(f2 b hb).1,w0⟩
    rintro n s3 ⟨i,H3,I3,st3,fr3,w3⟩;rcases turn DD i n H3 freshO w3 with ⟨stop,qn⟩|⟨go,step⟩
    · refine wpAny_mono (T.done (aK X scope cl NY fp s2 H2 s2.heap.objs.size) rfl rfl rfl hcY i _ s3 _ H3 (fun _ _=>False) I3 (fpYs fr3) st3 stop) (fun r s4 ⟨hr,I4⟩=>?_) fun _ _ z=>z;subst hr;obtain ⟨m,hnC,_⟩:=id I4.loc;exact ⟨m,hnC,fun h' hsb=>⟨.ref DD,H3,I2.offC (aaf _) (I2.outB f2 I4) I4.free fun b o hb e=>hsb.extBut b o hb e,rfl,qn⟩⟩
    · refine wpAny_mono (T.item (aK X scope cl NY fp s2 H2 s2.heap.objs.size) rfl rfl rfl hcY i _ s3 _ H3 (fun _ _=>False) I3 (fpYs fr3) st3 go) (fun r s4 ⟨u,hr,h4⟩=>?_) fun _ _ z=>z;subst hr;refine wpAny_mono h4 (fun _ s5 ⟨x,H5,I5,r5,y5,st5,fr5⟩=>?_) fun _ _ z=>z;have I5':=I5.pinned (fpYs fr5) (T.obj _ _ st5);refine wpAny_mono (hbg _ s5 _ H5 x u _ I5' r5 (step x H5 y5)) (fun _ s6 ⟨σ6,H6,I6,q6⟩=>?_) fun _ _ z=>z;refine wpAny_mono (hbt _ s6 σ6 H6 _ I6 q6) (fun ok s7 ⟨H7,I7,q7⟩=>?_) fun _ _ z=>z;have again:∀ {σ':St} {H':Hp} {s':Shared},Inv (aK X scope cl NY fp s2 H2 s2.heap.objs.size) ([]++bX fp s5.heap) σ' H' s' →
          (∃ m',m' < n∧W DD (i+1) m' H')→∃ m,m < n∧∃ i H',Inv (aK X scope cl NY fp s2 H2 s2.heap.objs.size) [] (bO cap σ) H' s'∧tn i s'.heap∧(∀ b∈fp,H' b=none)∧W DD i m H':=fun {σ' H' s'} Z hw=>by
        obtain ⟨m',hm,w'⟩:=hw;refine ⟨m',hm,i+1,H',I2.recap f2 B hcap de Z.unpinned,T.keep _ _ _ st5 fun b hb o e=>(Z.pin (b,o) (aax _ (aax _ (bY hb e)))).1,fun b hb=>?_,w'⟩;obtain ⟨o,e,d⟩:=T.obj _ _ st5 b hb;exact (Z.pin (b,o) (aax _ (aax _ (bY hb e)))).2.1
      cases ok with
      | false =>
        rw [if_neg aag] at q7 ⊢;exact again I7 q7
      | true =>
        rw [if_pos rfl] at q7 ⊢;refine wpAny_mono (rT (Y:=aK X scope cl NY fp s2 H2 s2.heap.objs.size) (D:=DD) hu hcY rfl hbk hbv (k:=1) (show ([⟨tg,iter,ifs,0⟩,⟨tg2,iter2,ifs2,0⟩]:List Comprehension)[1]?=some ⟨tg2,iter2,ifs2,0⟩ from rfl) hcl2 rfl I7 q7) (fun x s8 h8=>wpAny_mono h8 (fun it2 s9 h9=>codeAny_mono h9 fun r s10 h10=>?_) fun _ _ z=>z) fun _ _ z=>z;cases r with
        | error e=>exact h10.elim
        | ok f =>
          obtain ⟨σ',H',Z,w'⟩:=h10;exact again Z w'
  exact codeAny_compStart_dict (loop _ rfl) (T.self _ 0 _ _ _ stW (loop _ rfl))
theorem vh {ob:HO} {kx vx tg iter tg2 iter2:Expr} {ifs ifs2:List Expr} {scope:Scope} {pos:Pos} {cl:List (Str × Addr)} {NY:List Str} {cap:List (Option Nat)} {wi wi2:TI} {g g2:TG} {tt tt2:TT} {tk tv:TE} (hob:ob=.dK []∨ob=.dT []) (hu:X.A.units+1 < cLine) (hc:X.calm=true) (hi:PI X tg iter wi)
    (hclos:closureFor scope X.env=pure cl) (hci:CellsIn X.env cl) (hcap:CapOk X.env (relabel scope X.env) X.N NY cap)
    (hb:∀ fp s H C,PG (aK X scope cl NY fp s H C) tg g∧gN (aK X scope cl NY fp s H C) ifs tt∧PI (aK X scope cl NY fp s H C) tg2 iter2 wi2∧PG (aK X scope cl NY fp s H C) tg2 g2∧gN (aK X scope cl NY fp s H C) ifs2 tt2∧PE (aK X scope cl NY fp s H C) kx tk∧PE (aK X scope cl NY fp s H C) vx tv)
    (hkind:scope.kind=.function:=by rfl) (hnc:(scope.names.all fun y=>y.2 != .cell)=true:=by rfl)
    (hnames:(scope.names.all fun y=>y.2 != .local || scope.names.lookup y.1 == some .local)=true:=by rfl)
    (hhas:((relabel scope X.env).names.all fun p=>(p.2 != .cell && p.2 != .free) || (cl.lookup p.1).isSome)=true:=by rfl)
    (hs:∀ x,foldedSetIterable iter X.env x=pure x:=by intro _;rfl) (hs2:∀ E x,foldedSetIterable iter2 E x=pure x:=by intro _ _;rfl) :
    PE X (.DictComp kx vx [⟨tg,iter,ifs,0⟩,⟨tg2,iter2,ifs2,0⟩] scope pos) (v8 cap wi g tt (wi2,g2,tt2) tk tv ob) :=
  vg (r2:=(wi2,g2,tt2)) hob hu hc hi hclos hci hcap (fun fp s H C=>by obtain ⟨hbg,hbt,i2,t2,f2,hbe⟩:=hb fp s H C;exact ⟨hbg,hbt,⟨rfl,i2,t2,f2,hs2⟩,hbe⟩) hkind hnc hnames hhas hs
end
theorem uf {J:It} {n:Nat} {Kp:Hp→Prop} {item:Nat→V→Hp→Hp→Prop} (T:Trn J n Kp item) {g2:TG} {tt2:TT} {tk tv:TE} {D:Addr} {σ:St} {H:Hp} {Fin:St→Hp→Prop} (Pv:Nat→St→Hp→Prop) (h0:Pv 0 σ H) (hk:∀ i σ H,i≤n→Pv i σ H→Kp H)
    (hs:∀ i x σ H H',i < n→item i x H H'→Pv i σ H→∀ Nx:St→Hp→Prop,(∀ σ' H2,Pv (i+1) σ' H2→Nx σ' H2)→g2 x σ H' fun σ3 H5=>tt2 σ3 H5 fun b H6=>if b=true then tk σ3 H6 fun k H7=>tv σ3 H7 fun v H8=>∃ H9,DPut H8 D k v H9∧Nx σ3 H9 else Nx σ3 H6)
    (hd:∀ σ H,Pv n σ H→Fin σ H):o6 g2 tt2 tk tv D σ Fin J H:=by
  refine ⟨fun i m σ H=>m=n - i∧i≤n∧Pv i σ H,⟨n,by simp,aa4 _,h0⟩,?_⟩;rintro i m σ H ⟨rfl,hi,p⟩;by_cases hlt:i < n
  · refine .inr ⟨T.go i H hlt (hk i σ H hi p),fun x H' y=>?_⟩;exact hs i x σ H H' hlt (T.yld i H x H' hlt (hk i σ H hi p) y) p (fun σ' H4=>∃ m',m' < n - i∧m'=n - (i+1)∧i+1≤n∧Pv (i+1) σ' H4) fun σ' H2 h=>⟨_,by lia,rfl,hlt,h⟩
  · have e:i=n:=by lia
    subst e;exact .inl ⟨T.stop H (hk _ σ H hi p),hd σ H p⟩
theorem vM {J:It} {n:Nat} {Kp:Hp→Prop} {item:Nat→V→Hp→Hp→Prop} (T:Trn J n Kp item) {cap:List (Option Nat)} {g:TG} {tt:TT} {r2:TI × TG × TT} {tk tv:TE} {ob:HO} {σ:St} {H:Hp} {Q:VK} (Pv:Addr→Nat→Hp→Prop) (h0:∀ p,H p=none→Pv p 0 (upd H p ob)) (hk:∀ p i H,i≤n→Pv p i H→Kp H)
    (hs:∀ p i x H1 H',H p=none→i < n→item i x H1 H'→Pv p i H1→∀ Nx:Hp→Prop,(∀ H2,Pv p (i+1) H2→Nx H2)→g x (bO cap σ) H' fun σ2 H2=>tt σ2 H2 fun b H3=>if b=true then r2.1 σ2 H3 (o6 r2.2.1 r2.2.2 tk tv p σ2 fun _ H6=>Nx H6) else Nx H3)
    (hd:∀ p H1,H p=none→Pv p n H1→Q (.ref p) H1):uD cap g tt r2 tk tv ob σ Q J H:=by
  refine ⟨fun p i m H1=>m=n - i∧i≤n∧Pv p i H1,fun p hp=>⟨n,by simp,aa4 _,h0 p hp⟩,?_⟩;rintro p i m H1 hp ⟨rfl,hi,q⟩;by_cases hlt:i < n
  · refine .inr ⟨T.go i H1 hlt (hk p i H1 hi q),fun x H' y=>?_⟩;exact hs p i x H1 H' hp hlt (T.yld i H1 x H' hlt (hk p i H1 hi q) y) q (fun H4=>∃ m',m' < n - i∧m'=n - (i+1)∧i+1≤n∧Pv p (i+1) H4) fun H2 h=>⟨_,by lia,rfl,hlt,h⟩
  · have e:i=n:=by lia
    subst e;exact .inl ⟨T.stop H1 (hk p _ H1 hi q),hd p H1 hp q⟩
open PySem PySem.Spec PyProof.Rows
theorem jy {X:Cx} (hx:X.ex=[]) (hc:X.calm=true):bv X (.builtin "sorted") (fun xs H Q=>∃ (S:Addr) (o:Obj) (u:HO) (ks:List Int),xs=[.ref S]∧H S=some (.frz o u)∧vQ X.w o ks∧ks.length < 64 ∧
    ∀ (D:Addr) (ms:List Int),H D=none→ms.Perm ks→ms.Pairwise (·≤·)→Q (.ref D) (upd H D (.lst (ms.map V.int)))):=by
  intro pins s σ H xs us Q I r h;obtain ⟨S,o,u,ks,rfl,hH,⟨es,ep,t,hex,hd,hel,hks,g,nd⟩,h64,q⟩:=h;obtain ⟨v,rfl,rv⟩:=ci r;cases rv;obtain ⟨ho,_⟩:=(show ObjOk X.prog X.w H s.heap S (.frz o u) from I.hok S _ hH)
  have hp:=im X.w S es ep;refine fP hx hc I (tf hex hd g) ho ?_ (ns:=(cO X.w S es ep).toList.map fun e=>kOf e.2) (fun ws hl hP=>?_) fun D ms hD pm sm=>q D ms hD (pm.trans (by rw [← hks];exact hp.map _)) sm
  · have e:ks.length=es.size:=by rw [← hks,aaa,aaq]
    lia
  · have ew:ws=(cO X.w S es ep).toList.map (·.2):=by
      refine List.ext_getElem? fun i=>?_;by_cases hi:i < es.size
      · obtain ⟨e,e1,e2⟩:=hP i _ (aac (by lia));rw [aac (by lia),e2,aak,aaD,e1];rfl
      · rw [aa6 (by lia),aa6 (by rw [aaa,aaq,fq];lia)]
    rw [ew];exact rR fun e he=>by obtain ⟨i,tk,h1,_⟩:=hel e (hp.mem_iff.mp he);exact ⟨i,tk,h1⟩
open PySem PySem.Spec PyProof.Rows
theorem gO:∀ {ns:List Int} {its:List Value},Vals (ns.map V.int) its→IntsAre its ns
  | [],_,h=>by cases h;exact .nil
  | n :: ns,_,h=>by
    cases h with
    | cons r t =>
      obtain ⟨u,rfl⟩:=r;exact .cons n u (gO t)
section
variable {prog:Program} {w:World} {A:Around} {E:Value→Shared→Prop} {s:Shared}
theorem ji {l:Addr} {vs:List Value} {ns:List Int} {Q:Value→Shared→Prop} (hl:s.heap.IsList l vs.toArray) (hI:IntsAre vs ns) (hz:vs.length < 64)
    (h:∀ (out:Array Value) (ms:List Int),IntsAre out.toList ms→ms.Perm ns→ms.Pairwise (·≤·)→Q (.ref (s.heap.objs.size+1)) { s with heap:=sortedAll s.heap vs out }):wpAny (model prog w) A (call (.builtin "sorted") [.ref l]) Q E s:=by
  have h64:64≤sizeLine:=by decide
  apply Calls.call_function_entry kind_sorted plain_sorted entry_sorted (args_sorted1 _);unfold Builtin.«sorted»;refine wpAny_bind (m:=checkCount "sorted" 1 1 _) (wpAny_pure (wpAny_bind (collect_list hl (wpAny_bind (wpAny_newList ?_ (by lia))) (by lia))));have e0:((s.heap.push (seqObj "list" #[] 0)).update s.heap.objs.size (acX (·++vs.toArray))).objs.size=s.heap.objs.size+1:=by rw [Heap.size_update,size_push']
  have hoL:(((s.heap.push (seqObj "list" #[] 0)).update s.heap.objs.size (acX (·++vs.toArray))).push (seqObj "list" vs.toArray 0)).get? (s.heap.objs.size+1)=some (seqObj "list" vs.toArray 0):=by rw [← e0];exact aao _ rfl
  show wpAny _ _ _ _ _ { s with heap:=(((s.heap.push (seqObj "list" #[] 0)).update s.heap.objs.size (acX (·++vs.toArray))).push (seqObj "list" vs.toArray 0)) };rw [e0];exact wpAny_bind (wpAny_holding (wpAny_call_entry slot_list_sort ⟨_,hoL,rfl⟩ entry_list_sort (list_sort_tree hoL hI hz fun out ms o1 o2 o3=>⟨_,rfl,wpAny_pure ⟨_,rfl,h out ms o1 o2 o3⟩⟩) (args_list_sort _)))
end
theorem jz {X:Cx}:bv X (.builtin "sorted") (fun xs H Q=>∃ (p:Addr) (ns:List Int),xs=[.ref p]∧H p=some (.lst (ns.map V.int))∧ns.length < 64 ∧
    ∀ (q:Addr) (ms:List Int),H q=none→ms.Perm ns→ms.Pairwise (·≤·)→Q (.ref q) (upd H q (.lst (ms.map V.int)))):=by
  intro pins s σ H xs us Q I r h;obtain ⟨p,ns,rfl,hH,h6,q⟩:=h;obtain ⟨u,rfl,ru⟩:=ci r;cases ru;obtain ⟨z,its,n,rv,hl,e⟩:=I.lstM hH;have lv:its.length=ns.length:=by
    have:=aav rv;rw [aaa] at this;exact this.symm
  refine ji (vs:=its) ⟨_,e,rfl,_,rfl⟩ (gO rv) (by lia) fun out ms o1 o2 o3=>?_;obtain ⟨c,hc⟩:=sortedAll_at s.heap its out;have lm:(ms.map V.int).length≤sizeLine:=by
    have e1:=o2.length_eq;rw [aaa] at z ⊢;lia
  have I1:=I.laid (a:=s.heap.objs.size+1) (o:=.lst (ms.map V.int)) (t':=s.toks) (fun b o q=>sortedAll_old (vs:=its) (out:=out) q) (acC _) ⟨lm,out.toList,c,dY o1,(by rw [Array.toArray_toList];exact hc)⟩;exact ⟨.ref _,_,I1,rfl,q _ ms (I.hok.fresh (acC _)) o2 o3⟩
open PySem PySem.Spec PyProof.Rows
variable {X:Cx} {pins:List Value} {s:Shared} {σ:St} {H:Hp}
open PySem PySem.Spec PyProof.Rows
theorem Same.upd {H H1:Hp} {p:Addr} {o:HO} (a:Same H H1) (h:H p=none):Same H (L2.upd H1 p o):=fun b u q=>by
  rw [aj (ah q h)];exact a b u q
end L2
namespace Put
open PySem L2
def top (i:Nat):Stmt:=PySem.Challenge.pw_putsigns_k46_papers_of_rests_looked_at.main.body.getD i (.Pass ⟨0,0,0,0⟩)
inductive Sg where
  | plus|minus|times
  deriving DecidableEq
def Sg.str:Sg→Str
  | .plus=>"+"
  | .minus=>"-"
  | .times=>"*"
inductive Wy where
  | num (i:Int)
  | node (g:Sg) (l r:Wy)
  deriving DecidableEq
def Wy.size:Wy→Nat
  | .num _=>1
  | .node _ l r=>l.size+r.size
def Tups (H H':Hp):Prop:=∀ b xs,H b=some (.tup xs)→H' b=some (.tup xs)
theorem Tups.of {H H':Hp} (a:Same H H'):Tups H H':=fun b xs h=>a b _ h
theorem Tups.but {H H':Hp} {w:Addr} {xs:List V} (a:But w H H') (h:H w=some (.lst xs)):Tups H H':=fun b ys q=>a b _ (fun e=>by rw [e,h] at q;cases q) q
structure Bu (K:aab) (mg:Str→Option Value):Prop where
  ilen:mg "len" = none
  iisinstance : mg "isinstance" = none
  iint:mg "int" = none
  ibool:mg "bool" = none
  istr:mg "str" = none
  ituple:mg "tuple" = none
  ilist:mg "list" = none
  isorted:mg "sorted" = none
  irange:mg "range" = none
  irepr:mg "repr" = none
  ienumerate:mg "enumerate" = none
  isum:mg "sum" = none
  iall:mg "all" = none
  imin:mg "min" = none
  imax:mg "max" = none
  iabs:mg "abs" = none
  idivmod:mg "divmod" = none
  idict:mg "dict" = none
  iset:mg "set" = none
  ireversed:mg "reversed" = none
  iany:mg "any" = none
  izip:mg "zip" = none
structure Co (K:aab) (mg:Str→Option Value) (tk:Tok) (aS:Addr):Prop where
  gMOST_NUMBERS:mg "MOST_NUMBERS" = some (.int 9 tk)
  gSIGNS:mg "SIGNS" = some (.ref aS)
  sSIGNS:∀ H,SqT K H aS [.str "+",.str "-",.str "*"]
section
variable {P:Program} {w:World} {K:aab} {mg:Str→Option Value} {base:Heap} {f:Addr} {fd:FuncData}
def fO (K:aab):Sp:=fun vs H Q _=>∃ x n,vs=[x]∧TyOf K H x (.type n)∧Q (.bl (decide (n = "int"))) H
abbrev fz:Stmt:=top 7
theorem lE:FnScope ["thing"] ["thing"] (ao fz):=⟨rfl,rfl,rfl,by decide +kernel,rfl,by decide +kernel,by decide +kernel⟩
theorem l6 (F:Fun K "is_whole" "is_whole" fz f fd) (B:Bu K mg):FnOk P w K mg base CX0 1 f fd ["thing"] (fO K):=by
  refine F.ok lE (fun vs H Q E h=>?_) (fun cdv A outer s H vs Q E hr h=>?_)
  · obtain ⟨x,n,rfl,_⟩:=h;rfl
  obtain ⟨x,n,rfl,ty,q⟩:=h;refine ⟨_,(@af _ _ _ (@ap _ _ _ _ (@dU _ _ _ _ _ _ _ (@ai _ _ _ _ _ _ _ _ _ (@aD _ ("int")) rfl B.iisinstance aah (@aa _ _ _ _ _ (pv 0) (@aa _ _ _ _ _ (@aL _ _ (.ty "int") _ _ rfl B.iint abu rfl (by decide) (by decide)) ac (by rfl)) (by rfl)) (by decide) (by decide) (by rfl) (by rfl)) (@eU _ _ _ _ _ (@qY _ _ _ _ (@ai _ _ _ _ _ _ _ _ _ (@aD _ ("bool")) rfl B.iisinstance aah (@aa _ _ _ _ _ (pv 0) (@aa _ _ _ _ _ (@aL _ _ (.ty "bool") _ _ rfl B.ibool abC rfl (by decide) (by decide)) ac (by rfl)) (by rfl)) (by decide) (by decide) (by rfl) (by rfl))))))),?_⟩;cases ty with
  | non=>exact ⟨_,rfl,_,_,false,rfl,.non,rfl,false,rfl,aM q⟩
  | bl y=>exact ⟨_,rfl,_,_,true,rfl,.bl y,rfl,true,rfl,aR ⟨_,rfl,_,_,true,rfl,.bl y,rfl,true,rfl,q⟩⟩
  | int i=>exact ⟨_,rfl,_,_,true,rfl,.int i,rfl,true,rfl,aR ⟨_,rfl,_,_,false,rfl,.int i,rfl,false,rfl,q⟩⟩
  | str y=>exact ⟨_,rfl,_,_,false,rfl,.str y,rfl,false,rfl,aM q⟩
  | flt y=>exact ⟨_,rfl,_,_,false,rfl,.flt y,rfl,false,rfl,aM q⟩
  | lst e=>exact ⟨_,rfl,_,_,false,rfl,.lst e,rfl,false,rfl,aM q⟩
  | frz e=>exact ⟨_,rfl,_,_,false,rfl,.frz e,rfl,false,rfl,aM q⟩
  | tup e=>exact ⟨_,rfl,_,_,false,rfl,.tup e,rfl,false,rfl,aM q⟩
  | dK e=>exact ⟨_,rfl,_,_,false,rfl,.dK e,rfl,false,rfl,aM q⟩
  | dT e=>exact ⟨_,rfl,_,_,false,rfl,.dT e,rfl,false,rfl,aM q⟩
open PySem L2
theorem di {n:Nat} (h:n≤1000):n≤sizeLine:=abX (au h)
def aB:List Sg→Str
  | []=>""
  | g :: r=>g.str++aB r
open PySem L2
theorem gX (x m:Int) (h:0 < m):0≤x % m∧x % m < m:=⟨aco x (by lia),abV x h⟩
end
open PySem L2
def Pot (H:Hp) (w:Addr):Prop:=∃ a c k,H w=some (.lst [.int a,.int c,.int k])
theorem Pot.keep {H H':Hp} {w:Addr} (h:Pot H w) (s:Same H H'):Pot H' w:=by
  obtain ⟨a,c,k,e⟩:=h;exact ⟨a,c,k,s _ _ e⟩
theorem Pot.ne {w p:Addr} {H:Hp} (h:Pot H w) (n:H p=none):p≠w:=fun e=>by
  subst e;obtain ⟨_,_,_,z⟩:=h;rw [z] at n;cases n
theorem Pot.tups {w:Addr} {H H':Hp} (h:Pot H w) (b:But w H H'):Tups H H':=by
  obtain ⟨_,_,_,z⟩:=h;exact Tups.but b z
theorem Pot.free {w p:Addr} {H H':Hp} (h:Pot H' w) (b:But w H H') (n:H' p=none):H p=none:=by
  cases q:H p with
  | none=>rfl
  | some o=>rw [b p o (h.ne n) q] at n;cases n
section
variable {P:Program} {w:World} {K:aab} {mg:Str→Option Value} {base:Heap} {f:Addr} {fd:FuncData}
def jZ (ns:List Int):Prop:=∀ i∈ns,-1000000000000 < i∧i < 1000000000000
theorem qU {xs:List Int} {r:Int} (h0:0≤r) (h1:r < xs.length):∃ u:Int,atI (xs.map V.int) r=some (.int u)∧u∈xs:=by
  obtain ⟨j,rfl⟩:∃ j:Nat,r=(j:Int):=⟨r.toNat,by lia⟩
  have hj:j < xs.length:=by lia
  exact ⟨xs[j],cV (by rw [aak,aac hj];rfl),abA hj⟩
theorem pm {k:Int} (h0:0≤k) (h1:k < 2):∃ z:Int,atI [V.int 1,.int (-1)] k=some (.int z)∧(z=1∨z=-1):=by
  have : k=0∨k=1:=by lia
  rcases this with rfl|rfl
  · exact ⟨1,rfl,.inl rfl⟩
  · exact ⟨-1,rfl,.inr rfl⟩
def ki:List V:=[.str "+",.str "-",.str "*",.str "+-",.str "+*",.str "-*",.str "+-*"]
def e_ (gs:List Sg):Prop:=inV (.str (aB gs)) ki=true
theorem xF {k:Int} (h0:0≤k) (h1:k < 8):∃ gs:List Sg,atI [V.str "+",.str "-",.str "*",.str "+-",.str "+*",.str "-*",.str "+-*",.str "+-*"] k=some (.str (aB gs))∧1≤gs.length∧gs.length≤3∧e_ gs:=by
  have : k=0∨k=1∨k=2∨k=3∨k=4∨k=5∨k=6∨k=7:=by lia
  rcases this with rfl|rfl|rfl|rfl|rfl|rfl|rfl|rfl
  · exact ⟨[.plus],by rfl,by decide,by decide,by unfold e_;decide +kernel⟩
  · exact ⟨[.minus],by rfl,by decide,by decide,by unfold e_;decide +kernel⟩
  · exact ⟨[.times],by rfl,by decide,by decide,by unfold e_;decide +kernel⟩
  · exact ⟨[.plus,.minus],by rfl,by decide,by decide,by unfold e_;decide +kernel⟩
  · exact ⟨[.plus,.times],by rfl,by decide,by decide,by unfold e_;decide +kernel⟩
  · exact ⟨[.minus,.times],by rfl,by decide,by decide,by unfold e_;decide +kernel⟩
  · exact ⟨[.plus,.minus,.times],by rfl,by decide,by decide,by unfold e_;decide +kernel⟩
  · exact ⟨[.plus,.minus,.times],by rfl,by decide,by decide,by unfold e_;decide +kernel⟩
def j9:Sp:=fun vs H Q _=>∃ c k,vs=[.int c,.int k]∧∀ r,Q (.int r) H
abbrev dJ:Stmt:=top 28
theorem dk:FnScope ["cell","k","number"] ["cell","k"] (ao dJ):=⟨rfl,rfl,rfl,by decide +kernel,rfl,by decide +kernel,by decide +kernel⟩
theorem rn (F:Fun K "_law_mixed" "_law_mixed" dJ f fd):FnOk P w K mg base CX0 1 f fd ["cell","k"] j9:=by
  refine F.ok dk (fun vs H Q E h=>?_) (fun cdv A outer s H vs Q E hr h=>?_)
  · obtain ⟨c,k,rfl,_⟩:=h;rfl
  obtain ⟨c,k,rfl,q⟩:=h;refine ⟨_,(@ag _ _ _ _ _ (@aG _ _ (2) _ _ _ _ (dk).nd rfl (Or.inl rfl) (@az _ _ _ _ _ _ _ _ bA (@az _ _ _ _ _ _ _ _ dX (@az _ _ _ _ _ _ _ _ bh (@az _ _ _ _ _ _ _ _ bh (@az _ _ _ _ _ _ _ _ bA (pv 0) ae) (@az _ _ _ _ _ _ _ _ dX ae (pv 1))) ae) ae) ae) (by rfl) (by first|exact .inl rfl|exact .inr rfl|assumption)) (@ag _ _ _ _ _ (@aG _ _ (2) _ _ _ _ (dk).nd rfl (Or.inl rfl) (@az _ _ _ _ _ _ _ _ bA (@az _ _ _ _ _ _ _ _ dX (pv 2) (pv 2)) ae) (by rfl) (by first|exact .inl rfl|exact .inr rfl|assumption)) (@af _ _ _ (@ap _ _ _ _ (@az _ _ _ _ _ _ _ _ iM (@az _ _ _ _ _ _ _ _ bA (@az _ _ _ _ _ _ _ _ dX (@az _ _ _ _ _ _ _ _ bh (pv 2) (@az _ _ _ _ _ _ _ _ dX ae (@az _ _ _ _ _ _ _ _ bh (pv 1) ae))) ae) ae) ae))))),?_⟩;have z:=gX ((c % 2147483647+7919 * k+1) * 48271) 2147483647 (by decide);refine ⟨_,rfl,_,_,rfl,rfl,(show (0:Int) < 2147483647 by decide),_,rfl,_,_,rfl,rfl,.inl ⟨by decide,by decide⟩,_,_,rfl,rfl,_,_,rfl,rfl,_,_,rfl,rfl,.inr ⟨by decide,by decide⟩,_,_,rfl,rfl,(show (0:Int) < 2147483647 by decide),?_⟩;refine ⟨_,rfl,_,rfl,_,_,rfl,rfl,.inl ⟨by lia,by lia⟩,_,_,rfl,rfl,(show (0:Int) < 2147483629 by decide),?_⟩;refine ⟨_,rfl,_,rfl,_,_,rfl,rfl,_,_,rfl,rfl,.inl ⟨by decide,by decide⟩,_,_,rfl,rfl,_,_,rfl,rfl,.inr ⟨by decide,by decide⟩,_,_,rfl,rfl,(show (0:Int) < 2147483579 by decide),_,_,rfl,rfl,⟨by decide,by decide⟩,?_⟩;exact q _
def qD:Sp:=fun vs H Q _=>∃ cell,vs=[.int cell]∧∀ p H',Same H H'→H p=none→Pot H' p→Q (.ref p) H'
theorem p50:((10:Int) ^ (50:Int).toNat).natAbs < 2 ^ 4000∧((10:Int) ^ (50:Int).toNat * 10 ^ (50:Int).toNat).natAbs < 2 ^ 4000∧((10:Int) ^ (50:Int).toNat * 10 ^ (50:Int).toNat * 10 ^ (50:Int).toNat).natAbs < 2 ^ 4000∧0 < ((10:Int) ^ (50:Int).toNat * 10 ^ (50:Int).toNat * 10 ^ (50:Int).toNat * 10 ^ (50:Int).toNat):=by decide +kernel
abbrev fG:Stmt:=top 29
theorem lH:FnScope ["cell"] ["cell"] (ao fG):=⟨rfl,rfl,rfl,by decide +kernel,rfl,by decide +kernel,by decide +kernel⟩
theorem vq (F:Fun K "_law_pot" "_law_pot" fG f fd) (B:Bu K mg):FnOk P w K mg base CX0 1 f fd ["cell"] qD:=by
  refine F.ok lH (fun vs H Q E h=>?_) (fun cdv A outer s H vs Q E hr h=>?_)
  · obtain ⟨c,rfl,_⟩:=h;rfl
  obtain ⟨c,rfl,q⟩:=h;refine ⟨_,(@af _ _ _ (@ap _ _ _ _ (@aQ _ _ _ _ (@aa _ _ _ _ _ (@az _ _ _ _ _ _ _ _ dX (@az _ _ _ _ _ _ _ _ bA (pv 0) (@az _ _ _ _ _ _ _ _ fY (@az _ _ _ _ _ _ _ _ fY (@az _ _ _ _ _ _ _ _ fY (@az _ _ _ _ _ _ _ _ dW ae ae) (@az _ _ _ _ _ _ _ _ dW ae ae)) (@az _ _ _ _ _ _ _ _ dW ae ae)) (@az _ _ _ _ _ _ _ _ dW ae ae))) (@aT _ _ _ _ _ _ _ _ _ gL rfl B.iint abu (@aa _ _ _ _ _ (@bp _ _ _ _ _ _ _ _ wz (pv 0) (@az _ _ _ _ _ _ _ _ dW ae ae) (aC _)) ac (by rfl)) (by decide) (by decide) (by rfl) (by rfl))) (@aa _ _ _ _ _ (pv 0) (@aa _ _ _ _ _ ae ac (by rfl)) (by rfl)) (by rfl))))),?_⟩;obtain ⟨b1,b2,b3,b4⟩:=p50;have cp:vU 10 50:=⟨by decide,by decide,by decide⟩
  refine ⟨_,rfl,_,_,rfl,rfl,cp,_,_,rfl,rfl,cp,_,_,rfl,rfl,⟨b1,b1⟩,_,_,rfl,rfl,cp,_,_,rfl,rfl,⟨b2,b1⟩,_,_,rfl,rfl,cp,_,_,rfl,rfl,⟨b3,b1⟩,_,_,rfl,rfl,b4,?_⟩;refine ⟨_,rfl,_,_,rfl,rfl,⟨by decide,by decide,by decide⟩,_,_,rfl,rfl,.inr ⟨_,rfl,_,_,rfl,rfl,.inr ?_,_,rfl,(by show 3≤sizeLine;decide),fun p hp=>q p _ (Same.new hp _) hp ⟨_,_,_,ad⟩⟩⟩;split <;> exact ⟨by decide,by decide⟩
def dC:Sp:=fun vs H Q _=>∃ w m,vs=[.ref w,.int m]∧0 < m∧m < 2 ^ 63∧Pot H w∧∀ r H',0≤r→r < m→But w H H'→Pot H' w→Q (.int r) H'
abbrev eM:Stmt:=top 30
theorem fQ:FnScope ["pot","many","told"] ["pot","many"] (ao eM):=⟨rfl,rfl,rfl,by decide +kernel,rfl,by decide +kernel,by decide +kernel⟩
theorem tY (F:Fun K "_law_take" "_law_take" eM f fd) (C__law_mixed:Cal P w K mg base "_law_mixed" 1 ["cell","k"] j9):FnOk P w K mg base CX0 2 f fd ["pot","many"] dC:=by
  refine F.ok fQ (fun vs H Q E h=>?_) (fun cdv A outer s H vs Q E hr h=>?_)
  · obtain ⟨w,m,rfl,_⟩:=h;rfl
  obtain ⟨wl,m,rfl,h0,h1,⟨a,c,k,e⟩,q⟩:=h;refine ⟨_,(@ag _ _ _ _ _ (@eS _ _ _ _ _ _ (@az _ _ _ _ _ _ _ _ bh (@bu _ _ _ _ _ _ _ ix_list (pv 0) ae (fun _ _=>rfl)) ae) (@ni _ _ _ _ _ _ _ (pv 0) ae iD (by intro _;rfl)) (by rfl) (by rfl) (by rfl)) (@ag _ _ _ _ _ (@aI _ _ _ _ _ _ _ _ (@aE _ _ _ _ _ _ _ _ rm (@bu _ _ _ _ _ _ _ ix_list (pv 0) ae (fun _ _=>rfl)) ae (aC _)) (@ag _ _ _ _ _ (@aG _ _ (2) _ _ _ _ (fQ).nd rfl (Or.inl rfl) (@az _ _ _ _ _ _ _ _ bA (@bu _ _ _ _ _ _ _ ix_list (pv 0) ae (fun _ _=>rfl)) (pv 1)) (by rfl) (by first|exact .inl rfl|exact .inr rfl|assumption)) (@ag _ _ _ _ _ (@eS _ _ _ _ _ _ (@az _ _ _ _ _ _ _ _ iM (@bu _ _ _ _ _ _ _ ix_list (pv 0) ae (fun _ _=>rfl)) (pv 1)) (@ni _ _ _ _ _ _ _ (pv 0) ae iD (by intro _;rfl)) (by rfl) (by rfl) (by rfl)) (@af _ _ _ (@ap _ _ _ _ (pv 2))))) aA) (@af _ _ _ (@ap _ _ _ _ (@az _ _ _ _ _ _ _ _ bA (@aq _ _ _ _ _ _ _ _ _ _ _ C__law_mixed hr (by lia) rfl (@aa _ _ _ _ _ (@bu _ _ _ _ _ _ _ ix_list (pv 0) ae (fun _ _=>rfl)) (@aa _ _ _ _ _ (@bu _ _ _ _ _ _ _ ix_list (pv 0) ae (fun _ _=>rfl)) ac (by rfl)) (by rfl)) (by decide) (by rfl) (by rfl)) (pv 1)))))),?_⟩;refine ⟨_,rfl,wl,_,_,_,rfl,rfl,SqL.of e,rfl,_,_,rfl,rfl,_,rfl,wl,_,_,2,rfl,rfl,e,rfl,?_⟩;have e1:upd H wl (.lst (List.set [V.int a,.int c,.int k] 2 (.int (k+1)))) wl=some (.lst [.int a,.int c,.int (k+1)]):=ad;have b1:But wl H (upd H wl (.lst (List.set [V.int a,.int c,.int k] 2 (.int (k+1))))):=But.put;show (_:Hp→Prop) (upd H wl (.lst (List.set [V.int a,.int c,.int k] 2 (.int (k+1)))));generalize upd H wl (.lst (List.set [V.int a,.int c,.int k] 2 (.int (k+1))))=H1 at e1 b1 ⊢;refine ⟨_,rfl,wl,_,_,_,rfl,rfl,SqL.of e1,rfl,_,_,rfl,rfl,_,rfl,cN (fun _=>?_) (fun _=>?_)⟩
  · refine ⟨_,rfl,wl,_,_,_,rfl,rfl,SqL.of e1,rfl,_,rfl,_,_,rfl,rfl,h0,?_⟩;refine ⟨_,rfl,wl,_,_,_,rfl,rfl,SqL.of e1,rfl,_,rfl,_,_,rfl,rfl,⟨h0,by lia⟩,_,rfl,wl,_,_,0,rfl,rfl,e1,rfl,?_⟩;refine ⟨_,rfl,?_⟩;have z:=gX a m h0;exact q _ _ z.1 z.2 (b1.trans But.put) ⟨_,_,_,ad⟩
  · refine ⟨_,rfl,wl,_,_,_,rfl,rfl,SqL.of e1,rfl,_,rfl,wl,_,_,_,rfl,rfl,SqL.of e1,rfl,_,_,rfl,fun r=>?_⟩;have z:=gX r m h0;exact ⟨_,rfl,_,_,rfl,rfl,h0,q _ _ z.1 z.2 b1 ⟨_,_,_,e1⟩⟩
def iu:Sp:=fun vs H Q _=>∃ w y,vs=[.ref w,.int y]∧0≤y∧y < 6∧Pot H w∧∀ r H',-1000000000000 < r→r < 1000000000000→But w H H'→Pot H' w→Q (.int r) H'
abbrev dl:Stmt:=top 31
theorem cZ:FnScope ["pot","way","far","some"] ["pot","way"] (ao dl):=⟨rfl,rfl,rfl,by decide +kernel,rfl,by decide +kernel,by decide +kernel⟩
theorem pL (F:Fun K "_law_number" "_law_number" dl f fd) (C__law_take:Cal P w K mg base "_law_take" 2 ["pot","many"] dC):FnOk P w K mg base CX0 3 f fd ["pot","way"] iu:=by
  refine F.ok cZ (fun vs H Q E h=>?_) (fun cdv A outer s H vs Q E hr h=>?_)
  · obtain ⟨w,m,rfl,_⟩:=h;rfl
  obtain ⟨wl,y,rfl,y0,y6,hp,q⟩:=h;refine ⟨_,(@ag _ _ _ _ _ (@aG _ _ (2) _ _ _ _ (cZ).nd rfl (Or.inl rfl) (@az _ _ _ _ _ _ _ _ bh (@az _ _ _ _ _ _ _ _ dX (@aq _ _ _ _ _ _ _ _ _ _ _ C__law_take hr (by lia) rfl (@aa _ _ _ _ _ (pv 0) (@aa _ _ _ _ _ (@az _ _ _ _ _ _ _ _ dW ae ae) ac (by rfl)) (by rfl)) (by decide) (by rfl) (by rfl)) (@az _ _ _ _ _ _ _ _ dW ae ae)) (@aq _ _ _ _ _ _ _ _ _ _ _ C__law_take hr (by lia) rfl (@aa _ _ _ _ _ (pv 0) (@aa _ _ _ _ _ (@az _ _ _ _ _ _ _ _ dW ae ae) ac (by rfl)) (by rfl)) (by decide) (by rfl) (by rfl))) (by rfl) (by first|exact .inl rfl|exact .inr rfl|assumption)) (@ag _ _ _ _ _ (@aG _ _ (3) _ _ _ _ (cZ).nd rfl (Or.inl rfl) (@aQ _ _ _ _ (@aa _ _ _ _ _ (@az _ _ _ _ _ _ _ _ bA (pv 2) ae) (@aa _ _ _ _ _ (@az _ _ _ _ _ _ _ _ fH (@az _ _ _ _ _ _ _ _ bA (pv 2) ae) ae) (@aa _ _ _ _ _ (@az _ _ _ _ _ _ _ _ fH (@az _ _ _ _ _ _ _ _ bA (pv 2) ae) ae) (@aa _ _ _ _ _ (@az _ _ _ _ _ _ _ _ dX (pv 2) (@bu _ _ _ _ _ _ _ ix_list (@aQ _ _ _ _ (@aa _ _ _ _ _ ae (@aa _ _ _ _ _ (@fV _ _ _ _ _ _ dB ae) ac (by rfl)) (by rfl))) (@aq _ _ _ _ _ _ _ _ _ _ _ C__law_take hr (by lia) rfl (@aa _ _ _ _ _ (pv 0) (@aa _ _ _ _ _ ae ac (by rfl)) (by rfl)) (by decide) (by rfl) (by rfl)) (fun _ _=>rfl))) (@aa _ _ _ _ _ (@az _ _ _ _ _ _ _ _ bA (pv 2) ae) (@aa _ _ _ _ _ (@az _ _ _ _ _ _ _ _ bh ae (@az _ _ _ _ _ _ _ _ bA (pv 2) ae)) ac (by rfl)) (by rfl)) (by rfl)) (by rfl)) (by rfl)) (by rfl))) (by rfl) (by first|exact .inl rfl|exact .inr rfl|assumption)) (@af _ _ _ (@ap _ _ _ _ (@bu _ _ _ _ _ _ _ ix_list (pv 3) (pv 1) (fun _ _=>rfl)))))),?_⟩;have p6:(10:Int) ^ (6:Int).toNat=1000000:=by decide
  refine ⟨_,rfl,10,6,rfl,rfl,⟨by decide,by decide,by decide⟩,wl,_,rfl,(by decide),(by decide),hp,fun r1 H1 a1 c1 b1 w1=>⟨10,6,rfl,rfl,⟨by decide,by decide,by decide⟩,_,_,rfl,rfl,.inr ⟨by decide,by decide⟩,?_⟩⟩;refine ⟨_,rfl,10,6,rfl,rfl,⟨by decide,by decide,by decide⟩,wl,_,rfl,(by decide),(by decide),w1,fun r2 H2 a2 c2 b2 w2=>⟨_,_,rfl,rfl,?_⟩⟩;have r1b:r1 < 1000000:=c1;have r2b:r2 < 1000000:=c2;have f0:0≤(r1 * 10 ^ (6:Int).toNat+r2)∧(r1 * 10 ^ (6:Int).toNat+r2) < 1000000000000:=by rw [p6];lia
  have m10:=gX (r1 * 10 ^ (6:Int).toNat+r2) 10 (by decide);have m3:=gX (r1 * 10 ^ (6:Int).toNat+r2) 3 (by decide);have m101:=gX (r1 * 10 ^ (6:Int).toNat+r2) 101 (by decide);have m2:=gX (r1 * 10 ^ (6:Int).toNat+r2) 2 (by decide);have m9:=gX (r1 * 10 ^ (6:Int).toNat+r2) 9 (by decide);refine ⟨_,rfl,_,_,rfl,rfl,(show (0:Int) < 10 by decide),_,rfl,_,_,rfl,rfl,(show (0:Int) < 3 by decide),_,_,rfl,rfl,_,rfl,_,_,rfl,rfl,(show (0:Int) < 101 by decide),_,_,rfl,rfl,_,rfl,_,rfl,(by show 2≤sizeLine;decide),fun p3 n3=>?_⟩;have s3:=Same.new n3 (.lst [V.int 1,.int (-1)]);have e3:upd H2 p3 (.lst [V.int 1,.int (-1)]) p3=some (.lst [V.int 1,.int (-1)]):=ad;have w3:=w2.keep s3;have n3w:=w2.ne n3;have b3:But wl H2 _:=But.of s3;generalize upd H2 p3 (.lst [V.int 1,.int (-1)])=H3 at s3 e3 w3 b3 ⊢;refine ⟨_,rfl,wl,2,rfl,by decide,by decide,w3,fun r3 H4 a3 c3 b4 w4=>?_⟩;obtain ⟨s1,hs1,vs1⟩:=pm a3 c3;refine ⟨p3,_,_,_,rfl,rfl,SqL.of (b4 _ _ n3w e3),hs1,_,_,rfl,rfl,.inl ⟨by lia,by lia⟩,?_⟩;refine ⟨_,rfl,_,_,rfl,rfl,(show (0:Int) < 2 by decide),_,rfl,_,_,rfl,rfl,(show (0:Int) < 9 by decide),_,_,rfl,rfl,(by show 6≤sizeLine;decide),fun p5 n5=>?_⟩;have s5:=Same.new n5 (.lst (([(r1 * 10 ^ (6:Int).toNat+r2) % 10,(r1 * 10 ^ (6:Int).toNat+r2) % 3 - 1,(r1 * 10 ^ (6:Int).toNat+r2) % 101 - 50,(r1 * 10 ^ (6:Int).toNat+r2) * s1,(r1 * 10 ^ (6:Int).toNat+r2) % 2,1+(r1 * 10 ^ (6:Int).toNat+r2) % 9]:List Int).map V.int));obtain ⟨el,hel,mel⟩:=qU (xs:=[(r1 * 10 ^ (6:Int).toNat+r2) % 10,(r1 * 10 ^ (6:Int).toNat+r2) % 3 - 1,(r1 * 10 ^ (6:Int).toNat+r2) % 101 - 50,(r1 * 10 ^ (6:Int).toNat+r2) * s1,(r1 * 10 ^ (6:Int).toNat+r2) % 2,1+(r1 * 10 ^ (6:Int).toNat+r2) % 9]) y0 y6;refine ⟨_,rfl,_,rfl,p5,_,_,_,rfl,rfl,SqL.of ad,hel,?_⟩;have sb:-1000000000000 < el∧el < 1000000000000:=by
    simp only [aai,aaV,or_false] at mel;rcases mel with rfl|rfl|rfl|rfl|rfl|rfl
    · lia
    · lia
    · lia
    · rcases vs1 with rfl|rfl <;> lia
    · lia
    · lia
  exact q el _ sb.1 sb.2 ((((b1.trans b2).trans b3).trans b4).trans (But.of s5)) (w4.keep s5)
def mU:Sp:=fun vs H Q _=>∃ w n,vs=[.ref w,.int n]∧1≤n∧n≤20∧Pot H w ∧
  ∀ p ns H',But w H H'→Pot H' w→H p=none→H' p=some (.lst (ns.map V.int))→(ns.length:Int)=n→jZ ns→Q (.ref p) H'
abbrev fE:Stmt:=top 32
theorem bJ:FnScope ["pot","many","way","found","k","kind"] ["pot","many"] (ao fE):=⟨rfl,rfl,rfl,by decide +kernel,rfl,by decide +kernel,by decide +kernel⟩
theorem vp (F:Fun K "_law_row" "_law_row" fE f fd) (B:Bu K mg) (C__law_take:Cal P w K mg base "_law_take" 2 ["pot","many"] dC) (C__law_number:Cal P w K mg base "_law_number" 3 ["pot","way"] iu):FnOk P w K mg base CX0 4 f fd ["pot","many"] mU:=by
  refine F.ok bJ (fun vs H Q E h=>?_) (fun cdv A outer s H vs Q E hr h=>?_)
  · obtain ⟨w,m,rfl,_⟩:=h;rfl
  obtain ⟨wl,n,rfl,h1,h20,hp,q⟩:=h;refine ⟨_,(@ag _ _ _ _ _ (@aG _ _ (2) _ _ _ _ (bJ).nd rfl (Or.inl rfl) (@aq _ _ _ _ _ _ _ _ _ _ _ C__law_take hr (by lia) rfl (@aa _ _ _ _ _ (pv 0) (@aa _ _ _ _ _ ae ac (by rfl)) (by rfl)) (by decide) (by rfl) (by rfl)) (by rfl) (by first|exact .inl rfl|exact .inr rfl|assumption)) (@ag _ _ _ _ _ (@aG _ _ (3) _ _ _ _ (bJ).nd rfl (Or.inl rfl) (@aQ _ _ _ _ ac) (by rfl) (by first|exact .inl rfl|exact .inr rfl|assumption)) (@ag _ _ _ _ _ (@a_ _ _ _ _ _ _ _ _ aaJ rfl (@bE _ _ _ _ _ _ rfl B.irange (@aa _ _ _ _ _ (pv 1) ac (by rfl)) (by rfl)) (@ak _ _ (4) _ (bJ).nd rfl (Or.inl rfl) (.inl rfl)) (@ag _ _ _ _ _ (@aG _ _ (5) _ _ _ _ (bJ).nd rfl (Or.inl rfl) (pv 2) (by rfl) (by first|exact .inl rfl|exact .inr rfl|assumption)) (@dQ _ _ _ _ _ (@aI _ _ _ _ _ _ _ _ (@aE _ _ _ _ _ _ _ _ rm (pv 2) ae (aC _)) (@af _ _ _ (@aG _ _ (5) _ _ _ _ (bJ).nd rfl (Or.inl rfl) (@aq _ _ _ _ _ _ _ _ _ _ _ C__law_take hr (by lia) rfl (@aa _ _ _ _ _ (pv 0) (@aa _ _ _ _ _ ae ac (by rfl)) (by rfl)) (by decide) (by rfl) (by rfl)) (by rfl) (by first|exact .inl rfl|exact .inr rfl|assumption))) aA) (@af _ _ _ (@bT _ _ _ _ (@iI _ _ _ _ _ _ _ _ _ _ _ _ aby acF acG gF (pv 3) (@aa _ _ _ _ _ (@aq _ _ _ _ _ _ _ _ _ _ _ C__law_number hr (by lia) rfl (@aa _ _ _ _ _ (pv 0) (@aa _ _ _ _ _ (pv 5) ac (by rfl)) (by rfl)) (by decide) (by rfl) (by rfl)) ac (by rfl)) (by rfl) (by rfl) (by rfl) (by rfl) (by rfl)) (by rfl))))) (by intro _;rfl)) (@dQ _ _ _ _ _ (@aI _ _ _ _ _ _ _ _ (@aE _ _ _ _ _ _ _ _ bD (pv 2) ae (aC _)) (@af _ _ _ (@aG _ _ (3) _ _ _ _ (bJ).nd rfl (Or.inl rfl) (@az _ _ _ _ _ _ _ _ vn (@iH _ _ _ _ _ _ _ _ _ _ kh (pv 3) kn (@km _ _ _ ae)) (pv 1)) (by rfl) (by first|exact .inl rfl|exact .inr rfl|assumption))) aA) (@af _ _ _ (@ap _ _ _ _ (pv 3))))))),?_⟩;refine ⟨_,rfl,wl,9,rfl,by decide,by decide,hp,fun y H1 y0 y9 b1 w1=>?_⟩;refine ⟨(by show 0≤sizeLine;decide),fun pf nf=>?_⟩;have nfw:=w1.ne nf;have hfree:H pf=none:=w1.free b1 nf;refine ⟨_,rfl,n,rfl,by lia,by lia,br (n:=n.toNat) (fun j σ H'=>∃ (ns:List Int) (c4 c5:Option V),σ=[some (.ref wl),some (.int n),some (.int y),some (.ref pf),c4,c5]∧H' pf=some (.lst (ns.map V.int))∧ns.length=j∧jZ ns∧But wl H1 H'∧Pot H' wl) ⟨[],_,_,rfl,ad,rfl,(fun _ z=>nomatch z),But.new nf _,w1.keep (Same.new nf _)⟩ ?_ ?_⟩
  · rintro j σ H2 hj ⟨ns,c4,c5,rfl,ef,hl,hs,b2,w2⟩;refine ⟨_,rfl,fun σ H3=>∃ kd,σ=[some (.ref wl),some (.int n),some (.int y),some (.ref pf),some (.int (0+(j:Int))),some (.int kd)]∧0≤kd∧kd < 6∧But wl H2 H3∧Pot H3 wl,?_,?_⟩
    · refine ⟨_,rfl,_,_,rfl,rfl,_,rfl,cN (fun c=>?_) (fun c=>?_)⟩
      · exact ⟨_,rfl,wl,6,rfl,by decide,by decide,w2,fun r H3 a3 c3 b3 w3=>⟨r,rfl,a3,c3,b3,w3⟩⟩
      · have c:¬ (5 < y):=fun z=>c (decide_eq_true z);exact ⟨y,rfl,y0,by lia,But.refl,w2⟩
    · rintro σ H3 ⟨kd,rfl,k0,k6,b3,w3⟩;have ef3:=b3 _ _ nfw ef;refine ⟨_,rfl,.inl ⟨rfl,_,SqL.of ef3⟩,_,rfl,_,rfl,wl,kd,rfl,k0,k6,w3,fun r H4 r1 r2 b4 w4=>?_⟩;have ef4:=b4 _ _ nfw ef3;refine ⟨pf,_,_,rfl,rfl,ef4,au (by rw [aaa];lia),?_⟩;refine ⟨ns++[r],_,_,rfl,by rw [ad,aaG];rfl,by rw [aaw,hl];rfl,fun x hx=>(aay.mp hx).elim (hs x) fun z=>by rw [aau.mp z];exact ⟨r1,r2⟩,fun c o nc hc=>?_,?_⟩
      · by_cases z:c=pf
        · subst z;rw [nf] at hc;cases hc
        · rw [aj z];exact ((b2.trans b3).trans b4) c o nc hc
      · obtain ⟨wa,wb,wc,we⟩:=w4;exact ⟨wa,wb,wc,by rw [aj (abm nfw)];exact we⟩
  · rintro σ H2 ⟨ns,c4,c5,rfl,ef,hl,hs,b2,w2⟩;have lns:(ns.length:Int)=n:=by lia
    refine ⟨fun σ H3=>∃ pr ms,σ=[some (.ref wl),some (.int n),some (.int y),some (.ref pr),c4,c5]∧H3 pr=some (.lst (ms.map V.int))∧ms.length=ns.length∧jZ ms∧But wl H2 H3∧Pot H3 wl∧H pr=none,?_,?_⟩
    · refine ⟨_,rfl,rfl,_,rfl,cN (fun c=>?_) (fun c=>?_)⟩
      · refine ⟨_,rfl,1,rfl,pf,_,rfl,SqL.of ef,fun p3 n3=>?_⟩;have s3:=Same.new n3 (.lst (hW (ns.map V.int) none (some 1)));obtain ⟨x0,r0,rfl⟩:∃ x0 r0,ns=x0 :: r0:=by
          cases ns with
          | nil=>simp at lns;lia
          | cons x r=>exact ⟨x,r,rfl⟩
        have ec:hW ((x0 :: r0).map V.int) none (some 1)=[V.int x0]:=by
          unfold hW HT.sIx;simp
        rw [ec] at s3 ⊢;refine ⟨_,rfl,p3,n,_,rfl,rfl,ad,by lia,by lia,di (by simp;lia),fun p4 n4=>?_⟩;have s4:=Same.new n4 (.lst (aaZ n.toNat [V.int x0]).flatten);have er:(aaZ n.toNat [V.int x0]).flatten=(aaZ n.toNat x0).map V.int:=by simp
        have S4:=s3.trans s4;refine ⟨p4,aaZ n.toNat x0,rfl,by rw [ad,er],by rw [List.length_replicate];lia,fun x hx=>?_,But.of S4,w2.keep S4,?_⟩
        · rw [List.eq_of_mem_replicate hx];exact hs x0 aan
        · have n4':H2 p4=none:=s3.free n4;have n41:H1 p4=none:=by
            cases e:H1 p4 with
            | none=>rfl
            | some o=>rw [b2 _ _ (w2.ne n4') e] at n4';cases n4'
          exact w1.free b1 n41
      · exact ⟨pf,ns,rfl,ef,rfl,hs,But.refl,w2,hfree⟩
    · rintro σ H3 ⟨pr,ms,rfl,er,lm,hm,b3,w3,fr⟩;exact ⟨_,rfl,q pr ms H3 ((b1.trans b2).trans b3) w3 fr er (by lia) hm⟩
def iq:Sp:=fun vs H Q _=>∃ w,vs=[.ref w]∧Pot H w∧∀ gs H',1≤gs.length→gs.length≤3→e_ gs→But w H H'→Pot H' w→Q (.str (aB gs)) H'
abbrev dH:Stmt:=top 33
theorem jo:FnScope ["pot"] ["pot"] (ao dH):=⟨rfl,rfl,rfl,by decide +kernel,rfl,by decide +kernel,by decide +kernel⟩
theorem kB (F:Fun K "_law_signs" "_law_signs" dH f fd) (C__law_take:Cal P w K mg base "_law_take" 2 ["pot","many"] dC):FnOk P w K mg base CX0 3 f fd ["pot"] iq:=by
  refine F.ok jo (fun vs H Q E h=>?_) (fun cdv A outer s H vs Q E hr h=>?_)
  · obtain ⟨x,rfl,_⟩:=h;rfl
  obtain ⟨wl,rfl,hw,q⟩:=h;refine ⟨_,(@af _ _ _ (@ap _ _ _ _ (@bu _ _ _ _ _ _ _ ix_list (@aQ _ _ _ _ (@aa _ _ _ _ _ bK (@aa _ _ _ _ _ bK (@aa _ _ _ _ _ bK (@aa _ _ _ _ _ bK (@aa _ _ _ _ _ bK (@aa _ _ _ _ _ bK (@aa _ _ _ _ _ bK (@aa _ _ _ _ _ bK ac (by rfl)) (by rfl)) (by rfl)) (by rfl)) (by rfl)) (by rfl)) (by rfl)) (by rfl))) (@aq _ _ _ _ _ _ _ _ _ _ _ C__law_take hr (by lia) rfl (@aa _ _ _ _ _ (pv 0) (@aa _ _ _ _ _ ae ac (by rfl)) (by rfl)) (by decide) (by rfl) (by rfl)) (fun _ _=>rfl)))),?_⟩;refine ⟨(by show 8≤sizeLine;decide),fun p1 n1=>?_⟩;have w1:=hw.keep (Same.new n1 (.lst [.str "+",.str "-",.str "*",.str "+-",.str "+*",.str "-*",.str "+-*",.str "+-*"]));refine ⟨_,rfl,wl,8,rfl,by decide,by decide,w1,fun r1 H1 a1 b1 g1 w2=>?_⟩;obtain ⟨gs,hg,l1,l2,l3⟩:=xF a1 b1;exact ⟨p1,_,_,_,rfl,rfl,SqL.of (g1 _ _ (hw.ne n1) ad),hg,q gs H1 l1 l2 l3 ((But.new n1 _).trans g1) w2⟩
end
open PySem L2
structure Cp (K:aab) (mg:Str→Option Value) (tk:Tok) (aP:Addr):Prop where
  gMOST_NUMBERS:mg "MOST_NUMBERS" = some (.int 9 tk)
  gSIGNS_TO_PUT:mg "SIGNS_TO_PUT" = some (.ref aP)
  sSIGNS_TO_PUT:∀ H,SqT K H aP ki
theorem PairsIn.mono {H H':Hp} (t:Tups H H') {ps:List (Int × Int)} {vs:List V} (p:PairsIn H ps vs):PairsIn H' ps vs:=by
  induction p with
  | nil=>exact .nil
  | cons z _ ih=>obtain ⟨a,e,h⟩:=z;exact .cons ⟨a,e,t _ _ h⟩ ih
theorem PairsIn.app {H:Hp} {ps qs:List (Int × Int)} {vs us:List V} (a:PairsIn H ps vs) (b:PairsIn H qs us):PairsIn H (ps++qs) (vs++us):=by
  induction a with
  | nil=>exact b
  | cons x _ ih=>exact .cons x ih
theorem PairsIn.snoc {H:Hp} {ps:List (Int × Int)} {vs:List V} {p:Int × Int} {v:V} (h:PairsIn H ps vs) (x:PairIn H p v):PairsIn H (ps++[p]) (vs++[v]):=PairsIn.app h (.cons x .nil)
def sfR (n m:Nat):List (Int × Int):=(aaO (n - m)).map fun (f:Nat)=>((f:Int),((f+m:Nat):Int))
def sfl (n i:Nat):List (Int × Int):=(aaO i).flatMap fun m=>sfR n m
theorem ls (n i:Nat):sfl n (i+1)=sfl n i++sfR n i:=by
  unfold sfl;rw [ab6,acB];simp
theorem ic (n i:Nat):(sfl n i).length≤i * n:=by
  induction i with
  | zero=>simp [sfl]
  | succ i ih =>
    rw [ls,aaw];have : (sfR n i).length≤n:=by simp [sfR]
    rw [Nat.succ_mul];lia
theorem ox (n:Nat) (a b:Nat) (h1:a≤b) (h2:b < n):((a:Int),(b:Int))∈sfl n n:=by
  unfold sfl sfR;rw [List.mem_flatMap];refine ⟨b - a,aaK.mpr (by lia),?_⟩;rw [List.mem_map];refine ⟨a,aaK.mpr (by lia),?_⟩;have : a+(b - a)=b:=by lia
  rw [this]
section
variable {P:Program} {w:World} {K:aab} {mg:Str→Option Value} {base:Heap} {f:Addr} {fd:FuncData}
def j_:Sp:=fun vs H Q _=>∃ (a:Addr) (ns:List Int),vs=[.ref a]∧H a=some (.lst (ns.map V.int))∧1≤ns.length∧ns.length≤9∧∀ H',Same H H'→Q (.bl true) H'
abbrev iE:Stmt:=top 8
theorem pF:FnScope ["thing"] ["thing"] (ao iE):=⟨rfl,rfl,rfl,by decide +kernel,rfl,by decide +kernel,by decide +kernel⟩
theorem pN {tk:Tok} {aP:Addr} (F:Fun K "is_row" "is_row" iE f fd) (B:Bu K mg) (B3:Cp K mg tk aP) (C_is_whole:Cal P w K mg base "is_whole" 1 ["thing"] (fO K)):FnOk P w K mg base CX0 2 f fd ["thing"] j_:=by
  refine F.ok pF (fun vs H Q E h=>?_) (fun cdv A outer s H vs Q E hr h=>?_)
  · obtain ⟨x,v,rfl,_⟩:=h;rfl
  obtain ⟨a,ns,rfl,ea,h1,h2,q⟩:=h;refine ⟨_,(@ag _ _ _ _ _ (@aI _ _ _ _ _ _ _ _ (@PW.pt _ _ _ (@cH _ _ _ _ _ _ _ (@aZ _ _ _ _ (@aU _ _ _ (@ai _ _ _ _ _ _ _ _ _ (@aD _ ("list")) rfl B.iisinstance aah (@aa _ _ _ _ _ (pv 0) (@aa _ _ _ _ _ (@aL _ _ (.ty "list") _ _ rfl B.ilist aaQ rfl (by decide) (by decide)) ac (by rfl)) (by rfl)) (by decide) (by decide) (by rfl) (by rfl)) (by intro _;rfl))) (@bW _ _ _ _ (@aZ _ _ _ _ (@iG _ _ _ _ _ _ _ _ _ _ _ _ gW gW ae (@ai _ _ _ _ _ _ _ _ _ aF rfl B.ilen aaN (@aa _ _ _ _ _ (pv 0) ac (by rfl)) (by decide) (by decide) (by rfl) (by rfl)) (@ig _ _ (.int 9) _ _ rfl B3.gMOST_NUMBERS ⟨_,rfl⟩ (by decide)) (by with_unfolding_all rfl)))))) (@af _ _ _ (@ap _ _ _ _ bo)) aA) (@af _ _ _ (@ap _ _ _ _ (@ai _ _ _ _ _ _ _ _ _ (@dg _ rfl) rfl B.iall abt (@aa _ _ _ _ _ (@cA _ _ _ _ _ _ _ _ (["number"]) ([none]) _ _ _ _ rfl (@ba _ _ _ _ (pv 0)) rfl trivial trivial (fun _ _ _ _=>⟨(@ak _ _ (0) _ (show aa7 (["number"]:List Str) by decide +kernel) rfl (Or.inl rfl) (.inr rfl)),aX,(@aq _ _ _ _ _ _ _ _ _ _ _ C_is_whole hr (by lia) rfl (@aa _ _ _ _ _ (pv 0) ac (by rfl)) (by decide) (by rfl) (by rfl))⟩) (by rfl) (by rfl) (by rfl) (by rfl) (by intro _;rfl)) ac (by rfl)) (by decide) (by decide) (by rfl) (by rfl))))),?_⟩;have hl:(ns.map V.int).length=ns.length:=aaa _;refine ⟨_,rfl,_,_,true,rfl,.lst ea,rfl,true,rfl,aM ?_⟩;refine ⟨_,rfl,a,_,rfl,.inl (SqL.of ea),_,_,rfl,rfl,true,congrArg V.bl (decide_eq_true (by lia)),aR ?_⟩;refine ⟨_,_,rfl,rfl,true,congrArg V.bl (decide_eq_true (by lia)),aM ?_⟩;refine ⟨_,rfl,a,rfl,⟨_,SqL.of ea⟩,?_⟩;refine cJ (Trn.list (xs:=ns.map V.int)) (fun i ys H'=>H'=H∧ys=(aaZ i true).map V.bl) ⟨rfl,rfl⟩ (fun i ys H' hi p=>by rw [p.1,p.2];exact ⟨SqL.of ea,au (by simp;lia)⟩) (fun i x ys H1 H' hi hx p Nx nx=>?_) (fun ys H' p p5 n5=>?_)
  · obtain ⟨rfl,rfl⟩:=p;obtain ⟨rfl,hx⟩:=hx;rw [aak] at hx;obtain ⟨c,_,rfl⟩:=aaz.mp hx;refine ⟨_,rfl,_,_,rfl,.int c,nx _ _ ⟨rfl,?_⟩⟩;rw [List.replicate_succ',aaG];rfl
  obtain ⟨rfl,rfl⟩:=p;refine ⟨p5,_,rfl,SqL.of ad,?_⟩;have e:((aaZ (ns.map V.int).length true).all id)=true:=by simp
  rw [e];exact q _ (Same.new n5 _)
def gi:Sp:=fun vs H Q _=>∃ (a:Addr) (ns:List Int),vs=[.ref a]∧H a=some (.lst (ns.map V.int))∧1≤ns.length∧ns.length≤9∧∀ H',Same H H'→Q .non H'
abbrev fw:Stmt:=top 10
theorem lD:FnScope ["thing"] ["thing"] (ao fw):=⟨rfl,rfl,rfl,by decide +kernel,rfl,by decide +kernel,by decide +kernel⟩
theorem lZ (F:Fun K "need_row" "need_row" fw f fd) (C_is_row:Cal P w K mg base "is_row" 2 ["thing"] j_):FnOk P w K mg base CX0 3 f fd ["thing"] gi:=by
  refine F.ok lD (fun vs H Q E h=>?_) (fun cdv A outer s H vs Q E hr h=>?_)
  · obtain ⟨x,v,rfl,_⟩:=h;rfl
  obtain ⟨a,ns,rfl,ea,h1,h2,q⟩:=h;refine ⟨_,(@af _ _ _ (@aI _ _ _ _ _ _ _ _ (@aZ _ _ _ _ (@aU _ _ _ (@aq _ _ _ _ _ _ _ _ _ _ _ C_is_row hr (by lia) rfl (@aa _ _ _ _ _ (pv 0) ac (by rfl)) (by decide) (by rfl) (by rfl)) (by intro _;rfl))) (@af _ _ _ lN) aA)),?_⟩;exact ⟨_,rfl,a,ns,rfl,ea,h1,h2,fun H' hS=>⟨true,rfl,aM (q H' hS)⟩⟩
def tj:Sp:=fun vs H Q _=>∃ n:Nat,vs=[.int n]∧n≤9∧∀ p us H',Same H H'→H p=none→H' p=some (.lst us)→PairsIn H' (sfl n n) us→Q (.ref p) H'
abbrev cL:Stmt:=top 12
theorem gn:FnScope ["many"] ["many"] (ao cL):=⟨rfl,rfl,rfl,by decide +kernel,rfl,by decide +kernel,by decide +kernel⟩
theorem gA (F:Fun K "shorter_first" "shorter_first" cL f fd) (B:Bu K mg):FnOk P w K mg base CX0 1 f fd ["many"] tj:=by
  refine F.ok gn (fun vs H Q E h=>?_) (fun cdv A outer s H vs Q E hr h=>?_)
  · obtain ⟨l,rfl,_⟩:=h;rfl
  obtain ⟨n,rfl,h9,q⟩:=h;refine ⟨_,(@af _ _ _ (@ap _ _ _ _ (@vf _ _ _ _ _ _ _ _ _ _ _ (["more","first","many"]) ([none,none,some 0]) _ _ _ _ _ _ _ rfl (@bE _ _ _ _ _ _ rfl B.irange (@aa _ _ _ _ _ (pv 0) ac (by rfl)) (by rfl)) rfl ⟨rfl,trivial⟩ ⟨⟨rfl,Or.inl rfl,Or.inl rfl⟩,trivial⟩ (fun _ _ _ _=>⟨(@ak _ _ (0) _ (show aa7 (["more","first","many"]:List Str) by decide +kernel) rfl (Or.inl rfl) (.inr rfl)),aX,(@bE _ _ _ _ _ _ rfl B.irange (@aa _ _ _ _ _ (@az _ _ _ _ _ _ _ _ fH (pv 2) (pv 0)) ac (by rfl)) (by rfl)),(@ak _ _ (1) _ (show aa7 (["more","first","many"]:List Str) by decide +kernel) rfl (Or.inl rfl) (.inr rfl)),aX,(@aH _ _ _ _ _ (@aa _ _ _ _ _ (pv 1) (@aa _ _ _ _ _ (@az _ _ _ _ _ _ _ _ bh (pv 1) (pv 0)) ac (by rfl)) (by rfl)))⟩) (by rfl) (by rfl) (by rfl) (by rfl) (by intro _;rfl) (by intro _ _;rfl)))),?_⟩;refine ⟨_,rfl,n,rfl,by lia,by lia,?_⟩;refine vz (Trn.range (lo:=0) (n:=(n:Int).toNat)) (fun i ys H'=>Same H H'∧PairsIn H' (sfl n i) ys) ⟨Same.refl _,.nil⟩ (fun i ys H' hi p=>trivial) (fun i x ys H1 H' hi hx p Nx nx=>?_) (fun ys H' p p5 n5=>?_)
  · obtain ⟨rfl,rfl⟩:=hx;obtain ⟨S,hp⟩:=p;have hl:=hp.length;have hb:=ic n i;have hn:(n:Int).toNat=n:=by lia
    have hin:i < n:=by lia
    have hb2:i * n≤9 * 9:=ac1 (by lia) h9;have en:((n:Int) - (0+(i:Int))).toNat=n - i:=by lia
    refine ⟨_,rfl,_,rfl,_,_,rfl,rfl,(n:Int) - (0+(i:Int)),rfl,by lia,by lia,?_⟩;refine vw (Trn.range (lo:=0) (n:=((n:Int) - (0+(i:Int))).toNat)) (fun j zs σ H2=>Same H H2∧(∃ c,σ=[some (.int (0+(i:Int))),c,some (.int n)])∧PairsIn H2 (sfl n i++(sfR n i).take j) zs) ⟨S,⟨_,rfl⟩,by simpa using hp⟩ (fun j zs σ H2 hj p=>⟨trivial,au (by have:=p.2.2.length;rw [← this,aaw,aaL];lia)⟩) (fun j x zs σ H2 H3 hj hx p Ny ny=>?_) (fun zs σ H2 p=>?_)
    · obtain ⟨rfl,rfl⟩:=hx;obtain ⟨S2,⟨c,rfl⟩,hp2⟩:=p;refine ⟨_,rfl,_,rfl,_,rfl,_,_,rfl,rfl,(by show 2≤sizeLine;decide),fun t ht=>ny _ _ _ ⟨S2.trans (Same.new ht _),⟨_,rfl⟩,?_⟩⟩;have s3:=Same.new ht (.tup [.int (0+(j:Int)),.int (0+(j:Int)+(0+(i:Int)))]);have e:(sfR n i).take (j+1)=(sfR n i).take j++[(((j:Nat):Int),((j+i:Nat):Int))]:=by
        rw [aaE];have : (sfR n i)[j]?=some (((j:Nat):Int),((j+i:Nat):Int)):=by
          unfold sfR;rw [aak,abp (by lia)];rfl
        rw [this];rfl
      rw [e,← abb];refine PairsIn.snoc (PairsIn.mono (Tups.of s3) hp2) ⟨t,rfl,?_⟩;rw [ad];have e1:(0:Int)+(j:Int)=((j:Nat):Int):=by lia
      have e2:(0:Int)+(j:Int)+(0+(i:Int))=((j+i:Nat):Int):=by lia
      show some (HO.tup [V.int (0+(j:Int)),V.int (0+(j:Int)+(0+(i:Int)))])=some (HO.tup [V.int ((j:Nat):Int),V.int ((j+i:Nat):Int)]);rw [e2,e1]
    · obtain ⟨S2,⟨c,rfl⟩,hp2⟩:=p;refine nx _ _ ⟨S2,?_⟩;rw [en,aa3 (by simp [sfR]),← ls] at hp2;exact hp2
  · obtain ⟨S,hp⟩:=p;have hn:(n:Int).toNat=n:=by lia
    rw [hn] at hp;have s5:=Same.new n5 (.lst ys);exact q p5 ys _ (S.trans s5) (S.free n5) ad (PairsIn.mono (Tups.of s5) hp)
def gj:Sp:=fun vs H Q _=>∃ gs,vs=[.str (aB gs)]∧e_ gs∧Q (.bl true) H
abbrev fA:Stmt:=top 9
theorem lF:FnScope ["thing"] ["thing"] (ao fA):=⟨rfl,rfl,rfl,by decide +kernel,rfl,by decide +kernel,by decide +kernel⟩
theorem l7 {tk:Tok} {aP:Addr} (F:Fun K "is_signs" "is_signs" fA f fd) (B:Bu K mg) (B3:Cp K mg tk aP):FnOk P w K mg base CX0 1 f fd ["thing"] gj:=by
  refine F.ok lF (fun vs H Q E h=>?_) (fun cdv A outer s H vs Q E hr h=>?_)
  · obtain ⟨x,rfl,_⟩:=h;rfl
  obtain ⟨gs,rfl,hs,q⟩:=h;refine ⟨_,(@af _ _ _ (@ap _ _ _ _ (@dU _ _ _ _ _ _ _ (@ai _ _ _ _ _ _ _ _ _ (@aD _ ("str")) rfl B.iisinstance aah (@aa _ _ _ _ _ (pv 0) (@aa _ _ _ _ _ (@aL _ _ (.ty "str") _ _ rfl B.istr acs rfl (by decide) (by decide)) ac (by rfl)) (by rfl)) (by decide) (by decide) (by rfl) (by rfl)) (@eU _ _ _ _ _ (@bp _ _ _ _ _ _ _ _ gz (pv 0) (@ig _ _ (.ref aP) _ _ rfl B3.gSIGNS_TO_PUT rfl (by decide)) (by with_unfolding_all rfl)))))),?_⟩;refine ⟨_,rfl,_,_,true,rfl,.str _,rfl,true,rfl,aR ⟨_,rfl,aP,_,rfl,.inr (B3.sSIGNS_TO_PUT H),rfl,rfl,?_⟩⟩;show Q (.bl (inV (.str (aB gs)) ki)) H;rw [show inV (.str (aB gs)) ki=true from hs];exact q
def eI:Sp:=fun vs H Q _=>∃ gs,vs=[.str (aB gs)]∧e_ gs∧Q .non H
abbrev dG:Stmt:=top 11
theorem jm:FnScope ["thing"] ["thing"] (ao dG):=⟨rfl,rfl,rfl,by decide +kernel,rfl,by decide +kernel,by decide +kernel⟩
theorem jq (F:Fun K "need_signs" "need_signs" dG f fd) (C_is_signs:Cal P w K mg base "is_signs" 1 ["thing"] gj):FnOk P w K mg base CX0 2 f fd ["thing"] eI:=by
  refine F.ok jm (fun vs H Q E h=>?_) (fun cdv A outer s H vs Q E hr h=>?_)
  · obtain ⟨x,rfl,_⟩:=h;rfl
  obtain ⟨gs,rfl,hs,q⟩:=h;refine ⟨_,(@af _ _ _ (@aI _ _ _ _ _ _ _ _ (@aZ _ _ _ _ (@aU _ _ _ (@aq _ _ _ _ _ _ _ _ _ _ _ C_is_signs hr (by lia) rfl (@aa _ _ _ _ _ (pv 0) ac (by rfl)) (by decide) (by rfl) (by rfl)) (by intro _;rfl))) (@af _ _ _ lN) aA)),?_⟩;exact ⟨_,rfl,gs,rfl,hs,true,rfl,aM q⟩
end
open PySem L2
def wl (s:Nat) (L:List Int) (n l:Nat):Int:=(s:Int) * L.getD l 0 * L.getD (n - l) 0
def cl (s:Nat):Nat→List Int
  | 0=>[0,1]
  | k+1=>cl s k++[((aaO (k+1)).map fun j=>wl s (cl s k) (k+2) (1+j)).sum]
section
variable {P:Program} {w:World} {K:aab} {mg:Str→Option Value} {base:Heap} {f:Addr} {fd:FuncData}
end
open PySem L2
def ky (p:Int × Int):List Key:=[Sum.inl p.1,Sum.inl p.2]
theorem kL {p q:Int × Int} (h:ky p=ky q):p=q:=by
  obtain ⟨a,b⟩:=p;obtain ⟨c,d⟩:=q;simp [ky] at h;rw [h.1,h.2]
theorem PairIn.key {H:Hp} {p:Int × Int} {v:V} (h:PairIn H p v):∃ b,v=.ref b∧H b=some (.tup ((ky p).map kV)):=h
def CutIn (H:Hp) (p:Int × Int) (c:Int) (v:V):Prop:=∃ a x y,v=.ref a∧H a=some (.tup [x,y])∧PairIn H (p.1,c) x∧PairIn H (c+1,p.2) y
theorem PairIn.mono {H H':Hp} {p:Int × Int} {v:V} (t:Tups H H') (h:PairIn H p v):PairIn H' p v:=by
  obtain ⟨a,e,h⟩:=h;exact ⟨a,e,t _ _ h⟩
theorem CutIn.mono {H H':Hp} {p:Int × Int} {c:Int} {v:V} (t:Tups H H') (h:CutIn H p c v):CutIn H' p c v:=by
  obtain ⟨a,x,y,e,h1,h2,h3⟩:=h;exact ⟨a,x,y,e,t _ _ h1,PairIn.mono t h2,PairIn.mono t h3⟩
def jv (p:Int × Int):List Int:=(aaO (p.2 - p.1).toNat).map fun (k:Nat)=>p.1+(k:Int)
theorem Paired.snoc {α β:Type} {F:α→β→Prop} {as:List α} {us:List β} {a:α} {u:β} (h:Paired F as us) (x:F a u):Paired F (as++[a]) (us++[u]):=by
  induction h with
  | nil=>exact .cons x .nil
  | cons y _ ih=>exact .cons y ih
theorem Paired.at {α β:Type} {F:α→β→Prop} {as:List α} {us:List β} (p:Paired F as us):∀ {j:Nat} {x:β},us[j]?=some x→∃ a,as[j]?=some a∧F a x:=by
  induction p with
  | nil=>intro j x h;cases h
  | cons a b ih =>
    intro j x h;cases j with
    | zero=>cases h;exact ⟨_,rfl,a⟩
    | succ j=>exact ih (j:=j) h
def Sg.op:Sg→Int→Int→Int
  | .plus,a,b=>a+b
  | .minus,a,b=>a - b
  | .times,a,b=>a * b
theorem mT (x y:Str):(x++y).cps.toList=x.cps.toList++y.cps.toList:=by
  obtain ⟨a⟩:=x;obtain ⟨b⟩:=y;show (a++b).toList=_;rw [Array.toList_append]
def Sg.code:Sg→Nat
  | .plus=>43
  | .minus=>45
  | .times=>42
theorem b_ (g:Sg):g.str=⟨#[g.code]⟩:=by cases g <;> rfl
theorem cQ:∀ gs:List Sg,(aB gs).cps.toList=gs.map Sg.code
  | []=>rfl
  | g :: r=>by
    show (g.str++aB r).cps.toList=g.code :: r.map Sg.code;rw [mT,cQ r,b_];rfl
theorem dE (gs:List Sg):(aB gs).cps.all (· < 128)=true:=by
  rw [← Array.all_toList,cQ,aaU];intro c hc;obtain ⟨g,_,rfl⟩:=aar.mp hc;cases g <;> decide
theorem ow {gs:List Sg} {i c:Nat} (h:(aB gs).cps[i]?=some c):∃ g,gs[i]?=some g∧c=g.code:=by
  have h2:(aB gs).cps.toList[i]?=some c:=by simpa using h
  rw [cQ,aak] at h2;obtain ⟨g,hg,e⟩:=aaz.mp h2;exact ⟨g,hg,e.symm⟩
theorem ou (gs:List Sg):(aB gs).cps.size=gs.length:=by
  have:=congrArg abJ (cQ gs);simpa using this
section
variable {P:Program} {w:World} {K:aab} {mg:Str→Option Value} {base:Heap} {f:Addr} {fd:FuncData}
def mY:Sp:=fun vs H Q _=>∃ p v,vs=[v]∧PairIn H p v∧0≤p.1∧p.1≤p.2∧p.2 < 100∧∀ a us H',Same H H'→H a=none→H' a=some (.lst us)→Paired (CutIn H' p) (jv p) us→Q (.ref a) H'
abbrev gu:Stmt:=top 14
theorem ft:FnScope ["stretch","first","last"] ["stretch"] (ao gu):=⟨rfl,rfl,rfl,by decide +kernel,rfl,by decide +kernel,by decide +kernel⟩
theorem nF (F:Fun K "cuts_of" "cuts_of" gu f fd) (B:Bu K mg):FnOk P w K mg base CX0 1 f fd ["stretch"] mY:=by
  refine F.ok ft (fun vs H Q E h=>?_) (fun cdv A outer s H vs Q E hr h=>?_)
  · obtain ⟨p,v,rfl,_⟩:=h;rfl
  obtain ⟨p,v,rfl,⟨a,rfl,ha⟩,h1,h2,h3,q⟩:=h;refine ⟨_,(@ag _ _ _ _ _ (@eS _ _ _ _ _ _ (pv 0) (@dS _ _ _ _ _ _ rfl (@aY _ _ _ _ _ (@ak _ _ (1) _ (ft).nd rfl (Or.inr rfl) (.inl rfl)) (@aY _ _ _ _ _ (@ak _ _ (2) _ (ft).nd rfl (Or.inr rfl) (.inl rfl)) cR (by rfl)) (by rfl)) (by rfl) (by rfl)) (by rfl) (by rfl) (by rfl)) (@af _ _ _ (@ap _ _ _ _ (@cA _ _ _ _ _ _ _ _ (["cut","first","last"]) ([none,some 1,some 2]) _ _ _ _ rfl (@du _ _ _ _ _ _ _ rfl B.irange (@aa _ _ _ _ _ (pv 1) (@aa _ _ _ _ _ (pv 2) ac (by rfl)) (by rfl)) (by rfl) (by rfl)) rfl ⟨rfl,⟨rfl,trivial⟩⟩ ⟨⟨rfl,Or.inl rfl,Or.inl rfl⟩,⟨⟨rfl,Or.inl rfl,Or.inl rfl⟩,trivial⟩⟩ (fun _ _ _ _=>⟨(@ak _ _ (0) _ (show aa7 (["cut","first","last"]:List Str) by decide +kernel) rfl (Or.inl rfl) (.inr rfl)),aX,(@aH _ _ _ _ _ (@aa _ _ _ _ _ (@aH _ _ _ _ _ (@aa _ _ _ _ _ (pv 1) (@aa _ _ _ _ _ (pv 0) ac (by rfl)) (by rfl))) (@aa _ _ _ _ _ (@aH _ _ _ _ _ (@aa _ _ _ _ _ (@az _ _ _ _ _ _ _ _ bh (pv 0) ae) (@aa _ _ _ _ _ (pv 2) ac (by rfl)) (by rfl))) ac (by rfl)) (by rfl)))⟩) (by rfl) (by rfl) (by rfl) (by rfl) (by intro _;rfl))))),?_⟩;refine ⟨_,rfl,a,_,rfl,SqT.of ha,rfl,_,_,rfl,_,_,rfl,rfl,?_⟩;refine ⟨_,rfl,_,rfl,p.1,p.2,rfl,⟨by lia,by lia,by lia,by lia⟩,?_⟩;refine cJ (Trn.range (lo:=p.1) (n:=(p.2 - p.1).toNat)) (fun i ys H'=>Same H H'∧Paired (CutIn H' p) ((jv p).take i) ys) ⟨Same.refl _,.nil⟩ (fun i ys H' hi z=>⟨trivial,au (by have:=z.2.length;rw [← this,aaL];lia)⟩) (fun i x ys H0 H' hi hx z Nx nx=>?_) (fun ys H' z p5 n5=>?_)
  · obtain ⟨rfl,rfl⟩:=hx;obtain ⟨S,hp⟩:=z;have t2:(2:Nat)≤sizeLine:=by decide
    refine ⟨_,rfl,_,rfl,t2,fun t ht=>?_⟩;have st:=Same.new ht (.tup [.int p.1,.int (p.1+(i:Int))]);refine ⟨_,rfl,_,_,rfl,rfl,_,rfl,t2,fun u hu=>⟨t2,fun v hv=>nx _ _ ?_⟩⟩;have su:=Same.new hu (.tup [.int (p.1+(i:Int)+1),.int p.2]);have sv:=Same.new hv (.tup [.ref t,.ref u]);have S3:=(st.trans su).trans sv;refine ⟨S.trans S3,?_⟩;have e:(jv p).take (i+1)=(jv p).take i++[p.1+(i:Int)]:=by
      rw [aaE];have : (jv p)[i]?=some (p.1+(i:Int)):=by
        unfold jv;rw [aak,abp hi];rfl
      rw [this];rfl
    rw [e];exact Paired.snoc (Paired.mapP hp fun _ _ h=>CutIn.mono (Tups.of S3) h) ⟨v,_,_,rfl,ad,⟨t,rfl,sv _ _ (su _ _ ad)⟩,⟨u,rfl,sv _ _ ad⟩⟩
  · obtain ⟨S,hp⟩:=z;rw [aa3 (by simp [jv])] at hp;have s5:=Same.new n5 (.lst ys);exact q p5 ys _ (S.trans s5) (S.free n5) ad (Paired.mapP hp fun _ _ h=>CutIn.mono (Tups.of s5) h)
def gh:Sp:=fun vs H Q _=>∃ a g b,vs=[.int a,.str (Sg.str g),.int b]∧a.natAbs < 2 ^ 4000∧b.natAbs < 2 ^ 4000∧Q (.int (g.op a b)) H
abbrev fu:Stmt:=top 16
theorem lC:FnScope ["left","sign","right"] ["left","sign","right"] (ao fu):=⟨rfl,rfl,rfl,by decide +kernel,rfl,by decide +kernel,by decide +kernel⟩
theorem lY (F:Fun K "put_sign" "put_sign" fu f fd):FnOk P w K mg base CX0 1 f fd ["left","sign","right"] gh:=by
  refine F.ok lC (fun vs H Q E h=>?_) (fun cdv A outer s H vs Q E hr h=>?_)
  · obtain ⟨a,g,b,rfl,_⟩:=h;rfl
  obtain ⟨a,g,b,rfl,ha,hb,q⟩:=h;refine ⟨_,(@ag _ _ _ _ _ (@aI _ _ _ _ _ _ _ _ (@aE _ _ _ _ _ _ _ _ bD (pv 1) bK (aC _)) (@af _ _ _ (@ap _ _ _ _ (@az _ _ _ _ _ _ _ _ bh (pv 0) (pv 2)))) aA) (@ag _ _ _ _ _ (@aI _ _ _ _ _ _ _ _ (@aE _ _ _ _ _ _ _ _ bD (pv 1) bK (aC _)) (@af _ _ _ (@ap _ _ _ _ (@az _ _ _ _ _ _ _ _ fH (pv 0) (pv 2)))) aA) (@af _ _ _ (@ap _ _ _ _ (@az _ _ _ _ _ _ _ _ fY (pv 0) (pv 2)))))),?_⟩;cases g with
  | plus=>exact ⟨_,rfl,rfl,_,rfl,oP rfl ⟨_,rfl,_,rfl,_,_,rfl,rfl,q⟩⟩
  | minus=>exact ⟨_,rfl,rfl,_,rfl,jN (by decide +kernel) ⟨_,rfl,rfl,_,rfl,oP rfl ⟨_,rfl,_,rfl,_,_,rfl,rfl,q⟩⟩⟩
  | times=>exact ⟨_,rfl,rfl,_,rfl,jN (by decide +kernel) ⟨_,rfl,rfl,_,rfl,jN (by decide +kernel) ⟨_,rfl,_,rfl,_,_,rfl,rfl,⟨ha,hb⟩,q⟩⟩⟩
end
open PySem L2
mutual
def szX:PyData→Nat
  | .list ds=>szXs ds+1
  | .tuple ds=>szXs ds+1
  | .none=>1
  | .bool _=>1
  | .int _=>1
  | .str _=>1
  | .dict kvs=>szKv kvs+1
def szXs:List PyData→Nat
  | []=>0
  | d :: ds=>szX d+szXs ds
def szKv:List (PyData × PyData)→Nat
  | []=>0
  | (k,d) :: r=>szX k+szX d+szKv r
end
mutual
def OkX:PyData→Prop
  | .none=>True
  | .bool _=>True
  | .int i=>i.natAbs < 10 ^ 280
  | .str x=>(reprText x).length≤1000
  | .list ds=>OkXs ds
  | .tuple ds=>OkXs ds
  | .dict kvs=>OkKv kvs
def OkXs:List PyData→Prop
  | []=>True
  | d :: ds=>OkX d∧OkXs ds
def OkKv:List (PyData × PyData)→Prop
  | []=>True
  | (k,d) :: r=>OkX k∧OkX d∧OkKv r
end
mutual
theorem ii : ∀ d:PyData,OkX d→d.showable=true
  | .none,h=>by simp [ab7]
  | .bool _,h=>by simp [ab7]
  | .int i,h=>by
    simp only [OkX] at h;have z:(10:Nat) ^ 280 < 2 ^ 940:=by decide +kernel
    have : i.natAbs.log2 < 940:=by
      by_cases c:i.natAbs=0
      · rw [c];decide
      · exact (Nat.log2_lt c).mpr (ac7 h z)
    simp only [ab7];exact decide_eq_true (by lia)
  | .str _,h=>by simp [ab7]
  | .list ds,h=>by simp only [OkX] at h;simp only [ab7];exact ok_showAll ds h
  | .tuple ds,h=>by simp only [OkX] at h;simp only [ab7];exact ok_showAll ds h
  | .dict kvs,h=>by simp only [OkX] at h;simp only [ab7];exact ok_showKv kvs h
theorem ok_showAll:∀ ds:List PyData,OkXs ds→PyData.showableAll ds=true
  | [],h=>by simp [PyData.showableAll]
  | d :: ds,h=>by
    simp only [OkXs] at h;simp only [PyData.showableAll,ii d h.1,ok_showAll ds h.2,Bool.and_self]
theorem ok_showKv:∀ kvs:List (PyData × PyData),OkKv kvs→PyData.showableKv kvs=true
  | [],h=>by simp [PyData.showableKv]
  | (k,d) :: r,h=>by
    simp only [OkKv] at h;simp only [PyData.showableKv,ii k h.1,ii d h.2.1,ok_showKv r h.2.2,Bool.and_self]
end
mutual
theorem kz:∀ d:PyData,OkX d→d.shown.length+5≤1010 * szX d
  | .none,h=>by show 4+5≤1010 * szX .none;simp [szX]
  | .bool b,h=>by cases b <;> (simp only [szX];decide)
  | .int i,h=>by
    simp only [OkX] at h;have e:=int_text_length_le10 (a:=i) (k:=280) (by decide) h;simp only [szX];show (abB (toString i)).length+5≤1010;rw [ofString_length];lia
  | .str x,h=>by
    simp only [OkX] at h;simp only [szX,PyData.shown];lia
  | .list ds,h=>by
    simp only [OkX] at h;have a:=ok_lenAll ds h;have b:=listText_len_le (acP ds);have c:=PyData.shownAll_length ds;simp only [szX,PyData.shown];lia
  | .tuple ds,h=>by
    simp only [OkX] at h;have a:=ok_lenAll ds h;have b:=tupleText_len_le (acP ds);have c:=PyData.shownAll_length ds;simp only [szX,PyData.shown];lia
  | .dict kvs,h=>by
    simp only [OkX] at h;have a:=ok_lenKv kvs h;have b:=dictText_len_le (PyData.shownKv kvs);have c:=PyData.shownKv_length kvs;simp only [szX,PyData.shown];lia
theorem ok_lenAll:∀ ds:List PyData,OkXs ds→((acP ds).map (·.length)).sum+5 * ds.length≤1010 * szXs ds
  | [],h=>by simp [acP,szXs]
  | d :: ds,h=>by
    simp only [OkXs] at h;have a:=kz d h.1;have b:=ok_lenAll ds h.2;simp only [acP,szXs,aae,List.sum_cons,aaC];lia
theorem ok_lenKv:∀ kvs:List (PyData × PyData),OkKv kvs→((PyData.shownKv kvs).map (·.length)).sum+5 * kvs.length≤1010 * szKv kvs
  | [],h=>by simp [PyData.shownKv,szKv]
  | (k,d) :: r,h=>by
    simp only [OkKv] at h;have a:=kz k h.1;have b:=kz d h.2.1;have c:=ok_lenKv r h.2.2;have e2:(k.shown ++ ": " ++ d.shown).length=k.shown.length+2+d.shown.length:=by
      rw [strLen_append,strLen_append];rfl
    simp only [PyData.shownKv,szKv,aae,List.sum_cons,aaC];lia
end
theorem t0 {d:PyData} (h:OkX d) (hs:szX d≤14900):d.shown.length≤sizeLine:=by
  have:=kz d h;exact aa1 (show _≤15049000 by lia) (by rw [sizeLine_eq];decide)
def prD:PyData→Option (Int × Int)
  | .tuple [.int a,.int b]=>some (a,b)
  | _=>none
section
variable {P:Program} {w:World} {K:aab} {mg:Str→Option Value} {base:Heap} {f:Addr} {fd:FuncData}
end
open PySem L2
theorem iC (n:Nat):∀ p∈sfl n n,0≤p.1∧p.1≤p.2∧p.2 < n:=fun p hp=>by
  unfold sfl sfR at hp;rw [List.mem_flatMap] at hp;obtain ⟨m,hm,hp⟩:=hp;rw [List.mem_map] at hp;obtain ⟨f,hf,rfl⟩:=hp;rw [List.mem_range] at hf;simp only;lia
theorem pB:∀ n,n≤9→(sfl n n).Nodup:=by decide +kernel
theorem m4 {n:Nat} {q:Int × Int} (h0:0≤q.1) (h1:q.1≤q.2) (h2:q.2 < n):q∈sfl n n:=by
  have:=ox n q.1.toNat q.2.toNat (by lia) (by lia)
  rwa [show ((q.1.toNat:Nat):Int)=q.1 by lia,show ((q.2.toNat:Nat):Int)=q.2 by lia] at this
def two (p:Int × Int):List Int:=[p.1,p.2]
abbrev PPa:=List (MK × PyData)
def lkP (ps:PPa) (q:Int × Int):Option PyData:=(ps.find? fun p=>decide (p.1=.tup [q.1,q.2])).map (·.2)
def PaIn (w:World) (H:Hp) (a:Addr) (ps:PPa):Prop:=∃ es,Pd w H a es∧Paired (fun (p:MK × PyData) (e:MK × V)=>p.1=e.1∧Dat H p.2 e.2) ps es
theorem PaIn.mono {w:World} {H H':Hp} {a:Addr} {ps:PPa} (g:Same H H') (h:PaIn w H a ps):PaIn w H' a ps:=by
  obtain ⟨es,h1,h2⟩:=h;exact ⟨es,h1.mono g,Paired.mapP h2 fun _ _ z=>⟨z.1,Dat.mono g _ _ z.2⟩⟩
theorem nz {H:Hp} {ps:PPa} {es:List (MK × V)} (h:Paired (fun (p:MK × PyData) (e:MK × V)=>p.1=e.1∧Dat H p.2 e.2) ps es) (q:Int × Int) :
    (lkP ps q=none∧bg es (.tup [q.1,q.2])=none)∨∃ d v,lkP ps q=some d∧bg es (.tup [q.1,q.2])=some v∧Dat H d v:=by
  induction h with
  | nil=>exact .inl ⟨rfl,rfl⟩
  | @cons p e ps es h t ih =>
    by_cases c:p.1=.tup [q.1,q.2]
    · right;exact ⟨p.2,e.2,by simp [lkP,abe,c],dr (h.1.symm.trans c),h.2⟩
    · have e1:lkP (p :: ps) q=lkP ps q:=by simp [lkP,abe,c]
      rw [e1,dt (fun z=>c (h.1.trans z))];exact ih
def ThIn (w:World) (K:aab) (H:Hp) (t:Option PPa) (v:V):Prop:=match t with
  | some ps=>∃ a,v=.ref a∧PaIn w H a ps
  | none=>∃ n,TyOf K H v (.type n)∧ach K (.type n) (.type "dict")=some false
theorem TyOf.same {K:aab} {H H':Hp} {v:V} {t:Value} (g:Same H H') (h:TyOf K H v t):TyOf K H' v t:=by
  cases h with
  | non=>exact .non
  | bl x=>exact .bl x
  | int i=>exact .int i
  | str x=>exact .str x
  | flt x=>exact .flt x
  | lst e=>exact .lst (g _ _ e)
  | frz e=>exact .frz (g _ _ e)
  | tup e=>exact .tup (g _ _ e)
  | dK e=>exact .dK (g _ _ e)
  | dT e=>exact .dT (g _ _ e)
  | ins e a b c d f=>exact .ins (g _ _ e) a b c d f
theorem ThIn.mono {w:World} {K:aab} {H H':Hp} {t:Option PPa} {v:V} (g:Same H H') (h:ThIn w K H t v):ThIn w K H' t v:=by
  cases t with
  | some ps=>obtain ⟨a,e,h⟩:=h;exact ⟨a,e,h.mono g⟩
  | none=>obtain ⟨n,h1,h2⟩:=h;exact ⟨n,TyOf.same g h1,h2⟩
def eE (n:Nat):Option PPa→Bool
  | none=>false
  | some ps=>decide (ps.length=(sfl n n).length) && (sfl n n).all fun q=>(lkP ps q).isSome
theorem cD (n:Nat) (ps:PPa):eE n (some ps)=(decide (ps.length=(sfl n n).length) && (sfl n n).all fun q=>(lkP ps q).isSome):=rfl
theorem eZ {α:Type} {l:List α} {f:α→Bool} {i:Nat} {x:α} (h:l[i]?=some x):(l.take (i+1)).map f=(l.take i).map f++[f x]:=by
  rw [aaE,h,aaG];rfl
section
variable {P:Program} {w:World} {K:aab} {mg:Str→Option Value} {base:Heap} {f:Addr} {fd:FuncData}
def iA (w:World) (K:aab):Sp:=fun vs H Q _=>∃ (t:Option PPa) (v:V) (n:Nat),vs=[v,.int n]∧n≤9∧ThIn w K H t v∧∀ H',Same H H'→Q (.bl (eE n t)) H'
abbrev bP:Stmt:=top 13
theorem cG:FnScope ["thing","many","stretches"] ["thing","many"] (ao bP):=⟨rfl,rfl,rfl,by decide +kernel,rfl,by decide +kernel,by decide +kernel⟩
theorem eW (F:Fun K "has_all_stretches" "has_all_stretches" bP f fd) (B:Bu K mg) (C_shorter_first:Cal P w K mg base "shorter_first" 1 ["many"] tj):FnOk P w K mg base CX0 2 f fd ["thing","many"] (iA w K):=by
  refine F.ok cG (fun vs H Q E h=>?_) (fun cdv A outer s H vs Q E hr h=>?_)
  · obtain ⟨t,v,n,rfl,_⟩:=h;rfl
  obtain ⟨t,v,n,rfl,h9,ht,q⟩:=h;refine ⟨_,(@ag _ _ _ _ _ (@aG _ _ (2) _ _ _ _ (cG).nd rfl (Or.inl rfl) (@aq _ _ _ _ _ _ _ _ _ _ _ C_shorter_first hr (by lia) rfl (@aa _ _ _ _ _ (pv 1) ac (by rfl)) (by decide) (by rfl) (by rfl)) (by rfl) (by first|exact .inl rfl|exact .inr rfl|assumption)) (@ag _ _ _ _ _ (@aI _ _ _ _ _ _ _ _ (@PW.pt _ _ _ (@cH _ _ _ _ _ _ _ (@aZ _ _ _ _ (@aU _ _ _ (@ai _ _ _ _ _ _ _ _ _ (@ge _ ("dict") (w) _ rfl rfl) rfl B.iisinstance aah (@aa _ _ _ _ _ (pv 0) (@aa _ _ _ _ _ (@aL _ _ (.ty "dict") _ _ rfl B.idict abd rfl (by decide) (by decide)) ac (by rfl)) (by rfl)) (by decide) (by decide) (by rfl) (by rfl)) (by intro _;rfl))) (@bW _ _ _ _ (@aE _ _ _ _ _ _ _ _ gS (@ai _ _ _ _ _ _ _ _ _ (@jS _ (w) rfl) rfl B.ilen aaN (@aa _ _ _ _ _ (pv 0) ac (by rfl)) (by decide) (by decide) (by rfl) (by rfl)) (@ai _ _ _ _ _ _ _ _ _ aF rfl B.ilen aaN (@aa _ _ _ _ _ (pv 2) ac (by rfl)) (by decide) (by decide) (by rfl) (by rfl)) (aC _))))) (@af _ _ _ (@ap _ _ _ _ bo)) aA) (@af _ _ _ (@ap _ _ _ _ (@ai _ _ _ _ _ _ _ _ _ (@dg _ rfl) rfl B.iall abt (@aa _ _ _ _ _ (@cA _ _ _ _ _ _ _ _ (["stretch","thing"]) ([none,some 0]) _ _ _ _ rfl (@ba _ _ _ _ (pv 2)) rfl ⟨rfl,trivial⟩ ⟨⟨rfl,Or.inl rfl,Or.inl rfl⟩,trivial⟩ (fun _ _ _ _=>⟨(@ak _ _ (0) _ (show aa7 (["stretch","thing"]:List Str) by decide +kernel) rfl (Or.inl rfl) (.inr rfl)),aX,(@vc _ _ _ _ _ _ (w) rfl (u1 hr.units) (pv 0) (pv 1) (by with_unfolding_all rfl))⟩) (by rfl) (by rfl) (by rfl) (by rfl) (by intro _;rfl)) ac (by rfl)) (by decide) (by decide) (by rfl) (by rfl)))))),?_⟩;refine ⟨_,rfl,n,rfl,h9,fun p us H1 s1 np ep hp=>?_⟩;have ht1:=ht.mono s1;have q1:∀ H',Same H1 H'→Q (.bl (eE n t)) H':=fun H' g=>q H' (s1.trans g);clear q;cases t with
  | none =>
    obtain ⟨nm,ty,hk⟩:=ht1;exact ⟨_,rfl,_,_,false,rfl,.inl ty,hk,false,rfl,aR (q1 _ (Same.refl _))⟩
  | some ps =>
    obtain ⟨a,rfl,es,pd,hes⟩:=ht1;refine ⟨_,rfl,_,_,true,rfl,.inr ⟨a,es,rfl,pd,rfl⟩,rfl,true,rfl,aM ⟨_,rfl,a,es,rfl,pd,_,rfl,p,us,rfl,.inl (SqL.of ep),rfl,_,rfl,?_⟩⟩;have le:es.length=ps.length:=(aav hes).symm;have lu:us.length=(sfl n n).length:=hp.length.symm;by_cases c:ps.length=(sfl n n).length
    · refine jM (by rw [le,lu,c]) ?_;refine ⟨_,rfl,p,rfl,⟨_,SqL.of ep⟩,?_⟩;have l81:=ic n n;have l81':n * n≤9 * 9:=ac1 h9 h9;refine cJ (Trn.list (xs:=us)) (fun i ys H'=>H'=H1∧ys=(((sfl n n).take i).map fun q=>(lkP ps q).isSome).map V.bl) ⟨rfl,rfl⟩ (fun i ys H' hi z=>⟨by rw [z.1];exact SqL.of ep,by rw [z.2,aaa,aaa,aaL];exact au (by lia)⟩) (fun i x ys H0 H' hi hx z Nx nx=>?_) (fun ys H' z p5 n5=>?_)
      · obtain ⟨rfl,rfl⟩:=z;obtain ⟨rfl,hx⟩:=hx;obtain ⟨q1',hq1,hpx⟩:=lX hp hx;obtain ⟨b,rfl,eb⟩:=PairIn.key hpx;have eo:(bg es (.tup [q1'.1,q1'.2])).isSome=(lkP ps q1').isSome:=by
          rcases nz hes q1' with ⟨e1,e2⟩|⟨d,v,e1,e2,_⟩
          · rw [e1,e2];rfl
          · rw [e1,e2];rfl
        refine ⟨_,rfl,_,rfl,a,_,rfl,⟨es,_,pd,MkIn.pair eb,rfl⟩,nx _ _ ⟨rfl,?_⟩⟩;rw [eo,eZ hq1,aaG];rfl
      · obtain ⟨rfl,rfl⟩:=z;refine ⟨p5,_,rfl,SqL.of ad,?_⟩;have e:((((sfl n n).take us.length).map fun q=>(lkP ps q).isSome).all id)=eE n (some ps):=by
          rw [lu,aaT,ac4];rw [cD,decide_eq_true c,abS];rfl
        rw [e];exact q1 _ (Same.new n5 _)
    · have e:eE n (some ps)=false:=by rw [cD,decide_eq_false c,Bool.false_and]
      rw [e] at q1;rw [decide_eq_false (fun z=>c (by have:=V.int.inj z;lia))];exact aR (q1 _ (Same.refl _))
def GtE (E:Int × Int→Int × Int) (w:World) (H:Hp) (a:Addr) (n:Nat):Prop:=∃ es,Pd w H a es∧∀ q:Int × Int,0≤q.1→q.1≤q.2→q.2 < n→∃ t,bg es (.tup [q.1,q.2])=some (.ref t)∧H t=some (.tup [.int (E q).1,.int (E q).2])
end
open PySem L2
def EP (ps:PPa) (q:Int × Int):Int × Int:=((lkP ps q).bind prD).getD (0,0)
theorem ff {ps:PPa} {q:Int × Int} {d:PyData} (h:lkP ps q=some d):(MK.tup [q.1,q.2],d)∈ps:=by
  unfold lkP at h;obtain ⟨p,hp,rfl⟩:=aaz.mp h;have h1:=List.mem_of_find?_eq_some hp;have h2:=List.find?_some hp;have h2:p.1=MK.tup [q.1,q.2]:=of_decide_eq_true h2;rw [← h2];exact h1
mutual
theorem Dat.keep {H H':Hp} (g:∀ c ob,(∀ k,ob≠.dT k)→(∀ φ,ob≠.ext φ)→H c=some ob→H' c=some ob):∀ (d:PyData) (v:V),Dat H d v→Dat H' d v
  | .none,v,h=>by simp only [Dat] at h ⊢;exact h
  | .bool b,v,h=>by simp only [Dat] at h ⊢;exact h
  | .int i,v,h=>by simp only [Dat] at h ⊢;exact h
  | .str x,v,h=>by simp only [Dat] at h ⊢;exact h
  | .list ds,v,h=>by
    simp only [Dat] at h ⊢;obtain ⟨a,xs,e,h1,h2⟩:=h;exact ⟨a,xs,e,g _ _ (fun _ z=>nomatch z) (fun _ z=>nomatch z) h1,DatAll.keep g ds xs h2⟩
  | .tuple ds,v,h=>by
    simp only [Dat] at h ⊢;obtain ⟨a,xs,e,h1,h2⟩:=h;exact ⟨a,xs,e,g _ _ (fun _ z=>nomatch z) (fun _ z=>nomatch z) h1,DatAll.keep g ds xs h2⟩
  | .dict kvs,v,h=>by
    simp only [Dat] at h ⊢;obtain ⟨a,xs,e,h1,h2⟩:=h;exact ⟨a,xs,e,g _ _ (fun _ z=>nomatch z) (fun _ z=>nomatch z) h1,DatKv.keep g kvs xs h2⟩
theorem DatAll.keep {H H':Hp} (g:∀ c ob,(∀ k,ob≠.dT k)→(∀ φ,ob≠.ext φ)→H c=some ob→H' c=some ob):∀ (ds:List PyData) (vs:List V),DatAll H ds vs→DatAll H' ds vs
  | [],vs,h=>by simp only [DatAll] at h ⊢;exact h
  | d :: ds,vs,h=>by
    simp only [DatAll] at h ⊢;obtain ⟨v,r,e,h1,h2⟩:=h;exact ⟨v,r,e,Dat.keep g d v h1,DatAll.keep g ds r h2⟩
theorem DatKv.keep {H H':Hp} (g:∀ c ob,(∀ k,ob≠.dT k)→(∀ φ,ob≠.ext φ)→H c=some ob→H' c=some ob):∀ (kvs:List (PyData × PyData)) (ks:List (Key × V)),DatKv H kvs ks→DatKv H' kvs ks
  | [],ks,h=>by simp only [DatKv] at h ⊢;exact h
  | (k,d) :: r,ks,h=>by
    simp only [DatKv] at h ⊢;obtain ⟨q,v,t,e1,e2,h1,h2⟩:=h;exact ⟨q,v,t,e1,e2,Dat.keep g d v h1,DatKv.keep g r t h2⟩
end
section
variable {P:Program} {w:World} {K:aab} {mg:Str→Option Value} {base:Heap} {f:Addr} {fd:FuncData}
end
open PySem L2
theorem iF {kvs:List (List Key × V)} {k:List Key} {v:V} (h:k∉kvs.map (·.1)):bt kvs k v=kvs++[(k,v)]:=by
  unfold bt;rw [if_neg];intro q;obtain ⟨p,hp,e⟩:=List.any_eq_true.mp q;exact h (aar.mpr ⟨p,hp,of_decide_eq_true e⟩)
theorem lg:∀ {kvs:List (List Key × V)} {k:List Key} {v:V},(kvs.map (·.1)).Nodup→(k,v)∈kvs→bg kvs k=some v
  | [],_,_,_,h=>nomatch h
  | p :: r,k,v,hn,h=>by
    rw [aae,aa9] at hn;rcases aai.mp h with e|h
    · subst e;unfold bg;rw [abe,decide_eq_true rfl];rfl
    · have ne:p.1≠k:=fun e=>hn.1 (aar.mpr ⟨(k,v),h,e.symm⟩);have:=lg hn.2 h;unfold bg at this ⊢;rw [abe,decide_eq_false ne];exact this
theorem rq {qs:List (Int × Int)} (h:qs.Nodup):(qs.map ky).Nodup:=by
  induction h with
  | nil=>exact ac0
  | @cons q r hq _ ih =>
    rw [aae,aa9];refine ⟨fun z=>?_,ih⟩;obtain ⟨q',hq',e⟩:=aar.mp z;exact hq q' hq' (kL e).symm
theorem lO {α β:Type} {l:List α} {f:α→List β} {i:Nat} {x:α} {q:List β} (h:l[i]?=some x) (hq:q <+: f x):(l.take i).flatMap f++q <+: l.flatMap f:=by
  obtain ⟨hi,e⟩:=aaA.mp h;obtain ⟨t,ht⟩:=hq;refine ⟨t++(l.drop (i+1)).flatMap f,?_⟩;have el:l=l.take i++x :: l.drop (i+1):=by
    rw [← e]
    conv=>lhs;rw [← List.take_append_drop i l,List.drop_eq_getElem_cons hi]
  conv=>rhs;rw [el,acB,List.flatMap_cons,← ht]
  simp
def bi (j:Nat):List (Int × Int):=(aaO (j+1)).map fun (a:Nat)=>((j:Int) - (a:Int),(j:Int))
def aJ (n:Nat):List (Int × Int):=(aaO n).flatMap bi
theorem dc:∀ n,n≤9→(aJ n).Nodup:=by decide +kernel
theorem gx (n:Nat):aJ (n+1)=aJ n++bi n:=by
  unfold aJ;rw [ab6,acB];simp
theorem qN {j:Nat} {q:Int × Int} (h0:0≤q.1) (h1:q.1≤q.2) (h2:q.2=(j:Int)):q∈bi j:=by
  unfold bi;refine aar.mpr ⟨((j:Int) - q.1).toNat,aaK.mpr (by lia),?_⟩;rw [show (((((j:Int) - q.1).toNat:Nat)):Int)=(j:Int) - q.1 by lia,← h2];congr 1;lia
theorem iK {n:Nat} {q:Int × Int} (h0:0≤q.1) (h1:q.1≤q.2) (h2:q.2 < (n:Int)):q∈aJ n:=by
  unfold aJ;refine List.mem_flatMap.mpr ⟨q.2.toNat,aaK.mpr (by lia),qN h0 h1 (by lia)⟩
theorem eV:∀ n,n≤9→(aJ n).length≤45:=by decide +kernel
def bnd (q:Int × Int):Nat:=10 ^ (30 * (q.2 - q.1+1).toNat)
section
variable {P:Program} {w:World} {K:aab} {mg:Str→Option Value} {base:Heap} {f:Addr} {fd:FuncData}
def mV:Sp:=fun vs H Q _=>∃ a g b,vs=[.str (Sg.str g),.int a,.int b]∧a.natAbs < 2 ^ 4000∧b.natAbs < 2 ^ 4000∧Q (.int (g.op a b)) H
abbrev fF:Stmt:=top 34
theorem lG:FnScope ["sign","one","other"] ["sign","one","other"] (ao fF):=⟨rfl,rfl,rfl,by decide +kernel,rfl,by decide +kernel,by decide +kernel⟩
theorem nB (F:Fun K "_law_put" "_law_put" fF f fd):FnOk P w K mg base CX0 1 f fd ["sign","one","other"] mV:=by
  refine F.ok lG (fun vs H Q E h=>?_) (fun cdv A outer s H vs Q E hr h=>?_)
  · obtain ⟨a,g,b,rfl,_⟩:=h;rfl
  obtain ⟨a,g,b,rfl,ha,hb,q⟩:=h;refine ⟨_,(@ag _ _ _ _ _ (@aI _ _ _ _ _ _ _ _ (@aE _ _ _ _ _ _ _ _ bD (pv 0) bK (aC _)) (@af _ _ _ (@ap _ _ _ _ (@az _ _ _ _ _ _ _ _ bh (pv 1) (pv 2)))) aA) (@ag _ _ _ _ _ (@aI _ _ _ _ _ _ _ _ (@aE _ _ _ _ _ _ _ _ bD (pv 0) bK (aC _)) (@af _ _ _ (@ap _ _ _ _ (@az _ _ _ _ _ _ _ _ fH (pv 1) (pv 2)))) aA) (@af _ _ _ (@ap _ _ _ _ (@az _ _ _ _ _ _ _ _ fY (pv 1) (pv 2)))))),?_⟩;cases g with
  | plus=>exact ⟨_,rfl,rfl,_,rfl,oP rfl ⟨_,rfl,_,rfl,_,_,rfl,rfl,q⟩⟩
  | minus=>exact ⟨_,rfl,rfl,_,rfl,jN (by decide +kernel) ⟨_,rfl,rfl,_,rfl,oP rfl ⟨_,rfl,_,rfl,_,_,rfl,rfl,q⟩⟩⟩
  | times=>exact ⟨_,rfl,rfl,_,rfl,jN (by decide +kernel) ⟨_,rfl,rfl,_,rfl,jN (by decide +kernel) ⟨_,rfl,_,rfl,_,_,rfl,rfl,⟨ha,hb⟩,q⟩⟩⟩
end
open PySem L2
structure Cy (K:aab) (mg:Str→Option Value) (tk:Tok) (tk2:Tok):Prop where
  gLEAST_M:mg "LEAST_M" = some (.int 2 tk)
  gMOST_M:mg "MOST_M" = some (.int 60 tk2)
theorem ql (xs:List V) (c:Nat) (h:c≤xs.length):hW xs (some (c:Int)) none=xs.drop c:=by
  have e0:HT.sIx xs.length xs.length none=xs.length:=by simp [HT.sIx]
  have e1:HT.sIx xs.length 0 (some (c:Int))=c:=by
    simp only [HT.sIx];split <;> lia
  unfold hW;rw [e0,e1,aa3 (by rw [abh];exact aaf _)]
theorem Trn.zip2 {K:aab} {a b:Addr} {xs ys:List V} (hl:ys.length≤xs.length):Trn (Itz K a b) ys.length (fun H=>SqL K H a xs∧SqL K H b ys) (fun i v H H'=>∃ p x y,H p=none∧v=.ref p∧H'=upd H p (.tup [x,y])∧xs[i]?=some x∧ys[i]?=some y) :=
  ⟨fun i H hi q=>⟨xs,ys,xs[i]'(by lia),ys[i],q.1,q.2,aac (by lia),aac hi⟩,fun H q=>⟨xs,ys,q.1,q.2,.inr (aaf _)⟩,fun i H v H' hi q y=>by
    obtain ⟨p,x,y,h1,h2,h3,h4,h5⟩:=y;exact ⟨p,x,y,h1,h2,h3,h4 xs q.1,h5 ys q.2⟩⟩
theorem sK {H:Hp}:∀ {ds:List PyData} {xs:List V},DatAll H ds xs→ds.length=xs.length∧∀ {i:Nat} {x:V},xs[i]?=some x→∃ d,ds[i]?=some d∧Dat H d x
  | [],xs,h=>by
    simp only [DatAll] at h;subst h;exact ⟨rfl,fun {i x} e=>by simp at e⟩
  | d :: ds,xs,h=>by
    simp only [DatAll] at h;obtain ⟨v,r,rfl,h1,h2⟩:=h;obtain ⟨l,g⟩:=sK h2;refine ⟨by rw [aaC,aaC,l],fun {i x} e=>?_⟩;cases i with
    | zero=>exact ⟨d,rfl,by cases (aa2 e);exact h1⟩
    | succ i=>exact g e
section
variable {P:Program} {w:World} {K:aab} {mg:Str→Option Value} {base:Heap} {f:Addr} {fd:FuncData}
def fj:PyData→Bool
  | .int i=>decide (2≤i) && decide (i≤60)
  | _=>false
def mW:Sp:=fun vs H Q _=>∃ d v,vs=[v]∧Dat H d v∧Q (.bl (fj d)) H
abbrev m8:Stmt:=top 21
theorem tE:FnScope ["thing"] ["thing"] (ao m8):=⟨rfl,rfl,rfl,by decide +kernel,rfl,by decide +kernel,by decide +kernel⟩
theorem tZ {tk tk2:Tok} (F:Fun K "is_m" "is_m" m8 f fd) (B2:Cy K mg tk tk2) (C_is_whole:Cal P w K mg base "is_whole" 1 ["thing"] (fO K)):FnOk P w K mg base CX0 2 f fd ["thing"] mW:=by
  refine F.ok tE (fun vs H Q E h=>?_) (fun cdv A outer s H vs Q E hr h=>?_)
  · obtain ⟨d,v,rfl,_⟩:=h;rfl
  obtain ⟨d,v,rfl,hd,q⟩:=h;refine ⟨_,(@af _ _ _ (@ap _ _ _ _ (@dU _ _ _ _ _ _ _ (@aq _ _ _ _ _ _ _ _ _ _ _ C_is_whole hr (by lia) rfl (@aa _ _ _ _ _ (pv 0) ac (by rfl)) (by decide) (by rfl) (by rfl)) (@eU _ _ _ _ _ (@lW _ _ _ _ _ _ _ _ _ _ _ _ gW gW (@ig _ _ (.int 2) _ _ rfl B2.gLEAST_M ⟨_,rfl⟩ (by decide)) (pv 0) (@ig _ _ (.int 60) _ _ rfl B2.gMOST_M ⟨_,rfl⟩ (by decide)) (by with_unfolding_all rfl)))))),?_⟩;refine ⟨_,rfl,v,_,rfl,hd.ty,?_⟩;cases d with
  | int i =>
    have e:v=.int i:=by simpa only [Dat] using hd
    subst e;refine ⟨true,rfl,aR ?_⟩;by_cases c:2≤i
    · refine ⟨_,rfl,_,_,rfl,rfl,true,congrArg V.bl (decide_eq_true c),aR ⟨_,_,rfl,rfl,?_⟩⟩;have : fj (.int i)=decide (i≤60):=by show (decide (2≤i) && decide (i≤60))=_;rw [decide_eq_true c];rfl
      rw [this] at q;exact q
    · refine ⟨_,rfl,_,_,rfl,rfl,false,congrArg V.bl (decide_eq_false c),aM ?_⟩;have : fj (.int i)=false:=by show (decide (2≤i) && decide (i≤60))=_;rw [decide_eq_false c];rfl
      rw [this] at q;exact q
  | none=>exact ⟨false,rfl,aM q⟩
  | bool b=>exact ⟨false,rfl,aM q⟩
  | str b=>exact ⟨false,rfl,aM q⟩
  | list b=>exact ⟨false,rfl,aM q⟩
  | tuple b=>exact ⟨false,rfl,aM q⟩
  | dict b=>exact ⟨false,rfl,aM q⟩
def aN (m:Int):PyData→Bool
  | .int i=>decide (0≤i) && decide (i < m)
  | _=>false
def gm:Sp:=fun vs H Q _=>∃ d v m,vs=[v,.int m]∧Dat H d v∧Q (.bl (aN m d)) H
abbrev gr:Stmt:=top 22
theorem m6:FnScope ["thing","m"] ["thing","m"] (ao gr):=⟨rfl,rfl,rfl,by decide +kernel,rfl,by decide +kernel,by decide +kernel⟩
theorem nC (F:Fun K "is_rest" "is_rest" gr f fd) (C_is_whole:Cal P w K mg base "is_whole" 1 ["thing"] (fO K)):FnOk P w K mg base CX0 2 f fd ["thing","m"] gm:=by
  refine F.ok m6 (fun vs H Q E h=>?_) (fun cdv A outer s H vs Q E hr h=>?_)
  · obtain ⟨d,v,m,rfl,_⟩:=h;rfl
  obtain ⟨d,v,m,rfl,hd,q⟩:=h;refine ⟨_,(@af _ _ _ (@ap _ _ _ _ (@dU _ _ _ _ _ _ _ (@aq _ _ _ _ _ _ _ _ _ _ _ C_is_whole hr (by lia) rfl (@aa _ _ _ _ _ (pv 0) ac (by rfl)) (by decide) (by rfl) (by rfl)) (@eU _ _ _ _ _ (@lW _ _ _ _ _ _ _ _ _ _ _ _ gW gU ae (pv 0) (pv 1) (by with_unfolding_all rfl)))))),?_⟩;refine ⟨_,rfl,v,_,rfl,hd.ty,?_⟩;cases d with
  | int i =>
    have e:v=.int i:=by simpa only [Dat] using hd
    subst e;refine ⟨true,rfl,aR ?_⟩;by_cases c:0≤i
    · refine ⟨_,rfl,_,_,rfl,rfl,true,congrArg V.bl (decide_eq_true c),aR ⟨_,rfl,_,_,rfl,rfl,?_⟩⟩;have : aN m (.int i)=decide (i < m):=by show (decide (0≤i) && decide (i < m))=_;rw [decide_eq_true c];rfl
      rw [this] at q;exact q
    · refine ⟨_,rfl,_,_,rfl,rfl,false,congrArg V.bl (decide_eq_false c),aM ?_⟩;have : aN m (.int i)=false:=by show (decide (0≤i) && decide (i < m))=_;rw [decide_eq_false c];rfl
      rw [this] at q;exact q
  | none=>exact ⟨false,rfl,aM q⟩
  | bool b=>exact ⟨false,rfl,aM q⟩
  | str b=>exact ⟨false,rfl,aM q⟩
  | list b=>exact ⟨false,rfl,aM q⟩
  | tuple b=>exact ⟨false,rfl,aM q⟩
  | dict b=>exact ⟨false,rfl,aM q⟩
def iof:PyData→Int
  | .int i=>i
  | _=>0
def hU (xs:List Int):Bool:=(aaO (xs.length - 1)).all fun k=>decide (xs.getD k 0 < xs.getD (k+1) 0)
def bN (m:Int):PyData→Bool
  | .list ds=>ds.all (aN m) && hU (ds.map iof)
  | _=>false
theorem qP {m:Int} {d:PyData} (h:aN m d=true):d=.int (iof d):=by
  cases d with
  | int i=>rfl
  | _=>exact absurd h (by simp [aN])
theorem dP {H:Hp} {m:Int}:∀ {ds:List PyData} {xs:List V},DatAll H ds xs→ds.all (aN m)=true→xs=(ds.map iof).map V.int
  | [],xs,h,_=>by simp only [DatAll] at h;rw [h];rfl
  | d :: ds,xs,h,a=>by
    simp only [DatAll] at h;obtain ⟨v,r,rfl,h1,h2⟩:=h;rw [ada,aaS] at a;rw [qP a.1] at h1;simp only [Dat] at h1;rw [aae,aae,← dP h2 a.2,h1]
def kc:Sp:=fun vs H Q _=>∃ (d:PyData) (v:V) (m:Int),vs=[v,.int m]∧Dat H d v∧(∀ ds,d=.list ds→ds.length≤900)∧∀ H',Same H H'→Q (.bl (bN m d)) H'
abbrev bV:Stmt:=top 24
theorem fh:FnScope ["thing","m"] ["thing","m"] (ao bV):=⟨rfl,rfl,rfl,by decide +kernel,rfl,by decide +kernel,by decide +kernel⟩
theorem rp (F:Fun K "is_list_of_rests" "is_list_of_rests" bV f fd) (B:Bu K mg) (C_is_rest:Cal P w K mg base "is_rest" 2 ["thing","m"] gm):FnOk P w K mg base CX0 3 f fd ["thing","m"] kc:=by
  refine F.ok fh (fun vs H Q E h=>?_) (fun cdv A outer s H vs Q E hr h=>?_)
  · obtain ⟨d,v,m,rfl,_⟩:=h;rfl
  obtain ⟨d,v,m,rfl,hd,hl9,q⟩:=h;refine ⟨_,(@ag _ _ _ _ _ (@aI _ _ _ _ _ _ _ _ (@PW.pt _ _ _ (@cH _ _ _ _ _ _ _ (@aZ _ _ _ _ (@aU _ _ _ (@ai _ _ _ _ _ _ _ _ _ (@aD _ ("list")) rfl B.iisinstance aah (@aa _ _ _ _ _ (pv 0) (@aa _ _ _ _ _ (@aL _ _ (.ty "list") _ _ rfl B.ilist aaQ rfl (by decide) (by decide)) ac (by rfl)) (by rfl)) (by decide) (by decide) (by rfl) (by rfl)) (by intro _;rfl))) (@bW _ _ _ _ (@aZ _ _ _ _ (@aU _ _ _ (@ai _ _ _ _ _ _ _ _ _ (@dg _ rfl) rfl B.iall abt (@aa _ _ _ _ _ (@cA _ _ _ _ _ _ _ _ (["rest","m"]) ([none,some 1]) _ _ _ _ rfl (@ba _ _ _ _ (pv 0)) rfl ⟨rfl,trivial⟩ ⟨⟨rfl,Or.inl rfl,Or.inl rfl⟩,trivial⟩ (fun _ _ _ _=>⟨(@ak _ _ (0) _ (show aa7 (["rest","m"]:List Str) by decide +kernel) rfl (Or.inl rfl) (.inr rfl)),aX,(@aq _ _ _ _ _ _ _ _ _ _ _ C_is_rest hr (by lia) rfl (@aa _ _ _ _ _ (pv 0) (@aa _ _ _ _ _ (pv 1) ac (by rfl)) (by rfl)) (by decide) (by rfl) (by rfl))⟩) (by rfl) (by rfl) (by rfl) (by rfl) (by intro _;rfl)) ac (by rfl)) (by decide) (by decide) (by rfl) (by rfl)) (by intro _;rfl)))))) (@af _ _ _ (@ap _ _ _ _ bo)) aA) (@af _ _ _ (@ap _ _ _ _ (@ai _ _ _ _ _ _ _ _ _ (@dg _ rfl) rfl B.iall abt (@aa _ _ _ _ _ (@cA _ _ _ _ _ _ _ _ (["lower","upper"]) ([none,none]) _ _ _ _ rfl (u_ rfl B.izip (aa (pv 0) (aa (iH kh (pv 0) (km ae) kn) ac))) rfl trivial trivial (fun _ _ _ _=>⟨(@tS _ _ _ _ _ _ (2) rfl rfl (@aY _ _ _ _ _ (@ak _ _ (0) _ (show aa7 (["lower","upper"]:List Str) by decide +kernel) rfl (Or.inl rfl) (.inr rfl)) (@aY _ _ _ _ _ (@ak _ _ (1) _ (show aa7 (["lower","upper"]:List Str) by decide +kernel) rfl (Or.inl rfl) (.inr rfl)) cR (by rfl)) (by rfl)) (by rfl) (by rfl)),aX,(@bp _ _ _ _ _ _ _ _ gU (pv 0) (pv 1) (aC _))⟩) (by rfl) (by rfl) (by rfl) (by rfl) (by intro _;rfl)) ac (by rfl)) (by decide) (by decide) (by rfl) (by rfl))))),?_⟩;have hty:=hd.ty (K:=K);have q0:=q H (Same.refl _);cases d with
  | dict _=>exact ⟨_,rfl,_,_,false,rfl,hty,rfl,false,rfl,aR q0⟩
  | none=>exact ⟨_,rfl,_,_,false,rfl,hty,rfl,false,rfl,aR q0⟩
  | bool _=>exact ⟨_,rfl,_,_,false,rfl,hty,rfl,false,rfl,aR q0⟩
  | int _=>exact ⟨_,rfl,_,_,false,rfl,hty,rfl,false,rfl,aR q0⟩
  | str _=>exact ⟨_,rfl,_,_,false,rfl,hty,rfl,false,rfl,aR q0⟩
  | tuple _=>exact ⟨_,rfl,_,_,false,rfl,hty,rfl,false,rfl,aR q0⟩
  | list ds =>
    simp only [Dat] at hd;obtain ⟨a,xs,rfl,ea,da⟩:=hd;obtain ⟨ll,at_⟩:=sK da;have h9:=hl9 ds rfl;refine ⟨_,rfl,_,_,true,rfl,.lst ea,rfl,true,rfl,aM ⟨_,rfl,a,rfl,⟨_,SqL.of ea⟩,?_⟩⟩;refine cJ (Trn.list (xs:=xs)) (fun i ys H'=>H'=H∧ys=((ds.take i).map (aN m)).map V.bl) ⟨rfl,rfl⟩ (fun i ys H' hi p=>by rw [p.1,p.2];exact ⟨SqL.of ea,au (by rw [aaa,aaa,aaL];lia)⟩) (fun i x ys H1 H' hi hx p Nx nx=>?_) (fun ys H' p p5 n5=>?_)
    · obtain ⟨rfl,rfl⟩:=p;obtain ⟨rfl,hx⟩:=hx;obtain ⟨d1,hd1,dx⟩:=at_ hx;refine ⟨_,rfl,_,rfl,d1,x,m,rfl,dx,nx _ _ ⟨rfl,?_⟩⟩;rw [eZ hd1,aaG];rfl
    obtain ⟨rfl,rfl⟩:=p;rw [← ll,aaT];have s5:=Same.new n5 (.lst ((ds.map (aN m)).map V.bl));refine ⟨p5,_,rfl,SqL.of ad,?_⟩;have e5:((ds.map (aN m)).all id)=ds.all (aN m):=by rw [ac4];rfl
    rw [e5];generalize upd H' p5 (.lst ((ds.map (aN m)).map V.bl))=H5 at s5 ⊢;cases c:ds.all (aN m) with
    | false =>
      have q5:=q H5 s5;have e:bN m (.list ds)=false:=by show (ds.all (aN m) && _)=false;rw [c];rfl
      rw [e] at q5;exact ⟨_,rfl,aR q5⟩
    | true =>
    refine ⟨_,rfl,aM ?_⟩;obtain ⟨zs,hzs⟩:∃ zs,ds.map iof=zs:=⟨_,rfl⟩
    have ex:=dP da c;rw [hzs] at ex;have lz:zs.length=ds.length:=by rw [← hzs,aaa]
    have e:bN m (.list ds)=hU zs:=by show (ds.all (aN m) && hU (ds.map iof))=_;rw [c,hzs];rfl
    rw [e] at q;subst ex;have ea5:=s5 _ _ ea;refine ⟨_,rfl,_,rfl,1,rfl,a,_,rfl,SqL.of ea5,fun p6 n6=>?_⟩;have ecut:hW (zs.map V.int) (some 1) none=(zs.drop 1).map V.int:=by
      rw [List.map_drop];cases zs with
      | nil=>rfl
      | cons x0 xs0=>exact ql _ 1 (by simp)
    rw [ecut];have s6:=Same.new n6 (.lst ((zs.drop 1).map V.int));have e6:upd H5 p6 (.lst ((zs.drop 1).map V.int)) p6=_:=ad;have ea6:=s6 _ _ ea5;generalize upd H5 p6 (.lst ((zs.drop 1).map V.int))=H6 at s6 e6 ea6 ⊢;refine ⟨a,p6,rfl,⟨_,SqL.of ea6⟩,⟨_,SqL.of e6⟩,?_⟩;have ld:((zs.drop 1).map V.int).length≤(zs.map V.int).length:=by rw [aaa,aaa,abh];lia
    refine cJ (Trn.zip2 (xs:=zs.map V.int) (ys:=(zs.drop 1).map V.int) ld) (fun i ys H'=>Same H6 H'∧ys=((aaO i).map fun k=>decide (zs.getD k 0 < zs.getD (k+1) 0)).map V.bl) ⟨Same.refl _,rfl⟩ (fun i ys H' hi p=>by
      rw [aaa,abh] at hi;rw [p.2];exact ⟨⟨SqL.of (p.1 _ _ ea6),SqL.of (p.1 _ _ e6)⟩,au (by rw [aaa,aaa,abc];lia)⟩) (fun i x ys H1 H' hi hx p Nx nx=>?_) (fun ys H' p p7 n7=>?_)
    · obtain ⟨S,rfl⟩:=p;obtain ⟨pp,x1,y1,npp,rfl,rfl,hx1,hy1⟩:=hx;rw [aak] at hx1 hy1;obtain ⟨x2,hx2,rfl⟩:=aaz.mp hx1;obtain ⟨y2,hy2,rfl⟩:=aaz.mp hy1;rw [List.getElem?_drop,Nat.add_comm] at hy2;have sp:=Same.new npp (.tup [.int x2,.int y2]);refine ⟨pp,_,rfl,SqT.of ad,rfl,_,_,rfl,_,_,rfl,rfl,_,rfl,_,rfl,_,_,rfl,rfl,nx _ _ ⟨S.trans sp,?_⟩⟩;have g1:zs.getD i 0=x2:=by rw [aat,hx2];rfl
      have g2:zs.getD (i+1) 0=y2:=by rw [aat,hy2];rfl
      rw [ab6,aaG,aaG];show _++[V.bl (decide (x2 < y2))]=_++[V.bl (decide (zs.getD i 0 < zs.getD (i+1) 0))];rw [g1,g2]
    obtain ⟨S,rfl⟩:=p;rw [aaa,abh];refine ⟨p7,_,rfl,SqL.of ad,?_⟩;have ei:(((aaO (zs.length - 1)).map fun k=>decide (zs.getD k 0 < zs.getD (k+1) 0)).all id)=hU zs:=by unfold hU;rw [ac4];rfl
    rw [ei];exact q _ (((s5.trans s6).trans S).trans (Same.new n7 _))
end
open PySem L2
abbrev PRe:=Option (PyData × Option PPa)
def RIn (w:World) (K:aab) (H:Hp) (t:PRe) (v:V):Prop:=match t with
  | some (dm,t)=>∃ a mv lv,v=.ref a∧H a=some (.tup [mv,lv])∧Dat H dm mv∧ThIn w K H t lv
  | none=>(∃ n,TyOf K H v (.type n)∧ach K (.type n) (.type "tuple")=some false)∨∃ a xs,v=.ref a∧H a=some (.tup xs)∧xs.length≠2
theorem RIn.mono {w:World} {K:aab} {H H':Hp} {t:PRe} {v:V} (g:Same H H') (h:RIn w K H t v):RIn w K H' t v:=by
  cases t with
  | none =>
    rcases h with ⟨n,h1,h2⟩|⟨a,xs,e,h1,h2⟩
    · exact .inl ⟨n,TyOf.same g h1,h2⟩
    · exact .inr ⟨a,xs,e,g _ _ h1,h2⟩
  | some p =>
    obtain ⟨a,mv,lv,e,h1,h2,h3⟩:=h;exact ⟨a,mv,lv,e,g _ _ h1,Dat.mono g _ _ h2,h3.mono g⟩
def prR (n:Nat):PRe→Bool
  | some (dm,some ps)=>fj dm && eE n (some ps) && ps.all fun p=>bN (iof dm) p.2
  | some (_,none)=>false
  | none=>false
def Lrw (t:PRe):Prop:=∀ dm ps,t=some (dm,some ps)→∀ p∈ps,∀ ds,p.2=.list ds→ds.length≤900
section
variable {P:Program} {w:World} {K:aab} {mg:Str→Option Value} {base:Heap} {f:Addr} {fd:FuncData}
def ka (w:World) (K:aab):Sp:=fun vs H Q _=>∃ (t:PRe) (v:V) (n:Nat),vs=[v,.int n]∧1≤n∧n≤9∧RIn w K H t v∧Lrw t∧∀ H',Same H H'→Q (.bl (prR n t)) H'
abbrev fD:Stmt:=top 23
theorem eJ:FnScope ["thing","many","m","lists"] ["thing","many"] (ao fD):=⟨rfl,rfl,rfl,by decide +kernel,rfl,by decide +kernel,by decide +kernel⟩
theorem l8 (F:Fun K "is_paper" "is_paper" fD f fd) (B:Bu K mg) (C_is_m:Cal P w K mg base "is_m" 2 ["thing"] mW) (C_has_all_stretches:Cal P w K mg base "has_all_stretches" 2 ["thing","many"] (iA w K)) (C_is_list_of_rests:Cal P w K mg base "is_list_of_rests" 3 ["thing","m"] kc):FnOk P w K mg base CX0 4 f fd ["thing","many"] (ka w K):=by
  refine F.ok eJ (fun vs H Q E h=>?_) (fun cdv A outer s H vs Q E hr h=>?_)
  · obtain ⟨t,v,n,rfl,_⟩:=h;rfl
  obtain ⟨t,v,n,rfl,n1,n9,ht,hlw,q⟩:=h;refine ⟨_,(@ag _ _ _ _ _ (@aI _ _ _ _ _ _ _ _ (@PW.pt _ _ _ (@cH _ _ _ _ _ _ _ (@aZ _ _ _ _ (@aU _ _ _ (@ai _ _ _ _ _ _ _ _ _ (@aD _ ("tuple")) rfl B.iisinstance aah (@aa _ _ _ _ _ (pv 0) (@aa _ _ _ _ _ (@aL _ _ (.ty "tuple") _ _ rfl B.ituple abx rfl (by decide) (by decide)) ac (by rfl)) (by rfl)) (by decide) (by decide) (by rfl) (by rfl)) (by intro _;rfl))) (@bW _ _ _ _ (@aE _ _ _ _ _ _ _ _ gS (@ai _ _ _ _ _ _ _ _ _ aF rfl B.ilen aaN (@aa _ _ _ _ _ (pv 0) ac (by rfl)) (by decide) (by decide) (by rfl) (by rfl)) ae (aC _))))) (@af _ _ _ (@ap _ _ _ _ bo)) aA) (@ag _ _ _ _ _ (@eS _ _ _ _ _ _ (pv 0) (@dS _ _ _ _ _ _ rfl (@aY _ _ _ _ _ (@ak _ _ (2) _ (eJ).nd rfl (Or.inr rfl) (.inl rfl)) (@aY _ _ _ _ _ (@ak _ _ (3) _ (eJ).nd rfl (Or.inl rfl) (.inl rfl)) cR (by rfl)) (by rfl)) (by rfl) (by rfl)) (by rfl) (by rfl) (by rfl)) (@ag _ _ _ _ _ (@aI _ _ _ _ _ _ _ _ (@PW.pt _ _ _ (@cH _ _ _ _ _ _ _ (@aZ _ _ _ _ (@aU _ _ _ (@aq _ _ _ _ _ _ _ _ _ _ _ C_is_m hr (by lia) rfl (@aa _ _ _ _ _ (pv 2) ac (by rfl)) (by decide) (by rfl) (by rfl)) (by intro _;rfl))) (@bW _ _ _ _ (@aZ _ _ _ _ (@aU _ _ _ (@aq _ _ _ _ _ _ _ _ _ _ _ C_has_all_stretches hr (by lia) rfl (@aa _ _ _ _ _ (pv 3) (@aa _ _ _ _ _ (pv 1) ac (by rfl)) (by rfl)) (by decide) (by rfl) (by rfl)) (by intro _;rfl)))))) (@af _ _ _ (@ap _ _ _ _ bo)) aA) (@af _ _ _ (@ap _ _ _ _ (@ai _ _ _ _ _ _ _ _ _ (@dg _ rfl) rfl B.iall abt (@aa _ _ _ _ _ (@tT _ _ _ (@cA _ _ _ _ _ _ _ _ (["rests","m"]) ([none,some 2]) _ _ _ _ rfl (@qV _ _ _ _ _ _ (w) rfl (pv 3) (by rfl) (by rfl)) rfl ⟨rfl,trivial⟩ ⟨⟨rfl,Or.inl rfl,Or.inl rfl⟩,trivial⟩ (fun _ _ _ _=>⟨(@ak _ _ (0) _ (show aa7 (["rests","m"]:List Str) by decide +kernel) rfl (Or.inl rfl) (.inr rfl)),aX,(@aq _ _ _ _ _ _ _ _ _ _ _ C_is_list_of_rests hr (by lia) rfl (@aa _ _ _ _ _ (pv 0) (@aa _ _ _ _ _ (pv 1) ac (by rfl)) (by rfl)) (by decide) (by rfl) (by rfl))⟩) (by rfl) (by rfl) (by rfl) (by rfl) (by intro _;rfl))) ac (by rfl)) (by decide) (by decide) (by rfl) (by rfl))))))),?_⟩;have q0:=q H (Same.refl _);cases t with
  | none =>
    rcases ht with ⟨nm,ty,hk⟩|⟨a,xs,rfl,ea,ne⟩
    · exact ⟨_,rfl,_,_,false,rfl,ty,hk,false,rfl,aR q0⟩
    · refine ⟨_,rfl,_,_,true,rfl,.tup ea,rfl,true,rfl,aM ⟨_,rfl,a,_,rfl,.inr (SqT.of ea),rfl,_,rfl,?_⟩⟩;have cz:¬ V.int (xs.length:Nat)=V.int 2:=fun z=>ne (by have:=V.int.inj z;lia);show if (!decide (V.int (xs.length:Nat)=V.int 2))=true then _ else _
      rw [decide_eq_false cz];exact aR q0
  | some p =>
    obtain ⟨dm,t⟩:=p;obtain ⟨a,mv,lv,rfl,ea,hm,hl⟩:=ht;refine ⟨_,rfl,_,_,true,rfl,.tup ea,rfl,true,rfl,aM ⟨_,rfl,a,_,rfl,.inr (SqT.of ea),rfl,_,rfl,jM rfl ?_⟩⟩;refine ⟨_,rfl,a,_,rfl,SqT.of ea,rfl,_,_,rfl,_,_,rfl,rfl,?_⟩;refine ⟨_,rfl,dm,mv,rfl,hm,?_⟩;cases hmd:fj dm with
    | false =>
      have e:prR n (some (dm,t))=false:=by cases t with
        | none=>rfl
        | some ps=>show (fj dm && _ && _)=false;rw [hmd];rfl
      rw [e] at q0;exact ⟨_,rfl,aR (aR q0)⟩
    | true =>
    obtain ⟨mi,rfl⟩:∃ mi,dm=.int mi:=by
      cases dm with
      | int i=>exact ⟨i,rfl⟩
      | _=>exact absurd hmd (by simp [fj])
    simp only [Dat] at hm;subst hm;refine ⟨_,rfl,aM ⟨_,rfl,_,rfl,t,lv,n,rfl,n9,hl,fun H1 s1=>⟨_,rfl,?_⟩⟩⟩;cases hh:eE n t with
    | false =>
      have e:prR n (some (.int mi,t))=false:=by cases t with
        | none=>rfl
        | some ps=>show (fj (.int mi) && eE n (some ps) && _)=false;rw [hh,acz];rfl
      have q1:=q _ s1;rw [e] at q1;exact aR q1
    | true =>
    cases t with
    | none=>exact absurd hh (by simp [eE])
    | some ps =>
    obtain ⟨d,rfl,hpa⟩:=hl.mono s1;obtain ⟨es,pd,hes⟩:=id hpa;have lk:es.length=ps.length:=(aav hes).symm;have hlen:ps.length=(sfl n n).length:=by
      rw [cD,aaS] at hh;exact of_decide_eq_true hh.1
    have hpos:1≤ps.length:=by
      have:=ox n 0 0 (aaf _) (by lia);have:=ack this;lia
    have l81:=ic n n;have l81':n * n≤9 * 9:=ac1 n9 n9;obtain ⟨u,hu,hu1⟩:∃ u,H1 d=some u∧((∃ k,u=.dT k)∨∃ φ,u=.ext φ):=by
      rcases pd with ⟨kvs,h,_⟩|⟨kvs,h,_⟩|⟨_,h⟩
      · exact ⟨_,h,.inl ⟨_,rfl⟩⟩
      · exact ⟨_,h.at_,.inr ⟨_,rfl⟩⟩
      · rw [h] at lk;simp at lk;lia
    refine ⟨_,rfl,d,es,u,rfl,pd,hu,fun o=>?_⟩;have S3:∀ c ob,c≠d→H1 c=some ob→upd H1 d (.frz o u) c=some ob:=fun c ob hc e=>by rw [aj hc];exact e
    have e3:upd H1 d (.frz o u) d=some (.frz o u):=ad;have D3:∀ x y,Dat H1 x y→Dat (upd H1 d (.frz o u)) x y:=fun x y=>Dat.keep (fun c ob n1 n2 e=>S3 c ob (fun z=>by
      rw [z,hu] at e;injection e with e
      rcases hu1 with ⟨k,hk⟩|⟨k,hk⟩
      · exact n1 k (e.symm.trans hk)
      · exact n2 k (e.symm.trans hk)) e) x y
    generalize upd H1 d (.frz o u)=H3 at S3 e3 D3 ⊢;refine cJ Trn.valsM (fun i ys H'=>Same H3 H'∧ys=((ps.take i).map fun p=>bN mi p.2).map V.bl) ⟨Same.refl _,rfl⟩ (fun i ys H' hi z=>⟨z.1 _ _ e3,by rw [z.2,aaa,aaa,aaL];exact au (by lia)⟩) (fun i x ys H0 H' hi hx z Nx nx=>?_) (fun ys H' z p5 n5=>?_)
    · obtain ⟨S,rfl⟩:=z;obtain ⟨rfl,hx⟩:=hx;rw [aak] at hx;obtain ⟨e0,he0,rfl⟩:=aaz.mp hx;obtain ⟨p0,hp0,_,hd0⟩:=Paired.at hes he0;refine ⟨_,rfl,_,rfl,p0.2,_,mi,rfl,Dat.mono S _ _ (D3 _ _ hd0),hlw _ _ rfl p0 (aap hp0),fun H4 s4=>nx _ _ ⟨S.trans s4,?_⟩⟩;rw [eZ hp0,aaG];rfl
    obtain ⟨SM,rfl⟩:=z;have nf:sR H1 d:=fun o' v' e=>by
      rw [hu] at e;injection e with e
      rcases hu1 with ⟨k,hk⟩|⟨k,hk⟩ <;> (rw [hk] at e;cases e)
    rw [aaa,lk,aaT];obtain ⟨bs,hbs⟩:∃ bs:List Bool,(ps.map fun p=>bN mi p.2)=bs:=⟨_,rfl⟩
    rw [hbs];have s5:=SM.trans (Same.new n5 (.lst (bs.map V.bl)));have e5:upd H' p5 (.lst (bs.map V.bl)) p5=_:=ad;have e6:=s5 _ _ e3;generalize upd H' p5 (.lst (bs.map V.bl))=H5 at s5 e5 e6 ⊢;have npd:p5≠d:=fun e=>by rw [e,e6] at e5;cases e5
    have S6:Same H1 (upd H5 d u):=fun c ob hc=>by
      by_cases h:c=d
      · subst h;rw [ad];rw [hu] at hc;exact hc
      · rw [aj h];exact s5 _ _ (S3 c ob h hc)
    have e7:upd H5 d u p5=_:=(aj npd).trans e5;refine ⟨d,o,u,nf,e6,p5,_,rfl,SqL.of e7,?_⟩;have ea:(bs.all id)=prR n (some (.int mi,some ps)):=by
      show _=(fj (.int mi) && eE n (some ps) && ps.all fun p=>bN (iof (.int mi)) p.2)
      rw [hmd,hh,abS,abS,← hbs,ac4];rfl
    rw [ea];exact q _ (s1.trans S6)
end
open PySem L2
def tr (xs:List Int):List (Key × V):=xs.map fun x=>(Sum.inl x,V.bl true)
def ins (xs:List Int) (k:Int):List Int:=if k∈xs then xs else xs++[k]
theorem ins_mem {xs:List Int} {k x:Int}:x∈ins xs k↔x∈xs∨x=k:=by
  unfold ins;split
  · rename_i h;exact ⟨.inl,fun z=>z.elim id fun e=>e ▸ h⟩
  · rw [List.mem_append,aau]
theorem gJ {xs:List Int} {k:Int} (h:xs.Nodup):(ins xs k).Nodup:=by
  unfold ins;split
  · exact h
  · rename_i hk;exact List.nodup_append.mpr ⟨h,by simp,fun a ha b hb e=>hk (by rw [← aau.mp hb,← e];exact ha)⟩
theorem uc {xs:List Int} {k:Int}:(ins xs k).length≤xs.length+1:=by
  unfold ins;split
  · lia
  · rw [aaw,ac6];exact aaf _
theorem mR (xs:List Int) (k:Int):bt (tr xs) (Sum.inl k) (.bl true)=tr (ins xs k):=by
  have key:((tr xs).any fun kv=>decide (kv.1=Sum.inl k))=decide (k∈xs):=by
    unfold tr;rw [List.any_map,abl,List.any_eq_true,decide_eq_true_eq];constructor
    · rintro ⟨x,hx,e⟩;have : x=k:=by
        have:=of_decide_eq_true e;injection this
      exact this ▸ hx
    · exact fun h=>⟨k,h,by simp⟩
  unfold bt ins;by_cases h:k∈xs
  · rw [if_pos (by rw [key];exact decide_eq_true h),if_pos h];unfold tr;rw [aaM];refine List.map_congr_left fun x hx=>?_;show (if Sum.inl x=(Sum.inl k:Key) then _ else _)=_;by_cases e:x=k
    · subst e;simp
    · rw [if_neg (fun z=>e (by injection z))]
  · rw [if_neg (by rw [key];simpa using h),if_neg h];unfold tr;rw [aaG];rfl
theorem fN:∀ (ys xs:List Int),cC (tr xs) (tr ys)=tr (ys.foldl ins xs)
  | [],xs=>rfl
  | y :: ys,xs=>by
    show cC (bt (tr xs) (Sum.inl y) (.bl true)) (tr ys)=_;rw [mR,fN ys];rfl
theorem dy:∀ (ys xs:List Int) (x:Int),x∈ys.foldl ins xs↔x∈xs∨x∈ys
  | [],xs,x=>by simp
  | y :: ys,xs,x=>by
    rw [List.foldl_cons,dy ys,ins_mem,aai,or_assoc]
theorem fK:∀ (ys:List Int) {xs:List Int},xs.Nodup→(ys.foldl ins xs).Nodup
  | [],_,h=>h
  | y :: ys,_,h=>fK ys (gJ h)
theorem h7 (xs:List Int):(tr xs).map (·.1)=xs.map Sum.inl:=by unfold tr;rw [aaM];rfl
theorem cK (xs:List Int):(tr xs).length=xs.length:=by unfold tr;rw [aaa]
theorem cE {m:Int} {L:List Int} (nd:L.Nodup) (hb:∀ x∈L,0≤x∧x < m):L.length≤m.toNat:=by
  have:=List.Nodup.length_le_of_subset (l₁:=L) (l₂:=(aaO m.toNat).map fun (k:Nat)=>(k:Int)) nd fun y hy=>aar.mpr ⟨y.toNat,aaK.mpr (by have:=hb y hy;lia),by have:=hb y hy;lia⟩
  rwa [aaa,abc] at this
theorem jY {m:Int} (hm:0 < m) {L:List Int} (nd:L.Nodup) (hb:∀ x∈L,0≤x∧x < m) (hl:m≤L.length):∀ x,0≤x→x < m→x∈L:=by
  intro x h0 h1
  let R:=(aaO m.toNat).map fun (k:Nat)=>(k:Int)
  have lR:R.length=m.toNat:=by simp [R]
  have hsub:L ⊆ R:=fun y hy=>aar.mpr ⟨y.toNat,aaK.mpr (by have:=hb y hy;lia),by have:=hb y hy;lia⟩;have hR:x∈R:=aar.mpr ⟨x.toNat,aaK.mpr (by lia),by lia⟩;by_cases hx:x∈L
  · exact hx
  · have:=List.Nodup.length_le_of_subset (l₁:=x :: L) (l₂:=R) (List.nodup_cons.mpr ⟨hx,nd⟩) fun y hy=>by
      rcases aai.mp hy with rfl|hy
      · exact hR
      · exact hsub hy
    rw [lR,aaC] at this;lia
def DR (LL:Int × Int→List Int) (gs:List Sg) (m:Int) (q:Int × Int) (x:Int):Prop:=∃ c,q.1≤c∧c < q.2∧∃ g∈gs,∃ a,a∈LL (q.1,c)∧∃ b,b∈LL (c+1,q.2)∧x=g.op a b % m
theorem DR.bd {LL:Int × Int→List Int} {gs:List Sg} {m:Int} {q:Int × Int} {x:Int} (h:DR LL gs m q x) (m0:0 < m):0≤x∧x < m:=by
  obtain ⟨_,_,_,_,_,_,_,_,_,rfl⟩:=h;exact ⟨aco _ (by lia),abV _ m0⟩
def DU (ns:List Int) (LL:Int × Int→List Int) (gs:List Sg) (m:Int) (q:Int × Int) (x:Int):Prop:=if q.1=q.2 then x=ns.getD q.1.toNat 0 % m else DR LL gs m q x
def xH (LL:Int × Int→List Int) (gs:List Sg) (m:Int) (q:Int × Int) (c:Nat) (x:Int):Prop:=∃ k:Nat,k < c∧∃ g∈gs,∃ a,a∈LL (q.1,q.1+(k:Int))∧∃ b,b∈LL (q.1+(k:Int)+1,q.2)∧x=g.op a b % m
def LsG (w:World) (H:Hp) (a:Addr) (LL:Int × Int→List Int) (n:Nat):Prop:=∃ es,Pd w H a es∧∀ q:Int × Int,0≤q.1→q.1≤q.2→q.2 < n→∃ t,bg es (.tup [q.1,q.2])=some (.ref t)∧H t=some (.lst ((LL q).map V.int))
theorem LsG.mono {w:World} {H H':Hp} {a:Addr} {LL:Int × Int→List Int} {n:Nat} (g:Same H H') (h:LsG w H a LL n):LsG w H' a LL n:=by
  obtain ⟨es,h1,h2⟩:=h;exact ⟨es,h1.mono g,fun q a b c=>by obtain ⟨t,e1,e2⟩:=h2 q a b c;exact ⟨t,e1,g _ _ e2⟩⟩
section
variable {P:Program} {w:World} {K:aab} {mg:Str→Option Value} {base:Heap} {f:Addr} {fd:FuncData}
def mX (w:World):Sp:=fun vs H Q _=>∃ (r d:Addr) (ns:List Int) (gs:List Sg) (m:Int) (q:Int × Int) (v:V) (LL:Int × Int→List Int),vs=[.ref r,.str (aB gs),.int m,.ref d,v]∧H r=some (.lst (ns.map V.int))∧PairIn H q v∧0≤q.1∧q.1≤q.2∧q.2 < ns.length∧ns.length≤9∧gs.length≤3∧2≤m∧m≤60∧LsG w H d LL ns.length ∧
  (∀ q':Int × Int,0≤q'.1→q'.1≤q'.2→q'.2 < ns.length→∀ x∈LL q',0≤x∧x < m) ∧
  ∀ (p:Addr) (xs:List Int) (H':Hp),Same H H'→H p=none→H' p=some (.lst (xs.map V.int))→(∀ x,x∈xs↔DU ns LL gs m q x)→xs.length≤60→Q (.ref p) H'
abbrev eL:Stmt:=top 26
theorem cj:FnScope ["row","signs","m","lists","stretch","due","before","behind","sign"] ["row","signs","m","lists","stretch"] (ao eL):=⟨rfl,rfl,rfl,by decide +kernel,rfl,by decide +kernel,by decide +kernel⟩
theorem kG (F:Fun K "due_rests" "due_rests" eL f fd) (B:Bu K mg) (C_cuts_of:Cal P w K mg base "cuts_of" 1 ["stretch"] mY) (C_put_sign:Cal P w K mg base "put_sign" 1 ["left","sign","right"] gh):FnOk P w K mg base CX0 2 f fd ["row","signs","m","lists","stretch"] (mX w):=by
  refine F.ok cj (fun vs H Q E h=>?_) (fun cdv A outer s H vs Q E hr h=>?_)
  · obtain ⟨r,d,ns,gs,m,q,v,LL,rfl,_⟩:=h;rfl
  obtain ⟨r,d,ns,gs,m,q,v,LL,rfl,er,hv,q0,q1,q2,h9,g3,m2,m60,hG,hLL,qq⟩:=h;refine ⟨_,(@ag _ _ _ _ _ (@aI _ _ _ _ _ _ _ _ (@aE _ _ _ _ _ _ _ _ bD (@bu _ _ _ _ _ _ _ ix_tup (pv 4) ae (fun _ _=>rfl)) (@bu _ _ _ _ _ _ _ ix_tup (pv 4) ae (fun _ _=>rfl)) (aC _)) (@af _ _ _ (@ap _ _ _ _ (@aQ _ _ _ _ (@aa _ _ _ _ _ (@az _ _ _ _ _ _ _ _ bA (@bu _ _ _ _ _ _ _ ix_list (pv 0) (@bu _ _ _ _ _ _ _ ix_tup (pv 4) ae (fun _ _=>rfl)) (fun _ _=>rfl)) (pv 2)) ac (by rfl))))) aA) (@ag _ _ _ _ _ (@aG _ _ (5) _ _ _ _ (cj).nd rfl (Or.inl rfl) fW (by rfl) (by first|exact .inl rfl|exact .inr rfl|assumption)) (@ag _ _ _ _ _ (@a_ _ _ _ _ _ _ _ _ aaJ rfl (@ba _ _ _ _ (@aq _ _ _ _ _ _ _ _ _ _ _ C_cuts_of hr (by lia) rfl (@aa _ _ _ _ _ (pv 4) ac (by rfl)) (by decide) (by rfl) (by rfl))) (@dS _ _ _ _ _ _ rfl (@aY _ _ _ _ _ (@ak _ _ (6) _ (cj).nd rfl (Or.inl rfl) (.inl rfl)) (@aY _ _ _ _ _ (@ak _ _ (7) _ (cj).nd rfl (Or.inr rfl) (.inl rfl)) cR (by rfl)) (by rfl)) (by rfl) (by rfl)) (@af _ _ _ (@a_ _ _ _ _ _ _ _ _ aaJ rfl (@ko _ _ _ _ (pv 1)) (@ak _ _ (8) _ (cj).nd rfl (Or.inr rfl) (.inl rfl)) (@af _ _ _ (@aI _ _ _ _ _ _ _ _ (@aE _ _ _ _ _ _ _ _ gU (@ai _ _ _ _ _ _ _ _ _ gK rfl B.ilen aaN (@aa _ _ _ _ _ (pv 5) ac (by rfl)) (by decide) (by decide) (by rfl) (by rfl)) (pv 2) (aC _)) (@af _ _ _ (@bT _ _ _ _ (@iI _ _ _ _ _ _ _ _ _ _ _ _ abL PySem.F.slot_dict_update PySem.F.type_dict_update rD (pv 5) (@aa _ _ _ _ _ (vh (ob:=.dK []) (Or.inl rfl) (u1 hr.units) (NY:=["left","right","lists","behind","m","sign"]) (cap:=[none,none,some 3,some 7,some 2,some 8]) rfl (ba (bH (w:=w) rfl (u1 hr.units) (pv 3) (pv 6) (fun _ _=>rfl))) rfl ⟨rfl,⟨rfl,⟨rfl,⟨rfl,trivial⟩⟩⟩⟩ ⟨⟨rfl,Or.inl rfl,Or.inl rfl⟩,⟨⟨rfl,Or.inl rfl,Or.inl rfl⟩,⟨⟨rfl,Or.inl rfl,Or.inl rfl⟩,⟨⟨rfl,Or.inl rfl,Or.inl rfl⟩,trivial⟩⟩⟩⟩ (fun _ _ _ _=>⟨(ak (i:=0) (hf:=.inr rfl) (show aa7 (["left","right","lists","behind","m","sign"]:List Str) by decide +kernel) rfl (Or.inl rfl)),aX,(qX rfl (bH (w:=w) rfl (u1 hr.units) (pv 2) (pv 3) (fun _ _=>rfl))),(ak (i:=1) (hf:=.inr rfl) (show aa7 (["left","right","lists","behind","m","sign"]:List Str) by decide +kernel) rfl (Or.inl rfl)),aX,(az bA (aq C_put_sign hr (by lia) rfl (aa (pv 0) (aa (pv 5) (aa (pv 1) ac)))) (pv 4)),bo⟩)) ac (by rfl)) (by rfl) (by rfl) (by rfl) (by rfl) (by rfl)) (by rfl))) aA)) (by intro _;rfl))) (by intro _;rfl)) (@af _ _ _ (@ap _ _ _ _ (@ai _ _ _ _ _ _ _ _ _ (@dq _ rfl rfl) rfl B.isorted abI (@aa _ _ _ _ _ (pv 5) ac (by rfl)) (by decide) (by decide) (by rfl) (by rfl))))))),?_⟩;have m0:0 < m:=by lia
  have hv0:=hv;obtain ⟨av,rfl,eav⟩:=hv;refine ⟨_,rfl,av,_,_,_,rfl,rfl,SqT.of eav,rfl,_,rfl,av,_,_,_,rfl,rfl,SqT.of eav,rfl,rfl,_,rfl,cN (fun z=>?_) (fun z=>?_)⟩
  · have e12:q.1=q.2:=by have:=of_decide_eq_true z;injection this
    obtain ⟨i0,hi0⟩:∃ i0:Nat,(i0:Int)=q.1:=⟨q.1.toNat,by lia⟩
    have hi:i0 < ns.length:=by lia
    have hn:ns[i0]?=some ns[i0]:=aac hi;have hat:atI (ns.map V.int) q.1=some (.int ns[i0]):=by
      rw [← hi0];exact cV (by rw [aak,hn];rfl)
    refine ⟨_,rfl,_,rfl,av,_,_,_,rfl,rfl,SqT.of eav,rfl,r,_,_,_,rfl,rfl,SqL.of er,hat,_,rfl,_,_,rfl,rfl,m0,(by show 1≤sizeLine;decide),fun p np=>?_⟩;refine qq p [ns[i0] % m] _ (Same.new np _) np ad (fun x=>?_) (by show 1≤60;decide);unfold DU;rw [if_pos e12,aau,show q.1.toNat=i0 by lia,aat,hn];rfl
  have e12:q.1 < q.2:=by
    have : q.1≠q.2:=fun e=>z (by rw [e];simp);lia
  refine fun pm npm=>?_;have s1:=Same.new npm (.dK []);have em1:upd H pm (.dK []) pm=some (.dK (tr [])):=ad;generalize upd H pm (.dK [])=H1 at s1 em1 ⊢;refine ⟨_,rfl,q,.ref av,rfl,PairIn.mono (Tups.of s1) hv0,q0,by lia,by lia,fun a us H2 s2 na ea hp=>?_⟩;have em2:=s2 _ _ em1;have npma:pm≠a:=ah em1 na;have lu:=aav hp;have lc:(jv q).length=(q.2 - q.1).toNat:=by
    unfold jv;rw [aaa,abc]
  refine ⟨a,rfl,⟨_,SqL.of ea⟩,?_⟩;refine bZ (Trn.list (xs:=us)) (fun i σ H'=>∃ (xs:List Int) (c6 c7 c8:Option V),σ=[some (.ref r),some (.str (aB gs)),some (.int m),some (.ref d),some (.ref av),some (.ref pm),c6,c7,c8]∧But pm H2 H'∧H' pm=some (.dK (tr xs))∧xs.Nodup∧(∀ x∈xs,DR LL gs m q x)∧∀ x,xH LL gs m q i x→x∈xs) ⟨[],_,_,_,rfl,But.refl,em2,by simp,fun x hx=>by simp at hx,fun x ⟨_,z,_⟩=>absurd z (acq _)⟩ (fun i σ H' hi z=>?_) (fun i x σ H3 H' hi it z=>?_) (fun σ H' z=>?_)
  · obtain ⟨xs,c6,c7,c8,rfl,b3,_⟩:=z;exact SqL.of (b3 _ _ (abm npma) ea)
  · obtain ⟨xs3,c6,c7,c8,rfl,b3,em3,nd3,in3,cv3⟩:=z;obtain ⟨rfl,hx⟩:=it;obtain ⟨cu,hcu,a3,x1,y1,rfl,ea3,hx1,hy1⟩:=Paired.at hp hx;have ecu:cu=q.1+(i:Int):=by
      unfold jv at hcu;rw [aak,abp (by lia)] at hcu;exact (aa2 hcu).symm
    have t3:Tups H2 H':=fun b xs e=>b3 _ _ (fun z=>by rw [z,em2] at e;cases e) e;obtain ⟨ax,rfl,eax⟩:=PairIn.mono t3 hx1;obtain ⟨ay,rfl,eay⟩:=PairIn.mono t3 hy1;obtain ⟨es,pd,hg⟩:=hG;obtain ⟨T1,v1,el⟩:=hg (q.1,cu) (by simp only;lia) (by simp only;lia) (by simp only;lia);obtain ⟨T2,v2,er'⟩:=hg (cu+1,q.2) (by simp only;lia) (by simp only;lia) (by simp only;lia);have bd1':=hLL (q.1,cu) (by simp only;lia) (by simp only;lia) (by simp only;lia);have bd2':=hLL (cu+1,q.2) (by simp only;lia) (by simp only;lia) (by simp only;lia);have nml:=ah el npm;have nmr:=ah er' npm;obtain ⟨A1,hA1⟩:∃ A1,LL (q.1,cu)=A1:=⟨_,rfl⟩
    obtain ⟨A2,hA2⟩:∃ A2,LL (cu+1,q.2)=A2:=⟨_,rfl⟩
    rw [hA1] at el bd1';rw [hA2] at er' bd2';have small:∀ x:Int,0≤x∧x < m→x.natAbs < 2 ^ 4000:=fun x hx=>aas (show x.natAbs < 2 ^ 7 by lia) (ab4 (by decide) (by decide));refine ⟨a3,_,rfl,SqT.of (t3 _ _ ea3),rfl,_,_,rfl,_,_,rfl,rfl,?_⟩;refine ⟨_,rfl,_,rfl,dE gs,?_⟩;refine bZ (Trn.str (z:=aB gs)) (fun j σ H''=>∃ (xs:List Int) (c8:Option V),σ=[some (.ref r),some (.str (aB gs)),some (.int m),some (.ref d),some (.ref av),some (.ref pm),some (.ref ax),some (.ref ay),c8]∧But pm H' H''∧H'' pm=some (.dK (tr xs))∧xs.Nodup∧(∀ x∈xs,DR LL gs m q x)∧(∀ x∈xs3,x∈xs)∧∀ g∈gs.take j,∀ a∈A1,∀ b∈A2,g.op a b % m∈xs) ⟨xs3,_,rfl,But.refl,em3,nd3,in3,fun x hx=>hx,fun g hg=>by simp at hg⟩ (fun j σ H'' hj z=>trivial) (fun j x σ H4 H'' hj it z=>?_) (fun σ H'' z=>?_)
    · obtain ⟨xs4,d8,rfl,b4,em4,nd4,in4,sup4,cv4⟩:=z;obtain ⟨rfl,cc,hcc,rfl⟩:=it;obtain ⟨g,hg,rfl⟩:=ow hcc;have hgm:g∈gs:=aap hg;have bd4:∀ x∈xs4,0≤x∧x < m:=fun x hx=>(in4 x hx).bd m0;have rs_op:∀ a∈A1,∀ b∈A2,DR LL gs m q (g.op a b % m):=fun a ha b hb=>⟨cu,by lia,by lia,g,hgm,a,by rw [hA1];exact ha,b,by rw [hA2];exact hb,rfl⟩
      have hlen4:(tr xs4).length=xs4.length:=cK xs4;refine ⟨_,rfl,pm,_,rfl,em4,_,rfl,_,_,rfl,rfl,_,rfl,cN (fun zz=>?_) (fun zz=>?_)⟩
      · have up:∀ {b:Addr} {o:HO},b≠pm→H b=some o→H'' b=some o:=fun {b o} hb e=>b4 _ _ hb (b3 _ _ hb (s2 _ _ (s1 _ _ e)));have SH:Same H H'':=fun b o e=>up (ah e npm) e;have D1:lf w H'' d (.ref ax) (some (.ref T1)):=⟨es,_,pd.mono SH,MkIn.pair (i:=q.1) (j:=cu) (b4 _ _ (fun z=>by rw [z,em3] at eax;cases eax) eax),v1.symm⟩
        have D2:lf w H'' d (.ref ay) (some (.ref T2)):=⟨es,_,pd.mono SH,MkIn.pair (i:=cu+1) (j:=q.2) (b4 _ _ (fun z=>by rw [z,em3] at eay;cases eay) eay),v2.symm⟩
        have el'':=up nml el;have er'':=up nmr er';have eay'':=b4 _ _ (fun z=>by rw [z,em3] at eay;cases eay) eay;refine ⟨_,rfl,.inr (.inr (.inl ⟨rfl,.inl ⟨_,em4⟩⟩)),?_⟩;refine ⟨_,rfl,_,rfl,d,_,rfl,D1,T1,rfl,⟨_,SqL.of el''⟩,?_⟩;refine vM (Trn.list (xs:=A1.map V.int)) (fun p i H1=>∃ ys:List Int,Same H'' H1∧H1 p=some (.dK (tr ys))∧ys.Nodup∧(∀ x,x∈ys↔∃ a∈A1.take i,∃ b∈A2,x=g.op a b % m)) (fun p np=>⟨[],Same.new np _,ad,by simp,fun x=>⟨fun z=>by simp at z,fun ⟨_,z,_⟩=>by simp at z⟩⟩) (fun p i H1 hi z=>?_) (fun p i x H1 H1' np hi it z Nx nx=>?_) (fun p H1 np z=>?_)
        · obtain ⟨ys,S1,_⟩:=z;exact SqL.of (S1 _ _ el'')
        · obtain ⟨ys,S1,ep1,nd1,cv1⟩:=z;obtain ⟨rfl,hx⟩:=it;rw [aak] at hx;obtain ⟨a1,ha1,rfl⟩:=aaz.mp hx;have ma1:a1∈A1:=aap ha1;have D2':lf w H1' d (.ref ay) (some (.ref T2)):=⟨es,_,(pd.mono SH).mono S1,MkIn.pair (i:=cu+1) (j:=q.2) (S1 _ _ eay''),v2.symm⟩
          refine ⟨_,rfl,_,rfl,d,_,rfl,D2',T2,rfl,⟨_,SqL.of (S1 _ _ er'')⟩,?_⟩;refine uf (Trn.list (xs:=A2.map V.int)) (fun k σ H2=>∃ (ys':List Int) (c1:Option V),σ=[some (.int a1),c1,some (.ref d),some (.ref ay),some (.int m),some (.str ⟨#[g.code]⟩)]∧Same H'' H2∧H2 p=some (.dK (tr ys'))∧ys'.Nodup∧(∀ x,x∈ys'↔x∈ys∨∃ b∈A2.take k,x=g.op a1 b % m)) ⟨ys,_,rfl,S1,ep1,nd1,fun x=>⟨.inl,fun z=>z.elim id fun ⟨_,z,_⟩=>by simp at z⟩⟩ (fun k σ H2 hk z=>?_) (fun k x σ H2 H2' hk it z Nx2 nx2=>?_) (fun σ H2 z=>?_)
          · obtain ⟨ys',c1,rfl,S2,_⟩:=z;exact SqL.of (S2 _ _ er'')
          · obtain ⟨ys',c1,rfl,S2,ep2,nd2,cv2⟩:=z;obtain ⟨rfl,hx2⟩:=it;rw [aak] at hx2;obtain ⟨b1,hb1,rfl⟩:=aaz.mp hx2;have mb1:b1∈A2:=aap hb1;have bd2:∀ x∈ys',0≤x∧x < m:=fun x hx=>by
              rcases (cv2 x).mp hx with z|⟨b,hb,rfl⟩
              · obtain ⟨a,ha,b,hb,rfl⟩:=(cv1 x).mp z;exact (rs_op a (List.mem_of_mem_take ha) b hb).bd m0
              · exact (rs_op a1 ma1 b (List.mem_of_mem_take hb)).bd m0
            have l2:=cE nd2 bd2;refine ⟨_,rfl,_,rfl,_,rfl,a1,g,b1,(by rw [b_];rfl),small _ (bd1' a1 ma1),small _ (bd2' b1 mb1),_,rfl,_,_,rfl,rfl,m0,_,DPut.k (k:=Sum.inl (g.op a1 b1 % m)) ep2 (au (by rw [cK];lia)),nx2 _ _ ⟨ins ys' (g.op a1 b1 % m),_,rfl,?_,?_,gJ nd2,fun x=>?_⟩⟩
            · intro b o e;rw [aj (fun z=>by rw [z,np] at e;cases e)];exact S2 _ _ e
            · rw [ad,mR]
            · rw [ins_mem,cv2,aaE,hb1];simp only [adc,List.mem_append,aau];constructor
              · rintro ((z|⟨b,hb,z⟩)|z)
                · exact .inl z
                · exact .inr ⟨b,.inl hb,z⟩
                · exact .inr ⟨b1,.inr rfl,z⟩
              · rintro (z|⟨b,hb|hb,z⟩)
                · exact .inl (.inl z)
                · exact .inl (.inr ⟨b,hb,z⟩)
                · subst hb;exact .inr z
          · obtain ⟨ys',c1,rfl,S2,ep2,nd2,cv2⟩:=z;rw [aaa,aaT] at cv2;refine nx _ ⟨ys',S2,ep2,nd2,fun x=>?_⟩;rw [cv2,cv1,aaE,ha1];simp only [adc,List.mem_append,aau];constructor
            · rintro (⟨a,ha,z⟩|⟨b,hb,z⟩)
              · exact ⟨a,.inl ha,z⟩
              · exact ⟨a1,.inr rfl,b,hb,z⟩
            · rintro ⟨a,ha|ha,z⟩
              · exact .inl ⟨a,ha,z⟩
              · subst ha;exact .inr z
        · obtain ⟨ys,S1,ep1,nd1,cv1⟩:=z;rw [aaa,aaT] at cv1;have bd1:∀ x∈ys,0≤x∧x < m:=fun x hx=>by
            obtain ⟨a,ha,b,hb,rfl⟩:=(cv1 x).mp hx;exact (rs_op a ha b hb).bd m0
          have l1:=cE nd1 bd1;have l4:=cE nd4 bd4;have nep:pm≠p:=ah em4 np;refine ⟨pm,p,_,_,rfl,rfl,S1 _ _ em4,ep1,nep,?_,ys.foldl ins xs4,_,rfl,?_,?_,fK ys nd4,fun x hx=>?_,fun x hx=>?_,fun g' hg' a ha b hb=>?_⟩
          · rw [cK,cK];exact abX (au (by lia))
          · intro b o hb e;rw [aj hb];exact S1 _ _ (b4 _ _ hb e)
          · rw [ad,fN]
          · rcases (dy ys xs4 x).mp hx with z|z
            · exact in4 x z
            · obtain ⟨a,ha,b,hb,rfl⟩:=(cv1 x).mp z;exact rs_op a ha b hb
          · exact (dy ys xs4 x).mpr (.inl (sup4 x hx))
          · rw [aaE,hg] at hg';rw [dy];rcases aay.mp hg' with z|z
            · exact .inl (cv4 g' z a ha b hb)
            · simp only [adc,aau] at z;subst z;exact .inr ((cv1 _).mpr ⟨a,ha,b,hb,rfl⟩)
      · refine ⟨xs4,_,rfl,b4,em4,nd4,in4,sup4,fun g' hg' a ha b hb=>?_⟩;rw [aaE,hg] at hg';rcases aay.mp hg' with z|z
        · exact cv4 g' z a ha b hb
        · simp only [adc,aau] at z;subst z;have hfull:m≤(xs4.length:Int):=by
            refine ab0 fun hc=>zz (decide_eq_true ?_);rw [hlen4];lia
          exact jY m0 nd4 bd4 hfull _ ((rs_op a ha b hb).bd m0).1 ((rs_op a ha b hb).bd m0).2
    · obtain ⟨xs4,d8,rfl,b4,em4,nd4,in4,sup4,cv4⟩:=z;rw [ou,aaT] at cv4;refine ⟨xs4,_,_,_,rfl,b3.trans b4,em4,nd4,in4,fun x hx=>?_⟩;obtain ⟨k,hk,g,hg,a,ha,b,hb,rfl⟩:=hx;by_cases e:k=i
      · subst e;rw [← ecu] at ha hb;exact cv4 g hg a (by rw [← hA1];exact ha) b (by rw [← hA2];exact hb)
      · exact sup4 _ (cv3 _ ⟨k,by lia,g,hg,a,ha,b,hb,rfl⟩)
  · obtain ⟨xs3,c6,c7,c8,rfl,b3,em3,nd3,in3,cv3⟩:=z;rw [← lu,lc] at cv3;have few:=cE nd3 (fun x hx=>(in3 x hx).bd m0);refine ⟨_,rfl,pm,_,xs3,rfl,em3,h7 xs3,by rw [cK];lia,fun D ms nD perm srt=>?_⟩;have mem:∀ x,x∈ms↔DU ns LL gs m q x:=fun x=>by
      rw [perm.mem_iff];unfold DU;rw [if_neg (by lia)];refine ⟨in3 x,fun hx=>?_⟩;obtain ⟨c,c1,c2,g,hg,a,ha,b,hb,rfl⟩:=hx;refine cv3 _ ⟨(c - q.1).toNat,by lia,g,hg,a,?_,b,?_,rfl⟩
      · rw [show q.1+(((c - q.1).toNat:Nat):Int)=c by lia];exact ha
      · rw [show q.1+(((c - q.1).toNat:Nat):Int)+1=c+1 by lia];exact hb
    have lms:=perm.length_eq;have sD:=Same.new nD (.lst (ms.map V.int));have hH:H D=none:=by
      cases g:H D with
      | none=>rfl
      | some o =>
        have:=b3 _ _ (ah g npm) (s2 _ _ (s1 _ _ g));rw [nD] at this;cases this
    exact qq D ms _ (fun b o e=>sD _ _ (b3 _ _ (ah e npm) (s2 _ _ (s1 _ _ e)))) hH ad mem (by lia)
end
open PySem L2
noncomputable def hdR (ns:List Int) (LL:Int × Int→List Int) (gs:List Sg) (m:Int) (q:Int × Int):Bool:=@decide (∀ x,DU ns LL gs m q x→x∈LL q) (abj _)
theorem iW (x:Int):∀ l:List Int,inV (.int x) (l.map V.int)=decide (x∈l)
  | []=>by simp [inV]
  | y :: l=>by
    have ih:=iW x l;unfold inV at ih ⊢;rw [aae,acI,ih,abl,Bool.or_eq_true,decide_eq_true_eq,decide_eq_true_eq,aai];have : (eqV (.int y) (.int x)=true)↔x=y:=by
      show ((y == x)=true)↔_;rw [beq_iff_eq];exact eq_comm
    rw [this]
theorem gI:∀ l:List Int,(l.map V.int).all eA=true
  | []=>rfl
  | _ :: l=>by rw [aae,ada,gI l];rfl
def lsD:PyData→List Int
  | .list ds=>ds.map iof
  | _=>[]
def LLp (ps:PPa) (q:Int × Int):List Int:=((lkP ps q).map lsD).getD []
theorem rG {w:World} {H:Hp} {a:Addr} {ps:PPa} {n:Nat} {m:Int} (hp:PaIn w H a ps) (h1:eE n (some ps)=true) (h2:ps.all (fun p=>bN m p.2)=true):LsG w H a (LLp ps) n∧∀ q:Int × Int,0≤q.1→q.1≤q.2→q.2 < n→∀ x∈LLp ps q,0≤x∧x < m:=by
  obtain ⟨es,pd,hes⟩:=hp;rw [cD,aaS,aaU] at h1;have key:∀ q:Int × Int,0≤q.1→q.1≤q.2→q.2 < n→∃ (ds:List PyData) (v:V),lkP ps q=some (.list ds)∧bg es (.tup [q.1,q.2])=some v∧Dat H (.list ds) v∧ds.all (aN m)=true:=fun q q0 q1 q2=>by
    have hs:=h1.2 q (m4 q0 q1 q2);rcases nz hes q with ⟨e1,_⟩|⟨d,v,e1,e2,hd⟩
    · rw [e1] at hs;cases hs
    · have hl:=aaU.mp h2 _ (ff e1);have hl:bN m d=true:=hl;cases d with
      | list ds =>
        have : (ds.all (aN m) && hU (ds.map iof))=true:=hl;rw [aaS] at this;exact ⟨ds,v,e1,e2,hd,this.1⟩
      | _=>exact absurd hl (by simp [bN])
  refine ⟨⟨es,pd,fun q q0 q1 q2=>?_⟩,fun q q0 q1 q2 x hx=>?_⟩
  · obtain ⟨ds,v,e1,e2,hd,ha⟩:=key q q0 q1 q2;simp only [Dat] at hd;obtain ⟨t,xs,rfl,ht,da⟩:=hd;refine ⟨t,e2,?_⟩;rw [ht,dP da ha];unfold LLp;rw [e1];rfl
  · obtain ⟨ds,v,e1,e2,hd,ha⟩:=key q q0 q1 q2;unfold LLp at hx;rw [e1] at hx;obtain ⟨d,hd',rfl⟩:=aar.mp (show x∈ds.map iof from hx);have:=aaU.mp ha d hd';cases d with
    | int i =>
      have : (decide (0≤i) && decide (i < m))=true:=this;rw [aaS,decide_eq_true_eq,decide_eq_true_eq] at this;exact this
    | _=>exact absurd this (by simp [aN])
noncomputable def sayR (ns:List Int) (gs:List Sg):PRe→Option (List Int)
  | some (dm,some ps)=>if (prR ns.length (some (dm,some ps)) && (sfl ns.length ns.length).all (hdR ns (LLp ps) gs (iof dm)))=true then some (LLp ps (0,(ns.length:Int) - 1)) else none
  | _=>none
section
variable {P:Program} {w:World} {K:aab} {mg:Str→Option Value} {base:Heap} {f:Addr} {fd:FuncData}
def iz (w:World):Sp:=fun vs H Q _=>∃ (r d:Addr) (ns:List Int) (gs:List Sg) (m:Int) (q:Int × Int) (v:V) (LL:Int × Int→List Int),vs=[.ref r,.str (aB gs),.int m,.ref d,v]∧H r=some (.lst (ns.map V.int))∧PairIn H q v∧0≤q.1∧q.1≤q.2∧q.2 < ns.length∧ns.length≤9∧gs.length≤3∧2≤m∧m≤60∧LsG w H d LL ns.length ∧
  (∀ q':Int × Int,0≤q'.1→q'.1≤q'.2→q'.2 < ns.length→∀ x∈LL q',0≤x∧x < m)∧∀ H',Same H H'→Q (.bl (hdR ns LL gs m q)) H'
abbrev cM:Stmt:=top 25
theorem gp:FnScope ["row","signs","m","lists","stretch"] ["row","signs","m","lists","stretch"] (ao cM):=⟨rfl,rfl,rfl,by decide +kernel,rfl,by decide +kernel,by decide +kernel⟩
theorem nE (F:Fun K "has_due_rests" "has_due_rests" cM f fd) (B:Bu K mg) (C_due_rests:Cal P w K mg base "due_rests" 2 ["row","signs","m","lists","stretch"] (mX w)):FnOk P w K mg base CX0 3 f fd ["row","signs","m","lists","stretch"] (iz w):=by
  refine F.ok gp (fun vs H Q E h=>?_) (fun cdv A outer s H vs Q E hr h=>?_)
  · obtain ⟨r,d,ns,gs,m,q,v,LL,rfl,_⟩:=h;rfl
  obtain ⟨r,d,ns,gs,m,q,v,LL,rfl,er,hv,q0,q1,q2,h9,g3,m2,m60,hG,hLL,qq⟩:=h;refine ⟨_,(@af _ _ _ (@ap _ _ _ _ (@ai _ _ _ _ _ _ _ _ _ (@dg _ rfl) rfl B.iall abt (@aa _ _ _ _ _ (@cA _ _ _ _ _ _ _ _ (["rest","lists","stretch"]) ([none,some 3,some 4]) _ _ _ _ rfl (@ba _ _ _ _ (@aq _ _ _ _ _ _ _ _ _ _ _ C_due_rests hr (by lia) rfl (@aa _ _ _ _ _ (pv 0) (@aa _ _ _ _ _ (pv 1) (@aa _ _ _ _ _ (pv 2) (@aa _ _ _ _ _ (pv 3) (@aa _ _ _ _ _ (pv 4) ac (by rfl)) (by rfl)) (by rfl)) (by rfl)) (by rfl)) (by decide) (by rfl) (by rfl))) rfl ⟨rfl,⟨rfl,trivial⟩⟩ ⟨⟨rfl,Or.inl rfl,Or.inl rfl⟩,⟨⟨rfl,Or.inl rfl,Or.inl rfl⟩,trivial⟩⟩ (fun _ _ _ _=>⟨(@ak _ _ (0) _ (show aa7 (["rest","lists","stretch"]:List Str) by decide +kernel) rfl (Or.inl rfl) (.inr rfl)),aX,(@bp _ _ _ _ _ _ _ _ (@nA _ _ rfl) (pv 0) (@bH _ _ _ _ _ _ (w) rfl (u1 hr.units) (pv 1) (pv 2) (fun _ _=>rfl)) (by with_unfolding_all rfl))⟩) (by rfl) (by rfl) (by rfl) (by rfl) (by intro _;rfl)) ac (by rfl)) (by decide) (by decide) (by rfl) (by rfl)))),?_⟩;refine ⟨_,rfl,_,rfl,_,rfl,_,rfl,_,rfl,r,d,ns,gs,m,q,v,LL,rfl,er,hv,q0,q1,q2,h9,g3,m2,m60,hG,hLL,fun p xs H1 s1 np ep mem l60=>⟨p,rfl,⟨_,SqL.of ep⟩,?_⟩⟩;obtain ⟨es,pd,hg⟩:=hG.mono s1;obtain ⟨t,v1,et⟩:=hg q q0 q1 q2;obtain ⟨b,rfl,eb⟩:=PairIn.key (PairIn.mono (Tups.of s1) hv);refine cJ (Trn.list (xs:=xs.map V.int)) (fun i ys H'=>H'=H1∧ys=((xs.take i).map fun x=>decide (x∈LL q)).map V.bl) ⟨rfl,rfl⟩ (fun i ys H' hi z=>⟨by rw [z.1];exact SqL.of ep,by rw [z.2,aaa,aaa,aaL];exact au (by lia)⟩) (fun i x ys H0 H' hi hx z Nx nx=>?_) (fun ys H' z p5 n5=>?_)
  · obtain ⟨rfl,rfl⟩:=z;obtain ⟨rfl,hx⟩:=hx;rw [aak] at hx;obtain ⟨x1,hx1,rfl⟩:=aaz.mp hx;refine ⟨_,rfl,_,rfl,_,rfl,d,_,rfl,⟨es,_,pd,MkIn.pair (i:=q.1) (j:=q.2) eb,v1.symm⟩,t,_,rfl,.inl (SqL.of et),rfl,gI _,?_⟩;show Nx (_++[V.bl (inV (.int x1) ((LL q).map V.int))]) H';rw [iW];refine nx _ _ ⟨rfl,?_⟩;rw [eZ hx1,aaG];rfl
  obtain ⟨rfl,rfl⟩:=z;rw [aaa,aaT];refine ⟨p5,_,rfl,SqL.of ad,?_⟩;have e:((xs.map fun x=>decide (x∈LL q)).all id)=hdR ns LL gs m q:=by
    unfold hdR;rw [abl,@decide_eq_true_eq _ (abj _),ac4,aaU];constructor
    · intro h x hx;exact of_decide_eq_true (h x ((mem x).mpr hx))
    · intro h x hx;exact decide_eq_true (h x ((mem x).mp hx))
  rw [e];exact qq _ (s1.trans (Same.new n5 _))
def j5 (w:World) (K:aab):Sp:=fun vs H Q _=>∃ (r:Addr) (ns:List Int) (gs:List Sg) (t:PRe) (v:V),vs=[.ref r,.str (aB gs),v]∧H r=some (.lst (ns.map V.int))∧1≤ns.length∧ns.length≤9∧1≤gs.length∧gs.length≤3∧e_ gs∧RIn w K H t v∧Lrw t ∧
  ∀ H',Same H H'→(sayR ns gs t=none→Q .non H')∧(∀ l p,sayR ns gs t=some l→H p=none→H' p=some (.lst (l.map V.int))→Q (.ref p) H')
abbrev eK:Stmt:=top 20
theorem dF:FnScope ["row","signs","thing","m","lists"] ["row","signs","thing"] (ao eK):=⟨rfl,rfl,rfl,by decide +kernel,rfl,by decide +kernel,by decide +kernel⟩
theorem kw (F:Fun K "rests_say" "rests_say" eK f fd) (B:Bu K mg) (C_need_row:Cal P w K mg base "need_row" 3 ["thing"] gi) (C_need_signs:Cal P w K mg base "need_signs" 2 ["thing"] eI) (C_is_paper:Cal P w K mg base "is_paper" 4 ["thing","many"] (ka w K)) (C_has_due_rests:Cal P w K mg base "has_due_rests" 3 ["row","signs","m","lists","stretch"] (iz w)) (C_shorter_first:Cal P w K mg base "shorter_first" 1 ["many"] tj):FnOk P w K mg base CX0 5 f fd ["row","signs","thing"] (j5 w K):=by
  refine F.ok dF (fun vs H Q E h=>?_) (fun cdv A outer s H vs Q E hr h=>?_)
  · obtain ⟨r,ns,gs,t,v,rfl,_⟩:=h;rfl
  obtain ⟨r,ns,gs,t,v,rfl,er,n1,n9,g1,g3,hs,ht,hlw,qq⟩:=h;refine ⟨_,(@ag _ _ _ _ _ (@bT _ _ _ _ (@aq _ _ _ _ _ _ _ _ _ _ _ C_need_row hr (by lia) rfl (@aa _ _ _ _ _ (pv 0) ac (by rfl)) (by decide) (by rfl) (by rfl)) (by rfl)) (@ag _ _ _ _ _ (@bT _ _ _ _ (@aq _ _ _ _ _ _ _ _ _ _ _ C_need_signs hr (by lia) rfl (@aa _ _ _ _ _ (pv 1) ac (by rfl)) (by decide) (by rfl) (by rfl)) (by rfl)) (@ag _ _ _ _ _ (@aI _ _ _ _ _ _ _ _ (@aZ _ _ _ _ (@aU _ _ _ (@aq _ _ _ _ _ _ _ _ _ _ _ C_is_paper hr (by lia) rfl (@aa _ _ _ _ _ (pv 2) (@aa _ _ _ _ _ (@ai _ _ _ _ _ _ _ _ _ aF rfl B.ilen aaN (@aa _ _ _ _ _ (pv 0) ac (by rfl)) (by decide) (by decide) (by rfl) (by rfl)) ac (by rfl)) (by rfl)) (by decide) (by rfl) (by rfl)) (by intro _;rfl))) (@af _ _ _ (@ap _ _ _ _ bz)) aA) (@ag _ _ _ _ _ (@eS _ _ _ _ _ _ (pv 2) (@dS _ _ _ _ _ _ rfl (@aY _ _ _ _ _ (@ak _ _ (3) _ (dF).nd rfl (Or.inr rfl) (.inl rfl)) (@aY _ _ _ _ _ (@ak _ _ (4) _ (dF).nd rfl (Or.inr rfl) (.inl rfl)) cR (by rfl)) (by rfl)) (by rfl) (by rfl)) (by rfl) (by rfl) (by rfl)) (@ag _ _ _ _ _ (@aI _ _ _ _ _ _ _ _ (@aZ _ _ _ _ (@aU _ _ _ (@ai _ _ _ _ _ _ _ _ _ (@dg _ rfl) rfl B.iall abt (@aa _ _ _ _ _ (@cA _ _ _ _ _ _ _ _ (["stretch","row","signs","m","lists"]) ([none,some 0,some 1,some 3,some 4]) _ _ _ _ rfl (@ba _ _ _ _ (@aq _ _ _ _ _ _ _ _ _ _ _ C_shorter_first hr (by lia) rfl (@aa _ _ _ _ _ (@ai _ _ _ _ _ _ _ _ _ aF rfl B.ilen aaN (@aa _ _ _ _ _ (pv 0) ac (by rfl)) (by decide) (by decide) (by rfl) (by rfl)) ac (by rfl)) (by decide) (by rfl) (by rfl))) rfl ⟨rfl,⟨rfl,⟨rfl,⟨rfl,trivial⟩⟩⟩⟩ ⟨⟨rfl,Or.inl rfl,Or.inl rfl⟩,⟨⟨rfl,Or.inl rfl,Or.inl rfl⟩,⟨⟨rfl,Or.inl rfl,Or.inl rfl⟩,⟨⟨rfl,Or.inl rfl,Or.inl rfl⟩,trivial⟩⟩⟩⟩ (fun _ _ _ _=>⟨(@ak _ _ (0) _ (show aa7 (["stretch","row","signs","m","lists"]:List Str) by decide +kernel) rfl (Or.inl rfl) (.inr rfl)),aX,(@aq _ _ _ _ _ _ _ _ _ _ _ C_has_due_rests hr (by lia) rfl (@aa _ _ _ _ _ (pv 1) (@aa _ _ _ _ _ (pv 2) (@aa _ _ _ _ _ (pv 3) (@aa _ _ _ _ _ (pv 4) (@aa _ _ _ _ _ (pv 0) ac (by rfl)) (by rfl)) (by rfl)) (by rfl)) (by rfl)) (by decide) (by rfl) (by rfl))⟩) (by rfl) (by rfl) (by rfl) (by rfl) (by intro _;rfl)) ac (by rfl)) (by decide) (by decide) (by rfl) (by rfl)) (by intro _;rfl))) (@af _ _ _ (@ap _ _ _ _ bz)) aA) (@af _ _ _ (@ap _ _ _ _ (@aT _ _ _ _ _ _ _ _ _ d3 rfl B.ilist aaQ (@aa _ _ _ _ _ (@bH _ _ _ _ _ _ (w) rfl (u1 hr.units) (pv 4) (@aH _ _ _ _ _ (@aa _ _ _ _ _ ae (@aa _ _ _ _ _ (@az _ _ _ _ _ _ _ _ fH (@ai _ _ _ _ _ _ _ _ _ aF rfl B.ilen aaN (@aa _ _ _ _ _ (pv 0) ac (by rfl)) (by decide) (by decide) (by rfl) (by rfl)) ae) ac (by rfl)) (by rfl))) (fun _ _=>rfl)) ac (by rfl)) (by decide) (by decide) (by rfl) (by rfl))))))))),?_⟩;have hl:(ns.map V.int).length=ns.length:=aaa _;refine ⟨_,rfl,r,ns,rfl,er,n1,n9,fun H1 s1=>?_⟩;refine ⟨_,rfl,gs,rfl,hs,?_⟩;refine ⟨_,rfl,_,rfl,r,_,rfl,.inl (SqL.of (s1 _ _ er)),?_⟩;rw [hl];refine ⟨t,v,ns.length,rfl,n1,n9,ht.mono s1,hlw,fun H2 s2=>⟨_,rfl,?_⟩⟩;have S2:=s1.trans s2;cases hp:prR ns.length t with
  | false =>
    have e:sayR ns gs t=none:=by
      cases t with
      | none=>rfl
      | some p =>
        obtain ⟨dm,o⟩:=p;cases o with
        | none=>rfl
        | some ps =>
          show (if (prR ns.length (some (dm,some ps)) && _)=true then _ else none)=none;rw [hp];rfl
    exact aR ((qq _ S2).1 e)
  | true =>
  cases t with
  | none=>cases hp
  | some p =>
  obtain ⟨dm,o⟩:=p;cases o with
  | none=>cases hp
  | some ps =>
  have hp':(fj dm && eE ns.length (some ps) && ps.all fun p=>bN (iof dm) p.2)=true:=hp;rw [aaS,aaS] at hp';obtain ⟨⟨hm,hh⟩,hps⟩:=hp';obtain ⟨mi,rfl⟩:∃ mi,dm=.int mi:=by
    cases dm with
    | int i=>exact ⟨i,rfl⟩
    | _=>exact absurd hm (by simp [fj])
  have hm2:2≤mi∧mi≤60:=by
    have : (decide (2≤mi) && decide (mi≤60))=true:=hm;rw [aaS,decide_eq_true_eq,decide_eq_true_eq] at this;exact this
  obtain ⟨a,mv,lv,rfl,ea,hmv,hl2⟩:=ht.mono S2;simp only [Dat] at hmv;subst hmv;obtain ⟨d,rfl,hpa⟩:=hl2;obtain ⟨hG,hLL⟩:=rG (m:=mi) hpa hh hps;have er2:=S2 _ _ er;refine aM ⟨_,rfl,a,_,rfl,SqT.of ea,rfl,_,_,rfl,_,_,rfl,rfl,?_⟩;refine ⟨_,rfl,r,_,rfl,.inl (SqL.of er2),?_⟩;rw [hl];refine ⟨ns.length,rfl,n9,fun pS us HB sB npS epS hpS=>⟨pS,rfl,⟨_,SqL.of epS⟩,?_⟩⟩;have SB:=S2.trans sB;have erB:=SB _ _ er;have hGB:=hG.mono sB;have lS:=hpS.length;have l81:=ic ns.length ns.length;have l81':ns.length * ns.length≤9 * 9:=ac1 n9 n9;refine cJ (Trn.list (xs:=us)) (fun i ys H'=>Same HB H'∧ys=(((sfl ns.length ns.length).take i).map fun q=>hdR ns (LLp ps) gs mi q).map V.bl) ⟨Same.refl _,rfl⟩ (fun i ys H' hi z=>⟨SqL.of (z.1 _ _ epS),by rw [z.2,aaa,aaa,aaL];exact au (by lia)⟩) (fun i x ys H0 H' hi hx z Nx nx=>?_) (fun ys H' z p9 n9'=>?_)
  · obtain ⟨S,rfl⟩:=z;obtain ⟨rfl,hx⟩:=hx;obtain ⟨q1,hq1,hpx⟩:=lX (PairsIn.mono (Tups.of S) hpS) hx;obtain ⟨a0,a1,a2⟩:=iC ns.length q1 (aap hq1);refine ⟨_,rfl,_,rfl,_,rfl,_,rfl,_,rfl,r,d,ns,gs,mi,q1,x,LLp ps,rfl,S _ _ erB,hpx,a0,a1,a2,n9,g3,hm2.1,hm2.2,hGB.mono S,hLL,fun H3 s3=>nx _ _ ⟨S.trans s3,?_⟩⟩;rw [eZ hq1,aaG];rfl
  obtain ⟨S,rfl⟩:=z;rw [← lS,aaT];obtain ⟨cs,hcs⟩:∃ cs:List Bool,((sfl ns.length ns.length).map fun q=>hdR ns (LLp ps) gs mi q)=cs:=⟨_,rfl⟩
  rw [hcs];have s9:=Same.new n9' (.lst (cs.map V.bl));refine ⟨p9,_,rfl,SqL.of ad,?_⟩;have SC:=(SB.trans S).trans s9;have hGC:=(hGB.mono S).mono s9;generalize upd H' p9 (.lst (cs.map V.bl))=HC at s9 SC hGC ⊢;have ec:(cs.all id)=(sfl ns.length ns.length).all (hdR ns (LLp ps) gs mi):=by rw [← hcs,ac4];rfl
  rw [ec];have es:sayR ns gs (some (.int mi,some ps))=if (sfl ns.length ns.length).all (hdR ns (LLp ps) gs mi)=true then some (LLp ps (0,(ns.length:Int) - 1)) else none:=by
    show (if (prR ns.length (some (PyData.int mi,some ps)) && (sfl ns.length ns.length).all (hdR ns (LLp ps) gs (iof (.int mi))))=true then _ else none)=_;rw [hp,abS];rfl
  cases hoa:(sfl ns.length ns.length).all (hdR ns (LLp ps) gs mi) with
  | false =>
    rw [hoa] at es;exact ⟨_,rfl,aR ((qq _ SC).1 es)⟩
  | true =>
  rw [hoa] at es;refine ⟨_,rfl,aM ?_⟩;refine ⟨_,rfl,_,rfl,r,_,rfl,.inl (SqL.of (SC _ _ er)),_,_,rfl,rfl,?_⟩;rw [hl];refine ⟨(by show 2≤sizeLine;decide),fun k1 nk1=>?_⟩;have sk:=Same.new nk1 (.tup [.int 0,.int ((ns.length:Int) - 1)]);have SD:=SC.trans sk;obtain ⟨es2,pd2,g2⟩:=hGC.mono sk;obtain ⟨t,v1,v2⟩:=g2 (0,(ns.length:Int) - 1) (Int.le_refl _) (by simp only;lia) (by simp only;lia);refine ⟨d,.ref t,rfl,⟨es2,_,pd2,MkIn.pair (i:=0) (j:=(ns.length:Int) - 1) ad,v1.symm⟩,t,_,rfl,.inl (SqL.of v2),fun l nl=>?_⟩;exact (qq _ (SD.trans (Same.new nl _))).2 _ l es (SD.free nl) ad
end
open PySem L2
theorem tH {as:List Int} (n:as.Nodup) (h:as.Pairwise (·≤·)):as.Pairwise (· < ·):=by
  refine (n.and h).imp ?_;intro a b z;have:=z.1;have:=z.2;lia
theorem oC:∀ {as bs:List Int},as.Pairwise (· < ·)→bs.Pairwise (· < ·)→(∀ m,m∈as↔m∈bs)→as=bs
  | [],[],_,_,_=>rfl
  | [],b :: bs,_,_,h=>by have:=(h b).mpr aan;simp at this
  | a :: as,[],_,_,h=>by have:=(h a).mp aan;simp at this
  | a :: as,b :: bs,ha,hb,h=>by
    obtain ⟨ha1,ha2⟩:=List.pairwise_cons.mp ha;obtain ⟨hb1,hb2⟩:=List.pairwise_cons.mp hb;have e:a=b:=by
      rcases aai.mp ((h a).mp aan) with z|z
      · exact z
      · rcases aai.mp ((h b).mpr aan) with y|y
        · exact y.symm
        · have:=hb1 _ z;have:=ha1 _ y;lia
    subst e;congr 1;refine oC ha2 hb2 fun m=>?_;constructor
    · intro z;rcases aai.mp ((h m).mp (aaj _ z)) with y|y
      · have:=ha1 _ z;lia
      · exact y
    · intro z;rcases aai.mp ((h m).mpr (aaj _ z)) with y|y
      · have:=hb1 _ z;lia
      · exact y
theorem mx {K:aab} {H:Hp} {a b:Addr} {ns ms:List Int} {Q:VK} (ha:SqL K H a (ns.map V.int)) (hb:SqL K H b (ms.map V.int)) (q:Q (.bl (decide (ns=ms))) H):tL K false (.ref a) (.ref b) H Q:=by
  refine ⟨0,a,b,_,_,by decide,rfl,rfl,ha,hb,?_⟩;by_cases c:(ns.map V.int).length=(ms.map V.int).length
  · refine .inr ⟨fun j=>eqV (.int (ns.getD j 0)) (.int (ms.getD j 0)),c,fun j x y hx hy=>?_,?_⟩
    · rw [aak] at hx hy;obtain ⟨i,hi,rfl⟩:=aaz.mp hx;obtain ⟨i',hi',rfl⟩:=aaz.mp hy;have e1:ns.getD j 0=i:=by rw [aat,hi];rfl
      have e2:ms.getD j 0=i':=by rw [aat,hi'];rfl
      show EqR K H 0 (.int i) (.int i') (eqV (.int (ns.getD j 0)) (.int (ms.getD j 0)));rw [e1,e2];exact EqR.flat rfl rfl
    · have c':ns.length=ms.length:=by simpa using c
      have e:((aaO (ns.map V.int).length).all fun j=>eqV (.int (ns.getD j 0)) (.int (ms.getD j 0)))=decide (ns=ms):=by
        rw [abl,aaU,decide_eq_true_eq,aaa];constructor
        · intro h;refine List.ext_getElem c' fun i h1 h2=>?_;have:=h i (aaK.mpr h1);rw [aat,aat,aac h1,aac h2] at this;have : decide (ns[i]=ms[i])=true:=by simpa [eqV] using this
          exact of_decide_eq_true this
        · rintro rfl j hj;exact my rfl
      show Q (.bl (List.all _ _)) H;rw [e];exact q
  · have e:ns≠ms:=fun z=>c (by rw [z]);rw [decide_eq_false e] at q;exact .inl ⟨c,q⟩
theorem incr_iff {zs:List Int}:hU zs=true↔zs.Pairwise (· < ·):=by
  unfold hU;rw [aaU,List.pairwise_iff_getElem];constructor
  · intro h;have step:∀ (n i:Nat) (hi:i < zs.length) (hj:i+n+1 < zs.length),zs[i] < zs[i+n+1]:=by
      intro n
      induction n with
      | zero =>
        intro i hi hj;have:=h i (aaK.mpr (by lia));rw [decide_eq_true_eq,aat,aat,aac hi,aac hj] at this;exact this
      | succ n ih =>
        intro i hi hj;have a:=ih i hi (by lia);have:=h (i+n+1) (aaK.mpr (by lia));rw [decide_eq_true_eq,aat,aat,aac (show i+n+1 < zs.length by lia),aac (show i+n+1+1 < zs.length by lia)] at this;exact Int.lt_trans a this
    intro i j hi hj hij;obtain ⟨n,rfl⟩:∃ n,j=i+n+1:=⟨j - i - 1,by lia⟩
    exact step n i hi hj
  · intro h k hk;have hk:=aaK.mp hk;rw [decide_eq_true_eq,aat,aat,aac (show k < zs.length by lia),aac (show k+1 < zs.length by lia)];exact h k (k+1) (by lia) (by lia) (by lia)
section
variable {P:Program} {w:World} {K:aab} {mg:Str→Option Value} {base:Heap} {f:Addr} {fd:FuncData}
def qE:Sp:=fun vs H Q _=>∃ (d:PyData) (v:V) (m:Int),vs=[v,.int m]∧2≤m∧m≤60∧Dat H d v∧(∀ ds,d=.list ds→ds.length≤200)∧∀ H',Same H H'→Q (.bl (bN m d)) H'
abbrev c_:Stmt:=top 39
theorem ez:FnScope ["thing","m","one"] ["thing","m"] (ao c_):=⟨rfl,rfl,rfl,by decide +kernel,rfl,by decide +kernel,by decide +kernel⟩
theorem iO (F:Fun K "_law_is_list" "_law_is_list" c_ f fd) (B:Bu K mg):FnOk P w K mg base CX0 1 f fd ["thing","m"] qE:=by
  refine F.ok ez (fun vs H Q E h=>?_) (fun cdv A outer s H vs Q E hr h=>?_)
  · obtain ⟨d,v,m,rfl,_⟩:=h;rfl
  obtain ⟨d,v,m,rfl,m2,m60,hd,hl9,q⟩:=h;refine ⟨_,(@ag _ _ _ _ _ (@aI _ _ _ _ _ _ _ _ (@aZ _ _ _ _ (@aU _ _ _ (@ai _ _ _ _ _ _ _ _ _ (@aD _ ("list")) rfl B.iisinstance aah (@aa _ _ _ _ _ (pv 0) (@aa _ _ _ _ _ (@aL _ _ (.ty "list") _ _ rfl B.ilist aaQ rfl (by decide) (by decide)) ac (by rfl)) (by rfl)) (by decide) (by decide) (by rfl) (by rfl)) (by intro _;rfl))) (@af _ _ _ (@ap _ _ _ _ bo)) aA) (@ag _ _ _ _ _ (@a_ _ _ _ _ _ _ _ _ aaJ rfl (@ba _ _ _ _ (pv 0)) (@ak _ _ (2) _ (ez).nd rfl (Or.inl rfl) (.inl rfl)) (@af _ _ _ (@aI _ _ _ _ _ _ _ _ (@PW.pt _ _ _ (@cH _ _ _ _ _ _ _ (@aZ _ _ _ _ (@aU _ _ _ (@ai _ _ _ _ _ _ _ _ _ (@aD _ ("int")) rfl B.iisinstance aah (@aa _ _ _ _ _ (pv 2) (@aa _ _ _ _ _ (@aL _ _ (.ty "int") _ _ rfl B.iint abu rfl (by decide) (by decide)) ac (by rfl)) (by rfl)) (by decide) (by decide) (by rfl) (by rfl)) (by intro _;rfl))) (@cH _ _ _ _ _ _ _ (@aU _ _ _ (@ai _ _ _ _ _ _ _ _ _ (@aD _ ("bool")) rfl B.iisinstance aah (@aa _ _ _ _ _ (pv 2) (@aa _ _ _ _ _ (@aL _ _ (.ty "bool") _ _ rfl B.ibool abC rfl (by decide) (by decide)) ac (by rfl)) (by rfl)) (by decide) (by decide) (by rfl) (by rfl)) (by intro _;rfl)) (@bW _ _ _ _ (@aZ _ _ _ _ (@iG _ _ _ _ _ _ _ _ _ _ _ _ gW gU ae (pv 2) (pv 1) (by with_unfolding_all rfl))))))) (@af _ _ _ (@ap _ _ _ _ bo)) aA)) (by intro _;rfl)) (@af _ _ _ (@ap _ _ _ _ (@bp _ _ _ _ _ _ _ _ (@iN _ hr.units) (@ai _ _ _ _ _ _ _ _ _ (@jy _ rfl rfl) rfl B.isorted abI (@aa _ _ _ _ _ (@aT _ _ _ _ _ _ _ _ _ (@qm _ rfl) rfl B.iset PyProof.Rows.boot_set (@aa _ _ _ _ _ (pv 0) ac (by rfl)) (by decide) (by decide) (by rfl) (by rfl)) ac (by rfl)) (by decide) (by decide) (by rfl) (by rfl)) (pv 0) (aC _)))))),?_⟩;have hty:=hd.ty (K:=K);have q0:=q H (Same.refl _);cases d with
  | dict _=>exact ⟨_,rfl,_,_,false,rfl,hty,rfl,false,rfl,aR q0⟩
  | none=>exact ⟨_,rfl,_,_,false,rfl,hty,rfl,false,rfl,aR q0⟩
  | bool _=>exact ⟨_,rfl,_,_,false,rfl,hty,rfl,false,rfl,aR q0⟩
  | int _=>exact ⟨_,rfl,_,_,false,rfl,hty,rfl,false,rfl,aR q0⟩
  | str _=>exact ⟨_,rfl,_,_,false,rfl,hty,rfl,false,rfl,aR q0⟩
  | tuple _=>exact ⟨_,rfl,_,_,false,rfl,hty,rfl,false,rfl,aR q0⟩
  | list ds =>
    simp only [Dat] at hd;obtain ⟨a,xs,rfl,ea,da⟩:=hd;obtain ⟨ll,at_⟩:=sK da;have h9:=hl9 ds rfl;refine ⟨_,rfl,_,_,true,rfl,.lst ea,rfl,true,rfl,aM ?_⟩;refine ⟨_,rfl,a,rfl,⟨_,SqL.of ea⟩,bZ (Trn.list (xs:=xs)) (fun i σ H'=>∃ c2,σ=[some (.ref a),some (.int m),c2]∧H'=H∧(ds.take i).all (aN m)=true) ⟨_,rfl,rfl,rfl⟩ (fun i σ H' hi z=>?_) (fun i x σ H0 H' hi it z=>?_) (fun σ H' z=>?_)⟩
    · obtain ⟨_,rfl,rfl,_⟩:=z;exact SqL.of ea
    · obtain ⟨c2,rfl,rfl,hall⟩:=z;obtain ⟨rfl,hx⟩:=it;obtain ⟨d1,hd1,dx⟩:=at_ hx;have hty1:=dx.ty (K:=K);have bad:aN m d1=false→Q (.bl false) H':=fun hb=>by
        have e:bN m (.list ds)=false:=by
          show (ds.all (aN m) && _)=false;rw [show ds.all (aN m)=false from acV.mpr ⟨d1,aap hd1,by rw [hb];exact aag⟩];rfl
        rw [e] at q0;exact q0
      have good:aN m d1=true→(ds.take (i+1)).all (aN m)=true:=fun hb=>by
        rw [aaE,hd1,List.all_append,hall,abS];simp [hb]
      cases d1 with
      | int i1 =>
        simp only [Dat] at dx;subst dx;refine ⟨_,rfl,_,_,true,rfl,.int i1,rfl,true,rfl,aM ⟨_,rfl,_,_,false,rfl,.int i1,rfl,false,rfl,aM ⟨_,rfl,_,_,rfl,rfl,_,rfl,?_⟩⟩⟩;by_cases c1:0≤i1
        case neg =>
          rw [decide_eq_false c1];exact aM ⟨_,rfl,aR (bad (by show (decide (0≤i1) && _)=false;rw [decide_eq_false c1];rfl))⟩
        rw [decide_eq_true c1];refine aR ⟨_,rfl,_,_,rfl,rfl,_,rfl,?_⟩;by_cases c3:i1 < m
        case neg =>
          rw [decide_eq_false c3];exact aR (bad (by show (decide (0≤i1) && decide (i1 < m))=false;rw [decide_eq_false c3,acz]))
        rw [decide_eq_true c3];exact aM ⟨_,rfl,rfl,good (by show (decide (0≤i1) && decide (i1 < m))=true;rw [decide_eq_true c1,decide_eq_true c3];rfl)⟩
      | bool b=>exact ⟨_,rfl,_,_,true,rfl,hty1,rfl,true,rfl,aM ⟨_,rfl,_,_,true,rfl,hty1,rfl,true,rfl,aR (bad rfl)⟩⟩
      | none=>exact ⟨_,rfl,_,_,false,rfl,hty1,rfl,false,rfl,aR (bad rfl)⟩
      | str _=>exact ⟨_,rfl,_,_,false,rfl,hty1,rfl,false,rfl,aR (bad rfl)⟩
      | list _=>exact ⟨_,rfl,_,_,false,rfl,hty1,rfl,false,rfl,aR (bad rfl)⟩
      | tuple _=>exact ⟨_,rfl,_,_,false,rfl,hty1,rfl,false,rfl,aR (bad rfl)⟩
      | dict _=>exact ⟨_,rfl,_,_,false,rfl,hty1,rfl,false,rfl,aR (bad rfl)⟩
    · obtain ⟨c2,rfl,rfl,hall⟩:=z;rw [← ll,aaT] at hall;obtain ⟨zs,hzs⟩:∃ zs,ds.map iof=zs:=⟨_,rfl⟩
      have ex:=dP da hall;rw [hzs] at ex;have lz:zs.length=ds.length:=by rw [← hzs,aaa]
      have e:bN m (.list ds)=hU zs:=by show (ds.all (aN m) && hU (ds.map iof))=_;rw [hall,hzs];rfl
      have bd:∀ x∈zs,0≤x∧x < m:=fun x hx=>by
        rw [← hzs] at hx;obtain ⟨d,hd',rfl⟩:=aar.mp hx;have:=aaU.mp hall d hd';cases d with
        | int i =>
          have : (decide (0≤i) && decide (i < m))=true:=this;rw [aaS,decide_eq_true_eq,decide_eq_true_eq] at this;exact this
        | _=>exact absurd this (by simp [aN])
      rw [e] at q;subst ex;refine ⟨_,rfl,a,zs,rfl,SqL.of ea,by lia,fun S o u ks nS so mem=>?_⟩;have nd:ks.Nodup:=by obtain ⟨_,_,_,_,_,_,_,_,nd⟩:=so;exact nd
      have few:=cE (m:=m) nd fun x hx=>bd x ((mem x).mp hx);refine ⟨S,o,u,ks,rfl,ad,so,by lia,fun D ms nD perm srt=>?_⟩;have s1:=(Same.new nS (.frz o u)).trans (Same.new nD (.lst (ms.map V.int)));refine ⟨_,rfl,mx (SqL.of ad) (SqL.of (s1 _ _ ea)) ?_⟩;have rise:=tH (perm.nodup_iff.mpr nd) srt;have ed:decide (ms=zs)=hU zs:=by
        rw [abl,decide_eq_true_eq,incr_iff];constructor
        · rintro rfl;exact rise
        · intro hr;exact oC rise hr fun x=>(perm.mem_iff).trans (mem x)
      rw [ed];exact q _ s1
end
open PySem L2
theorem sX (F:List Int) (x:Int):(bg (tr F) (Sum.inl x:Key)).isSome=decide (x∈F):=by
  have hk:(Sum.inl x:Key)∈(tr F).map (·.1)↔x∈F:=by
    rw [h7,List.mem_map];constructor
    · rintro ⟨y,hy,e⟩;injection e with e
      rw [← e];exact hy
    · exact fun h=>⟨x,h,rfl⟩
  cases e:bg (tr F) (Sum.inl x:Key) with
  | none =>
    have : ¬ x∈F:=fun h=>ip e (hk.mpr h);rw [decide_eq_false this];rfl
  | some v =>
    rw [decide_eq_true (hk.mp (sW e))];rfl
theorem qr {α β:Type} {l:List α} {f:α→β} {i:Nat} {x:α} (h:l[i]?=some x):(l.take (i+1)).map f=(l.take i).map f++[f x]:=by
  rw [aaE,h,aaG];rfl
section
variable {P:Program} {w:World} {K:aab} {mg:Str→Option Value} {base:Heap} {f:Addr} {fd:FuncData}
def ln:Sp:=fun vs H Q _=>∃ (g:Sg) (a b m:Int),vs=[.str g.str,.int a,.int b,.int m]∧a.natAbs < 2 ^ 4000∧b.natAbs < 2 ^ 4000∧2≤m∧m≤60∧Q (.int (g.op a b % m)) H
abbrev gw:Stmt:=top 35
theorem m7:FnScope ["sign","one","other","m"] ["sign","one","other","m"] (ao gw):=⟨rfl,rfl,rfl,by decide +kernel,rfl,by decide +kernel,by decide +kernel⟩
theorem pM (F:Fun K "_law_by" "_law_by" gw f fd) (C__law_put:Cal P w K mg base "_law_put" 1 ["sign","one","other"] mV):FnOk P w K mg base CX0 2 f fd ["sign","one","other","m"] ln:=by
  refine F.ok m7 (fun vs H Q E h=>?_) (fun cdv A outer s H vs Q E hr h=>?_)
  · obtain ⟨g,a,b,m,rfl,_⟩:=h;rfl
  obtain ⟨g,a,b,m,rfl,ha,hb,m2,m60,q⟩:=h;refine ⟨_,(@af _ _ _ (@ap _ _ _ _ (@az _ _ _ _ _ _ _ _ bA (@aq _ _ _ _ _ _ _ _ _ _ _ C__law_put hr (by lia) rfl (@aa _ _ _ _ _ (pv 0) (@aa _ _ _ _ _ (pv 1) (@aa _ _ _ _ _ (pv 2) ac (by rfl)) (by rfl)) (by rfl)) (by decide) (by rfl) (by rfl)) (pv 3)))),?_⟩;exact ⟨_,rfl,_,rfl,_,rfl,a,g,b,rfl,ha,hb,_,rfl,_,_,rfl,rfl,by lia,q⟩
def uO (w:World):Sp:=fun vs H Q _=>∃ (r d:Addr) (ns:List Int) (gs:List Sg) (m:Int) (q:Int × Int) (LL:Int × Int→List Int),vs=[.ref r,.str (aB gs),.int m,.ref d,.int q.1,.int q.2]∧H r=some (.lst (ns.map V.int))∧0≤q.1∧q.1≤q.2∧q.2 < ns.length∧ns.length≤9∧gs.length≤3∧2≤m∧m≤60∧LsG w H d LL ns.length ∧
  (∀ q':Int × Int,0≤q'.1→q'.1≤q'.2→q'.2 < ns.length→(∀ x∈LL q',0≤x∧x < m)∧(LL q').Nodup)∧∀ H',Same H H'→Q (.bl (hdR ns LL gs m q)) H'
abbrev bQ:Stmt:=top 40
theorem a9:FnScope ["row","signs","m","lists","i","j","there","k","one","other"] ["row","signs","m","lists","i","j"] (ao bQ):=⟨rfl,rfl,rfl,by decide +kernel,rfl,by decide +kernel,by decide +kernel⟩
theorem g_ (F:Fun K "_law_comes_within" "_law_comes_within" bQ f fd) (B:Bu K mg) (C__law_by:Cal P w K mg base "_law_by" 2 ["sign","one","other","m"] ln):FnOk P w K mg base CX0 3 f fd ["row","signs","m","lists","i","j"] (uO w):=by
  refine F.ok a9 (fun vs H Q E h=>?_) (fun cdv A outer s H vs Q E hr h=>?_)
  · obtain ⟨r,d,ns,gs,m,q,LL,rfl,_⟩:=h;rfl
  obtain ⟨r,d,ns,gs,m,q,LL,rfl,er,q0,q1,q2,h9,g3,m2,m60,hG,hLL,qq⟩:=h;refine ⟨_,(@dQ _ _ _ _ _ (@aI _ _ _ _ _ _ _ _ (@aE _ _ _ _ _ _ _ _ bD (pv 4) (pv 5) (aC _)) (@af _ _ _ (@ap _ _ _ _ (@bp _ _ _ _ _ _ _ _ gz (@az _ _ _ _ _ _ _ _ bA (@bu _ _ _ _ _ _ _ ix_list (pv 0) (pv 4) (fun _ _=>rfl)) (pv 2)) (@bH _ _ _ _ _ _ (w) rfl (u1 hr.units) (pv 3) (@aH _ _ _ _ _ (@aa _ _ _ _ _ (pv 4) (@aa _ _ _ _ _ (pv 4) ac (by rfl)) (by rfl))) (fun _ _=>rfl)) (by with_unfolding_all rfl)))) aA) (@ag _ _ _ _ _ (@aI _ _ _ _ _ _ _ _ (@aE _ _ _ _ _ _ _ _ bD (@ai _ _ _ _ _ _ _ _ _ aF rfl B.ilen aaN (@aa _ _ _ _ _ (@bH _ _ _ _ _ _ (w) rfl (u1 hr.units) (pv 3) (@aH _ _ _ _ _ (@aa _ _ _ _ _ (pv 4) (@aa _ _ _ _ _ (pv 5) ac (by rfl)) (by rfl))) (fun _ _=>rfl)) ac (by rfl)) (by decide) (by decide) (by rfl) (by rfl)) (pv 2) (aC _)) (@af _ _ _ (@ap _ _ _ _ bo)) aA) (@ag _ _ _ _ _ (@aG _ _ (6) _ _ _ _ (a9).nd rfl (Or.inr rfl) (@aT _ _ _ _ _ _ _ _ _ (@je _ rfl) rfl B.idict abd (@aa _ _ _ _ _ (@cA _ _ _ _ _ _ _ _ (["rest"]) ([none]) _ _ _ _ rfl (@ba _ _ _ _ (@bH _ _ _ _ _ _ (w) rfl (u1 hr.units) (pv 3) (@aH _ _ _ _ _ (@aa _ _ _ _ _ (pv 4) (@aa _ _ _ _ _ (pv 5) ac (by rfl)) (by rfl))) (fun _ _=>rfl))) rfl trivial trivial (fun _ _ _ _=>⟨(@ak _ _ (0) _ (show aa7 (["rest"]:List Str) by decide +kernel) rfl (Or.inl rfl) (.inr rfl)),aX,(@aH _ _ _ _ _ (@aa _ _ _ _ _ (pv 0) (@aa _ _ _ _ _ bo ac (by rfl)) (by rfl)))⟩) (by rfl) (by rfl) (by rfl) (by rfl) (by intro _;rfl)) ac (by rfl)) (by decide) (by decide) (by rfl) (by rfl)) (by rfl) (by first|exact .inl rfl|exact .inr rfl|assumption)) (@ag _ _ _ _ _ (@a_ _ _ _ _ _ _ _ _ aaJ rfl (@du _ _ _ _ _ _ _ rfl B.irange (@aa _ _ _ _ _ (pv 4) (@aa _ _ _ _ _ (pv 5) ac (by rfl)) (by rfl)) (by rfl) (by rfl)) (@ak _ _ (7) _ (a9).nd rfl (Or.inl rfl) (.inl rfl)) (@af _ _ _ (@a_ _ _ _ _ _ _ _ _ aaJ rfl (@ba _ _ _ _ (@bH _ _ _ _ _ _ (w) rfl (u1 hr.units) (pv 3) (@aH _ _ _ _ _ (@aa _ _ _ _ _ (pv 4) (@aa _ _ _ _ _ (pv 7) ac (by rfl)) (by rfl))) (fun _ _=>rfl))) (@ak _ _ (8) _ (a9).nd rfl (Or.inr rfl) (.inl rfl)) (@af _ _ _ (@a_ _ _ _ _ _ _ _ _ aaJ rfl (@ba _ _ _ _ (@bH _ _ _ _ _ _ (w) rfl (u1 hr.units) (pv 3) (@aH _ _ _ _ _ (@aa _ _ _ _ _ (@az _ _ _ _ _ _ _ _ bh (pv 7) ae) (@aa _ _ _ _ _ (pv 5) ac (by rfl)) (by rfl))) (fun _ _=>rfl))) (@ak _ _ (9) _ (a9).nd rfl (Or.inr rfl) (.inl rfl)) (@af _ _ _ (@aI _ _ _ _ _ _ _ _ (@aE _ _ _ _ _ _ _ _ (@rj _ hr.units) (@cA _ _ _ _ _ _ _ _ (["sign","there","one","other","m"]) ([none,some 6,some 8,some 9,some 2]) _ _ _ _ rfl (@ko _ _ _ _ (pv 1)) rfl ⟨rfl,⟨rfl,⟨rfl,⟨rfl,trivial⟩⟩⟩⟩ ⟨⟨rfl,Or.inl rfl,Or.inl rfl⟩,⟨⟨rfl,Or.inl rfl,Or.inl rfl⟩,⟨⟨rfl,Or.inl rfl,Or.inl rfl⟩,⟨⟨rfl,Or.inl rfl,Or.inl rfl⟩,trivial⟩⟩⟩⟩ (fun _ _ _ _=>⟨(@ak _ _ (0) _ (show aa7 (["sign","there","one","other","m"]:List Str) by decide +kernel) rfl (Or.inl rfl) (.inr rfl)),(@fU _ _ _ (@jD _ _ _ _ _ _ (u1 hr.units) (@aq _ _ _ _ _ _ _ _ _ _ _ C__law_by hr (by lia) rfl (@aa _ _ _ _ _ (pv 0) (@aa _ _ _ _ _ (pv 2) (@aa _ _ _ _ _ (pv 3) (@aa _ _ _ _ _ (pv 4) ac (by rfl)) (by rfl)) (by rfl)) (by rfl)) (by decide) (by rfl) (by rfl)) (pv 1) (by with_unfolding_all rfl))),(pv 0)⟩) (by rfl) (by rfl) (by rfl) (by rfl) (by intro _;rfl)) (@aQ _ _ _ _ ac) (aC _)) (@af _ _ _ (@ap _ _ _ _ bo)) aA)) (by intro _;rfl))) (by intro _;rfl))) (by intro _;rfl)) (@af _ _ _ (@ap _ _ _ _ bo)))))),?_⟩;have t2:(2:Nat)≤sizeLine:=by decide
  have look:∀ {H':Hp} {q':Int × Int} {k:Addr},Same H H'→0≤q'.1→q'.1≤q'.2→q'.2 < ns.length→H' k=some (.tup [.int q'.1,.int q'.2])→∃ t,lf w H' d (.ref k) (some (.ref t))∧H' t=some (.lst ((LL q').map V.int)):=fun {H' q' k} g a b c hk=>by
    obtain ⟨es,pd,hg⟩:=hG.mono g;obtain ⟨t,v1,et⟩:=hg q' a b c;exact ⟨t,⟨es,_,pd,MkIn.pair hk,v1.symm⟩,et⟩
  obtain ⟨bdq,ndq⟩:=hLL q q0 q1 q2;refine ⟨fun σ H'=>σ=L2.start ["row","signs","m","lists","i","j","there","k","one","other"] [.ref r,.str (aB gs),.int m,.ref d,.int q.1,.int q.2]∧H'=H∧q.1 < q.2,?_,?_⟩
  · refine ⟨_,rfl,_,rfl,rfl,_,rfl,cN (fun z=>?_) (fun z=>?_)⟩
    · have e12:q.1=q.2:=by have:=of_decide_eq_true z;injection this
      obtain ⟨i0,hi0⟩:∃ i0:Nat,(i0:Int)=q.1:=⟨q.1.toNat,by lia⟩
      have hi:i0 < ns.length:=by lia
      have hn:ns[i0]?=some ns[i0]:=aac hi;have hat:atI (ns.map V.int) q.1=some (.int ns[i0]):=by
        rw [← hi0];exact cV (by rw [aak,hn];rfl)
      refine ⟨_,rfl,_,rfl,r,_,_,_,rfl,rfl,SqL.of er,hat,_,rfl,_,_,rfl,rfl,by lia,?_⟩;refine ⟨_,rfl,_,rfl,_,rfl,t2,fun k1 nk1=>?_⟩;have s1:=Same.new nk1 (.tup [.int q.1,.int q.1]);obtain ⟨t,g1,et⟩:=look (q':=(q.1,q.1)) s1 q0 (Int.le_refl _) (by simp only;lia) ad;refine ⟨d,_,rfl,g1,t,_,rfl,.inl (SqL.of et),rfl,gI _,?_⟩;have eq1:(q.1,q.1)=q:=by rw [Prod.ext_iff];exact ⟨rfl,e12⟩
      have ed:inV (.int (ns[i0] % m)) ((LL (q.1,q.1)).map V.int)=hdR ns LL gs m q:=by
        rw [iW,eq1];unfold hdR;rw [abl,decide_eq_true_eq,@decide_eq_true_eq _ (abj _)];unfold DU;rw [show q.1.toNat=i0 by lia];constructor
        · intro h x hx;rw [if_pos e12,aat,hn] at hx;rw [hx];exact h
        · intro h;exact h _ (by rw [if_pos e12,aat,hn];rfl)
      show Q (.bl (inV _ _)) _;rw [ed];exact qq _ s1
    · refine ⟨rfl,rfl,?_⟩;have : q.1≠q.2:=fun e=>z (by rw [e];simp);lia
  rintro σ H' ⟨rfl,rfl,e12⟩;refine ⟨_,rfl,_,rfl,_,rfl,t2,fun k1 nk1=>?_⟩;have s1:=Same.new nk1 (.tup [.int q.1,.int q.2]);have ek1:upd H' k1 (.tup [.int q.1,.int q.2]) k1=_:=ad;generalize upd H' k1 (.tup [.int q.1,.int q.2])=H1 at s1 ek1 ⊢;obtain ⟨t,g1,et⟩:=look s1 q0 q1 q2 ek1;refine ⟨d,_,rfl,g1,t,_,rfl,.inl (SqL.of et),_,rfl,rfl,_,rfl,cN (fun z=>?_) (fun z=>?_)⟩
  · have hl:((LL q).length:Int)=m:=by
      have:=of_decide_eq_true z;injection this with this
      rw [aaa] at this;exact this
    have e:hdR ns LL gs m q=true:=by
      unfold hdR;rw [@decide_eq_true_eq _ (abj _)];intro x hx;unfold DU at hx;rw [if_neg (by lia)] at hx;obtain ⟨b0,b1⟩:=hx.bd (by lia);exact jY (by lia) ndq bdq (by lia) x b0 b1
    have:=qq _ s1;rw [e] at this;exact this
  refine ⟨_,rfl,_,rfl,_,rfl,t2,fun k2 nk2=>?_⟩;have s2:=Same.new nk2 (.tup [.int q.1,.int q.2]);have S2:=s1.trans s2;have ek2:upd H1 k2 (.tup [.int q.1,.int q.2]) k2=_:=ad;generalize upd H1 k2 (.tup [.int q.1,.int q.2])=H2 at s2 S2 ek2 ⊢;obtain ⟨t',g2,et2⟩:=look S2 q0 q1 q2 ek2;refine ⟨d,_,rfl,g2,t',rfl,⟨_,SqL.of et2⟩,?_⟩;have few:=cE ndq bdq;refine cJ (Trn.list (xs:=(LL q).map V.int)) (fun i zs H'=>∃ bs:List PrV,zs=bs.map (fun b=>V.ref b.1)∧Same H2 H'∧(∀ b∈bs,mK H' b)∧bs.map (·.2)=((LL q).take i).map fun x=>(x,V.bl true)) ⟨[],rfl,Same.refl _,(fun b hb=>nomatch hb),rfl⟩ (fun i zs H' hi p=>by
    obtain ⟨bs,rfl,S,_,p⟩:=p;have:=congrArg abJ p;rw [aaa,aaa,aaL] at this;exact ⟨SqL.of (S _ _ et2),au (by rw [aaa];lia)⟩) (fun i x zs H0 H' hi hx p Nx nx=>?_) (fun zs HX p p5 n5=>?_)
  · obtain ⟨bs,rfl,S,hbs,hp⟩:=p;obtain ⟨rfl,hx⟩:=hx;rw [aak] at hx;obtain ⟨x1,hx1,rfl⟩:=aaz.mp hx;refine ⟨_,rfl,t2,fun v1 m1=>nx _ _ ?_⟩;have j1:=Same.new m1 (.tup [.int x1,.bl true]);refine ⟨bs++[(v1,x1,.bl true)],by rw [aaG];rfl,S.trans j1,fun b hb=>?_,by rw [aaG,hp,qr hx1];rfl⟩;rcases aay.mp hb with hb|hb
    · exact j1 _ _ (hbs b hb)
    · rw [aau.mp hb];exact ad
  obtain ⟨bs,rfl,S,hbs,hp⟩:=p;rw [aaa,aaT] at hp;have lbs:bs.length=(LL q).length:=by have:=congrArg abJ hp;rw [aaa,aaa] at this;exact this
  have s5:=Same.new n5 (.lst (bs.map fun b=>V.ref b.1));refine ⟨p5,bs,rfl,ad,(fun b hb=>s5 _ _ (hbs b hb)),by lia,fun D nD=>?_⟩;have em:cC [] (bs.map fun b=>((.inl b.2.1:Key),b.2.2))=tr ((LL q).foldl ins []):=by
    have e1:(bs.map fun b=>((.inl b.2.1:Key),b.2.2))=tr (LL q):=by
      have : (bs.map fun b=>((.inl b.2.1:Key),b.2.2))=(bs.map (·.2)).map fun p=>((.inl p.1:Key),p.2):=by rw [aaM];rfl
      rw [this,hp,aaM];rfl
    rw [e1];exact fN (LL q) []
  rw [em];have hmem:∀ x,x∈(LL q).foldl ins []↔x∈LL q:=fun x=>by rw [dy];simp
  have nodF:=fK (LL q) (xs:=[]) (by simp);generalize (LL q).foldl ins []=FF at hmem nodF ⊢;have sD:=Same.new nD (.dK (tr FF));have eD:upd (upd HX p5 (.lst (bs.map fun b=>V.ref b.1))) D (.dK (tr FF)) D=_:=ad;have S6:=((S2.trans S).trans s5).trans sD;generalize upd (upd HX p5 (.lst (bs.map fun b=>V.ref b.1))) D (.dK (tr FF))=H6 at eD S6 ⊢;refine ⟨_,rfl,_,rfl,q.1,q.2,rfl,⟨by lia,by lia,by lia,by lia⟩,?_⟩;have small:∀ x:Int,0≤x∧x < m→x.natAbs < 2 ^ 4000:=fun x hx=>aas (show x.natAbs < 2 ^ 7 by lia) (ab4 (by decide) (by decide));refine br (n:=(q.2 - q.1).toNat) (fun c σ H'=>∃ c7 c8 c9,σ=[some (.ref r),some (.str (aB gs)),some (.int m),some (.ref d),some (.int q.1),some (.int q.2),some (.ref D),c7,c8,c9]∧Same H6 H'∧∀ c':Int,q.1≤c'→c' < q.1+(c:Int)→∀ g∈gs,∀ a∈LL (q.1,c'),∀ b∈LL (c'+1,q.2),g.op a b % m∈LL q) ⟨_,_,_,rfl,Same.refl _,fun c' x y=>absurd y (by lia)⟩ ?_ ?_
  · rintro c σ H7 hc ⟨c7,c8,c9,rfl,S7,hok⟩;obtain ⟨cv,hcv⟩:∃ cv:Int,q.1+(c:Int)=cv:=⟨_,rfl⟩
    rw [hcv] at hok ⊢;have SA:=S6.trans S7;refine ⟨_,rfl,_,rfl,_,rfl,t2,fun k3 nk3=>?_⟩;have s3:=Same.new nk3 (.tup [.int q.1,.int cv]);have S3:=SA.trans s3;have S37:=S7.trans s3;have ek3:upd H7 k3 (.tup [.int q.1,.int cv]) k3=_:=ad;generalize upd H7 k3 (.tup [.int q.1,.int cv])=H8 at S3 S37 ek3 ⊢;obtain ⟨t3,g3',et3⟩:=look (q':=(q.1,cv)) S3 q0 (by simp only;lia) (by simp only;lia) ek3;have bdA:=(hLL (q.1,cv) q0 (by simp only;lia) (by simp only;lia)).1;have bdB:=(hLL (cv+1,q.2) (by simp only;lia) (by simp only;lia) q2).1;refine ⟨d,_,rfl,g3',t3,rfl,⟨_,SqL.of et3⟩,?_⟩;refine bZ (Trn.list (xs:=(LL (q.1,cv)).map V.int)) (fun i σ H'=>∃ c8 c9,σ=[some (.ref r),some (.str (aB gs)),some (.int m),some (.ref d),some (.int q.1),some (.int q.2),some (.ref D),some (.int cv),c8,c9]∧Same H8 H'∧∀ g∈gs,∀ a∈(LL (q.1,cv)).take i,∀ b∈LL (cv+1,q.2),g.op a b % m∈LL q) ⟨_,_,rfl,Same.refl _,fun g hg a ha=>by simp at ha⟩ (fun i σ H' hi z=>?_) (fun i x σ H0 H' hi it z=>?_) (fun σ H' z=>?_)
    · obtain ⟨_,_,rfl,S,_⟩:=z;exact SqL.of (S _ _ et3)
    · obtain ⟨c8,c9,rfl,S8,hok8⟩:=z;obtain ⟨rfl,hx⟩:=it;rw [aak] at hx;obtain ⟨a1,ha1,rfl⟩:=aaz.mp hx;have ma1:=aap ha1;refine ⟨_,rfl,_,rfl,_,_,rfl,rfl,_,rfl,t2,fun k4 nk4=>?_⟩;have s4:=Same.new nk4 (.tup [.int (cv+1),.int q.2]);have S4:=(S3.trans S8).trans s4;have S48:=S8.trans s4;have ek4:upd H' k4 (.tup [.int (cv+1),.int q.2]) k4=_:=ad;generalize upd H' k4 (.tup [.int (cv+1),.int q.2])=H9 at S4 S48 ek4 ⊢;obtain ⟨t4,g4',et4⟩:=look (q':=(cv+1,q.2)) S4 (by simp only;lia) (by simp only;lia) q2 ek4;refine ⟨d,_,rfl,g4',t4,rfl,⟨_,SqL.of et4⟩,?_⟩;refine bZ (Trn.list (xs:=(LL (cv+1,q.2)).map V.int)) (fun i σ H'=>∃ c9,σ=[some (.ref r),some (.str (aB gs)),some (.int m),some (.ref d),some (.int q.1),some (.int q.2),some (.ref D),some (.int cv),some (.int a1),c9]∧Same H9 H'∧∀ g∈gs,∀ b∈(LL (cv+1,q.2)).take i,g.op a1 b % m∈LL q) ⟨_,rfl,Same.refl _,fun g hg a ha=>by simp at ha⟩ (fun i σ H' hi z=>?_) (fun i x σ H0 H' hi it z=>?_) (fun σ H' z=>?_)
      · obtain ⟨_,rfl,S,_⟩:=z;exact SqL.of (S _ _ et4)
      · obtain ⟨c9,rfl,S9,hok9⟩:=z;obtain ⟨rfl,hx⟩:=it;rw [aak] at hx;obtain ⟨b1,hb1,rfl⟩:=aaz.mp hx;have mb1:=aap hb1;refine ⟨_,rfl,_,rfl,dE gs,?_⟩;have SD7:=(S37.trans S48).trans S9;have eD7:=SD7 _ _ eD;refine cJ (Trn.str (z:=aB gs)) (fun i ys Hy=>Hy=H'∧ys=((gs.take i).filter fun g=>!decide (g.op a1 b1 % m∈LL q)).map fun g=>V.str g.str) ⟨rfl,rfl⟩ (fun i ys Hy hi z=>⟨trivial,?_⟩) (fun i x ys Hx Hy hi it z Nx nx=>?_) (fun ys Hy z p9 n9=>?_)
        · rw [z.2,aaa];exact au (aa1 (abW _ _) (by rw [aaL];lia))
        · obtain ⟨rfl,rfl⟩:=z;obtain ⟨rfl,cc,hcc,rfl⟩:=it;obtain ⟨g,hg,rfl⟩:=ow hcc;refine ⟨_,rfl,_,rfl,_,rfl,_,rfl,g,a1,b1,m,by rw [b_];rfl,small _ (bdA a1 ma1),small _ (bdB b1 mb1),m2,m60,?_⟩;refine ⟨_,rfl,D,_,rfl,DGet.k (k:=.inl (g.op a1 b1 % m)) eD7,_,rfl,?_⟩;show if (!(bg (tr FF) (Sum.inl (g.op a1 b1 % m):Key)).isSome)=true then _ else _
          rw [sX,decide_eq_decide.mpr (hmem (g.op a1 b1 % m))];by_cases cin:g.op a1 b1 % m∈LL q
          · rw [decide_eq_true cin];refine aM (nx _ _ ⟨rfl,?_⟩);rw [aaE,hg,List.filter_append];have : [g].filter (fun g=>!decide (g.op a1 b1 % m∈LL q))=[]:=by rw [acd,decide_eq_true cin];rfl
            rw [show (some g).toList=[g] from rfl,this,acJ]
          · rw [decide_eq_false cin];refine aR ⟨_,rfl,nx _ _ ⟨rfl,?_⟩⟩;rw [aaE,hg,List.filter_append];have : [g].filter (fun g=>!decide (g.op a1 b1 % m∈LL q))=[g]:=by rw [acd,decide_eq_false cin];rfl
            rw [show (some g).toList=[g] from rfl,this,aaG,aae,abk,b_]
        · obtain ⟨rfl,rfl⟩:=z;rw [ou,aaT];have s9:=Same.new n9 (.lst ((gs.filter fun g=>!decide (g.op a1 b1 % m∈LL q)).map fun g=>V.str g.str));refine ⟨aa4 _,fun p6 n6=>?_⟩;have s6:=Same.new n6 (.lst []);have SX:=s9.trans s6;by_cases bad:(gs.filter fun g=>!decide (g.op a1 b1 % m∈LL q))=[]
          · rw [bad] at n6 s6 s9 SX ⊢;refine ⟨0,p9,p6,[],[],by decide,rfl,rfl,SqL.of (s6 _ _ ad),SqL.of ad,.inr ⟨fun _=>true,rfl,(fun j x y h=>by simp at h),false,rfl,aM ⟨_,rfl,S9.trans SX,fun g hg b hb=>?_⟩⟩⟩;rw [aaE,hb1] at hb;rcases aay.mp hb with hb|hb
            · exact hok9 g hg b hb
            · have : b=b1:=by simpa using hb
              rw [this];refine ab0 fun hc=>?_;have : g∈gs.filter fun g=>!decide (g.op a1 b1 % m∈LL q):=List.mem_filter.mpr ⟨hg,by rw [decide_eq_false hc];rfl⟩;rw [bad] at this;cases this
          · obtain ⟨g,hg⟩:=List.exists_mem_of_ne_nil _ bad;obtain ⟨hg1,hg2⟩:=acM.mp hg;have hc:¬ g.op a1 b1 % m∈LL q:=fun z=>by rw [decide_eq_true z] at hg2;cases hg2
            have e:hdR ns LL gs m q=false:=by
              unfold hdR;rw [@decide_eq_false_iff_not _ (abj _)];intro h;refine hc (h _ ?_);unfold DU;rw [if_neg (by lia)];exact ⟨cv,by lia,by lia,g,hg1,a1,ma1,b1,mb1,rfl⟩
            have hq:=qq _ (((S4.trans S9)).trans SX);rw [e] at hq;refine ⟨0,p9,p6,_,[],by decide,rfl,rfl,SqL.of (s6 _ _ ad),SqL.of ad,.inl ⟨?_,true,rfl,aR hq⟩⟩;rw [aaa];exact fun z=>bad (aa8.mp z)
      · obtain ⟨c9,rfl,S9,hok9⟩:=z;rw [aaa,aaT] at hok9;refine ⟨_,_,rfl,S48.trans S9,fun g hg a ha b hb=>?_⟩;rw [aaE,ha1] at ha;rcases aay.mp ha with ha|ha
        · exact hok8 g hg a ha b hb
        · have : a=a1:=by simpa using ha
          rw [this];exact hok9 g hg b hb
    · obtain ⟨c8,c9,rfl,S8,hok8⟩:=z;rw [aaa,aaT] at hok8;refine ⟨_,_,_,rfl,S37.trans S8,fun c' c1 c2 g hg a ha b hb=>?_⟩;by_cases z:c' < cv
      · exact hok c' c1 z g hg a ha b hb
      · have : c'=cv:=by lia
        subst this;exact hok8 g hg a ha b hb
  · rintro σ H7 ⟨c7,c8,c9,rfl,S7,hok⟩;have e:hdR ns LL gs m q=true:=by
      unfold hdR;rw [@decide_eq_true_eq _ (abj _)];intro x hx;unfold DU at hx;rw [if_neg (by lia)] at hx;obtain ⟨c,c1,c2,g,hg,a,ha,b,hb,rfl⟩:=hx;exact hok c c1 (by lia) g hg a ha b hb
    have:=qq _ (S6.trans S7);rw [e] at this;exact this
end
open PySem L2
theorem iB:∀ n,n≤9→(sfl n n).length=n * (n+1) / 2:=by decide +kernel
theorem iQ {α:Type} [DecidableEq α]:∀ {l r:List α},l.Nodup→(∀ x∈l,x∈r)→l.length≤r.length
  | [],_,_,_=>aa4 _
  | a :: l,r,h,s=>by
    obtain ⟨h1,h2⟩:=aa9.mp h;have ha:=s a aan;have:=iQ (r:=r.erase a) h2 fun x hx=>(List.mem_erase_of_ne (fun e=>h1 (by rw [← e];exact hx))).mpr (s x (aaj _ hx));rw [List.length_erase_of_mem ha] at this;have:=ack ha;simp only [aaC];lia
def gtP (ps:PPa) (q:Int × Int):PyData:=(lkP ps q).getD .none
theorem sf {n:Nat} {ps:PPa} {f:PyData→Bool} (f0:f .none=false) (h9:n≤9) (nd:(ps.map (·.1)).Nodup) (hl:ps.length=n * (n+1) / 2) (h:∀ q:Int × Int,0≤q.1→q.1≤q.2→q.2 < n→f (gtP ps q)=true):eE n (some ps)=true∧ps.all (fun p=>f p.2)=true:=by
  have at_:∀ q∈sfl n n,∃ d,lkP ps q=some d∧f d=true:=fun q hq=>by
    obtain ⟨h0,h1,h2⟩:=iC n q hq;have:=h q h0 h1 h2;cases e:lkP ps q with
    | none=>rw [show gtP ps q=.none by unfold gtP;rw [e];rfl,f0] at this;cases this
    | some d=>rw [show gtP ps q=d by unfold gtP;rw [e];rfl] at this;exact ⟨d,rfl,this⟩
  have h1:eE n (some ps)=true:=by
    rw [cD,iB _ h9,decide_eq_true hl,abS,aaU];intro q hq;obtain ⟨d,e,_⟩:=at_ q hq;rw [e];rfl
  refine ⟨h1,List.all_eq_true.mpr fun p hp=>?_⟩;by_cases c:∃ q∈sfl n n,p.1=.tup [q.1,q.2]
  · obtain ⟨q,hq,e⟩:=c;obtain ⟨d,e2,e3⟩:=at_ q hq;have hm:=ff e2;have : p=(MK.tup [q.1,q.2],d):=by
      obtain ⟨i,hi⟩:=List.getElem?_of_mem hp;obtain ⟨j,hj⟩:=List.getElem?_of_mem hm;have a1:(ps.map (·.1))[i]?=some (MK.tup [q.1,q.2]):=by rw [aak,hi,← e];rfl
      have a2:(ps.map (·.1))[j]?=some (MK.tup [q.1,q.2]):=by rw [aak,hj];rfl
      have il:=(aaA.mp a1).1;have:=(List.getElem?_inj il nd).mp (a1.trans a2.symm);subst this;exact aa2 (hi.symm.trans hj)
    rw [this];exact e3
  · exfalso
    have big:=iQ (l:=p.1 :: (sfl n n).map fun q=>MK.tup [q.1,q.2]) (r:=ps.map (·.1)) (by
      refine List.nodup_cons.mpr ⟨fun z=>?_,?_⟩
      · obtain ⟨q,hq,e⟩:=aar.mp z;exact c ⟨q,hq,e.symm⟩
      · refine acU _ (fun a b hab z=>hab ?_) (pB n h9);injection z with z
        injection z with z1 z
        injection z with z2
        exact Prod.ext z1 z2) (fun x hx=>by
      rcases aai.mp hx with rfl|hx
      · exact aca hp
      · obtain ⟨q,hq,rfl⟩:=aar.mp hx;obtain ⟨d,e2,_⟩:=at_ q hq;exact aar.mpr ⟨_,ff e2,rfl⟩)
    simp only [aaC,aaa,iB n h9] at big;lia
def rws (n:Nat) (i:Int):List (Int × Int):=(aaO ((n:Int) - i).toNat).map fun (k:Nat)=>(i,i+(k:Int))
def kj (n:Nat) (c:Nat):List (Int × Int):=(aaO c).flatMap fun (i:Nat)=>rws n (i:Int)
theorem rwsL_mem {n:Nat} {q:Int × Int}:q∈kj n n↔0≤q.1∧q.1≤q.2∧q.2 < n:=by
  unfold kj rws;rw [List.mem_flatMap];constructor
  · rintro ⟨i,hi,hq⟩;obtain ⟨k,hk,rfl⟩:=aar.mp hq;have h1:=aaK.mp hi;have h2:=aaK.mp hk;simp only;lia
  · rintro ⟨h0,h1,h2⟩;refine ⟨q.1.toNat,aaK.mpr (by lia),aar.mpr ⟨(q.2 - q.1).toNat,aaK.mpr (by lia),?_⟩⟩;rw [Prod.ext_iff];simp only;lia
section
variable {P:Program} {w:World} {K:aab} {mg:Str→Option Value} {base:Heap} {f:Addr} {fd:FuncData}
def Lrs (t:PRe):Prop:=∀ dm ps,t=some (dm,some ps)→(ps.map (·.1)).Nodup∧∀ p∈ps,∀ ds,p.2=.list ds→ds.length≤200
def j8 (w:World) (K:aab):Sp:=fun vs H Q _=>∃ (r:Addr) (ns:List Int) (gs:List Sg) (t:PRe) (v:V),vs=[.ref r,.str (aB gs),v]∧H r=some (.lst (ns.map V.int))∧1≤ns.length∧ns.length≤9∧1≤gs.length∧gs.length≤3∧RIn w K H t v∧Lrs t ∧
  ∀ H',Same H H'→(sayR ns gs t=none→Q .non H')∧(∀ l p,sayR ns gs t=some l→H p=none→H' p=some (.lst (l.map V.int))→Q (.ref p) H')
abbrev eO:Stmt:=top 41
theorem bc:FnScope ["row","signs","thing","many","m","lists","stretches","i","stretch","j"] ["row","signs","thing"] (ao eO):=⟨rfl,rfl,rfl,by decide +kernel,rfl,by decide +kernel,by decide +kernel⟩
theorem l5 (F:Fun K "_law_said" "_law_said" eO f fd) (B:Bu K mg) (C__law_is_list:Cal P w K mg base "_law_is_list" 1 ["thing","m"] qE) (C__law_comes_within:Cal P w K mg base "_law_comes_within" 3 ["row","signs","m","lists","i","j"] (uO w)):FnOk P w K mg base CX0 4 f fd ["row","signs","thing"] (j8 w K):=by
  refine F.ok bc (fun vs H Q E h=>?_) (fun cdv A outer s H vs Q E hr h=>?_)
  · obtain ⟨r,ns,gs,t,v,rfl,_⟩:=h;rfl
  obtain ⟨r,ns,gs,t,v,rfl,er,n1,n9,g1,g3,ht,hlw,qq⟩:=h;refine ⟨_,(@ag _ _ _ _ _ (@aG _ _ (3) _ _ _ _ (bc).nd rfl (Or.inl rfl) (@ai _ _ _ _ _ _ _ _ _ aF rfl B.ilen aaN (@aa _ _ _ _ _ (pv 0) ac (by rfl)) (by decide) (by decide) (by rfl) (by rfl)) (by rfl) (by first|exact .inl rfl|exact .inr rfl|assumption)) (@ag _ _ _ _ _ (@aI _ _ _ _ _ _ _ _ (@PW.pt _ _ _ (@cH _ _ _ _ _ _ _ (@aZ _ _ _ _ (@aU _ _ _ (@ai _ _ _ _ _ _ _ _ _ (@aD _ ("tuple")) rfl B.iisinstance aah (@aa _ _ _ _ _ (pv 2) (@aa _ _ _ _ _ (@aL _ _ (.ty "tuple") _ _ rfl B.ituple abx rfl (by decide) (by decide)) ac (by rfl)) (by rfl)) (by decide) (by decide) (by rfl) (by rfl)) (by intro _;rfl))) (@bW _ _ _ _ (@aE _ _ _ _ _ _ _ _ gS (@ai _ _ _ _ _ _ _ _ _ aF rfl B.ilen aaN (@aa _ _ _ _ _ (pv 2) ac (by rfl)) (by decide) (by decide) (by rfl) (by rfl)) ae (aC _))))) (@af _ _ _ (@ap _ _ _ _ bz)) aA) (@ag _ _ _ _ _ (@eS _ _ _ _ _ _ (pv 2) (@dS _ _ _ _ _ _ rfl (@aY _ _ _ _ _ (@ak _ _ (4) _ (bc).nd rfl (Or.inl rfl) (.inl rfl)) (@aY _ _ _ _ _ (@ak _ _ (5) _ (bc).nd rfl (Or.inl rfl) (.inl rfl)) cR (by rfl)) (by rfl)) (by rfl) (by rfl)) (by rfl) (by rfl) (by rfl)) (@ag _ _ _ _ _ (@aI _ _ _ _ _ _ _ _ (@PW.pt _ _ _ (@cH _ _ _ _ _ _ _ (@aZ _ _ _ _ (@aU _ _ _ (@ai _ _ _ _ _ _ _ _ _ (@aD _ ("int")) rfl B.iisinstance aah (@aa _ _ _ _ _ (pv 4) (@aa _ _ _ _ _ (@aL _ _ (.ty "int") _ _ rfl B.iint abu rfl (by decide) (by decide)) ac (by rfl)) (by rfl)) (by decide) (by decide) (by rfl) (by rfl)) (by intro _;rfl))) (@cH _ _ _ _ _ _ _ (@aU _ _ _ (@ai _ _ _ _ _ _ _ _ _ (@aD _ ("bool")) rfl B.iisinstance aah (@aa _ _ _ _ _ (pv 4) (@aa _ _ _ _ _ (@aL _ _ (.ty "bool") _ _ rfl B.ibool abC rfl (by decide) (by decide)) ac (by rfl)) (by rfl)) (by decide) (by decide) (by rfl) (by rfl)) (by intro _;rfl)) (@bW _ _ _ _ (@aZ _ _ _ _ (@iG _ _ _ _ _ _ _ _ _ _ _ _ gW gW ae (pv 4) ae (by with_unfolding_all rfl))))))) (@af _ _ _ (@ap _ _ _ _ bz)) aA) (@ag _ _ _ _ _ (@aI _ _ _ _ _ _ _ _ (@PW.pt _ _ _ (@cH _ _ _ _ _ _ _ (@aZ _ _ _ _ (@aU _ _ _ (@ai _ _ _ _ _ _ _ _ _ (@ge _ ("dict") (w) _ rfl rfl) rfl B.iisinstance aah (@aa _ _ _ _ _ (pv 5) (@aa _ _ _ _ _ (@aL _ _ (.ty "dict") _ _ rfl B.idict abd rfl (by decide) (by decide)) ac (by rfl)) (by rfl)) (by decide) (by decide) (by rfl) (by rfl)) (by intro _;rfl))) (@bW _ _ _ _ (@aE _ _ _ _ _ _ _ _ gS (@ai _ _ _ _ _ _ _ _ _ (@jS _ (w) rfl) rfl B.ilen aaN (@aa _ _ _ _ _ (pv 5) ac (by rfl)) (by decide) (by decide) (by rfl) (by rfl)) (@az _ _ _ _ _ _ _ _ iM (@az _ _ _ _ _ _ _ _ dX (pv 3) (@az _ _ _ _ _ _ _ _ bh (pv 3) ae)) ae) (aC _))))) (@af _ _ _ (@ap _ _ _ _ bz)) aA) (@ag _ _ _ _ _ (@aG _ _ (6) _ _ _ _ (bc).nd rfl (Or.inl rfl) (@aQ _ _ _ _ ac) (by rfl) (by first|exact .inl rfl|exact .inr rfl|assumption)) (@ag _ _ _ _ _ (@a_ _ _ _ _ _ _ _ _ aaJ rfl (@bE _ _ _ _ _ _ rfl B.irange (@aa _ _ _ _ _ (pv 3) ac (by rfl)) (by rfl)) (@ak _ _ (7) _ (bc).nd rfl (Or.inr rfl) (.inl rfl)) (@af _ _ _ (@bT _ _ _ _ (@iI _ _ _ _ _ _ _ _ _ _ _ _ aby PySem.F.slot_list_extend PySem.F.type_list_extend pT (pv 6) (@aa _ _ _ _ _ (@cA _ _ _ _ _ _ _ _ (["j","i"]) ([none,some 7]) _ _ _ _ rfl (@du _ _ _ _ _ _ _ rfl B.irange (@aa _ _ _ _ _ (pv 7) (@aa _ _ _ _ _ (pv 3) ac (by rfl)) (by rfl)) (by rfl) (by rfl)) rfl ⟨rfl,trivial⟩ ⟨⟨rfl,Or.inl rfl,Or.inl rfl⟩,trivial⟩ (fun _ _ _ _=>⟨(@ak _ _ (0) _ (show aa7 (["j","i"]:List Str) by decide +kernel) rfl (Or.inl rfl) (.inr rfl)),aX,(@aH _ _ _ _ _ (@aa _ _ _ _ _ (pv 1) (@aa _ _ _ _ _ (pv 0) ac (by rfl)) (by rfl)))⟩) (by rfl) (by rfl) (by rfl) (by rfl) (by intro _;rfl)) ac (by rfl)) (by rfl) (by rfl) (by rfl) (by rfl) (by rfl)) (by rfl))) (by intro _;rfl)) (@ag _ _ _ _ _ (@a_ _ _ _ _ _ _ _ _ aaJ rfl (@ba _ _ _ _ (pv 6)) (@ak _ _ (8) _ (bc).nd rfl (Or.inl rfl) (.inl rfl)) (@af _ _ _ (@aI _ _ _ _ _ _ _ _ (@aZ _ _ _ _ (@aU _ _ _ (@aq _ _ _ _ _ _ _ _ _ _ _ C__law_is_list hr (by lia) rfl (@aa _ _ _ _ _ (@qZ _ _ _ _ _ _ _ _ _ (w) rfl (u1 hr.units) (pv 5) (pv 8) bz ⟨rfl,rfl,rfl,rfl⟩) (@aa _ _ _ _ _ (pv 4) ac (by rfl)) (by rfl)) (by decide) (by rfl) (by rfl)) (by intro _;rfl))) (@af _ _ _ (@ap _ _ _ _ bz)) aA)) (by intro _;rfl)) (@ag _ _ _ _ _ (@a_ _ _ _ _ _ _ _ _ aaJ rfl (@ba _ _ _ _ (pv 6)) (@dS _ _ _ _ _ _ rfl (@aY _ _ _ _ _ (@ak _ _ (7) _ (bc).nd rfl (Or.inr rfl) (.inl rfl)) (@aY _ _ _ _ _ (@ak _ _ (9) _ (bc).nd rfl (Or.inl rfl) (.inl rfl)) cR (by rfl)) (by rfl)) (by rfl) (by rfl)) (@af _ _ _ (@aI _ _ _ _ _ _ _ _ (@aZ _ _ _ _ (@aU _ _ _ (@aq _ _ _ _ _ _ _ _ _ _ _ C__law_comes_within hr (by lia) rfl (@aa _ _ _ _ _ (pv 0) (@aa _ _ _ _ _ (pv 1) (@aa _ _ _ _ _ (pv 4) (@aa _ _ _ _ _ (pv 5) (@aa _ _ _ _ _ (pv 7) (@aa _ _ _ _ _ (pv 9) ac (by rfl)) (by rfl)) (by rfl)) (by rfl)) (by rfl)) (by rfl)) (by decide) (by rfl) (by rfl)) (by intro _;rfl))) (@af _ _ _ (@ap _ _ _ _ bz)) aA)) (by intro _;rfl)) (@af _ _ _ (@ap _ _ _ _ (@aT _ _ _ _ _ _ _ _ _ d3 rfl B.ilist aaQ (@aa _ _ _ _ _ (@bH _ _ _ _ _ _ (w) rfl (u1 hr.units) (pv 5) (@aH _ _ _ _ _ (@aa _ _ _ _ _ ae (@aa _ _ _ _ _ (@az _ _ _ _ _ _ _ _ fH (pv 3) ae) ac (by rfl)) (by rfl))) (fun _ _=>rfl)) ac (by rfl)) (by decide) (by decide) (by rfl) (by rfl))))))))))))),?_⟩;have hl:(ns.map V.int).length=ns.length:=aaa _;have t2:(2:Nat)≤sizeLine:=by decide
  refine ⟨_,rfl,r,_,rfl,.inl (SqL.of er),?_⟩;rw [hl];have q0:=qq H (Same.refl _);cases t with
  | none =>
    rcases ht with ⟨nm,ty,hk⟩|⟨a,xs,rfl,ea,ne⟩
    · exact ⟨_,rfl,_,_,false,rfl,ty,hk,false,rfl,aR (q0.1 rfl)⟩
    · refine ⟨_,rfl,_,_,true,rfl,.tup ea,rfl,true,rfl,aM ⟨_,rfl,a,_,rfl,.inr (SqT.of ea),rfl,_,rfl,?_⟩⟩;have cz:¬ V.int (xs.length:Nat)=V.int 2:=fun z=>ne (by have:=V.int.inj z;lia);show if (!decide (V.int (xs.length:Nat)=V.int 2))=true then _ else _
      rw [decide_eq_false cz];exact aR (q0.1 rfl)
  | some p =>
  obtain ⟨dm,o⟩:=p;obtain ⟨a,mv,lv,rfl,ea,hm,hl2⟩:=ht;refine ⟨_,rfl,_,_,true,rfl,.tup ea,rfl,true,rfl,aM ⟨_,rfl,a,_,rfl,.inr (SqT.of ea),rfl,_,rfl,jM rfl ?_⟩⟩;refine ⟨_,rfl,a,_,rfl,SqT.of ea,rfl,_,_,rfl,_,_,rfl,rfl,?_⟩;have no:prR ns.length (some (dm,o))=false→sayR ns gs (some (dm,o))=none:=fun h=>by
    cases o with
    | none=>rfl
    | some ps =>
      show (if (prR ns.length (some (dm,some ps)) && _)=true then _ else none)=none;rw [h];rfl
  have bad:fj dm=false→Q .non H:=fun h=>q0.1 (no (by
    cases o with
    | none=>rfl
    | some ps=>show (fj dm && _ && _)=false;rw [h];rfl))
  have hty:=hm.ty (K:=K);cases dm with
  | bool b=>exact ⟨_,rfl,_,_,true,rfl,hty,rfl,true,rfl,aM ⟨_,rfl,_,_,true,rfl,hty,rfl,true,rfl,aR (bad rfl)⟩⟩
  | none=>exact ⟨_,rfl,_,_,false,rfl,hty,rfl,false,rfl,aR (bad rfl)⟩
  | str _=>exact ⟨_,rfl,_,_,false,rfl,hty,rfl,false,rfl,aR (bad rfl)⟩
  | list _=>exact ⟨_,rfl,_,_,false,rfl,hty,rfl,false,rfl,aR (bad rfl)⟩
  | tuple _=>exact ⟨_,rfl,_,_,false,rfl,hty,rfl,false,rfl,aR (bad rfl)⟩
  | dict _=>exact ⟨_,rfl,_,_,false,rfl,hty,rfl,false,rfl,aR (bad rfl)⟩
  | int mi =>
  simp only [Dat] at hm;subst hm;refine ⟨_,rfl,_,_,true,rfl,.int mi,rfl,true,rfl,aM ⟨_,rfl,_,_,false,rfl,.int mi,rfl,false,rfl,aM ⟨_,rfl,_,_,rfl,rfl,_,rfl,?_⟩⟩⟩;by_cases c1:2≤mi
  case neg =>
    rw [decide_eq_false c1];exact aM ⟨_,rfl,aR (bad (by show (decide (2≤mi) && _)=false;rw [decide_eq_false c1];rfl))⟩
  rw [decide_eq_true c1];refine aR ⟨_,_,rfl,rfl,_,rfl,?_⟩;by_cases c2:mi≤60
  case neg =>
    rw [decide_eq_false c2];exact aR (bad (by show (decide (2≤mi) && decide (mi≤60))=false;rw [decide_eq_false c2,acz]))
  rw [decide_eq_true c2];have hmd:fj (.int mi)=true:=by show (decide (2≤mi) && decide (mi≤60))=true;rw [decide_eq_true c1,decide_eq_true c2];rfl
  refine aM ?_;cases o with
  | none =>
    obtain ⟨nm,ty,hk⟩:=hl2;exact ⟨_,rfl,_,_,false,rfl,.inl ty,hk,false,rfl,aR (q0.1 rfl)⟩
  | some ps =>
  obtain ⟨d,rfl,hpa⟩:=hl2;obtain ⟨es,pd,hes⟩:=id hpa;obtain ⟨hnd,hln⟩:=hlw _ _ rfl;have lk:es.length=ps.length:=(aav hes).symm;have mul9:ns.length * (ns.length+1)≤9 * 10:=ac1 n9 (by lia);refine ⟨_,rfl,_,_,true,rfl,.inr ⟨d,es,rfl,pd,rfl⟩,rfl,true,rfl,aM ⟨_,rfl,d,es,rfl,pd,_,rfl,_,rfl,_,_,rfl,rfl,_,_,rfl,rfl,.inl ⟨by lia,by lia⟩,_,_,rfl,rfl,⟨by decide,by decide⟩,?_⟩⟩;rw [lk];have hz:((ns.length:Int) * ((ns.length:Int)+1)) / 2=((ns.length * (ns.length+1) / 2:Nat):Int):=by
    have e:((ns.length * (ns.length+1):Nat):Int)=(ns.length:Int) * ((ns.length:Int)+1):=by rw [Int.natCast_mul];rfl
    rw [← e];lia
  show rNe (V.int (ps.length:Nat)) (V.int (((ns.length:Int) * ((ns.length:Int)+1)) / 2)) H _;rw [hz];refine ⟨rfl,_,rfl,?_⟩;have bad2:(eE ns.length (some ps) && ps.all fun p=>bN mi p.2)=false→sayR ns gs (some (.int mi,some ps))=none:=fun h=>no (by
    show (fj (.int mi) && eE ns.length (some ps) && ps.all fun p=>bN mi p.2)=false;rw [Bool.and_assoc,h,acz])
  by_cases c:ps.length=ns.length * (ns.length+1) / 2
  case neg =>
    have e:=bad2 (by rw [cD,iB _ n9,decide_eq_false c];rfl);have cz:¬ V.int (ps.length:Nat)=V.int ((ns.length * (ns.length+1) / 2:Nat):Int):=fun z=>c (by have:=V.int.inj z;lia);show if (!decide (V.int (ps.length:Nat)=V.int ((ns.length * (ns.length+1) / 2:Nat):Int)))=true then _ else _
    rw [decide_eq_false cz];exact aR (q0.1 e)
  refine jM (by rw [c]) ?_;refine ⟨(by show 0≤sizeLine;decide),fun pl npl=>?_⟩;have sl:=Same.new npl (.lst []);have el:upd H pl (.lst []) pl=some (.lst ([]:List V)):=ad;generalize upd H pl (.lst [])=H1 at sl el ⊢;refine ⟨_,rfl,_,rfl,by lia,by lia,?_⟩;refine br (n:=((ns.length:Nat):Int).toNat) (fun c σ H'=>∃ (us:List V) (c7:Option V),σ=[some (.ref r),some (.str (aB gs)),some (.ref a),some (.int (ns.length:Nat)),some (.int mi),some (.ref d),some (.ref pl),c7,none,none]∧Same H H'∧H' pl=some (.lst us)∧us.length≤9 * c∧Paired (PairIn H') (kj ns.length c) us) ⟨[],_,rfl,sl,el,by decide,.nil⟩ ?_ ?_
  · rintro c σ H2 hc ⟨us,c7,rfl,S2,el2,lu,hp⟩;obtain ⟨i0,hi0⟩:∃ i0:Int,(0:Int)+(c:Int)=i0:=⟨_,rfl⟩
    rw [hi0];have hci:(c:Int)=i0:=by lia
    refine ⟨_,rfl,.inl ⟨rfl,_,SqL.of el2⟩,?_⟩;refine ⟨_,rfl,_,rfl,i0,(ns.length:Int),rfl,⟨by lia,by lia,by lia,by lia⟩,?_⟩;refine cJ (Trn.range (lo:=i0) (n:=((ns.length:Int) - i0).toNat)) (fun k zs H'=>Same H2 H'∧zs.length=k∧Paired (PairIn H') ((rws ns.length i0).take k) zs) ⟨Same.refl _,rfl,.nil⟩ (fun k zs H' hk z=>⟨trivial,au (by rw [z.2.1];lia)⟩) (fun k x zs H0 H' hk hx z Nx nx=>?_) (fun zs H' z p9 n9'=>?_)
    · obtain ⟨S,lz,hz'⟩:=z;obtain ⟨rfl,rfl⟩:=hx;refine ⟨_,rfl,_,rfl,t2,fun v1 m1=>nx _ _ ?_⟩;have j1:=Same.new m1 (.tup [.int i0,.int (i0+(k:Int))]);refine ⟨S.trans j1,by rw [aaw,lz];rfl,?_⟩;have hk':(rws ns.length i0)[k]?=some (i0,i0+(k:Int)):=by
        unfold rws;rw [aak,abp hk];rfl
      rw [aaE,hk'];exact Paired.app (Paired.mapP hz' fun _ _ z=>PairIn.mono (Tups.of j1) z) (.cons ⟨v1,rfl,ad⟩ .nil)
    · obtain ⟨S,lz,hz'⟩:=z;have s9:=Same.new n9' (.lst zs);have lr:(rws ns.length i0).length=((ns.length:Int) - i0).toNat:=by unfold rws;rw [aaa,abc]
      rw [← lr,aaT] at hz';have el9:=s9 _ _ (S _ _ el2);have n9l:p9≠pl:=fun z=>by rw [z] at n9';rw [S _ _ el2] at n9';cases n9'
      refine ⟨pl,p9,_,_,rfl,rfl,el9,ad,di (by lia),us++zs,_,rfl,((S2.trans S).trans s9).upd npl,ad,by rw [aaw];lia,?_⟩;have T:Tups H2 (upd (upd H' p9 (.lst zs)) pl (.lst (us++zs))):=fun b xs e=>by
        rw [aj (fun z=>by rw [z,el2] at e;cases e)];exact s9 _ _ (S _ _ e)
      have T':Tups H' (upd (upd H' p9 (.lst zs)) pl (.lst (us++zs))):=fun b xs e=>by
        rw [aj (fun z=>by rw [z,S _ _ el2] at e;cases e)];exact s9 _ _ e
      have er9:kj ns.length (c+1)=kj ns.length c++rws ns.length i0:=by
        unfold kj;rw [ab6,acB,← hci];simp
      rw [er9];exact Paired.app (Paired.mapP hp fun _ _ z=>PairIn.mono T z) (Paired.mapP hz' fun _ _ z=>PairIn.mono T' z)
  rintro σ H2 ⟨us,c7,rfl,S2,el2,lu,hp⟩;have hp:Paired (PairIn H2) (kj ns.length ns.length) us:=by rw [aba] at hp;exact hp
  have lu:us.length≤81:=by rw [aba] at lu;lia
  have lq:=aav hp;refine ⟨_,rfl,pl,rfl,⟨_,SqL.of el2⟩,bZ (Trn.list (xs:=us)) (fun i σ H'=>∃ c8,σ=[some (.ref r),some (.str (aB gs)),some (.ref a),some (.int (ns.length:Nat)),some (.int mi),some (.ref d),some (.ref pl),c7,c8,none]∧Same H2 H'∧∀ q∈(kj ns.length ns.length).take i,bN mi (gtP ps q)=true) ⟨_,rfl,Same.refl _,fun q hq=>by simp at hq⟩ (fun i σ H' hi z=>?_) (fun i x σ H0 H' hi it z=>?_) (fun σ H' z=>?_)⟩
  · obtain ⟨_,rfl,S,_⟩:=z;exact SqL.of (S _ _ el2)
  · obtain ⟨c8,rfl,S,hok⟩:=z;obtain ⟨rfl,hx⟩:=it;obtain ⟨q,hq,hpx⟩:=Paired.at hp hx;obtain ⟨b,rfl,eb⟩:=PairIn.mono (Tups.of S) hpx;have SH:=S2.trans S;obtain ⟨h0,h1,h2⟩:=rwsL_mem.mp (aap hq);have hd:Dat H' (gtP ps q) ((bg es (.tup [q.1,q.2])).getD .non):=by
      unfold gtP;rcases nz hes q with ⟨e1,e2⟩|⟨dd,v,e1,e2,h⟩
      · rw [e1,e2];simp only [Option.getD_none,Dat]
      · rw [e1,e2];exact Dat.mono SH _ _ h
    have hln':∀ ds,gtP ps q=.list ds→ds.length≤200:=fun ds e=>by
      unfold gtP at e;cases e1:lkP ps q with
      | none=>rw [e1] at e;cases e
      | some dd=>rw [e1] at e;exact hln _ (ff e1) ds e
    refine ⟨_,rfl,d,es,rfl,pd.mono SH,_,rfl,_,⟨es,_,pd.mono SH,MkIn.pair (i:=q.1) (j:=q.2) eb,rfl⟩,_,rfl,_,_,mi,rfl,c1,c2,hd,hln',fun H4 s4=>⟨_,rfl,?_⟩⟩;cases hb:bN mi (gtP ps q) with
    | false =>
      have e:=bad2 (by
        cases e1:lkP ps q with
        | none =>
          have : eE ns.length (some ps)=false:=by
            rw [cD,Bool.and_eq_false_iff];refine .inr (acV.mpr ⟨q,m4 h0 h1 h2,?_⟩);rw [e1];exact aag
          rw [this];rfl
        | some dd =>
          have e2:gtP ps q=dd:=by unfold gtP;rw [e1];rfl
          rw [e2] at hb;rw [show (ps.all fun p=>bN mi p.2)=false from acV.mpr ⟨_,ff e1,by rw [show (MK.tup [q.1,q.2],dd).2=dd from rfl,hb];exact aag⟩,acz])
      exact aR ((qq _ (SH.trans s4)).1 e)
    | true =>
      refine aM ⟨_,rfl,S.trans s4,fun q' hq'=>?_⟩;rw [aaE,hq] at hq';rcases aay.mp hq' with hq'|hq'
      · exact hok q' hq'
      · have : q'=q:=by simpa using hq'
        rw [this];exact hb
  obtain ⟨c8,rfl,S,hok⟩:=z;rw [← lq,aaT] at hok;obtain ⟨hh,hps⟩:=sf (f:=bN mi) rfl n9 hnd c fun q a b z=>hok q (rwsL_mem.mpr ⟨a,b,z⟩);obtain ⟨hG,hLL⟩:=rG (m:=mi) hpa hh hps;have hLN:∀ q':Int × Int,0≤q'.1→q'.1≤q'.2→q'.2 < ns.length→(∀ x∈LLp ps q',0≤x∧x < mi)∧(LLp ps q').Nodup:=fun q' a b z=>by
    refine ⟨hLL q' a b z,?_⟩;have hv:=hok q' (rwsL_mem.mpr ⟨a,b,z⟩);unfold LLp;cases e1:lkP ps q' with
    | none=>simp
    | some dd =>
      have e2:gtP ps q'=dd:=by unfold gtP;rw [e1];rfl
      rw [e2] at hv;cases dd with
      | list ds =>
        have hv:(ds.all (aN mi) && hU (ds.map iof))=true:=hv;rw [aaS] at hv;exact (incr_iff.mp hv.2).imp fun h=>Int.ne_of_lt h
      | _=>exact absurd hv (by simp [bN])
  have hp1:prR ns.length (some (.int mi,some ps))=true:=by
    show (fj (.int mi) && eE ns.length (some ps) && ps.all fun p=>bN mi p.2)=true;rw [hmd,hh,hps];rfl
  have esR:sayR ns gs (some (.int mi,some ps))=if (sfl ns.length ns.length).all (hdR ns (LLp ps) gs mi)=true then some (LLp ps (0,(ns.length:Int) - 1)) else none:=by
    show (if (prR ns.length (some (PyData.int mi,some ps)) && (sfl ns.length ns.length).all (hdR ns (LLp ps) gs (iof (.int mi))))=true then _ else none)=_;rw [hp1,abS];rfl
  refine ⟨_,rfl,pl,rfl,⟨_,SqL.of (S _ _ el2)⟩,bZ (Trn.list (xs:=us)) (fun i σ H3=>∃ c7 c9,σ=[some (.ref r),some (.str (aB gs)),some (.ref a),some (.int (ns.length:Nat)),some (.int mi),some (.ref d),some (.ref pl),c7,c8,c9]∧Same H' H3∧∀ q∈(kj ns.length ns.length).take i,hdR ns (LLp ps) gs mi q=true) ⟨_,_,rfl,Same.refl _,fun q hq=>by simp at hq⟩ (fun i σ H3 hi z=>?_) (fun i x σ H0 H3 hi it z=>?_) (fun σ H3 z=>?_)⟩
  · obtain ⟨_,_,rfl,S3,_⟩:=z;exact SqL.of (S3 _ _ (S _ _ el2))
  · obtain ⟨c7,c9,rfl,S3,hok3⟩:=z;obtain ⟨rfl,hx⟩:=it;obtain ⟨q,hq,hpx⟩:=Paired.at hp hx;obtain ⟨b,rfl,eb⟩:=PairIn.mono (Tups.of (S.trans S3)) hpx;have SH:=(S2.trans S).trans S3;obtain ⟨h0,h1,h2⟩:=rwsL_mem.mp (aap hq);refine ⟨b,_,rfl,SqT.of eb,rfl,_,_,rfl,_,_,rfl,rfl,?_⟩;refine ⟨_,rfl,_,rfl,_,rfl,_,rfl,_,rfl,_,rfl,r,d,ns,gs,mi,q,LLp ps,rfl,SH _ _ er,h0,h1,h2,n9,g3,c1,c2,hG.mono SH,hLN,fun H4 s4=>⟨_,rfl,?_⟩⟩;cases hb:hdR ns (LLp ps) gs mi q with
    | false =>
      rw [show (sfl ns.length ns.length).all (hdR ns (LLp ps) gs mi)=false from acV.mpr ⟨q,m4 h0 h1 h2,by rw [hb];exact aag⟩] at esR;exact aR ((qq _ (SH.trans s4)).1 esR)
    | true =>
      refine aM ⟨_,_,rfl,S3.trans s4,fun q' hq'=>?_⟩;rw [aaE,hq] at hq';rcases aay.mp hq' with hq'|hq'
      · exact hok3 q' hq'
      · have : q'=q:=by simpa using hq'
        rw [this];exact hb
  obtain ⟨c7,c9,rfl,S3,hok3⟩:=z;rw [← lq,aaT] at hok3;rw [show (sfl ns.length ns.length).all (hdR ns (LLp ps) gs mi)=true from List.all_eq_true.mpr fun q hq=>hok3 q (rwsL_mem.mpr (iC _ q hq))] at esR;have SH:=(S2.trans S).trans S3;refine ⟨_,rfl,_,rfl,_,_,rfl,rfl,t2,fun k1 nk1=>?_⟩;have sk:=Same.new nk1 (.tup [.int 0,.int ((ns.length:Int) - 1)]);have SD:=SH.trans sk;obtain ⟨es2,pd2,g2⟩:=hG.mono SD;obtain ⟨t,v1,v2⟩:=g2 (0,(ns.length:Int) - 1) (Int.le_refl _) (by simp only;lia) (by simp only;lia);refine ⟨d,.ref t,rfl,⟨es2,_,pd2,MkIn.pair (i:=0) (j:=(ns.length:Int) - 1) ad,v1.symm⟩,t,_,rfl,.inl (SqL.of v2),fun l nl=>?_⟩;exact (qq _ (SD.trans (Same.new nl _))).2 _ l esR (SD.free nl) ad
end
open PySem L2
inductive Alk (H:Hp):Nat→V→V→Prop where
  | non {n}:Alk H (n+1) .non .non
  | int {n} (i:Int):Alk H (n+1) (.int i) (.int i)
  | lst {n} {a b:Addr} {xs:List Int} (ea:H a=some (.lst (xs.map V.int))) (eb:H b=some (.lst (xs.map V.int))) (hl:xs.length≤900):Alk H (n+2) (.ref a) (.ref b)
section
variable {P:Program} {w:World} {K:aab} {mg:Str→Option Value} {base:Heap} {f:Addr} {fd:FuncData}
def h_ (n:Nat):Sp:=fun vs H Q _=>∃ a b,vs=[a,b]∧Alk H n a b∧∀ H',Same H H'→Q (.bl true) H'
abbrev dO:Stmt:=top 38
theorem jp:FnScope ["found","due"] ["found","due"] (ao dO):=⟨rfl,rfl,rfl,by decide +kernel,rfl,by decide +kernel,by decide +kernel⟩
theorem kF (F:Fun K "_law_alike" "_law_alike" dO f fd) (bF:Binds K fd ["found","due"] []) (mF:mg "_law_alike" = some (.ref f)) (B:Bu K mg):∀ n,FnOk P w K mg base CX0 (n+1) f fd ["found","due"] (h_ n):=by
  intro n
  induction n with
  | zero =>
    refine ⟨fun vs H Q E h=>?_,fun A outer s H args us vs Q E _ _ _ _ h=>?_⟩
    · obtain ⟨a,b,rfl,_⟩:=h;rfl
    · obtain ⟨a,b,_,h,_⟩:=h;cases h
  | succ n ih =>
    have C__law_alike:Cal P w K mg base "_law_alike" (n+1) ["found","due"] (h_ n):=⟨f,fd,ih,bF,F.kp,mF⟩
    refine F.ok jp (fun vs H Q E h=>?_) (fun cdv A outer s H vs Q E hr h=>?_)
    · obtain ⟨a,b,rfl,_⟩:=h;rfl
    obtain ⟨x,y,rfl,h,qq⟩:=h;refine ⟨_,(@ag _ _ _ _ _ (@aI _ _ _ _ _ _ _ _ (@aU _ _ _ (@ai _ _ _ _ _ _ _ _ _ (@gc _ _ rfl) rfl B.iisinstance aah (@aa _ _ _ _ _ (pv 1) (@aa _ _ _ _ _ (@aH _ _ _ _ _ (@aa _ _ _ _ _ (@aL _ _ (.ty "tuple") _ _ rfl B.ituple abx rfl (by decide) (by decide)) (@aa _ _ _ _ _ (@aL _ _ (.ty "list") _ _ rfl B.ilist aaQ rfl (by decide) (by decide)) ac (by rfl)) (by rfl))) ac (by rfl)) (by rfl)) (by decide) (by decide) (by rfl) (by rfl)) (by intro _;rfl)) (@ag _ _ _ _ _ (@aI _ _ _ _ _ _ _ _ (@PW.pt _ _ _ (@cH _ _ _ _ _ _ _ (@aE _ _ _ _ _ _ _ _ gS (@ai _ _ _ _ _ _ _ _ _ (@aD _ ("list")) rfl B.iisinstance aah (@aa _ _ _ _ _ (pv 0) (@aa _ _ _ _ _ (@aL _ _ (.ty "list") _ _ rfl B.ilist aaQ rfl (by decide) (by decide)) ac (by rfl)) (by rfl)) (by decide) (by decide) (by rfl) (by rfl)) (@ai _ _ _ _ _ _ _ _ _ (@aD _ ("list")) rfl B.iisinstance aah (@aa _ _ _ _ _ (pv 1) (@aa _ _ _ _ _ (@aL _ _ (.ty "list") _ _ rfl B.ilist aaQ rfl (by decide) (by decide)) ac (by rfl)) (by rfl)) (by decide) (by decide) (by rfl) (by rfl)) (aC _)) (@bW _ _ _ _ (@aZ _ _ _ _ (@aU _ _ _ (@ai _ _ _ _ _ _ _ _ _ (@gc _ _ rfl) rfl B.iisinstance aah (@aa _ _ _ _ _ (pv 0) (@aa _ _ _ _ _ (@aH _ _ _ _ _ (@aa _ _ _ _ _ (@aL _ _ (.ty "tuple") _ _ rfl B.ituple abx rfl (by decide) (by decide)) (@aa _ _ _ _ _ (@aL _ _ (.ty "list") _ _ rfl B.ilist aaQ rfl (by decide) (by decide)) ac (by rfl)) (by rfl))) ac (by rfl)) (by rfl)) (by decide) (by decide) (by rfl) (by rfl)) (by intro _;rfl)))))) (@af _ _ _ (@ap _ _ _ _ bo)) aA) (@ag _ _ _ _ _ (@aI _ _ _ _ _ _ _ _ (@aE _ _ _ _ _ _ _ _ gS (@ai _ _ _ _ _ _ _ _ _ dA rfl B.ilen aaN (@aa _ _ _ _ _ (pv 0) ac (by rfl)) (by decide) (by decide) (by rfl) (by rfl)) (@ai _ _ _ _ _ _ _ _ _ dA rfl B.ilen aaN (@aa _ _ _ _ _ (pv 1) ac (by rfl)) (by decide) (by decide) (by rfl) (by rfl)) (aC _)) (@af _ _ _ (@ap _ _ _ _ bo)) aA) (@af _ _ _ (@ap _ _ _ _ (@bp _ _ _ _ _ _ _ _ (@iN _ hr.units) (@cA _ _ _ _ _ _ _ _ (["k","found","due"]) ([none,some 0,some 1]) _ _ _ _ rfl (@bE _ _ _ _ _ _ rfl B.irange (@aa _ _ _ _ _ (@ai _ _ _ _ _ _ _ _ _ dA rfl B.ilen aaN (@aa _ _ _ _ _ (pv 1) ac (by rfl)) (by decide) (by decide) (by rfl) (by rfl)) ac (by rfl)) (by rfl)) rfl ⟨rfl,⟨rfl,trivial⟩⟩ ⟨⟨rfl,Or.inl rfl,Or.inl rfl⟩,⟨⟨rfl,Or.inl rfl,Or.inl rfl⟩,trivial⟩⟩ (fun _ _ _ _=>⟨(@ak _ _ (0) _ (show aa7 (["k","found","due"]:List Str) by decide +kernel) rfl (Or.inl rfl) (.inr rfl)),(@fU _ _ _ (@aZ _ _ _ _ (@aU _ _ _ (@aq _ _ _ _ _ _ _ _ _ _ _ C__law_alike hr (by lia) rfl (@aa _ _ _ _ _ (@bu _ _ _ _ _ _ _ (@oN _ _ rfl) (pv 1) (pv 0) (fun _ _=>rfl)) (@aa _ _ _ _ _ (@bu _ _ _ _ _ _ _ (@oN _ _ rfl) (pv 2) (pv 0) (fun _ _=>rfl)) ac (by rfl)) (by rfl)) (by decide) (by rfl) (by rfl)) (by intro _;rfl)))),(pv 0)⟩) (by rfl) (by rfl) (by rfl) (by rfl) (by intro _;rfl)) (@aQ _ _ _ _ ac) (aC _)))))) aA) (@ag _ _ _ _ _ (@aI _ _ _ _ _ _ _ _ (@aU _ _ _ (@ai _ _ _ _ _ _ _ _ _ (@aD _ ("dict")) rfl B.iisinstance aah (@aa _ _ _ _ _ (pv 1) (@aa _ _ _ _ _ (@aL _ _ (.ty "dict") _ _ rfl B.idict abd rfl (by decide) (by decide)) ac (by rfl)) (by rfl)) (by decide) (by decide) (by rfl) (by rfl)) (by intro _;rfl)) (@ag _ _ _ _ _ (@aI _ _ _ _ _ _ _ _ (@PW.pt _ _ _ (@cH _ _ _ _ _ _ _ (@aZ _ _ _ _ (@aU _ _ _ (@ai _ _ _ _ _ _ _ _ _ (@aD _ ("dict")) rfl B.iisinstance aah (@aa _ _ _ _ _ (pv 0) (@aa _ _ _ _ _ (@aL _ _ (.ty "dict") _ _ rfl B.idict abd rfl (by decide) (by decide)) ac (by rfl)) (by rfl)) (by decide) (by decide) (by rfl) (by rfl)) (by intro _;rfl))) (@bW _ _ _ _ (@aE _ _ _ _ _ _ _ _ gS (@ai _ _ _ _ _ _ _ _ _ dA rfl B.ilen aaN (@aa _ _ _ _ _ (pv 0) ac (by rfl)) (by decide) (by decide) (by rfl) (by rfl)) (@ai _ _ _ _ _ _ _ _ _ dA rfl B.ilen aaN (@aa _ _ _ _ _ (pv 1) ac (by rfl)) (by decide) (by decide) (by rfl) (by rfl)) (aC _))))) (@af _ _ _ (@ap _ _ _ _ bo)) aA) (@af _ _ _ (@ap _ _ _ _ (@bp _ _ _ _ _ _ _ _ (@iN _ hr.units) (@q_ _ _ _ (@cA _ _ _ _ _ _ _ _ (["key","found","due"]) ([none,some 0,some 1]) _ _ _ _ rfl (@oG _ _ _ _ (pv 1)) rfl ⟨rfl,⟨rfl,trivial⟩⟩ ⟨⟨rfl,Or.inl rfl,Or.inl rfl⟩,⟨⟨rfl,Or.inl rfl,Or.inl rfl⟩,trivial⟩⟩ (fun _ _ _ _=>⟨(@ak _ _ (0) _ (show aa7 (["key","found","due"]:List Str) by decide +kernel) rfl (Or.inl rfl) (.inr rfl)),(@fU _ _ _ (@PW.pt _ _ _ (@cH _ _ _ _ _ _ _ (@jD _ _ _ _ _ _ (u1 hr.units) (pv 0) (pv 1) (by with_unfolding_all rfl)) (@bW _ _ _ _ (@aZ _ _ _ _ (@aU _ _ _ (@aq _ _ _ _ _ _ _ _ _ _ _ C__law_alike hr (by lia) rfl (@aa _ _ _ _ _ (@fc _ _ _ _ _ _ (u1 hr.units) (pv 1) (pv 0) (fun _ _=>rfl)) (@aa _ _ _ _ _ (@fc _ _ _ _ _ _ (u1 hr.units) (pv 2) (pv 0) (fun _ _=>rfl)) ac (by rfl)) (by rfl)) (by decide) (by rfl) (by rfl)) (by intro _;rfl))))))),(pv 0)⟩) (by rfl) (by rfl) (by rfl) (by rfl) (by intro _;rfl))) (@aQ _ _ _ _ ac) (aC _))))) aA) (@ag _ _ _ _ _ (@aI _ _ _ _ _ _ _ _ (@aU _ _ _ (@ai _ _ _ _ _ _ _ _ _ (@aD _ ("bool")) rfl B.iisinstance aah (@aa _ _ _ _ _ (pv 1) (@aa _ _ _ _ _ (@aL _ _ (.ty "bool") _ _ rfl B.ibool abC rfl (by decide) (by decide)) ac (by rfl)) (by rfl)) (by decide) (by decide) (by rfl) (by rfl)) (by intro _;rfl)) (@af _ _ _ (@ap _ _ _ _ (@dU _ _ _ _ _ _ _ (@ai _ _ _ _ _ _ _ _ _ (@aD _ ("bool")) rfl B.iisinstance aah (@aa _ _ _ _ _ (pv 0) (@aa _ _ _ _ _ (@aL _ _ (.ty "bool") _ _ rfl B.ibool abC rfl (by decide) (by decide)) ac (by rfl)) (by rfl)) (by decide) (by decide) (by rfl) (by rfl)) (@eU _ _ _ _ _ (@bp _ _ _ _ _ _ _ _ bD (pv 0) (pv 1) (aC _)))))) aA) (@ag _ _ _ _ _ (@aI _ _ _ _ _ _ _ _ (@PW.pt _ _ _ (@cH _ _ _ _ _ _ _ (@aE _ _ _ _ _ _ _ _ rl (pv 1) bz (aC _)) (@bW _ _ _ _ (@aU _ _ _ (@ai _ _ _ _ _ _ _ _ _ (@aD _ ("str")) rfl B.iisinstance aah (@aa _ _ _ _ _ (pv 1) (@aa _ _ _ _ _ (@aL _ _ (.ty "str") _ _ rfl B.istr acs rfl (by decide) (by decide)) ac (by rfl)) (by rfl)) (by decide) (by decide) (by rfl) (by rfl)) (by intro _;rfl))))) (@af _ _ _ (@ap _ _ _ _ (@dU _ _ _ _ _ _ _ (@bp _ _ _ _ _ _ _ _ bD (pv 0) (pv 1) (aC _)) (@eU _ _ _ _ _ (@bp _ _ _ _ _ _ _ _ bD (@ai _ _ _ _ _ _ _ _ _ (@aD _ ("str")) rfl B.iisinstance aah (@aa _ _ _ _ _ (pv 0) (@aa _ _ _ _ _ (@aL _ _ (.ty "str") _ _ rfl B.istr acs rfl (by decide) (by decide)) ac (by rfl)) (by rfl)) (by decide) (by decide) (by rfl) (by rfl)) (@ai _ _ _ _ _ _ _ _ _ (@aD _ ("str")) rfl B.iisinstance aah (@aa _ _ _ _ _ (pv 1) (@aa _ _ _ _ _ (@aL _ _ (.ty "str") _ _ rfl B.istr acs rfl (by decide) (by decide)) ac (by rfl)) (by rfl)) (by decide) (by decide) (by rfl) (by rfl)) (aC _)))))) aA) (@af _ _ _ (@ap _ _ _ _ (@dU _ _ _ _ _ _ _ (@ai _ _ _ _ _ _ _ _ _ (@aD _ ("int")) rfl B.iisinstance aah (@aa _ _ _ _ _ (pv 0) (@aa _ _ _ _ _ (@aL _ _ (.ty "int") _ _ rfl B.iint abu rfl (by decide) (by decide)) ac (by rfl)) (by rfl)) (by decide) (by decide) (by rfl) (by rfl)) (@dU _ _ _ _ _ _ _ (@qY _ _ _ _ (@ai _ _ _ _ _ _ _ _ _ (@aD _ ("bool")) rfl B.iisinstance aah (@aa _ _ _ _ _ (pv 0) (@aa _ _ _ _ _ (@aL _ _ (.ty "bool") _ _ rfl B.ibool abC rfl (by decide) (by decide)) ac (by rfl)) (by rfl)) (by decide) (by decide) (by rfl) (by rfl))) (@eU _ _ _ _ _ (@bp _ _ _ _ _ _ _ _ bD (pv 0) (pv 1) (aC _))))))))))),?_⟩;have t2:(2:Nat)≤sizeLine:=by decide
    refine ⟨_,rfl,t2,fun tp htp=>?_⟩;have s1:=Same.new htp (.tup [V.ty "tuple",V.ty "list"]);have etp:upd H tp (.tup [V.ty "tuple",V.ty "list"]) tp=some (.tup (["tuple","list"].map V.ty)):=ad;cases h with
    | non =>
      refine ⟨_,tp,_,["tuple","list"],false,rfl,.non,etp,rfl,false,rfl,aM ?_⟩;refine ⟨_,rfl,_,_,false,rfl,.non,rfl,false,rfl,aM ?_⟩;refine ⟨_,rfl,_,_,false,rfl,.non,rfl,false,rfl,aM ?_⟩;refine ⟨_,rfl,rfl,true,rfl,aR ⟨_,rfl,_,rfl,rfl,?_⟩⟩;refine ⟨_,rfl,aR ⟨_,rfl,_,_,false,rfl,.non,rfl,_,rfl,_,_,false,rfl,.non,rfl,rfl,?_⟩⟩;rw [decide_eq_true rfl];exact qq _ s1
    | int i =>
      refine ⟨_,tp,_,["tuple","list"],false,rfl,.int i,etp,rfl,false,rfl,aM ?_⟩;refine ⟨_,rfl,_,_,false,rfl,.int i,rfl,false,rfl,aM ?_⟩;refine ⟨_,rfl,_,_,false,rfl,.int i,rfl,false,rfl,aM ?_⟩;refine ⟨_,rfl,rfl,false,rfl,aM ⟨_,rfl,_,_,false,rfl,.int i,rfl,false,rfl,aM ?_⟩⟩;refine ⟨_,rfl,_,_,true,rfl,.int i,rfl,true,rfl,aR ⟨_,rfl,_,_,false,rfl,.int i,rfl,false,rfl,true,rfl,aR ⟨_,rfl,_,rfl,rfl,?_⟩⟩⟩;rw [decide_eq_true rfl];exact qq _ s1
    | @lst n a b xs ea eb hl =>
      have ea1:=s1 _ _ ea;have eb1:=s1 _ _ eb;have lx:(xs.map V.int).length=xs.length:=aaa _;refine ⟨_,tp,_,["tuple","list"],true,rfl,.lst eb1,etp,rfl,true,rfl,aR ?_⟩;generalize upd H tp (.tup [V.ty "tuple",V.ty "list"])=H1 at s1 ea1 eb1 ⊢;refine ⟨_,rfl,_,_,true,rfl,.lst ea1,rfl,_,rfl,_,_,true,rfl,.lst eb1,rfl,rfl,false,rfl,aM ?_⟩;refine ⟨_,rfl,t2,fun tp2 htp2=>?_⟩;have s2:=Same.new htp2 (.tup [V.ty "tuple",V.ty "list"]);have ea2:=s2 _ _ ea1;have eb2:=s2 _ _ eb1;refine ⟨_,tp2,_,["tuple","list"],true,rfl,.lst ea2,ad,rfl,true,rfl,aM ?_⟩;have S2:=s1.trans s2;generalize upd H1 tp2 (.tup [V.ty "tuple",V.ty "list"])=H2 at S2 ea2 eb2 ⊢;refine ⟨_,rfl,a,xs.length,rfl,.inl ⟨_,.inl (SqL.of ea2),lx.symm⟩,_,rfl,b,xs.length,rfl,.inl ⟨_,.inl (SqL.of eb2),lx.symm⟩,rfl,_,rfl,?_⟩;rw [decide_eq_true rfl];refine aM ⟨_,rfl,b,xs.length,rfl,.inl ⟨_,.inl (SqL.of eb2),lx.symm⟩,(xs.length:Nat),rfl,by lia,by lia,?_⟩;refine cJ (Trn.range (lo:=0) (n:=((xs.length:Nat):Int).toNat)) (fun i zs H'=>Same H2 H'∧zs=[]) ⟨Same.refl _,rfl⟩ (fun i zs H' hi p=>by rw [p.2];exact ⟨trivial,au (by decide)⟩) (fun i x zs H0 H' hi hx p Nx nx=>?_) (fun zs H' p p5 n5=>?_)
      · obtain ⟨rfl,rfl⟩:=hx;obtain ⟨S,rfl⟩:=p;have hi:i < xs.length:=by lia
        have ek1:(xs.map V.int)[i]?=some (V.int xs[i]):=by rw [aak,aac hi];rfl
        have ei:(0:Int)+(i:Int)=((i:Nat):Int):=by lia
        rw [ei];refine ⟨_,rfl,_,rfl,.inl ⟨a,_,_,_,rfl,rfl,SqL.of (S _ _ ea2),cV ek1,_,rfl,_,rfl,.inl ⟨b,_,_,_,rfl,rfl,SqL.of (S _ _ eb2),cV ek1,_,_,rfl,.int _,fun H3 s3=>?_⟩⟩⟩;exact ⟨true,rfl,aM (nx _ _ ⟨S.trans s3,rfl⟩)⟩
      · obtain ⟨S,rfl⟩:=p;have s6:=Same.new n5 (.lst []);refine ⟨aa4 _,fun p6 n6=>⟨0,p5,p6,[],[],by decide,rfl,rfl,SqL.of ((Same.new n6 _) _ _ ad),SqL.of ad,.inr ⟨fun _=>true,rfl,(fun j x y h=>by simp at h),?_⟩⟩⟩;exact qq _ (((S2.trans S).trans s6).trans (Same.new n6 _))
end
open PySem L2
theorem oH {ns:List Int} (sm:jZ ns):OkXs (ns.map PyData.int):=by
  induction ns with
  | nil=>simp only [abk,OkXs]
  | cons n ns ih =>
    simp only [aae,OkXs,OkX];refine ⟨?_,ih fun i hi=>sm i (aaj _ hi)⟩;have h:=sm n aan;have e:(10:Nat) ^ 12=1000000000000:=by decide
    have h:n.natAbs < 10 ^ 12:=by rw [e];lia
    exact aas h (ab4 (by decide) (by decide))
theorem om (ns:List Int):szXs (ns.map PyData.int)=ns.length:=by
  induction ns with
  | nil=>rfl
  | cons n ns ih=>simp only [aae,szXs,szX,ih,aaC];lia
theorem oS (ns:List Int):aaF (ns.map PyData.int)=0:=by
  induction ns with
  | nil=>simp [aaF]
  | cons n ns ih=>simp only [aae,aaF,ih,aa0];rfl
theorem f_ {H:Hp}:∀ ns:List Int,DatAll H (ns.map PyData.int) (ns.map V.int)
  | []=>by simp only [abk,DatAll]
  | n :: ns=>by
    simp only [aae,DatAll,Dat];exact ⟨_,_,rfl,rfl,f_ ns⟩
theorem tQ {ns:List Int} {d:PyData} (sm:jZ ns) (n9:ns.length≤9) (ok:OkX d) (sz:szX d≤14000) (dp:d.depth≤20):(PyData.list [.list (ns.map PyData.int),d]).showable=true∧(PyData.list [.list (ns.map PyData.int),d]).depth≤60∧(PyData.list [.list (ns.map PyData.int),d]).shown.length≤sizeLine:=by
  have okl:OkX (.list [.list (ns.map PyData.int),d]):=by simp only [OkX,OkXs];exact ⟨oH sm,ok,trivial⟩
  refine ⟨ii _ okl,?_,t0 okl ?_⟩
  · simp only [aa0,aaF,oS];lia
  · simp only [szX,szXs,om];lia
theorem tF {ns:List Int} {gs:List Sg} {t:PRe} {l:List Int} (h:sayR ns gs t=some l) (hl:Lrs t):l.length≤200:=by
  cases t with
  | none=>cases h
  | some p =>
    obtain ⟨dm,o⟩:=p;cases o with
    | none=>cases h
    | some ps =>
      have h:(if (prR ns.length (some (dm,some ps)) && (sfl ns.length ns.length).all (hdR ns (LLp ps) gs (iof dm)))=true then some (LLp ps (0,(ns.length:Int) - 1)) else none)=some l:=h;split at h
      · injection h with h
        rw [← h];unfold LLp;cases e:lkP ps (0,(ns.length:Int) - 1) with
        | none=>simp
        | some dd =>
          cases dd with
          | list ds =>
            have:=(hl _ _ rfl).2 _ (ff e) ds rfl;show (ds.map iof).length≤200;rw [aaa];exact this
          | _=>simp [lsD]
      · cases h
def TR (w:World) (K:aab) (H:Hp) (v:V):Prop:=∃ (t:PRe) (d:PyData),RIn w K H t v∧Lrs t∧Dx1 w H d v∧OkX d∧szX d≤14000∧d.depth≤20
theorem TR.mono {w:World} {K:aab} {H H':Hp} {v:V} (g:Same H H') (h:TR w K H v):TR w K H' v:=by
  obtain ⟨t,d,h1,h2,h3,h4⟩:=h;exact ⟨t,d,h1.mono g,h2,h3.mono g,h4⟩
section
variable {P:Program} {w:World} {K:aab} {mg:Str→Option Value} {base:Heap} {f:Addr} {fd:FuncData}
def ir (w:World) (K:aab):Sp:=fun vs H Q _=>∃ (r:Addr) (ns:List Int) (gs:List Sg) (v:V),vs=[.ref r,.str (aB gs),v]∧H r=some (.lst (ns.map V.int))∧1≤ns.length∧ns.length≤9∧1≤gs.length∧gs.length≤3∧e_ gs∧jZ ns∧TR w K H v∧∀ H',Same H H'→Q (.bl true) H'
abbrev dI:Stmt:=top 45
theorem bS:FnScope ["row","signs","thing","kept","due","turn","found"] ["row","signs","thing"] (ao dI):=⟨rfl,rfl,rfl,by decide +kernel,rfl,by decide +kernel,by decide +kernel⟩
theorem kC (F:Fun K "_law_right" "_law_right" dI f fd) (B:Bu K mg) (C__law_said:Cal P w K mg base "_law_said" 4 ["row","signs","thing"] (j8 w K)) (C_rests_say:Cal P w K mg base "rests_say" 5 ["row","signs","thing"] (j5 w K)) (C__law_alike:Cal P w K mg base "_law_alike" 4 ["found","due"] (h_ 3)):FnOk P w K mg base CX0 6 f fd ["row","signs","thing"] (ir w K):=by
  refine F.ok bS (fun vs H Q E h=>?_) (fun cdv A outer s H vs Q E hr h=>?_)
  · obtain ⟨r,ns,gs,v,rfl,_⟩:=h;rfl
  obtain ⟨r,ns,gs,v,rfl,er,n1,n9,g1,g3,sp,sm,⟨t,d,ht,hls,hx,okd,szd,dpd⟩,q⟩:=h;refine ⟨_,(@ag _ _ _ _ _ (@aG _ _ (3) _ _ _ _ (bS).nd rfl (Or.inl rfl) (@ai _ _ _ _ _ _ _ _ _ (@jc _ (w) rfl hr.gd hr.units) rfl B.irepr PyProof.Rows.boot_repr (@aa _ _ _ _ _ (@aQ _ _ _ _ (@aa _ _ _ _ _ (pv 0) (@aa _ _ _ _ _ (pv 2) ac (by rfl)) (by rfl))) ac (by rfl)) (by decide) (by decide) (by rfl) (by rfl)) (by rfl) (by first|exact .inl rfl|exact .inr rfl|assumption)) (@ag _ _ _ _ _ (@aG _ _ (4) _ _ _ _ (bS).nd rfl (Or.inl rfl) (@aq _ _ _ _ _ _ _ _ _ _ _ C__law_said hr (by lia) rfl (@aa _ _ _ _ _ (pv 0) (@aa _ _ _ _ _ (pv 1) (@aa _ _ _ _ _ (pv 2) ac (by rfl)) (by rfl)) (by rfl)) (by decide) (by rfl) (by rfl)) (by rfl) (by first|exact .inl rfl|exact .inr rfl|assumption)) (@ag _ _ _ _ _ (@a_ _ _ _ _ _ _ _ _ aaJ rfl (@bE _ _ _ _ _ _ rfl B.irange (@aa _ _ _ _ _ ae ac (by rfl)) (by rfl)) (@ak _ _ (5) _ (bS).nd rfl (Or.inl rfl) (.inl rfl)) (@ag _ _ _ _ _ (@aG _ _ (6) _ _ _ _ (bS).nd rfl (Or.inl rfl) (@aq _ _ _ _ _ _ _ _ _ _ _ C_rests_say hr (by lia) rfl (@aa _ _ _ _ _ (pv 0) (@aa _ _ _ _ _ (pv 1) (@aa _ _ _ _ _ (pv 2) ac (by rfl)) (by rfl)) (by rfl)) (by decide) (by rfl) (by rfl)) (by rfl) (by first|exact .inl rfl|exact .inr rfl|assumption)) (@ag _ _ _ _ _ (@aI _ _ _ _ _ _ _ _ (@PW.pt _ _ _ (@cH _ _ _ _ _ _ _ (@aZ _ _ _ _ (@aU _ _ _ (@aq _ _ _ _ _ _ _ _ _ _ _ C__law_alike hr (by lia) rfl (@aa _ _ _ _ _ (pv 6) (@aa _ _ _ _ _ (pv 4) ac (by rfl)) (by rfl)) (by decide) (by rfl) (by rfl)) (by intro _;rfl))) (@bW _ _ _ _ (@aE _ _ _ _ _ _ _ _ gS (@ai _ _ _ _ _ _ _ _ _ (@jc _ (w) rfl hr.gd hr.units) rfl B.irepr PyProof.Rows.boot_repr (@aa _ _ _ _ _ (@aQ _ _ _ _ (@aa _ _ _ _ _ (pv 0) (@aa _ _ _ _ _ (pv 2) ac (by rfl)) (by rfl))) ac (by rfl)) (by decide) (by decide) (by rfl) (by rfl)) (pv 3) (aC _))))) (@af _ _ _ (@ap _ _ _ _ bo)) aA) (@af _ _ _ (@aI _ _ _ _ _ _ _ _ (@aE _ _ _ _ _ _ _ _ tW (pv 4) bz (aC _)) (@af _ _ _ (@bT _ _ _ _ (@iI _ _ _ _ _ _ _ _ _ _ _ _ aby acF acG gF (pv 6) (@aa _ _ _ _ _ ae ac (by rfl)) (by rfl) (by rfl) (by rfl) (by rfl) (by rfl)) (by rfl))) aA)))) (by intro _;rfl)) (@af _ _ _ (@ap _ _ _ _ bo))))),?_⟩;have t2:(2:Nat)≤sizeLine:=by decide
  have hlw:Lrw t:=fun dm ps e p hp ds e2=>aa1 ((hls dm ps e).2 p hp ds e2) (by decide);obtain ⟨p1,p2,p3⟩:=tQ sm n9 okd szd dpd;obtain ⟨kt,hkt⟩:∃ kt,(PyData.list [.list (ns.map PyData.int),d]).shown=kt:=⟨_,rfl⟩
  have DL:∀ {H':Hp},Same H H'→Paired (Dx1 w H') [.list (ns.map PyData.int),d] [.ref r,v]:=fun g=>.cons (.inl (.inl (by simp only [Dat];exact ⟨r,_,rfl,g _ _ er,f_ ns⟩))) (.cons (hx.mono g) .nil);refine ⟨_,rfl,_,rfl,t2,fun L nL=>?_⟩;have s1:=Same.new nL (.lst [.ref r,v]);refine ⟨L,_,_,rfl,ad,DL s1,p1,p2,p3,?_⟩;rw [hkt];generalize upd H L (.lst [.ref r,v])=H1 at s1 ⊢;refine ⟨_,rfl,_,rfl,_,rfl,r,ns,gs,t,v,rfl,s1 _ _ er,n1,n9,g1,g3,ht.mono s1,hls,fun H2 s2=>?_⟩;constructor
  · intro he;refine ⟨2,rfl,by decide,by decide,br (n:=(2:Int).toNat) (fun i σ H'=>∃ c5 c6,σ=[some (.ref r),some (.str (aB gs)),some v,some (.str kt),some (.non),c5,c6]∧Same H2 H') ⟨_,_,rfl,Same.refl _⟩ ?_ ?_⟩
    · rintro i σ H3 hi ⟨c5,c6,rfl,S3⟩;have SH:=(s1.trans s2).trans S3;refine ⟨_,rfl,_,rfl,_,rfl,r,ns,gs,t,v,rfl,SH _ _ er,n1,n9,g1,g3,sp,ht.mono SH,hlw,fun H4 s4=>?_⟩;refine ⟨fun _=>?_,fun l p e=>by rw [he] at e;cases e⟩;refine ⟨_,rfl,_,rfl,_,_,rfl,.non,fun H5 s5=>⟨true,rfl,aM ?_⟩⟩;refine ⟨_,rfl,_,rfl,t2,fun L2 nL2=>?_⟩;have s6:=Same.new nL2 (.lst [.ref r,v]);refine ⟨L2,_,_,rfl,ad,DL ((SH.trans s4).trans (s5.trans s6)),p1,p2,p3,?_⟩;rw [hkt];refine ⟨_,rfl,rfl,_,rfl,jM rfl ?_⟩;refine ⟨_,rfl,rfl,false,rfl,aM ⟨_,_,rfl,S3.trans (s4.trans (s5.trans s6))⟩⟩
    · rintro σ H3 ⟨c5,c6,rfl,S3⟩;exact q _ ((s1.trans s2).trans S3)
  · intro l p he np hp;have ll:=tF he hls;refine ⟨2,rfl,by decide,by decide,br (n:=(2:Int).toNat) (fun i σ H'=>∃ c5 c6,σ=[some (.ref r),some (.str (aB gs)),some v,some (.str kt),some (.ref p),c5,c6]∧Same H2 H') ⟨_,_,rfl,Same.refl _⟩ ?_ ?_⟩
    · rintro i σ H3 hi ⟨c5,c6,rfl,S3⟩;have SH:=(s1.trans s2).trans S3;refine ⟨_,rfl,_,rfl,_,rfl,r,ns,gs,t,v,rfl,SH _ _ er,n1,n9,g1,g3,sp,ht.mono SH,hlw,fun H4 s4=>?_⟩;refine ⟨(fun e=>by rw [he] at e;cases e),fun l' p' e np' ep'=>?_⟩;rw [he] at e;injection e with e
      subst e;have hp4:=s4 _ _ (S3 _ _ hp);refine ⟨_,rfl,_,rfl,_,_,rfl,.lst ep' hp4 (by lia),fun H5 s5=>⟨true,rfl,aM ?_⟩⟩;refine ⟨_,rfl,_,rfl,t2,fun L2 nL2=>?_⟩;have s6:=Same.new nL2 (.lst [.ref r,v]);refine ⟨L2,_,_,rfl,ad,DL ((SH.trans s4).trans (s5.trans s6)),p1,p2,p3,?_⟩;rw [hkt];refine ⟨_,rfl,rfl,_,rfl,jM rfl ?_⟩;have ep6:=(s5.trans s6) _ _ ep';refine ⟨_,rfl,rfl,true,rfl,aR ⟨_,rfl,.inl ⟨rfl,_,SqL.of ep6⟩,p',_,_,rfl,rfl,ep6,?_,_,_,rfl,?_⟩⟩
      · have:=au (n:=(l.map V.int).length) (by rw [aaa];lia);exact this
      · exact (S3.trans (s4.trans (s5.trans s6))).upd (S3.free np')
    · rintro σ H3 ⟨c5,c6,rfl,S3⟩;exact q _ ((s1.trans s2).trans S3)
end
open PySem L2
def LlF (H0:Hp) (L:Int × Int→List Int) (H:Hp) (qs:List (Int × Int)) (kvs:List (List Key × V)):Prop:=Paired (fun (q:Int × Int) (kv:List Key × V)=>kv.1=ky q∧∃ t,kv.2=.ref t∧H0 t=none∧H t=some (.lst ((L q).map V.int))) qs kvs
def RsQ (m:Int) (L:Int × Int→List Int) (qs:List (Int × Int)):Prop:=∀ q∈qs,(L q).length≤60∧∀ x∈L q,0≤x∧x < m
theorem LlF.keys {H0 H:Hp} {L:Int × Int→List Int} {qs:List (Int × Int)} {kvs:List (List Key × V)} (h:LlF H0 L H qs kvs):kvs.map (·.1)=qs.map ky:=by
  unfold LlF at h
  induction h with
  | nil=>rfl
  | cons h t ih=>rw [aae,aae,ih,h.1]
theorem LlF.keep {H0 H H':Hp} {L:Int × Int→List Int} {qs:List (Int × Int)} {kvs:List (List Key × V)} (g:∀ t xs,H0 t=none→H t=some (.lst xs)→H' t=some (.lst xs)) (h:LlF H0 L H qs kvs):LlF H0 L H' qs kvs:=Paired.mapP h fun _ _ ⟨e,a,b,c,d⟩=>⟨e,a,b,c,g _ _ c d⟩
theorem LlF.get {H0 H:Hp} {L:Int × Int→List Int} {qs:List (Int × Int)} {kvs:List (List Key × V)} (h:LlF H0 L H qs kvs) (nd:qs.Nodup) {q:Int × Int} (hq:q∈qs):∃ t,bg kvs (ky q)=some (.ref t)∧H0 t=none∧H t=some (.lst ((L q).map V.int)):=by
  have hn:(kvs.map (·.1)).Nodup:=by rw [h.keys];exact rq nd
  obtain ⟨i,hi⟩:=abq.mp hq;have hl:=aav h;have hlt:i < kvs.length:=by have:=(aaA.mp hi).1;lia
  have hk:kvs[i]?=some kvs[i]:=aac hlt;obtain ⟨q',hq',e,t,e2,e3⟩:=Paired.at h hk;rw [hi] at hq';cases hq';refine ⟨t,lg hn ?_,e3⟩;rw [← e,← e2];exact aap hk
def m5 (L:Int × Int→List Int) (q0:Int × Int) (e:List Int):Int × Int→List Int:=fun q=>if q=q0 then e else L q
theorem oz {L:Int × Int→List Int} {q0:Int × Int} {e:List Int}:m5 L q0 e q0=e:=if_pos rfl
theorem oy {L:Int × Int→List Int} {q0 q:Int × Int} {e:List Int} (h:¬ q=q0):m5 L q0 e q=L q:=if_neg h
theorem LlF.put {H0 H:Hp} {L:Int × Int→List Int} {qs:List (Int × Int)} {kvs:List (List Key × V)} {q0:Int × Int} {ms:List Int} {t:Addr} (h:LlF H0 L H qs kvs) (hn:q0∉qs) (h0:H0 t=none) (ht:H t=some (.lst (ms.map V.int))):LlF H0 (m5 L q0 ms) H (qs++[q0]) (kvs++[(ky q0,.ref t)]):=by
  refine Paired.app ?_ (.cons ⟨rfl,t,rfl,h0,?_⟩ .nil)
  · have go:∀ {qs:List (Int × Int)} {kvs:List (List Key × V)},LlF H0 L H qs kvs→q0∉qs→LlF H0 (m5 L q0 ms) H qs kvs:=by
      intro qs kvs h;unfold LlF at h ⊢
      induction h with
      | nil=>intro _;exact .nil
      | @cons q kv qs kvs h t ih =>
        intro hn;have n1:¬ q=q0:=fun e=>hn (by rw [e];exact aan);exact .cons ⟨h.1,by rw [oy n1];exact h.2⟩ (ih fun z=>hn (aaj _ z))
    exact go h hn
  · rw [oz];exact ht
theorem RsQ.put {m:Int} {L:Int × Int→List Int} {qs:List (Int × Int)} {q0:Int × Int} {ms:List Int} (h:RsQ m L qs) (h1:ms.length≤60) (h2:∀ x∈ms,0≤x∧x < m):RsQ m (m5 L q0 ms) (qs++[q0]):=fun q hq=>by
  by_cases e:q=q0
  · rw [e,oz];exact ⟨h1,h2⟩
  · rw [oy e];rcases aay.mp hq with hq|hq
    · exact h q hq
    · exact absurd (aau.mp hq) e
def Kw (m:Int) (H:Hp) (pm:Addr) (xs:List Int):Prop:=H pm=some (.dK (tr xs))∧xs.Nodup∧∀ x∈xs,0≤x∧x < m
theorem Kw.len {m:Int} {H:Hp} {pm:Addr} {xs:List Int} (m60:m≤60) (h:Kw m H pm xs):xs.length≤60:=by
  have:=cE h.2.1 h.2.2;lia
theorem Kw.put {m:Int} {H:Hp} {pm:Addr} {xs:List Int} (h:Kw m H pm xs) {x:Int} (h0:0≤x) (h1:x < m):Kw m (upd H pm (.dK (bt (tr xs) (Sum.inl x) (.bl true)))) pm (ins xs x):=by
  refine ⟨by rw [ad,mR],gJ h.2.1,fun y hy=>?_⟩;rcases ins_mem.mp hy with z|z
  · exact h.2.2 y z
  · rw [z];exact ⟨h0,h1⟩
section
variable {P:Program} {w:World} {K:aab} {mg:Str→Option Value} {base:Heap} {f:Addr} {fd:FuncData}
def iy:Sp:=fun vs H Q _=>∃ (r:Addr) (ns:List Int) (gs:List Sg) (m:Int),vs=[.ref r,.str (aB gs),.int m]∧H r=some (.lst (ns.map V.int))∧1≤ns.length∧ns.length≤9∧gs.length≤3∧2≤m∧m≤60 ∧
  ∀ d kvs L H',Same H H'→H d=none→H' d=some (.dT kvs)→LlF H L H' (aJ ns.length) kvs→RsQ m L (aJ ns.length)→Q (.ref d) H'
abbrev dN:Stmt:=top 36
theorem a8:FnScope ["row","signs","m","found","j","i","known","k","one","other","sign"] ["row","signs","m"] (ao dN):=⟨rfl,rfl,rfl,by decide +kernel,rfl,by decide +kernel,by decide +kernel⟩
theorem js (F:Fun K "_law_lists" "_law_lists" dN f fd) (B:Bu K mg) (C__law_by:Cal P w K mg base "_law_by" 2 ["sign","one","other","m"] ln):FnOk P w K mg base CX0 3 f fd ["row","signs","m"] iy:=by
  refine F.ok a8 (fun vs H Q E h=>?_) (fun cdv A outer s H vs Q E hr h=>?_)
  · obtain ⟨r,ns,gs,m,rfl,_⟩:=h;rfl
  obtain ⟨r,ns,gs,m,rfl,er,h1,h9,g3,m2,m60,q⟩:=h;refine ⟨_,(@ag _ _ _ _ _ (@aG _ _ (3) _ _ _ _ (a8).nd rfl (Or.inl rfl) lU (by rfl) (by first|exact .inl rfl|exact .inr rfl|assumption)) (@ag _ _ _ _ _ (@a_ _ _ _ _ _ _ _ _ aaJ rfl (@bE _ _ _ _ _ _ rfl B.irange (@aa _ _ _ _ _ (@ai _ _ _ _ _ _ _ _ _ aF rfl B.ilen aaN (@aa _ _ _ _ _ (pv 0) ac (by rfl)) (by decide) (by decide) (by rfl) (by rfl)) ac (by rfl)) (by rfl)) (@ak _ _ (4) _ (a8).nd rfl (Or.inl rfl) (.inl rfl)) (@af _ _ _ (@a_ _ _ _ _ _ _ _ _ aaJ rfl (@jE _ _ _ _ _ _ _ _ rfl B.irange (@aa _ _ _ _ _ (pv 4) (@aa _ _ _ _ _ (@fV _ _ _ _ _ _ dB ae) (@aa _ _ _ _ _ (@fV _ _ _ _ _ _ dB ae) ac (by rfl)) (by rfl)) (by rfl)) (by rfl) (by rfl)) (@ak _ _ (5) _ (a8).nd rfl (Or.inl rfl) (.inl rfl)) (@ag _ _ _ _ _ (@aG _ _ (6) _ _ _ _ (a8).nd rfl (Or.inl rfl) fW (by rfl) (by first|exact .inl rfl|exact .inr rfl|assumption)) (@dQ _ _ _ _ _ (@aI _ _ _ _ _ _ _ _ (@aE _ _ _ _ _ _ _ _ bD (pv 5) (pv 4) (aC _)) (@af _ _ _ (@dR _ _ _ _ _ _ _ _ _ (u1 hr.units) (pv 6) (@az _ _ _ _ _ _ _ _ bA (@bu _ _ _ _ _ _ _ ix_list (pv 0) (pv 5) (fun _ _=>rfl)) (pv 2)) bo rfl)) aA) (@ag _ _ _ _ _ (@a_ _ _ _ _ _ _ _ _ aaJ rfl (@du _ _ _ _ _ _ _ rfl B.irange (@aa _ _ _ _ _ (pv 5) (@aa _ _ _ _ _ (pv 4) ac (by rfl)) (by rfl)) (by rfl) (by rfl)) (@ak _ _ (7) _ (a8).nd rfl (Or.inl rfl) (.inl rfl)) (@af _ _ _ (@a_ _ _ _ _ _ _ _ _ aaJ rfl (@ba _ _ _ _ (@fc _ _ _ _ _ _ (u1 hr.units) (pv 3) (@aH _ _ _ _ _ (@aa _ _ _ _ _ (pv 5) (@aa _ _ _ _ _ (pv 7) ac (by rfl)) (by rfl))) (fun _ _=>rfl))) (@ak _ _ (8) _ (a8).nd rfl (Or.inl rfl) (.inl rfl)) (@af _ _ _ (@aI _ _ _ _ _ _ _ _ (@aE _ _ _ _ _ _ _ _ gU (@ai _ _ _ _ _ _ _ _ _ gK rfl B.ilen aaN (@aa _ _ _ _ _ (pv 6) ac (by rfl)) (by decide) (by decide) (by rfl) (by rfl)) (pv 2) (aC _)) (@af _ _ _ (@a_ _ _ _ _ _ _ _ _ aaJ rfl (@ba _ _ _ _ (@fc _ _ _ _ _ _ (u1 hr.units) (pv 3) (@aH _ _ _ _ _ (@aa _ _ _ _ _ (@az _ _ _ _ _ _ _ _ bh (pv 7) ae) (@aa _ _ _ _ _ (pv 4) ac (by rfl)) (by rfl))) (fun _ _=>rfl))) (@ak _ _ (9) _ (a8).nd rfl (Or.inl rfl) (.inl rfl)) (@af _ _ _ (@a_ _ _ _ _ _ _ _ _ aaJ rfl (@ko _ _ _ _ (pv 1)) (@ak _ _ (10) _ (a8).nd rfl (Or.inl rfl) (.inl rfl)) (@af _ _ _ (@dR _ _ _ _ _ _ _ _ _ (u1 hr.units) (pv 6) (@aq _ _ _ _ _ _ _ _ _ _ _ C__law_by hr (by lia) rfl (@aa _ _ _ _ _ (pv 10) (@aa _ _ _ _ _ (pv 8) (@aa _ _ _ _ _ (pv 9) (@aa _ _ _ _ _ (pv 2) ac (by rfl)) (by rfl)) (by rfl)) (by rfl)) (by decide) (by rfl) (by rfl)) bo rfl)) (by intro _;rfl))) (by intro _;rfl))) aA)) (by intro _;rfl))) (by intro _;rfl)) (@af _ _ _ (@dR _ _ _ _ _ _ _ _ _ (u1 hr.units) (pv 3) (@aH _ _ _ _ _ (@aa _ _ _ _ _ (pv 5) (@aa _ _ _ _ _ (pv 4) ac (by rfl)) (by rfl))) (@ai _ _ _ _ _ _ _ _ _ (@dq _ rfl rfl) rfl B.isorted abI (@aa _ _ _ _ _ (pv 6) ac (by rfl)) (by decide) (by decide) (by rfl) (by rfl)) rfl))))) (by intro _;rfl))) (by intro _;rfl)) (@af _ _ _ (@ap _ _ _ _ (pv 3))))),?_⟩;have m0:0 < m:=by lia
  have hl:(ns.map V.int).length=ns.length:=aaa _;have t2:(2:Nat)≤sizeLine:=by decide
  have nd:=dc ns.length h9;intro d nD;have S2:=Same.new nD (.dT []);have e2:upd H d (.dT []) d=some (.dT []):=ad;generalize upd H d (.dT [])=H2 at S2 e2 ⊢;have small:∀ x:Int,0≤x∧x < m→x.natAbs < 2 ^ 4000:=fun x hx=>aas (show x.natAbs < 2 ^ 7 by lia) (ab4 (by decide) (by decide));have modb:∀ x:Int,0≤x % m∧x % m < m:=fun x=>⟨aco _ (by lia),abV _ m0⟩
  refine ⟨_,rfl,r,_,rfl,.inl (SqL.of (S2 _ _ er)),_,rfl,by lia,by lia,?_⟩;rw [hl];refine br (n:=((ns.length:Nat):Int).toNat) (fun j σ H'=>∃ (kvs:List (List Key × V)) (L:Int × Int→List Int) (c4 c5 c6 c7 c8 c9 ca:Option V),σ=[some (.ref r),some (.str (aB gs)),some (.int m),some (.ref d),c4,c5,c6,c7,c8,c9,ca]∧Same H H'∧H' d=some (.dT kvs)∧LlF H L H' (aJ j) kvs∧RsQ m L (aJ j)) ⟨[],fun _=>[],_,_,_,_,_,_,_,rfl,S2,e2,.nil,fun q hq=>nomatch hq⟩ ?_ ?_
  · rintro j σ H3 hj ⟨kvs3,L3,c4,c5,c6,c7,c8,c9,ca,rfl,S3,e3,hb3,hq3⟩;have ej:(0:Int)+(j:Int)=(j:Int):=by lia
    rw [ej];have hjn:j < ns.length:=by lia
    refine ⟨_,rfl,1,rfl,1,rfl,(j:Int),-1,rfl,⟨by lia,by lia,by decide,by decide⟩,?_⟩;have e4:((j:Int) - (-1)).toNat=j+1:=by lia
    refine bZ (Trn.down (hi:=(j:Int)) (n:=((j:Int) - (-1)).toNat)) (fun a σ H'=>∃ (kvs:List (List Key × V)) (L:Int × Int→List Int) (c5 c6 c7 c8 c9 ca:Option V),σ=[some (.ref r),some (.str (aB gs)),some (.int m),some (.ref d),some (.int (j:Int)),c5,c6,c7,c8,c9,ca]∧Same H H'∧H' d=some (.dT kvs)∧LlF H L H' (aJ j++(bi j).take a) kvs∧RsQ m L (aJ j++(bi j).take a)) ⟨kvs3,L3,_,_,_,_,_,_,rfl,S3,e3,by simpa using hb3,by simpa using hq3⟩ (fun _ _ _ _ _=>trivial) ?_ ?_
    · rintro a x σ H4 H4' ha ⟨rfl,rfl⟩ ⟨kvs,L,d5,d6,d7,d8,d9,da,rfl,S4,e5,hb5,hq5⟩;have ha':a < j+1:=by lia
      obtain ⟨q0,eq0⟩:∃ q0:Int × Int,q0=((j:Int) - (a:Int),(j:Int)):=⟨_,rfl⟩
      have q1:q0.1=(j:Int) - (a:Int):=by rw [eq0]
      have q2:q0.2=(j:Int):=by rw [eq0]
      obtain ⟨i0,hi0⟩:∃ i0:Int,(j:Int) - (a:Int)=i0:=⟨_,rfl⟩
      rw [hi0] at q1 eq0 ⊢;have i0a:0≤i0:=by lia
      have i0j:i0≤(j:Int):=by lia
      have hix:i0.toNat < ns.length:=by lia
      have hnx:ns[i0.toNat]?=some ns[i0.toNat]:=aac hix;have eat:atI (ns.map V.int) i0=some (.int ns[i0.toNat]):=by
        have h:atI (ns.map V.int) ((i0.toNat:Nat):Int)=some (.int ns[i0.toNat]):=cV (by rw [aak,hnx];rfl)
        rwa [show ((i0.toNat:Nat):Int)=i0 by lia] at h
      have er4:=S4 _ _ er;have hR:(bi j)[a]?=some q0:=by
        unfold bi;rw [aak,abp ha',eq0,← hi0];rfl
      have prefixT:∀ b,(aJ j++(bi j).take b).Nodup:=fun b=>by
        have hjr:(aaO ns.length)[j]?=some j:=abp hjn;have hp:=lO (f:=bi) hjr (List.take_prefix b (bi j));have e:((aaO ns.length).take j).flatMap bi=aJ j:=by
          unfold aJ;rw [List.take_range,acN (by lia)]
        rw [e] at hp;exact acm hp.sublist nd
      have nq:q0∉aJ j++(bi j).take a:=fun z=>by
        have:=prefixT (a+1);rw [aaE,hR,← abb] at this;exact (List.nodup_append.mp this).2.2 _ z q0 (by simp) rfl
      intro pm npm;have s5:=Same.new npm (.dK []);have em5:upd H4' pm (.dK []) pm=some (.dK (tr [])):=ad;generalize upd H4' pm (.dK [])=H5 at s5 em5 ⊢;have ndm:d≠pm:=ah e5 npm;refine ⟨fun σ H'=>∃ (xs:List Int) (c7 c8 c9 ca:Option V),σ=[some (.ref r),some (.str (aB gs)),some (.int m),some (.ref d),some (.int (j:Int)),some (.int i0),some (.ref pm),c7,c8,c9,ca]∧But pm H5 H'∧Kw m H' pm xs,?_,?_⟩
      · refine ⟨_,rfl,_,rfl,rfl,_,rfl,cN (fun zz=>?_) (fun zz=>?_)⟩
        · refine ⟨_,rfl,_,rfl,_,rfl,r,_,_,_,rfl,rfl,SqL.of (s5 _ _ er4),eat,_,rfl,_,_,rfl,rfl,m0,pm,_,rfl,DPut.k (k:=Sum.inl (ns[i0.toNat] % m)) em5 (au (by decide)),ins [] (ns[i0.toNat] % m),_,_,_,_,rfl,But.put,?_⟩;exact Kw.put (xs:=[]) ⟨em5,by simp,fun x hx=>by simp at hx⟩ (modb _).1 (modb _).2
        · exact ⟨[],_,_,_,_,rfl,But.refl,em5,by simp,fun x hx=>by simp at hx⟩
      rintro σ H6 ⟨xs6,c7',c8',c9',ca',rfl,b6,kn6⟩;have TT:∀ {H':Hp},But pm H5 H'→∀ {b:Addr} {o:HO},H4' b=some o→H' b=some o:=fun {H'} bb b o e=>bb _ _ (ah e npm) (s5 _ _ e);have look:∀ {H':Hp} {q':Int × Int} {k:Addr},But pm H5 H'→q'∈aJ j++(bi j).take a→H' k=some (.tup [.int q'.1,.int q'.2])→∃ t,DGet H' d (.ref k) (some (.ref t))∧(∀ H'',But pm H5 H''→H'' t=some (.lst ((L q').map V.int))):=fun {H' q' k} b hm hk=>by
        obtain ⟨t,v1,_,v2⟩:=hb5.get (prefixT a) hm;refine ⟨t,?_,fun H'' b'=>TT b' v2⟩;rw [← v1];exact DGet.t (k:=ky q') (TT b e5) hk
      refine ⟨_,rfl,_,rfl,i0,(j:Int),rfl,⟨by lia,by lia,by lia,by lia⟩,?_⟩;refine br (n:=((j:Int) - i0).toNat) (fun c σ H'=>∃ (xs:List Int) (c7 c8 c9 ca:Option V),σ=[some (.ref r),some (.str (aB gs)),some (.int m),some (.ref d),some (.int (j:Int)),some (.int i0),some (.ref pm),c7,c8,c9,ca]∧But pm H5 H'∧Kw m H' pm xs) ⟨xs6,_,_,_,_,rfl,b6,kn6⟩ ?_ ?_
      · rintro c σ H7 hc ⟨xs7,f7,f8,f9,fa,rfl,b7,kn7⟩;obtain ⟨cv,hcv⟩:∃ cv:Int,i0+(c:Int)=cv:=⟨_,rfl⟩
        rw [hcv];have cv1:i0≤cv:=by lia
        have cv2:cv < (j:Int):=by lia
        have ma:((i0,cv):Int × Int)∈aJ j++(bi j).take a:=ab3 _ (iK i0a cv1 cv2);have mb:(cv+1,(j:Int))∈aJ j++(bi j).take a:=by
          refine aax _ ?_;unfold bi;rw [← List.map_take,List.take_range,acN (by lia)];refine aar.mpr ⟨((j:Int) - (cv+1)).toNat,aaK.mpr (by lia),?_⟩;congr 1;lia
        obtain ⟨A1,hA1⟩:∃ A1,L (i0,cv)=A1:=⟨_,rfl⟩
        obtain ⟨A2,hA2⟩:∃ A2,L (cv+1,(j:Int))=A2:=⟨_,rfl⟩
        have bd1:=(hq5 _ ma).2;have bd2:=(hq5 _ mb).2;rw [hA1] at bd1;rw [hA2] at bd2;refine ⟨_,rfl,_,rfl,_,rfl,t2,fun k1 nk1=>?_⟩;have sk1:=Same.new nk1 (.tup [.int i0,.int cv]);have em8:=sk1 _ _ kn7.1;have ek1:upd H7 k1 (.tup [.int i0,.int cv]) k1=_:=ad;have b8:=b7.trans (But.of sk1);generalize upd H7 k1 (.tup [.int i0,.int cv])=H8 at b8 em8 ek1 ⊢;obtain ⟨t1,dg1,ev1⟩:=look (q':=(i0,cv)) b8 ma ek1;rw [hA1] at ev1;refine ⟨d,_,rfl,dg1,t1,rfl,⟨_,SqL.of (ev1 _ b8)⟩,?_⟩;refine bZ (Trn.list (xs:=A1.map V.int)) (fun o σ H'=>∃ (xs:List Int) (c8 c9 ca:Option V),σ=[some (.ref r),some (.str (aB gs)),some (.int m),some (.ref d),some (.int (j:Int)),some (.int i0),some (.ref pm),some (.int cv),c8,c9,ca]∧But pm H5 H'∧Kw m H' pm xs) ⟨xs7,_,_,_,rfl,b8,em8,kn7.2⟩ (fun o σ H' ho z=>?_) (fun o x σ H9 H9' ho it z=>?_) (fun σ H' z=>?_)
        · obtain ⟨xs,_,_,_,rfl,b9,_⟩:=z;exact SqL.of (ev1 _ b9)
        · obtain ⟨xs9,g8,g9,ga,rfl,b9,kn9⟩:=z;obtain ⟨rfl,hx⟩:=it;rw [aak] at hx;obtain ⟨a1,ha1,rfl⟩:=aaz.mp hx;have ma1:a1∈A1:=aap ha1;refine ⟨_,rfl,pm,_,rfl,kn9.1,_,rfl,_,_,rfl,rfl,_,rfl,cN (fun zz=>?_) (fun zz=>?_)⟩
          · refine ⟨_,rfl,_,rfl,_,_,rfl,rfl,_,rfl,t2,fun k2 nk2=>?_⟩;have sk2:=Same.new nk2 (.tup [.int (cv+1),.int (j:Int)]);have em10:=sk2 _ _ kn9.1;have ek2:upd H9' k2 (.tup [.int (cv+1),.int (j:Int)]) k2=_:=ad;have b10:=b9.trans (But.of sk2);generalize upd H9' k2 (.tup [.int (cv+1),.int (j:Int)])=H10 at b10 em10 ek2 ⊢;obtain ⟨t2',dg2,ev2⟩:=look (q':=(cv+1,(j:Int))) b10 mb ek2;rw [hA2] at ev2;refine ⟨d,_,rfl,dg2,t2',rfl,⟨_,SqL.of (ev2 _ b10)⟩,?_⟩;refine bZ (Trn.list (xs:=A2.map V.int)) (fun u σ H'=>∃ (xs:List Int) (c9 ca:Option V),σ=[some (.ref r),some (.str (aB gs)),some (.int m),some (.ref d),some (.int (j:Int)),some (.int i0),some (.ref pm),some (.int cv),some (.int a1),c9,ca]∧But pm H5 H'∧Kw m H' pm xs) ⟨xs9,_,_,rfl,b10,em10,kn9.2⟩ (fun u σ H' hu z=>?_) (fun u x σ H11 H11' hu it z=>?_) (fun σ H' z=>?_)
            · obtain ⟨xs,_,_,rfl,b11,_⟩:=z;exact SqL.of (ev2 _ b11)
            · obtain ⟨xs11,h9',ha'',rfl,b11,kn11⟩:=z;obtain ⟨rfl,hy⟩:=it;rw [aak] at hy;obtain ⟨b1,hb1,rfl⟩:=aaz.mp hy;have mb1:b1∈A2:=aap hb1;refine ⟨_,rfl,_,rfl,dE gs,?_⟩;refine bZ (Trn.str (z:=aB gs)) (fun v σ H'=>∃ (xs:List Int) (ca:Option V),σ=[some (.ref r),some (.str (aB gs)),some (.int m),some (.ref d),some (.int (j:Int)),some (.int i0),some (.ref pm),some (.int cv),some (.int a1),some (.int b1),ca]∧But pm H5 H'∧Kw m H' pm xs) ⟨xs11,_,rfl,b11,kn11⟩ (fun v σ H' hv z=>trivial) (fun v x σ H12 H12' hv it z=>?_) (fun σ H' z=>?_)
              · obtain ⟨xs12,ia,rfl,b12,kn12⟩:=z;obtain ⟨rfl,cc,hcc,rfl⟩:=it;obtain ⟨g,hg,rfl⟩:=ow hcc;have l12:=kn12.len m60;exact ⟨_,rfl,_,rfl,_,rfl,_,rfl,_,rfl,g,a1,b1,m,(by rw [b_];rfl),small _ (bd1 _ ma1),small _ (bd2 _ mb1),m2,m60,pm,_,rfl,DPut.k (k:=Sum.inl (g.op a1 b1 % m)) kn12.1 (au (by rw [cK];lia)),ins xs12 (g.op a1 b1 % m),_,rfl,b12.trans But.put,kn12.put (modb _).1 (modb _).2⟩
              · obtain ⟨xs12,ia,rfl,b12,kn12⟩:=z;exact ⟨xs12,_,_,rfl,b12,kn12⟩
            · obtain ⟨xs11,h9',ha'',rfl,b11,kn11⟩:=z;exact ⟨xs11,_,_,_,rfl,b11,kn11⟩
          · exact ⟨xs9,_,_,_,rfl,b9,kn9⟩
        · obtain ⟨xs9,g8,g9,ga,rfl,b9,kn9⟩:=z;exact ⟨xs9,_,_,_,_,rfl,b9,kn9⟩
      · rintro σ H7 ⟨xs7,f7,f8,f9,fa,rfl,b7,kn7⟩;have k64:(tr xs7).length < 64:=by have:=kn7.len m60;rw [cK];lia
        refine ⟨_,rfl,pm,_,xs7,rfl,kn7.1,h7 xs7,k64,fun D ms nDD perm srt=>?_⟩;have lms:ms.length≤60:=by have:=kn7.len m60;have:=perm.length_eq;lia
        have bms:∀ x∈ms,0≤x∧x < m:=fun x hx=>kn7.2.2 x (perm.mem_iff.mp hx);have sD:=Same.new nDD (.lst (ms.map V.int));have eD:upd H7 D (.lst (ms.map V.int)) D=_:=ad;generalize upd H7 D (.lst (ms.map V.int))=H8 at sD eD ⊢;refine ⟨_,rfl,_,rfl,_,rfl,t2,fun tk ntk=>?_⟩;have stk:=Same.new ntk (.tup [.int i0,.int (j:Int)]);have etk:upd H8 tk (.tup [.int i0,.int (j:Int)]) tk=some (.tup ((ky q0).map kV)):=by rw [ad,eq0];rfl
        have eD9:=stk _ _ eD;generalize upd H8 tk (.tup [.int i0,.int (j:Int)])=H9 at stk etk eD9 ⊢;have up9:∀ {b:Addr} {o:HO},H4' b=some o→H9 b=some o:=fun {b o} e=>stk _ _ (sD _ _ (TT b7 e));have ed9:H9 d=some (.dT kvs):=up9 e5;have nD4:H4' D=none:=by
          cases g:H4' D with
          | none=>rfl
          | some o =>
            have:=TT b7 g;rw [nDD] at this;cases this
        have ndD:d≠D:=ah e5 nD4;have nDH:H D=none:=S4.free nD4;have lk:=aav hb5;have pl:(aJ j++(bi j).take a).length≤100:=by
          have z1:=eV j (by lia);have z2:((bi j).take a).length≤10:=by rw [aaL];simp [bi];lia
          rw [aaw];lia
        have eN:ky q0∉kvs.map (·.1):=fun z=>by
          rw [hb5.keys] at z;obtain ⟨q',hq',e⟩:=aar.mp z;rw [kL e] at hq';exact nq hq'
        refine ⟨d,_,rfl,DPut.t (k:=ky q0) ed9 etk (au (by lia)),?_⟩;rw [iF eN];have etk':aJ j++(bi j).take (a+1)=aJ j++(bi j).take a++[q0]:=by rw [aaE,hR,← abb];rfl
        rw [etk'];have upd_d:∀ b o,b≠d→H9 b=some o→upd H9 d (.dT (kvs++[(ky q0,.ref D)])) b=some o:=fun b o hb e=>by rw [aj hb];exact e
        exact ⟨_,m5 L q0 ms,_,_,_,_,_,_,rfl,fun b o e=>upd_d _ _ (ah e nD) (up9 (S4 _ _ e)),ad,LlF.put (hb5.keep fun t xs h0 e=>upd_d _ _ (fun z=>by rw [z,e5] at e;cases e) (up9 e)) nq nDH (upd_d _ _ (abm ndD) eD9),hq5.put lms bms⟩
    · rintro σ H4 ⟨kvs,L,d5,d6,d7,d8,d9,da,rfl,S4,e5,hb5,hq5⟩;rw [e4,aa3 (by simp [bi]),← gx] at hb5 hq5;exact ⟨kvs,L,_,_,_,_,_,_,_,rfl,S4,e5,hb5,hq5⟩
  · rintro σ H3 ⟨kvs3,L3,c4,c5,c6,c7,c8,c9,ca,rfl,S3,e3,hb3,hq3⟩;rw [aba] at hb3 hq3;exact ⟨_,rfl,q d kvs3 L3 H3 S3 nD e3 hb3 hq3⟩
def iw:Sp:=fun vs H Q _=>∃ (wl r:Addr) (ns:List Int) (gs:List Sg) (m:Int),vs=[.ref wl,.ref r,.str (aB gs),.int m]∧Pot H wl∧r≠wl∧H r=some (.lst (ns.map V.int))∧1≤ns.length∧ns.length≤9∧gs.length≤3∧2≤m∧m≤60 ∧
  ∀ d kvs L H',But wl H H'→Pot H' wl→H d=none→H' d=some (.dT kvs)→LlF H L H' (aJ ns.length) kvs→RsQ m L (aJ ns.length)→Q (.ref d) H'
abbrev dL:Stmt:=top 42
theorem a7:FnScope ["pot","row","signs","m","found","j","i","known","k","one","other","sign"] ["pot","row","signs","m"] (ao dL):=⟨rfl,rfl,rfl,by decide +kernel,rfl,by decide +kernel,by decide +kernel⟩
theorem jr (F:Fun K "_law_loose" "_law_loose" dL f fd) (B:Bu K mg) (C__law_take:Cal P w K mg base "_law_take" 2 ["pot","many"] dC) (C__law_by:Cal P w K mg base "_law_by" 2 ["sign","one","other","m"] ln):FnOk P w K mg base CX0 3 f fd ["pot","row","signs","m"] iw:=by
  refine F.ok a7 (fun vs H Q E h=>?_) (fun cdv A outer s H vs Q E hr h=>?_)
  · obtain ⟨wl,r,ns,gs,m,rfl,_⟩:=h;rfl
  obtain ⟨wl,r,ns,gs,m,rfl,hP,nrw,er,h1,h9,g3,m2,m60,q⟩:=h;refine ⟨_,(@ag _ _ _ _ _ (@aG _ _ (4) _ _ _ _ (a7).nd rfl (Or.inl rfl) lU (by rfl) (by first|exact .inl rfl|exact .inr rfl|assumption)) (@ag _ _ _ _ _ (@a_ _ _ _ _ _ _ _ _ aaJ rfl (@bE _ _ _ _ _ _ rfl B.irange (@aa _ _ _ _ _ (@ai _ _ _ _ _ _ _ _ _ aF rfl B.ilen aaN (@aa _ _ _ _ _ (pv 1) ac (by rfl)) (by decide) (by decide) (by rfl) (by rfl)) ac (by rfl)) (by rfl)) (@ak _ _ (5) _ (a7).nd rfl (Or.inl rfl) (.inl rfl)) (@af _ _ _ (@a_ _ _ _ _ _ _ _ _ aaJ rfl (@jE _ _ _ _ _ _ _ _ rfl B.irange (@aa _ _ _ _ _ (pv 5) (@aa _ _ _ _ _ (@fV _ _ _ _ _ _ dB ae) (@aa _ _ _ _ _ (@fV _ _ _ _ _ _ dB ae) ac (by rfl)) (by rfl)) (by rfl)) (by rfl) (by rfl)) (@ak _ _ (6) _ (a7).nd rfl (Or.inl rfl) (.inl rfl)) (@ag _ _ _ _ _ (@aG _ _ (7) _ _ _ _ (a7).nd rfl (Or.inl rfl) fW (by rfl) (by first|exact .inl rfl|exact .inr rfl|assumption)) (@dQ _ _ _ _ _ (@aI _ _ _ _ _ _ _ _ (@aE _ _ _ _ _ _ _ _ bD (pv 6) (pv 5) (aC _)) (@af _ _ _ (@dR _ _ _ _ _ _ _ _ _ (u1 hr.units) (pv 7) (@az _ _ _ _ _ _ _ _ bA (@bu _ _ _ _ _ _ _ ix_list (pv 1) (pv 6) (fun _ _=>rfl)) (pv 3)) bo rfl)) aA) (@ag _ _ _ _ _ (@a_ _ _ _ _ _ _ _ _ aaJ rfl (@du _ _ _ _ _ _ _ rfl B.irange (@aa _ _ _ _ _ (pv 6) (@aa _ _ _ _ _ (pv 5) ac (by rfl)) (by rfl)) (by rfl) (by rfl)) (@ak _ _ (8) _ (a7).nd rfl (Or.inl rfl) (.inl rfl)) (@af _ _ _ (@a_ _ _ _ _ _ _ _ _ aaJ rfl (@ba _ _ _ _ (@fc _ _ _ _ _ _ (u1 hr.units) (pv 4) (@aH _ _ _ _ _ (@aa _ _ _ _ _ (pv 6) (@aa _ _ _ _ _ (pv 8) ac (by rfl)) (by rfl))) (fun _ _=>rfl))) (@ak _ _ (9) _ (a7).nd rfl (Or.inl rfl) (.inl rfl)) (@af _ _ _ (@aI _ _ _ _ _ _ _ _ (@aE _ _ _ _ _ _ _ _ gU (@ai _ _ _ _ _ _ _ _ _ gK rfl B.ilen aaN (@aa _ _ _ _ _ (pv 7) ac (by rfl)) (by decide) (by decide) (by rfl) (by rfl)) (pv 3) (aC _)) (@af _ _ _ (@a_ _ _ _ _ _ _ _ _ aaJ rfl (@ba _ _ _ _ (@fc _ _ _ _ _ _ (u1 hr.units) (pv 4) (@aH _ _ _ _ _ (@aa _ _ _ _ _ (@az _ _ _ _ _ _ _ _ bh (pv 8) ae) (@aa _ _ _ _ _ (pv 5) ac (by rfl)) (by rfl))) (fun _ _=>rfl))) (@ak _ _ (10) _ (a7).nd rfl (Or.inl rfl) (.inl rfl)) (@af _ _ _ (@a_ _ _ _ _ _ _ _ _ aaJ rfl (@ko _ _ _ _ (pv 2)) (@ak _ _ (11) _ (a7).nd rfl (Or.inl rfl) (.inl rfl)) (@af _ _ _ (@dR _ _ _ _ _ _ _ _ _ (u1 hr.units) (pv 7) (@aq _ _ _ _ _ _ _ _ _ _ _ C__law_by hr (by lia) rfl (@aa _ _ _ _ _ (pv 11) (@aa _ _ _ _ _ (pv 9) (@aa _ _ _ _ _ (pv 10) (@aa _ _ _ _ _ (pv 3) ac (by rfl)) (by rfl)) (by rfl)) (by rfl)) (by decide) (by rfl) (by rfl)) bo rfl)) (by intro _;rfl))) (by intro _;rfl))) aA)) (by intro _;rfl))) (by intro _;rfl)) (@dQ _ _ _ _ _ (@aI _ _ _ _ _ _ _ _ (@aE _ _ _ _ _ _ _ _ bD (@aq _ _ _ _ _ _ _ _ _ _ _ C__law_take hr (by lia) rfl (@aa _ _ _ _ _ (pv 0) (@aa _ _ _ _ _ ae ac (by rfl)) (by rfl)) (by decide) (by rfl) (by rfl)) ae (aC _)) (@af _ _ _ (@dR _ _ _ _ _ _ _ _ _ (u1 hr.units) (pv 7) (@aq _ _ _ _ _ _ _ _ _ _ _ C__law_take hr (by lia) rfl (@aa _ _ _ _ _ (pv 0) (@aa _ _ _ _ _ (pv 3) ac (by rfl)) (by rfl)) (by decide) (by rfl) (by rfl)) bo rfl)) aA) (@af _ _ _ (@dR _ _ _ _ _ _ _ _ _ (u1 hr.units) (pv 4) (@aH _ _ _ _ _ (@aa _ _ _ _ _ (pv 6) (@aa _ _ _ _ _ (pv 5) ac (by rfl)) (by rfl))) (@ai _ _ _ _ _ _ _ _ _ (@dq _ rfl rfl) rfl B.isorted abI (@aa _ _ _ _ _ (pv 7) ac (by rfl)) (by decide) (by decide) (by rfl) (by rfl)) rfl)))))) (by intro _;rfl))) (by intro _;rfl)) (@af _ _ _ (@ap _ _ _ _ (pv 4))))),?_⟩;have m0:0 < m:=by lia
  have hl:(ns.map V.int).length=ns.length:=aaa _;have t2:(2:Nat)≤sizeLine:=by decide
  have nd:=dc ns.length h9;intro d nD;have S2:=Same.new nD (.dT []);have e2:upd H d (.dT []) d=some (.dT []):=ad;generalize upd H d (.dT [])=H2 at S2 e2 ⊢;have small:∀ x:Int,0≤x∧x < m→x.natAbs < 2 ^ 4000:=fun x hx=>aas (show x.natAbs < 2 ^ 7 by lia) (ab4 (by decide) (by decide));have modb:∀ x:Int,0≤x % m∧x % m < m:=fun x=>⟨aco _ (by lia),abV _ m0⟩
  refine ⟨_,rfl,r,_,rfl,.inl (SqL.of (S2 _ _ er)),_,rfl,by lia,by lia,?_⟩;rw [hl];refine br (n:=((ns.length:Nat):Int).toNat) (fun j σ H'=>∃ (kvs:List (List Key × V)) (L:Int × Int→List Int) (c4 c5 c6 c7 c8 c9 ca:Option V),σ=[some (.ref wl),some (.ref r),some (.str (aB gs)),some (.int m),some (.ref d),c4,c5,c6,c7,c8,c9,ca]∧But wl H H'∧Pot H' wl∧H' d=some (.dT kvs)∧LlF H L H' (aJ j) kvs∧RsQ m L (aJ j)) ⟨[],fun _=>[],_,_,_,_,_,_,_,rfl,But.of S2,hP.keep S2,e2,.nil,fun q hq=>nomatch hq⟩ ?_ ?_
  · rintro j σ H3 hj ⟨kvs3,L3,c4,c5,c6,c7,c8,c9,ca,rfl,S3,P3,e3,hb3,hq3⟩;have ej:(0:Int)+(j:Int)=(j:Int):=by lia
    rw [ej];have hjn:j < ns.length:=by lia
    refine ⟨_,rfl,1,rfl,1,rfl,(j:Int),-1,rfl,⟨by lia,by lia,by decide,by decide⟩,?_⟩;have e4:((j:Int) - (-1)).toNat=j+1:=by lia
    refine bZ (Trn.down (hi:=(j:Int)) (n:=((j:Int) - (-1)).toNat)) (fun a σ H'=>∃ (kvs:List (List Key × V)) (L:Int × Int→List Int) (c5 c6 c7 c8 c9 ca:Option V),σ=[some (.ref wl),some (.ref r),some (.str (aB gs)),some (.int m),some (.ref d),some (.int (j:Int)),c5,c6,c7,c8,c9,ca]∧But wl H H'∧Pot H' wl∧H' d=some (.dT kvs)∧LlF H L H' (aJ j++(bi j).take a) kvs∧RsQ m L (aJ j++(bi j).take a)) ⟨kvs3,L3,_,_,_,_,_,_,rfl,S3,P3,e3,by simpa using hb3,by simpa using hq3⟩ (fun _ _ _ _ _=>trivial) ?_ ?_
    · rintro a x σ H4 H4' ha ⟨rfl,rfl⟩ ⟨kvs,L,d5,d6,d7,d8,d9,da,rfl,S4,P4,e5,hb5,hq5⟩;have ha':a < j+1:=by lia
      obtain ⟨q0,eq0⟩:∃ q0:Int × Int,q0=((j:Int) - (a:Int),(j:Int)):=⟨_,rfl⟩
      have q1:q0.1=(j:Int) - (a:Int):=by rw [eq0]
      have q2:q0.2=(j:Int):=by rw [eq0]
      obtain ⟨i0,hi0⟩:∃ i0:Int,(j:Int) - (a:Int)=i0:=⟨_,rfl⟩
      rw [hi0] at q1 eq0 ⊢;have i0a:0≤i0:=by lia
      have i0j:i0≤(j:Int):=by lia
      have hix:i0.toNat < ns.length:=by lia
      have hnx:ns[i0.toNat]?=some ns[i0.toNat]:=aac hix;have eat:atI (ns.map V.int) i0=some (.int ns[i0.toNat]):=by
        have h:atI (ns.map V.int) ((i0.toNat:Nat):Int)=some (.int ns[i0.toNat]):=cV (by rw [aak,hnx];rfl)
        rwa [show ((i0.toNat:Nat):Int)=i0 by lia] at h
      have er4:=S4 _ _ nrw er;have hR:(bi j)[a]?=some q0:=by
        unfold bi;rw [aak,abp ha',eq0,← hi0];rfl
      have prefixT:∀ b,(aJ j++(bi j).take b).Nodup:=fun b=>by
        have hjr:(aaO ns.length)[j]?=some j:=abp hjn;have hp:=lO (f:=bi) hjr (List.take_prefix b (bi j));have e:((aaO ns.length).take j).flatMap bi=aJ j:=by
          unfold aJ;rw [List.take_range,acN (by lia)]
        rw [e] at hp;exact acm hp.sublist nd
      have nq:q0∉aJ j++(bi j).take a:=fun z=>by
        have:=prefixT (a+1);rw [aaE,hR,← abb] at this;exact (List.nodup_append.mp this).2.2 _ z q0 (by simp) rfl
      intro pm npm;have s5:=Same.new npm (.dK []);have em5:upd H4' pm (.dK []) pm=some (.dK (tr [])):=ad;generalize upd H4' pm (.dK [])=H5 at s5 em5 ⊢;have ndm:d≠pm:=ah e5 npm;refine ⟨fun σ H'=>∃ (xs:List Int) (c7 c8 c9 ca:Option V),σ=[some (.ref wl),some (.ref r),some (.str (aB gs)),some (.int m),some (.ref d),some (.int (j:Int)),some (.int i0),some (.ref pm),c7,c8,c9,ca]∧But pm H5 H'∧Kw m H' pm xs,?_,?_⟩
      · refine ⟨_,rfl,_,rfl,rfl,_,rfl,cN (fun zz=>?_) (fun zz=>?_)⟩
        · refine ⟨_,rfl,_,rfl,_,rfl,r,_,_,_,rfl,rfl,SqL.of (s5 _ _ er4),eat,_,rfl,_,_,rfl,rfl,m0,pm,_,rfl,DPut.k (k:=Sum.inl (ns[i0.toNat] % m)) em5 (au (by decide)),ins [] (ns[i0.toNat] % m),_,_,_,_,rfl,But.put,?_⟩;exact Kw.put (xs:=[]) ⟨em5,by simp,fun x hx=>by simp at hx⟩ (modb _).1 (modb _).2
        · exact ⟨[],_,_,_,_,rfl,But.refl,em5,by simp,fun x hx=>by simp at hx⟩
      rintro σ H6 ⟨xs6,c7',c8',c9',ca',rfl,b6,kn6⟩;have TT:∀ {H':Hp},But pm H5 H'→∀ {b:Addr} {o:HO},H4' b=some o→H' b=some o:=fun {H'} bb b o e=>bb _ _ (ah e npm) (s5 _ _ e);have look:∀ {H':Hp} {q':Int × Int} {k:Addr},But pm H5 H'→q'∈aJ j++(bi j).take a→H' k=some (.tup [.int q'.1,.int q'.2])→∃ t,DGet H' d (.ref k) (some (.ref t))∧(∀ H'',But pm H5 H''→H'' t=some (.lst ((L q').map V.int))):=fun {H' q' k} b hm hk=>by
        obtain ⟨t,v1,_,v2⟩:=hb5.get (prefixT a) hm;refine ⟨t,?_,fun H'' b'=>TT b' v2⟩;rw [← v1];exact DGet.t (k:=ky q') (TT b e5) hk
      refine ⟨_,rfl,_,rfl,i0,(j:Int),rfl,⟨by lia,by lia,by lia,by lia⟩,?_⟩;refine br (n:=((j:Int) - i0).toNat) (fun c σ H'=>∃ (xs:List Int) (c7 c8 c9 ca:Option V),σ=[some (.ref wl),some (.ref r),some (.str (aB gs)),some (.int m),some (.ref d),some (.int (j:Int)),some (.int i0),some (.ref pm),c7,c8,c9,ca]∧But pm H5 H'∧Kw m H' pm xs) ⟨xs6,_,_,_,_,rfl,b6,kn6⟩ ?_ ?_
      · rintro c σ H7 hc ⟨xs7,f7,f8,f9,fa,rfl,b7,kn7⟩;obtain ⟨cv,hcv⟩:∃ cv:Int,i0+(c:Int)=cv:=⟨_,rfl⟩
        rw [hcv];have cv1:i0≤cv:=by lia
        have cv2:cv < (j:Int):=by lia
        have ma:((i0,cv):Int × Int)∈aJ j++(bi j).take a:=ab3 _ (iK i0a cv1 cv2);have mb:(cv+1,(j:Int))∈aJ j++(bi j).take a:=by
          refine aax _ ?_;unfold bi;rw [← List.map_take,List.take_range,acN (by lia)];refine aar.mpr ⟨((j:Int) - (cv+1)).toNat,aaK.mpr (by lia),?_⟩;congr 1;lia
        obtain ⟨A1,hA1⟩:∃ A1,L (i0,cv)=A1:=⟨_,rfl⟩
        obtain ⟨A2,hA2⟩:∃ A2,L (cv+1,(j:Int))=A2:=⟨_,rfl⟩
        have bd1:=(hq5 _ ma).2;have bd2:=(hq5 _ mb).2;rw [hA1] at bd1;rw [hA2] at bd2;refine ⟨_,rfl,_,rfl,_,rfl,t2,fun k1 nk1=>?_⟩;have sk1:=Same.new nk1 (.tup [.int i0,.int cv]);have em8:=sk1 _ _ kn7.1;have ek1:upd H7 k1 (.tup [.int i0,.int cv]) k1=_:=ad;have b8:=b7.trans (But.of sk1);generalize upd H7 k1 (.tup [.int i0,.int cv])=H8 at b8 em8 ek1 ⊢;obtain ⟨t1,dg1,ev1⟩:=look (q':=(i0,cv)) b8 ma ek1;rw [hA1] at ev1;refine ⟨d,_,rfl,dg1,t1,rfl,⟨_,SqL.of (ev1 _ b8)⟩,?_⟩;refine bZ (Trn.list (xs:=A1.map V.int)) (fun o σ H'=>∃ (xs:List Int) (c8 c9 ca:Option V),σ=[some (.ref wl),some (.ref r),some (.str (aB gs)),some (.int m),some (.ref d),some (.int (j:Int)),some (.int i0),some (.ref pm),some (.int cv),c8,c9,ca]∧But pm H5 H'∧Kw m H' pm xs) ⟨xs7,_,_,_,rfl,b8,em8,kn7.2⟩ (fun o σ H' ho z=>?_) (fun o x σ H9 H9' ho it z=>?_) (fun σ H' z=>?_)
        · obtain ⟨xs,_,_,_,rfl,b9,_⟩:=z;exact SqL.of (ev1 _ b9)
        · obtain ⟨xs9,g8,g9,ga,rfl,b9,kn9⟩:=z;obtain ⟨rfl,hx⟩:=it;rw [aak] at hx;obtain ⟨a1,ha1,rfl⟩:=aaz.mp hx;have ma1:a1∈A1:=aap ha1;refine ⟨_,rfl,pm,_,rfl,kn9.1,_,rfl,_,_,rfl,rfl,_,rfl,cN (fun zz=>?_) (fun zz=>?_)⟩
          · refine ⟨_,rfl,_,rfl,_,_,rfl,rfl,_,rfl,t2,fun k2 nk2=>?_⟩;have sk2:=Same.new nk2 (.tup [.int (cv+1),.int (j:Int)]);have em10:=sk2 _ _ kn9.1;have ek2:upd H9' k2 (.tup [.int (cv+1),.int (j:Int)]) k2=_:=ad;have b10:=b9.trans (But.of sk2);generalize upd H9' k2 (.tup [.int (cv+1),.int (j:Int)])=H10 at b10 em10 ek2 ⊢;obtain ⟨t2',dg2,ev2⟩:=look (q':=(cv+1,(j:Int))) b10 mb ek2;rw [hA2] at ev2;refine ⟨d,_,rfl,dg2,t2',rfl,⟨_,SqL.of (ev2 _ b10)⟩,?_⟩;refine bZ (Trn.list (xs:=A2.map V.int)) (fun u σ H'=>∃ (xs:List Int) (c9 ca:Option V),σ=[some (.ref wl),some (.ref r),some (.str (aB gs)),some (.int m),some (.ref d),some (.int (j:Int)),some (.int i0),some (.ref pm),some (.int cv),some (.int a1),c9,ca]∧But pm H5 H'∧Kw m H' pm xs) ⟨xs9,_,_,rfl,b10,em10,kn9.2⟩ (fun u σ H' hu z=>?_) (fun u x σ H11 H11' hu it z=>?_) (fun σ H' z=>?_)
            · obtain ⟨xs,_,_,rfl,b11,_⟩:=z;exact SqL.of (ev2 _ b11)
            · obtain ⟨xs11,h9',ha'',rfl,b11,kn11⟩:=z;obtain ⟨rfl,hy⟩:=it;rw [aak] at hy;obtain ⟨b1,hb1,rfl⟩:=aaz.mp hy;have mb1:b1∈A2:=aap hb1;refine ⟨_,rfl,_,rfl,dE gs,?_⟩;refine bZ (Trn.str (z:=aB gs)) (fun v σ H'=>∃ (xs:List Int) (ca:Option V),σ=[some (.ref wl),some (.ref r),some (.str (aB gs)),some (.int m),some (.ref d),some (.int (j:Int)),some (.int i0),some (.ref pm),some (.int cv),some (.int a1),some (.int b1),ca]∧But pm H5 H'∧Kw m H' pm xs) ⟨xs11,_,rfl,b11,kn11⟩ (fun v σ H' hv z=>trivial) (fun v x σ H12 H12' hv it z=>?_) (fun σ H' z=>?_)
              · obtain ⟨xs12,ia,rfl,b12,kn12⟩:=z;obtain ⟨rfl,cc,hcc,rfl⟩:=it;obtain ⟨g,hg,rfl⟩:=ow hcc;have l12:=kn12.len m60;exact ⟨_,rfl,_,rfl,_,rfl,_,rfl,_,rfl,g,a1,b1,m,(by rw [b_];rfl),small _ (bd1 _ ma1),small _ (bd2 _ mb1),m2,m60,pm,_,rfl,DPut.k (k:=Sum.inl (g.op a1 b1 % m)) kn12.1 (au (by rw [cK];lia)),ins xs12 (g.op a1 b1 % m),_,rfl,b12.trans But.put,kn12.put (modb _).1 (modb _).2⟩
              · obtain ⟨xs12,ia,rfl,b12,kn12⟩:=z;exact ⟨xs12,_,_,rfl,b12,kn12⟩
            · obtain ⟨xs11,h9',ha'',rfl,b11,kn11⟩:=z;exact ⟨xs11,_,_,_,rfl,b11,kn11⟩
          · exact ⟨xs9,_,_,_,rfl,b9,kn9⟩
        · obtain ⟨xs9,g8,g9,ga,rfl,b9,kn9⟩:=z;exact ⟨xs9,_,_,_,_,rfl,b9,kn9⟩
      · rintro σ H7 ⟨xs7,f7,f8,f9,fa,rfl,b7,kn7⟩;have ndw:d≠wl:=fun z=>by obtain ⟨a1,c1,k1,e⟩:=P4;rw [← z,e5] at e;cases e
        have npw:pm≠wl:=P4.ne npm;have P7:Pot H7 wl:=by obtain ⟨a1,c1,k1,e⟩:=P4;exact ⟨a1,c1,k1,TT b7 e⟩
        refine ⟨fun σ H'=>∃ (xs:List Int) (c7 c8 c9 ca:Option V),σ=[some (.ref wl),some (.ref r),some (.str (aB gs)),some (.int m),some (.ref d),some (.int (j:Int)),some (.int i0),some (.ref pm),c7,c8,c9,ca]∧(∀ b o,b≠wl→b≠pm→H7 b=some o→H' b=some o)∧Pot H' wl∧Kw m H' pm xs,?_,?_⟩
        · refine ⟨_,rfl,wl,6,rfl,by decide,by decide,P7,fun r1 Ha a0 a6 Ba Pa=>⟨rfl,_,rfl,cN (fun zz=>?_) (fun zz=>?_)⟩⟩
          · have kna:Kw m Ha pm xs7:=⟨Ba _ _ npw kn7.1,kn7.2⟩
            refine ⟨_,rfl,_,rfl,_,rfl,wl,m,rfl,m0,by lia,Pa,fun r2 Hb b0 bm Bb Pb=>?_⟩;have knb:Kw m Hb pm xs7:=⟨Bb _ _ npw kna.1,kn7.2⟩
            have l12:=kn7.len m60;refine ⟨pm,_,rfl,DPut.k (k:=Sum.inl r2) knb.1 (au (by rw [cK];lia)),ins xs7 r2,_,_,_,_,rfl,fun b o n1 n2 e=>?_,?_,knb.put b0 bm⟩
            · rw [aj n2];exact Bb _ _ n1 (Ba _ _ n1 e)
            · obtain ⟨a1,c1,k1,e⟩:=Pb;exact ⟨a1,c1,k1,by rw [aj (abm npw)];exact e⟩
          · exact ⟨xs7,_,_,_,_,rfl,fun b o n1 _ e=>Ba _ _ n1 e,Pa,Ba _ _ npw kn7.1,kn7.2⟩
        rintro σ HZ ⟨XS,i7,i8,i9,ia,rfl,BZ,PZ,KN⟩;have k64:(tr XS).length < 64:=by have:=KN.len m60;rw [cK];lia
        refine ⟨_,rfl,pm,_,XS,rfl,KN.1,h7 XS,k64,fun D ms nDD perm srt=>?_⟩;have lms:ms.length≤60:=by have:=KN.len m60;have:=perm.length_eq;lia
        have bms:∀ x∈ms,0≤x∧x < m:=fun x hx=>KN.2.2 x (perm.mem_iff.mp hx);have sD:=Same.new nDD (.lst (ms.map V.int));have eD:upd HZ D (.lst (ms.map V.int)) D=_:=ad;generalize upd HZ D (.lst (ms.map V.int))=H8 at sD eD ⊢;refine ⟨_,rfl,_,rfl,_,rfl,t2,fun tk ntk=>?_⟩;have stk:=Same.new ntk (.tup [.int i0,.int (j:Int)]);have etk:upd H8 tk (.tup [.int i0,.int (j:Int)]) tk=some (.tup ((ky q0).map kV)):=by rw [ad,eq0];rfl
        have eD9:=stk _ _ eD;generalize upd H8 tk (.tup [.int i0,.int (j:Int)])=H9 at stk etk eD9 ⊢;have up9:∀ {b:Addr} {o:HO},b≠wl→H4' b=some o→H9 b=some o:=fun {b o} n1 e=>stk _ _ (sD _ _ (BZ _ _ n1 (ah e npm) (TT b7 e)));have ed9:H9 d=some (.dT kvs):=up9 ndw e5;have nD4:H4' D=none:=by
          cases g:H4' D with
          | none=>rfl
          | some o =>
            by_cases hw:D=wl
            · obtain ⟨a1,c1,k1,e⟩:=PZ;rw [hw,e] at nDD;cases nDD
            · have:=BZ _ _ hw (ah g npm) (TT b7 g);rw [nDD] at this;cases this
        have ndD:d≠D:=ah e5 nD4;have nDH:H D=none:=by
          cases g:H D with
          | none=>rfl
          | some o =>
            by_cases hw:D=wl
            · obtain ⟨a1,c1,k1,e⟩:=PZ;rw [hw,e] at nDD;cases nDD
            · have:=S4 _ _ hw g;rw [nD4] at this;cases this
        have lk:=aav hb5;have pl:(aJ j++(bi j).take a).length≤100:=by
          have z1:=eV j (by lia);have z2:((bi j).take a).length≤10:=by rw [aaL];simp [bi];lia
          rw [aaw];lia
        have eN:ky q0∉kvs.map (·.1):=fun z=>by
          rw [hb5.keys] at z;obtain ⟨q',hq',e⟩:=aar.mp z;rw [kL e] at hq';exact nq hq'
        refine ⟨d,_,rfl,DPut.t (k:=ky q0) ed9 etk (au (by lia)),?_⟩;rw [iF eN];have etk':aJ j++(bi j).take (a+1)=aJ j++(bi j).take a++[q0]:=by rw [aaE,hR,← abb];rfl
        rw [etk'];have upd_d:∀ b o,b≠d→H9 b=some o→upd H9 d (.dT (kvs++[(ky q0,.ref D)])) b=some o:=fun b o hb e=>by rw [aj hb];exact e
        have nHw:∀ {t:Addr},H t=none→t≠wl:=fun h z=>by obtain ⟨a1,c1,k1,e⟩:=hP;rw [z,e] at h;cases h
        refine ⟨_,m5 L q0 ms,_,_,_,_,_,_,rfl,fun b o nb e=>upd_d _ _ (ah e nD) (up9 nb (S4 _ _ nb e)),?_,ad,?_,hq5.put lms bms⟩
        · obtain ⟨a1,c1,k1,e⟩:=PZ;exact ⟨a1,c1,k1,upd_d _ _ (abm ndw) (stk _ _ (sD _ _ e))⟩
        · refine LlF.put (hb5.keep fun t xs h0 e=>upd_d _ _ (fun z=>by rw [z,e5] at e;cases e) (up9 (nHw h0) e)) nq nDH (upd_d _ _ (abm ndD) eD9)
    · rintro σ H4 ⟨kvs,L,d5,d6,d7,d8,d9,da,rfl,S4,P4,e5,hb5,hq5⟩;rw [e4,aa3 (by simp [bi]),← gx] at hb5 hq5;exact ⟨kvs,L,_,_,_,_,_,_,_,rfl,S4,P4,e5,hb5,hq5⟩
  · rintro σ H3 ⟨kvs3,L3,c4,c5,c6,c7,c8,c9,ca,rfl,S3,P3,e3,hb3,hq3⟩;rw [aba] at hb3 hq3;exact ⟨_,rfl,q d kvs3 L3 H3 S3 P3 nD e3 hb3 hq3⟩
end
open PySem L2
def hT (ks:List Int):Int:=reduceHash (abZ (ks.map hashInt))
theorem rh:∀ n m,n≤m→(aJ n).Sublist (aJ m):=by
  intro n m h
  induction m with
  | zero=>rw [Nat.le_zero.mp h];exact List.Sublist.refl _
  | succ m ih =>
    by_cases e:n=m+1
    · rw [e];exact List.Sublist.refl _
    · rw [gx];exact (ih (by lia)).trans (List.sublist_append_left _ _)
theorem wN:((aJ 9).map fun q=>hT [q.1,q.2]).Nodup:=by decide +kernel
theorem pK {n:Nat} (h:n≤9):((aJ n).map fun q=>hT [q.1,q.2]).Nodup:=acm ((rh n 9 h).map _) wN
def Sm (d:PyData):Prop:=OkX d∧szX d≤6∧d.depth≤2
def Good (G:Hp) (v:V):Prop:=∃ d,Dat G d v∧Sm d
theorem Good.mono {G G':Hp} (g:Same G G') {v:V} (h:Good G v):Good G' v:=by
  obtain ⟨d,h1,h2⟩:=h;exact ⟨d,Dat.mono g _ _ h1,h2⟩
def At0 (v:V):Prop:=v=.non∨(∃ b,v=.bl b)∨(∃ i,v=.int i∧i.natAbs < 10 ^ 280)∨∃ z,v=.str z∧(reprText z).length≤1000
theorem dj {v:V} (h:At0 v):∃ d,(∀ G,Dat G d v)∧OkX d∧szX d=1∧d.depth=0:=by
  rcases h with rfl|⟨b,rfl⟩|⟨i,rfl,hi⟩|⟨z,rfl,hz⟩
  · exact ⟨.none,fun G=>by simp only [Dat],by simp only [OkX],by simp [szX],by simp [aa0]⟩
  · exact ⟨.bool b,fun G=>by simp only [Dat],by simp only [OkX],by simp [szX],by simp [aa0]⟩
  · exact ⟨.int i,fun G=>by simp only [Dat],by simp only [OkX];exact hi,by simp [szX],by simp [aa0]⟩
  · exact ⟨.str z,fun G=>by simp only [Dat],by simp only [OkX];exact hz,by simp [szX],by simp [aa0]⟩
theorem kO {G:Hp} {v:V} (h:At0 v):Good G v:=by
  obtain ⟨d,h1,h2,h3,h4⟩:=dj h;exact ⟨d,h1 G,h2,by lia,by lia⟩
theorem mJ:∀ {xs:List V},(∀ x∈xs,At0 x)→∃ ds,(∀ G,DatAll G ds xs)∧OkXs ds∧szXs ds=xs.length∧aaF ds=0
  | [],_=>⟨[],fun G=>by simp only [DatAll],by simp only [OkXs],by simp [szXs],by simp [aaF]⟩
  | x :: xs,h=>by
    obtain ⟨d,h1,h2,h3,h4⟩:=dj (h x aan);obtain ⟨ds,k1,k2,k3,k4⟩:=mJ (xs:=xs) fun y hy=>h y (aaj _ hy);refine ⟨d :: ds,fun G=>by simp only [DatAll];exact ⟨_,_,rfl,h1 G,k1 G⟩,by simp only [OkXs];exact ⟨h2,k2⟩,by simp only [szXs,aaC];lia,by simp only [aaF];lia⟩
theorem dv {G:Hp} {p:Addr} {xs:List V} (h:G p=some (.tup xs)∨G p=some (.lst xs)) (hl:xs.length≤4) (hx:∀ x∈xs,At0 x):Good G (.ref p):=by
  obtain ⟨ds,k1,k2,k3,k4⟩:=mJ hx;rcases h with h|h
  · exact ⟨.tuple ds,by simp only [Dat];exact ⟨p,xs,rfl,h,k1 G⟩,by simp only [OkX];exact k2,by simp only [szX];lia,by simp only [aa0];lia⟩
  · exact ⟨.list ds,by simp only [Dat];exact ⟨p,xs,rfl,h,k1 G⟩,by simp only [OkX];exact k2,by simp only [szX];lia,by simp only [aa0];lia⟩
def bR (w z:Addr) (H:Hp):Hp:=off z (off w H)
theorem ij {w z b:Addr} {H:Hp} (h:b≠w) (h2:b≠z):bR w z H b=H b:=(bq h2).trans (bq h)
theorem cI {w z:Addr} {H H':Hp} (b:But w H H'):Same (bR w z H) (bR w z H'):=fun c o h=>by
  unfold bR off at h ⊢;by_cases c1:c=z
  · rw [if_pos c1] at h;cases h
  · rw [if_neg c1] at h ⊢;by_cases c2:c=w
    · rw [if_pos c2] at h;cases h
    · rw [if_neg c2] at h ⊢;exact b c o c2 h
theorem fZ {w z:Addr} {H:Hp}:Same (bR w z H) H:=off_le.trans off_le
theorem fe {w z:Addr} {H H':Hp} (g:Same H H'):Same (bR w z H) (bR w z H'):=cI (But.of g)
theorem cn {w z:Addr} {H:Hp} {o:HO}:bR w z (upd H z o)=bR w z H:=by
  funext b;unfold bR off;by_cases c:b=z
  · rw [if_pos c,if_pos c]
  · rw [if_neg c,if_neg c,aj c]
structure Al (wl T:Addr) (H0 H:Hp) (L:List (Addr × HO)):Prop where
  same:Same H0 H
  well:∃ o,H0 wl=some o
  tab:∃ o,H0 T=some o
  has:∀ x∈L,bR wl T H x.1=some x.2
theorem Al.new {wl T:Addr} {H0 H:Hp} {L:List (Addr × HO)} (A:Al wl T H0 H L) {p:Addr} (n:H p=none) (o:HO):Al wl T H0 (upd H p o) ((p,o) :: L) :=
  ⟨A.same.trans (Same.new n o),A.well,A.tab,fun x hx=>by
    rcases aai.mp hx with rfl|hx
    · obtain ⟨_,e1⟩:=A.well;obtain ⟨_,e2⟩:=A.tab;exact (ij (abm (ah (A.same _ _ e1) n)) (abm (ah (A.same _ _ e2) n))).trans ad
    · exact fe (Same.new n _) _ _ (A.has x hx)⟩
theorem Al.at {wl T:Addr} {H0 H:Hp} {L:List (Addr × HO)} (A:Al wl T H0 H L) (i:Nat) {x:Addr × HO} (h:L[i]?=some x):bR wl T H x.1=some x.2:=A.has x (aap h)
theorem DmIn.but {w:World} {H H':Hp} {wl d:Addr} {ks:List KEn} (b:But wl H H') (hp:Pot H wl) (hn:d≠wl) (h:DmIn w H d ks):DmIn w H' d ks :=
  ⟨b _ _ hn h.at_,fun p hp'=>(h.keys p hp').mono (hp.tups b),h.nd,h.len⟩
theorem gf {xs:List V} {r:Int} (h0:0≤r) (h1:r < xs.length):∃ x,atI xs r=some x∧x∈xs:=by
  have hlt:r.toNat < xs.length:=by lia
  refine ⟨xs[r.toNat],?_,abA hlt⟩;have h:atI xs ((r.toNat:Nat):Int)=some xs[r.toNat]:=cV (aac hlt)
  rwa [show ((r.toNat:Nat):Int)=r by lia] at h
theorem bG {z:Int} {B:Nat} (hB:B < 10 ^ 280) (h:z.natAbs≤B):At0 (.int z):=.inr (.inr (.inl ⟨z,rfl,abY h hB⟩))
theorem sQ (b:Bool):At0 (.bl b):=.inr (.inl ⟨b,rfl⟩)
theorem gM:At0 .non:=.inl rfl
theorem n8 {z:Str} (h:(reprText z).length≤1000):At0 (.str z):=.inr (.inr (.inr ⟨z,rfl,h⟩))
theorem o0 {a:V} (h:At0 a):∀ x∈[a],At0 x:=fun x hx=>by rw [aau.mp hx];exact h
theorem kY {a b:V} (ha:At0 a) (hb:At0 b):∀ x∈[a,b],At0 x:=fun x hx=>by
  rcases aai.mp hx with rfl|hx
  · exact ha
  · exact o0 hb x hx
theorem kQ {w:World} {d:Addr} {ks:List KEn}:∀ xs,dmX w d ks≠.tup xs:=fun _ z=>nomatch z
theorem fX {n:Nat} (h:n≤9) {q:Int × Int} (hq:q∈aJ n):0≤q.1∧q.1≤8∧0≤q.2∧q.2≤8:=by
  unfold aJ bi at hq;obtain ⟨j,hj,hq⟩:=List.mem_flatMap.mp hq;obtain ⟨a,ha,rfl⟩:=aar.mp hq;have h1:=aaK.mp hj;have h2:=aaK.mp ha;simp only;lia
theorem uW {ks:List KEn} {e:KEn} (hn:(ks.map (·.1)).Nodup) (he:e∈ks):bg (rdE ks) e.1=some e.2.2:=by
  induction ks with
  | nil=>cases he
  | cons p ks ih =>
    rw [aae,aa9] at hn;show bg ((p.1,p.2.2) :: rdE ks) e.1=_;rcases aai.mp he with rfl|he
    · exact dr rfl
    · have : ¬ p.1=e.1:=fun z=>hn.1 (by rw [z];exact aca he);rw [dt this];exact ih hn.2 he
theorem kW {C:Nat} (hC:C < 10 ^ 280) (h1:1≤C):∀ {ks:List Int} {xs:List V},BiL ks xs→(∀ k∈ks,k.natAbs≤C)→∀ x∈xs,At0 x
  | _,_,.nil,_,x,hx=>nomatch hx
  | _,_,.cons h t,hk,x,hx=>by
    rcases aai.mp hx with rfl|hx
    · rcases h with rfl|⟨b,rfl,_⟩
      · exact bG hC (hk _ aan)
      · exact sQ b
    · exact kW hC h1 t (fun k hk'=>hk k (aaj _ hk')) x hx
theorem r_ {H:Hp}:∀ {ys:List V},(∀ y∈ys,Good H y)→∃ ds,Paired (Dat H) ds ys∧∀ d∈ds,Sm d
  | [],_=>⟨[],.nil,fun d hd=>nomatch hd⟩
  | y :: ys,h=>by
    obtain ⟨d,h1,h2⟩:=h y aan;obtain ⟨ds,h3,h4⟩:=r_ (ys:=ys) fun x hx=>h x (aaj _ hx);refine ⟨d :: ds,.cons h1 h3,fun x hx=>?_⟩;rcases aai.mp hx with rfl|hx
    · exact h2
    · exact h4 x hx
theorem kS {H:Hp} {ds:List PyData} {ys:List V} (h:Paired (Dat H) ds ys):DatAll H ds ys:=by
  induction h with
  | nil=>simp only [DatAll]
  | cons h t ih=>simp only [DatAll];exact ⟨_,_,rfl,h,ih⟩
def LlI (L:Int × Int→List Int) (G:Hp) (qs:List (Int × Int)) (kvs:List (List Key × V)):Prop:=Paired (fun (q:Int × Int) (kv:List Key × V)=>kv.1=ky q∧∃ t,kv.2=.ref t∧G t=some (.lst ((L q).map V.int))) qs kvs
theorem LlI.mono {L:Int × Int→List Int} {G G':Hp} (g:Same G G') {qs:List (Int × Int)} {kvs:List (List Key × V)} (h:LlI L G qs kvs):LlI L G' qs kvs:=Paired.mapP h fun _ _ ⟨e,a,b,c⟩=>⟨e,a,b,g _ _ c⟩
theorem LlF.off {H0 H:Hp} {L:Int × Int→List Int} {qs:List (Int × Int)} {kvs:List (List Key × V)} {wl:Addr} {o:HO} (h:LlF H0 L H qs kvs) (hw:H0 wl=some o):LlI L (off wl H) qs kvs:=Paired.mapP h fun _ _ ⟨e,a,b,c,d⟩=>⟨e,a,b,by rw [bq (fun z=>by rw [z,hw] at c;cases c)];exact d⟩
theorem LlI.keys {G:Hp} {L:Int × Int→List Int} {qs:List (Int × Int)} {kvs:List (List Key × V)} (h:LlI L G qs kvs):kvs.map (·.1)=qs.map ky:=by
  unfold LlI at h
  induction h with
  | nil=>rfl
  | cons h t ih=>rw [aae,aae,ih,h.1]
theorem kK {L:Int × Int→List Int} {G:Hp} {qs:List (Int × Int)} {kvs:List (List Key × V)} (h:LlI L G qs kvs):∃ kI:List (List Int × V),kvs=kI.map (fun p=>(p.1.map Sum.inl,p.2))∧kI.map (·.1)=qs.map (fun q=>[q.1,q.2]) ∧
    Paired (fun (q:Int × Int) (e:List Int × V)=>e.1=[q.1,q.2]∧∃ t,e.2=.ref t∧G t=some (.lst ((L q).map V.int))) qs kI:=by
  unfold LlI at h
  induction h with
  | nil=>exact ⟨[],rfl,rfl,.nil⟩
  | @cons q kv qs kvs h t ih =>
    obtain ⟨kI,e1,e2,e3⟩:=ih;obtain ⟨h1,h2⟩:=h;exact ⟨([q.1,q.2],kv.2) :: kI,by rw [e1,aae];congr 1;obtain ⟨a,b⟩:=kv;simp only at h1 ⊢;rw [h1];rfl,by rw [aae,aae,e2],.cons ⟨rfl,h2⟩ e3⟩
theorem lh:∀ ds:List PyData,ds.length≤szXs ds
  | []=>aaf _
  | d :: ds=>by
    have:=lh ds;have : 1≤szX d:=by cases d <;> simp only [szX] <;> lia
    simp only [szXs,aaC];lia
def SmR (d:PyData):Prop:=OkX d∧szX d≤130∧d.depth≤2
def GoodR (G:Hp) (v:V):Prop:=∃ d,Dat G d v∧SmR d
theorem GoodR.mono {G G':Hp} (g:Same G G') {v:V} (h:GoodR G v):GoodR G' v:=by
  obtain ⟨d,h1,h2⟩:=h;exact ⟨d,Dat.mono g _ _ h1,h2⟩
def Good1 (G:Hp) (v:V):Prop:=∃ d,Dat G d v∧OkX d∧szX d≤2∧d.depth≤1
theorem bL {G:Hp} {v:V} (h:At0 v):Good1 G v:=by
  obtain ⟨d,h1,h2,h3,h4⟩:=dj h;exact ⟨d,h1 G,h2,by lia,by lia⟩
theorem Good1.r {G:Hp} {v:V} (h:Good1 G v):GoodR G v:=by
  obtain ⟨d,h1,h2,h3,h4⟩:=h;exact ⟨d,h1,h2,by lia,by lia⟩
theorem uP {ds:List PyData} (h:∀ d∈ds,OkX d∧szX d≤2∧d.depth≤1):OkXs ds∧szXs ds≤2 * ds.length∧aaF ds≤1:=by
  induction ds with
  | nil=>exact ⟨by simp only [OkXs],by simp [szXs],by simp [aaF]⟩
  | cons d ds ih =>
    obtain ⟨a,b,c⟩:=h d aan;obtain ⟨x,y,z⟩:=ih fun e he=>h e (aaj _ he);refine ⟨by simp only [OkXs];exact ⟨a,x⟩,by simp only [szXs,aaC];lia,by simp only [aaF];lia⟩
theorem rZ {H:Hp}:∀ {ys:List V},(∀ y∈ys,Good1 H y)→∃ ds,Paired (Dat H) ds ys∧∀ d∈ds,OkX d∧szX d≤2∧d.depth≤1
  | [],_=>⟨[],.nil,fun d hd=>nomatch hd⟩
  | y :: ys,h=>by
    obtain ⟨d,h1,h2⟩:=h y aan;obtain ⟨ds,h3,h4⟩:=rZ (ys:=ys) fun x hx=>h x (aaj _ hx);refine ⟨d :: ds,.cons h1 h3,fun x hx=>?_⟩;rcases aai.mp hx with rfl|hx
    · exact h2
    · exact h4 x hx
theorem cX {G:Hp} {p:Addr} {xs:List V} (h:G p=some (.tup xs)∨G p=some (.lst xs)) (hl:xs.length≤62) (hx:∀ x∈xs,Good1 G x):GoodR G (.ref p):=by
  obtain ⟨ds,k1,k2⟩:=rZ hx;obtain ⟨a,b,c⟩:=uP k2;have ll:=aav k1;rcases h with h|h
  · exact ⟨.tuple ds,by simp only [Dat];exact ⟨p,xs,rfl,h,kS k1⟩,by simp only [OkX];exact a,by simp only [szX];lia,by simp only [aa0];lia⟩
  · exact ⟨.list ds,by simp only [Dat];exact ⟨p,xs,rfl,h,kS k1⟩,by simp only [OkX];exact a,by simp only [szX];lia,by simp only [aa0];lia⟩
theorem d_ {x:Int} (h:x.natAbs≤100):At0 (.int x):=bG (B:=100) (by decide +kernel) h
theorem bB {G:Hp} {xs:List Int} (h:∀ x∈xs,x.natAbs≤100):∀ v∈xs.map V.int,Good1 G v:=fun v hv=>by
  obtain ⟨x,hx,rfl⟩:=aar.mp hv;exact bL (d_ (h x hx))
theorem sg {G:Hp} {p:Addr} {xs:List Int} (h:G p=some (.dK (tr xs))) (hl:xs.length≤62) (hx:∀ x∈xs,x.natAbs≤100):GoodR G (.ref p):=by
  have go:∀ xs:List Int,(∀ x∈xs,x.natAbs≤100)→∃ kd,DatKv G kd (tr xs)∧OkKv kd∧szKv kd=2 * xs.length∧ab2 kd=0:=by
    intro xs
    induction xs with
    | nil=>intro _;exact ⟨[],by simp only [tr,abk,DatKv],by simp only [OkKv],by simp [szKv],by simp [ab2]⟩
    | cons x xs ih =>
      intro hx;obtain ⟨kd,a,b,c,d⟩:=ih fun y hy=>hx y (aaj _ hy);have ix:=hx x aan;have i280:x.natAbs < 10 ^ 280:=abY ix (by decide +kernel);refine ⟨(.int x,.bool true) :: kd,?_,?_,?_,?_⟩
      · simp only [tr,aae,DatKv];exact ⟨_,_,_,rfl,rfl,by simp only [Dat],a⟩
      · simp only [OkKv,OkX];exact ⟨i280,trivial,b⟩
      · simp only [szKv,szX,aaC,c];lia
      · simp only [ab2,aa0,d];rfl
  obtain ⟨kd,a,b,c,d⟩:=go xs hx;exact ⟨.dict kd,by simp only [Dat];exact ⟨p,_,rfl,h,a⟩,by simp only [OkX];exact b,by simp only [szX];lia,by simp only [aa0];lia⟩
def VOkR (G:Hp) (ks:List KEn):Prop:=∀ e∈ks,Good G e.2.1∧GoodR G e.2.2
theorem VOkR.mono {G G':Hp} (g:Same G G') {ks:List KEn} (h:VOkR G ks):VOkR G' ks:=fun e he=>⟨(h e he).1.mono g,(h e he).2.mono g⟩
theorem VOkR.put {G:Hp} {ks:List KEn} {k:MK} {y v:V} (h:VOkR G ks) (hy:Good G y) (hv:GoodR G v):VOkR G (fi ks k y v):=fun e he=>by
  rcases lM he with ⟨e0,h0,e1,e2,e3⟩|rfl
  · rw [e2];refine ⟨(h _ h0).1,?_⟩;rcases e3 with e3|e3
    · rw [e3];exact (h _ h0).2
    · rw [e3];exact hv
  · exact ⟨hy,hv⟩
theorem VOkR.drop {G:Hp} {ks:List KEn} {k:MK} (h:VOkR G ks):VOkR G (bM ks k):=fun e he=>h e (acM.mp he).1
theorem GoodR.two {w:World} {wl d:Addr} {H:Hp} {ks:List KEn} {v:V} (hd:H d=some (dmX w d ks)) (h:GoodR (off wl H) v):GoodR (bR wl d H) v:=by
  obtain ⟨x,h1,h2⟩:=h;refine ⟨x,Dat.keep (fun c ob _ n2 e=>?_) _ _ h1,h2⟩;have hc:c≠d:=fun z=>by
    have e':=off_le _ _ e;rw [z,hd] at e';injection e' with e'
    exact n2 _ e'.symm
  exact (bq hc).trans e
structure Bn (w:World) (wl d:Addr) (H H':Hp) (ks:List KEn):Prop where
  but:But wl H H'
  pot:Pot H' wl
  dm:DmIn w H' d ks
  vo:VOkR (bR wl d H') ks
theorem Bn.put {w:World} {wl d:Addr} {H Hx:Hp} {ks:List KEn} {k:MK} {y v:V} (b:Bn w wl d H Hx ks) (nd:H d=none) (dw:d≠wl) (hk:MkIn Hx k y) (gy:Good (bR wl d Hx) y) (gv:GoodR (bR wl d Hx) v) (hl:ks.length < 900) :
    Bn w wl d H (upd Hx d (dmX w d (fi ks k y v))) (fi ks k y v) :=
  ⟨fun c o n e=>by rw [aj (ah e nd)];exact b.but c o n e,by obtain ⟨a1,c1,k1,e⟩:=b.pot;exact ⟨a1,c1,k1,by rw [aj (abm dw)];exact e⟩,b.dm.put v hk (by lia),by rw [cn];exact b.vo.put gy gv⟩
theorem Bn.drop {w:World} {wl d:Addr} {H Hx:Hp} {ks:List KEn} {k:MK} (b:Bn w wl d H Hx ks) (nd:H d=none) (dw:d≠wl):Bn w wl d H (upd Hx d (dmX w d (bM ks k))) (bM ks k) :=
  ⟨fun c o n e=>by rw [aj (ah e nd)];exact b.but c o n e,by obtain ⟨a1,c1,k1,e⟩:=b.pot;exact ⟨a1,c1,k1,by rw [aj (abm dw)];exact e⟩,b.dm.drop k,by rw [cn];exact b.vo.drop⟩
theorem Bn.same {w:World} {wl d:Addr} {H Hx Hy:Hp} {ks:List KEn} (b:Bn w wl d H Hx ks) (s:Same Hx Hy):Bn w wl d H Hy ks :=
  ⟨b.but.trans (But.of s),b.pot.keep s,b.dm.mono s,b.vo.mono (fe s)⟩
theorem Bn.step {w:World} {wl d:Addr} {H Hx Hy:Hp} {ks:List KEn} (b:Bn w wl d H Hx ks) (s:But wl Hx Hy) (p:Pot Hy wl) (dw:d≠wl):Bn w wl d H Hy ks :=
  ⟨b.but.trans s,p,DmIn.but s b.pot dw b.dm,b.vo.mono (cI s)⟩
theorem nQ {ks:List KEn} {k:MK} (h:bg (rdE ks) k=none):bM ks k=ks:=by
  unfold bM;refine List.filter_eq_self.mpr fun e he=>?_;refine decide_eq_true fun z=>?_;refine ip h ?_;rw [← z];exact aar.mpr ⟨(e.1,e.2.2),aar.mpr ⟨e,he,rfl⟩,rfl⟩
theorem qh {α β:Type} (xs:List α) (f:α→β) (k:Nat):(xs.map f).eraseIdx k=(xs.eraseIdx k).map f:=by
  induction xs generalizing k with
  | nil=>rfl
  | cons x xs ih=>cases k with
    | zero=>rfl
    | succ k=>simp only [aae,acK,ih]
theorem uS {i:Int} {n:Nat} (h0:0≤i) (h1:i < n):seqIndex? i n=some i.toNat:=by
  unfold seqIndex?;simp only [if_neg (show ¬ i < 0 by lia)];rw [if_pos (by rw [decide_eq_true h0,decide_eq_true h1];rfl)]
section
variable {P:Program} {w:World} {K:aab} {mg:Str→Option Value} {base:Heap} {f:Addr} {fd:FuncData}
def kf:Sp:=fun vs H Q _=>∃ (wl a:Addr) (xs:List Int) (m:Int),vs=[.ref wl,.ref a,.int m]∧Pot H wl∧a≠wl∧H a=some (.lst (xs.map V.int))∧xs.length≤60∧(∀ x∈xs,0≤x∧x < m)∧2≤m∧m≤60 ∧
  ∀ v H',But wl H H'→Pot H' wl→GoodR (off wl H') v→Q v H'
abbrev cB:Stmt:=top 43
theorem aV:FnScope ["pot","some","m","found","at","way","more"] ["pot","some","m"] (ao cB):=⟨rfl,rfl,rfl,by decide +kernel,rfl,by decide +kernel,by decide +kernel⟩
theorem gD (F:Fun K "_law_bent_list" "_law_bent_list" cB f fd) (B:Bu K mg) (C__law_take:Cal P w K mg base "_law_take" 2 ["pot","many"] dC):FnOk P w K mg base CX0 3 f fd ["pot","some","m"] kf:=by
  refine F.ok aV (fun vs H Q E h=>?_) (fun cdv A outer s H vs Q E hr h=>?_)
  · obtain ⟨wl,a,xs,m,rfl,_⟩:=h;rfl
  obtain ⟨wl,a,xs,m,rfl,hP,naw,ea,lx,bx,m2,m60,q⟩:=h;refine ⟨_,(@ag _ _ _ _ _ (@aG _ _ (3) _ _ _ _ (aV).nd rfl (Or.inl rfl) (@aT _ _ _ _ _ _ _ _ _ d3 rfl B.ilist aaQ (@aa _ _ _ _ _ (pv 1) ac (by rfl)) (by decide) (by decide) (by rfl) (by rfl)) (by rfl) (by first|exact .inl rfl|exact .inr rfl|assumption)) (@ag _ _ _ _ _ (@aG _ _ (4) _ _ _ _ (aV).nd rfl (Or.inl rfl) (@aq _ _ _ _ _ _ _ _ _ _ _ C__law_take hr (by lia) rfl (@aa _ _ _ _ _ (pv 0) (@aa _ _ _ _ _ (@az _ _ _ _ _ _ _ _ bh (@ai _ _ _ _ _ _ _ _ _ aF rfl B.ilen aaN (@aa _ _ _ _ _ (pv 3) ac (by rfl)) (by decide) (by decide) (by rfl) (by rfl)) ae) ac (by rfl)) (by rfl)) (by decide) (by rfl) (by rfl)) (by rfl) (by first|exact .inl rfl|exact .inr rfl|assumption)) (@ag _ _ _ _ _ (@aG _ _ (5) _ _ _ _ (aV).nd rfl (Or.inl rfl) (@aq _ _ _ _ _ _ _ _ _ _ _ C__law_take hr (by lia) rfl (@aa _ _ _ _ _ (pv 0) (@aa _ _ _ _ _ ae ac (by rfl)) (by rfl)) (by decide) (by rfl) (by rfl)) (by rfl) (by first|exact .inl rfl|exact .inr rfl|assumption)) (@ag _ _ _ _ _ (@aG _ _ (6) _ _ _ _ (aV).nd rfl (Or.inl rfl) (@bu _ _ _ _ _ _ _ ix_list (@aQ _ _ _ _ (@aa _ _ _ _ _ (@aq _ _ _ _ _ _ _ _ _ _ _ C__law_take hr (by lia) rfl (@aa _ _ _ _ _ (pv 0) (@aa _ _ _ _ _ (pv 2) ac (by rfl)) (by rfl)) (by decide) (by rfl) (by rfl)) (@aa _ _ _ _ _ (@fV _ _ _ _ _ _ dB ae) (@aa _ _ _ _ _ (pv 2) (@aa _ _ _ _ _ (@az _ _ _ _ _ _ _ _ bh (pv 2) ae) (@aa _ _ _ _ _ bo (@aa _ _ _ _ _ bz (@aa _ _ _ _ _ bK (@aa _ _ _ _ _ (@aQ _ _ _ _ (@aa _ _ _ _ _ ae ac (by rfl))) (@aa _ _ _ _ _ ae ac (by rfl)) (by rfl)) (by rfl)) (by rfl)) (by rfl)) (by rfl)) (by rfl)) (by rfl)) (by rfl))) (@aq _ _ _ _ _ _ _ _ _ _ _ C__law_take hr (by lia) rfl (@aa _ _ _ _ _ (pv 0) (@aa _ _ _ _ _ ae ac (by rfl)) (by rfl)) (by decide) (by rfl) (by rfl)) (fun _ _=>rfl)) (by rfl) (by first|exact .inl rfl|exact .inr rfl|assumption)) (@ag _ _ _ _ _ (@aI _ _ _ _ _ _ _ _ (@PW.pt _ _ _ (@cH _ _ _ _ _ _ _ (@aE _ _ _ _ _ _ _ _ bD (pv 5) ae (aC _)) (@bW _ _ _ _ (@aE _ _ _ _ _ _ _ _ (@iN _ hr.units) (pv 3) (@aQ _ _ _ _ ac) (aC _))))) (@af _ _ _ (@ap _ _ _ _ (@ai _ _ _ _ _ _ _ _ _ jz rfl B.isorted abI (@aa _ _ _ _ _ (@az _ _ _ _ _ _ _ _ ku (pv 3) (@aQ _ _ _ _ (@aa _ _ _ _ _ (@aq _ _ _ _ _ _ _ _ _ _ _ C__law_take hr (by lia) rfl (@aa _ _ _ _ _ (pv 0) (@aa _ _ _ _ _ (pv 2) ac (by rfl)) (by rfl)) (by decide) (by rfl) (by rfl)) ac (by rfl)))) ac (by rfl)) (by decide) (by decide) (by rfl) (by rfl)))) aA) (@ag _ _ _ _ _ (@aG _ _ (4) _ _ _ _ (aV).nd rfl (Or.inl rfl) (@az _ _ _ _ _ _ _ _ bA (pv 4) (@ai _ _ _ _ _ _ _ _ _ aF rfl B.ilen aaN (@aa _ _ _ _ _ (pv 3) ac (by rfl)) (by decide) (by decide) (by rfl) (by rfl))) (by rfl) (by first|exact .inl rfl|exact .inr rfl|assumption)) (@ag _ _ _ _ _ (@aI _ _ _ _ _ _ _ _ (@aE _ _ _ _ _ _ _ _ gU (pv 5) ae (aC _)) (@af _ _ _ (@bT _ _ _ _ (@iI _ _ _ _ _ _ _ _ _ _ _ _ aby PySem.F.slot_list_pop PySem.F.type_list_pop rC (pv 3) (@aa _ _ _ _ _ (pv 4) ac (by rfl)) (by rfl) (by rfl) (by rfl) (by rfl) (by rfl)) (by rfl))) (@af _ _ _ (@aI _ _ _ _ _ _ _ _ (@aE _ _ _ _ _ _ _ _ bD (pv 5) ae (aC _)) (@af _ _ _ (@bT _ _ _ _ (@iI _ _ _ _ _ _ _ _ _ _ _ _ aby PySem.F.slot_list_insert PySem.F.type_list_insert pR (pv 3) (@aa _ _ _ _ _ (pv 4) (@aa _ _ _ _ _ (pv 6) ac (by rfl)) (by rfl)) (by rfl) (by rfl) (by rfl) (by rfl) (by rfl)) (by rfl))) (@af _ _ _ (@aI _ _ _ _ _ _ _ _ (@aE _ _ _ _ _ _ _ _ bD (pv 5) ae (aC _)) (@af _ _ _ (@eS _ _ _ _ _ _ (pv 6) (@ni _ _ _ _ _ _ _ (pv 3) (pv 4) iD (by intro _;rfl)) (by rfl) (by rfl) (by rfl))) (@af _ _ _ (@aI _ _ _ _ _ _ _ _ (@aE _ _ _ _ _ _ _ _ bD (pv 5) ae (aC _)) (@af _ _ _ (@aG _ _ (3) _ _ _ _ (aV).nd rfl (Or.inl rfl) (@vb _ _ _ _ _ _ _ (pv 3) (@fV _ _ _ _ _ _ dB ae)) (by rfl) (by first|exact .inl rfl|exact .inr rfl|assumption))) (@af _ _ _ (@ap _ _ _ _ (@bu _ _ _ _ _ _ _ ix_list (@aQ _ _ _ _ (@aa _ _ _ _ _ (@aT _ _ _ _ _ _ _ _ _ fo rfl B.ituple abx (@aa _ _ _ _ _ (pv 3) ac (by rfl)) (by decide) (by decide) (by rfl) (by rfl)) (@aa _ _ _ _ _ (@aT _ _ _ _ _ _ _ _ _ (@je _ rfl) rfl B.idict abd (@aa _ _ _ _ _ (@cA _ _ _ _ _ _ _ _ (["one"]) ([none]) _ _ _ _ rfl (@ba _ _ _ _ (pv 3)) rfl trivial trivial (fun _ _ _ _=>⟨(@ak _ _ (0) _ (show aa7 (["one"]:List Str) by decide +kernel) rfl (Or.inl rfl) (.inr rfl)),aX,(@aH _ _ _ _ _ (@aa _ _ _ _ _ (pv 0) (@aa _ _ _ _ _ bo ac (by rfl)) (by rfl)))⟩) (by rfl) (by rfl) (by rfl) (by rfl) (by intro _;rfl)) ac (by rfl)) (by decide) (by decide) (by rfl) (by rfl)) (@aa _ _ _ _ _ bz (@aa _ _ _ _ _ (@ai _ _ _ _ _ _ _ _ _ aF rfl B.ilen aaN (@aa _ _ _ _ _ (pv 3) ac (by rfl)) (by decide) (by decide) (by rfl) (by rfl)) ac (by rfl)) (by rfl)) (by rfl)) (by rfl))) (@aq _ _ _ _ _ _ _ _ _ _ _ C__law_take hr (by lia) rfl (@aa _ _ _ _ _ (pv 0) (@aa _ _ _ _ _ ae ac (by rfl)) (by rfl)) (by decide) (by rfl) (by rfl)) (fun _ _=>rfl))))))))))) (@af _ _ _ (@ap _ _ _ _ (pv 3)))))))))),?_⟩;have t2:(2:Nat)≤sizeLine:=by decide
  have m0:0 < m:=by lia
  have b100:∀ x∈xs,x.natAbs≤100:=fun x hx=>by have:=bx x hx;lia
  have lmap:(xs.map V.int).length=xs.length:=aaa _;refine ⟨_,rfl,a,_,rfl,.inl (SqL.of ea),fun p np=>?_⟩;have npw:p≠wl:=hP.ne np;have s1:=Same.new np (.lst (xs.map V.int));have hP1:=hP.keep s1;have e1:upd H p (.lst (xs.map V.int)) p=_:=ad;generalize upd H p (.lst (xs.map V.int))=H1 at s1 hP1 e1 ⊢;refine ⟨_,rfl,_,rfl,p,_,rfl,.inl (SqL.of e1),_,_,rfl,rfl,wl,_,rfl,by lia,by rw [lmap];lia,hP1,fun r1 H2 a1 b1 B2 P2=>?_⟩;have e2:=B2 _ _ npw e1;refine ⟨_,rfl,wl,7,rfl,by decide,by decide,P2,fun way H3 a2 b2 B3 P3=>?_⟩;have e3:=B3 _ _ npw e2;refine ⟨_,rfl,_,rfl,wl,m,rfl,m0,by lia,P3,fun r2 H4 a3 b3 B4 P4=>?_⟩;have e4:=B4 _ _ npw e3;refine ⟨_,rfl,_,rfl,_,rfl,_,_,rfl,rfl,(by show 1≤sizeLine;decide),fun u nu=>?_⟩;have su:=Same.new nu (.lst [V.int 0]);have eu:upd H4 u (.lst [V.int 0]) u=_:=ad;have P5:=P4.keep su;have nuw:=P4.ne nu;have e5:=su _ _ e4;have npu:u≠p:=fun z=>by rw [z,e4] at nu;cases nu
  have b5:But wl H (upd H4 u (.lst [V.int 0])):=(((((But.of s1).trans B2).trans B3).trans B4)).trans (But.of su);generalize upd H4 u (.lst [V.int 0])=H5 at su eu P5 e5 b5 ⊢;refine ⟨(by show 9≤sizeLine;decide),fun ul nl=>?_⟩;have sl:=Same.new nl (.lst [V.int r2,.int (-1),.int m,.int (m+1),.bl true,.non,.str "1",.ref u,.int 0]);have el:upd H5 ul (.lst [V.int r2,.int (-1),.int m,.int (m+1),.bl true,.non,.str "1",.ref u,.int 0]) ul=_:=ad;have P6:=P5.keep sl;have nlw:=P5.ne nl;have e6:=sl _ _ e5;have eu6:=sl _ _ eu;have b6:=b5.trans (But.of sl);generalize upd H5 ul (.lst [V.int r2,.int (-1),.int m,.int (m+1),.bl true,.non,.str "1",.ref u,.int 0])=H6 at el P6 e6 eu6 b6 ⊢;refine ⟨_,rfl,wl,9,rfl,by decide,by decide,P6,fun r5 H7 c0 c1 B7 P7=>?_⟩;have e7:=B7 _ _ npw e6;have eu7:=B7 _ _ nuw eu6;have el7:=B7 _ _ nlw el;have b7:=b6.trans B7;obtain ⟨y,hy,hmem⟩:=gf (xs:=[V.int r2,.int (-1),.int m,.int (m+1),.bl true,.non,.str "1",.ref u,.int 0]) c0 (by show r5 < 9;lia);have gy:∀ G:Hp,G u=some (.lst [V.int 0])→Good1 G y:=fun G hG=>by
    simp only [aai,aaV,or_false] at hmem;rcases hmem with rfl|rfl|rfl|rfl|rfl|rfl|rfl|rfl|rfl
    · exact bL (d_ (by lia))
    · exact bL (d_ (by decide))
    · exact bL (d_ (by lia))
    · exact bL (d_ (by lia))
    · exact bL (sQ _)
    · exact bL gM
    · exact bL (n8 (by decide +kernel))
    · refine ⟨.list [.int 0],?_,?_,by simp [szX,szXs],by simp [aa0,aaF]⟩
      · simp only [Dat,DatAll];exact ⟨u,_,rfl,hG,_,_,rfl,rfl,rfl⟩
      · simp only [OkX,OkXs];exact ⟨abY (m:=100) (by decide) (by decide +kernel),trivial⟩
    · exact bL (d_ (by decide))
  refine ⟨ul,_,_,_,rfl,rfl,SqL.of el7,hy,?_⟩;clear hy el el7 e1 e2 e3 e4 e5 e6 eu eu6;refine ⟨_,rfl,rfl,_,rfl,cN (fun cw=>?_) (fun cw=>?_)⟩
  · skip
    refine ⟨_,rfl,_,rfl,_,rfl,wl,m,rfl,m0,by lia,P7,fun r6 Hs c0 c1 Bs Ps=>⟨(by show 1≤sizeLine;decide),fun pl npl=>?_⟩⟩;have es:=Bs _ _ npw e7;have sl:=Same.new npl (.lst [V.int r6]);have Pl:=Ps.keep sl;have esl:=sl _ _ es;have epl:upd Hs pl (.lst [V.int r6]) pl=_:=ad;have BB:=(b7.trans Bs).trans (But.of sl);generalize upd Hs pl (.lst [V.int r6])=Ht at sl Pl esl epl BB ⊢;refine ⟨p,pl,_,_,rfl,rfl,esl,epl,di (by rw [lmap];show xs.length+1≤1000;lia),fun pc npc=>?_⟩;have sc:=Same.new npc (.lst (xs.map V.int++[V.int r6]));have ec:xs.map V.int++[V.int r6]=(xs++[r6]).map V.int:=by rw [aaG];rfl
    rw [ec] at sc ⊢;have epc:upd Ht pc (.lst ((xs++[r6]).map V.int)) pc=_:=ad;have Pc:=Pl.keep sc;have BC:=BB.trans (But.of sc);generalize upd Ht pc (.lst ((xs++[r6]).map V.int))=Hu at epc Pc BC ⊢;refine ⟨pc,xs++[r6],rfl,epc,by rw [aaw];show xs.length+1 < 64;lia,fun D ms nD perm _=>?_⟩;have nDw:=Pc.ne nD;refine q (.ref D) _ (BC.trans (But.of (Same.new nD _))) (Pc.keep (Same.new nD _)) (cX (.inr ((bq nDw).trans ad)) ?_ (bB fun x hx=>?_))
    · rw [aaa,perm.length_eq,aaw];show xs.length+1≤62;lia
    · rcases aay.mp (perm.mem_iff.mp hx) with z|z
      · exact b100 x z
      · rw [aau.mp z];lia
  refine ⟨_,rfl,(by show 0≤sizeLine;decide),fun pe npe=>eqE (SqL.of ((Same.new npe _) _ _ e7)) (SqL.of ad) ?_⟩;have se:=Same.new npe (.lst []);have e8:=se _ _ e7;have P8:=P7.keep se;have eu8:=se _ _ eu7;have b8:=b7.trans (But.of se);generalize upd H7 pe (.lst [])=H8 at e8 P8 eu8 b8 ⊢;refine ⟨_,rfl,cN (fun ce=>?_) (fun ce=>?_)⟩
  · skip
    refine ⟨_,rfl,_,rfl,_,rfl,wl,m,rfl,m0,by lia,P8,fun r6 Hs c0 c1 Bs Ps=>⟨(by show 1≤sizeLine;decide),fun pl npl=>?_⟩⟩;have es:=Bs _ _ npw e8;have sl:=Same.new npl (.lst [V.int r6]);have Pl:=Ps.keep sl;have esl:=sl _ _ es;have epl:upd Hs pl (.lst [V.int r6]) pl=_:=ad;have BB:=(b8.trans Bs).trans (But.of sl);generalize upd Hs pl (.lst [V.int r6])=Ht at sl Pl esl epl BB ⊢;refine ⟨p,pl,_,_,rfl,rfl,esl,epl,di (by rw [lmap];show xs.length+1≤1000;lia),fun pc npc=>?_⟩;have sc:=Same.new npc (.lst (xs.map V.int++[V.int r6]));have ec:xs.map V.int++[V.int r6]=(xs++[r6]).map V.int:=by rw [aaG];rfl
    rw [ec] at sc ⊢;have epc:upd Ht pc (.lst ((xs++[r6]).map V.int)) pc=_:=ad;have Pc:=Pl.keep sc;have BC:=BB.trans (But.of sc);generalize upd Ht pc (.lst ((xs++[r6]).map V.int))=Hu at epc Pc BC ⊢;refine ⟨pc,xs++[r6],rfl,epc,by rw [aaw];show xs.length+1 < 64;lia,fun D ms nD perm _=>?_⟩;have nDw:=Pc.ne nD;refine q (.ref D) _ (BC.trans (But.of (Same.new nD _))) (Pc.keep (Same.new nD _)) (cX (.inr ((bq nDw).trans ad)) ?_ (bB fun x hx=>?_))
    · rw [aaa,perm.length_eq,aaw];show xs.length+1≤62;lia
    · rcases aay.mp (perm.mem_iff.mp hx) with z|z
      · exact b100 x z
      · rw [aau.mp z];lia
  have ne:xs≠[]:=fun z=>ce (decide_eq_true (by rw [z];rfl));have lpos:1≤xs.length:=List.length_pos_iff.mpr ne;refine ⟨_,rfl,_,rfl,p,_,rfl,.inl (SqL.of e8),_,_,rfl,rfl,by rw [lmap];lia,?_⟩;rw [lmap];obtain ⟨j,hj⟩:∃ j:Int,r1 % ((xs.length:Nat):Int)=j:=⟨_,rfl⟩
  have j0:0≤j:=by rw [← hj];exact aco _ (by lia)
  have jl:j < xs.length:=by rw [← hj];exact abV _ (by lia)
  show sj 4 (V.int (r1 % ((xs.length:Nat):Int))) _ H8 _;rw [hj];have jn:j.toNat < xs.length:=by lia
  have Bw:∀ {G:Hp} {o:HO},But wl H G→But wl H (upd G p o):=fun {G o} b c ob n e=>by rw [aj (ah e np)];exact b c ob n e
  have Pw:∀ {G:Hp} {o:HO},Pot G wl→Pot (upd G p o) wl:=fun {G o} h=>by obtain ⟨a1,c1,k1,e⟩:=h;exact ⟨a1,c1,k1,by rw [aj (abm npw)];exact e⟩
  have fin:∀ {G:Hp} {ys:List V},But wl H G→Pot G wl→ys.length≤62→(∀ y'∈ys,Good1 (off wl (upd G p (.lst ys))) y')→Q (.ref p) (upd G p (.lst ys)):=fun {G ys} b hp l h=>q (.ref p) _ (Bw b) (Pw hp) (cX (.inr ((bq npw).trans ad)) l h);have gy':∀ {ys:List V},Good1 (off wl (upd H8 p (.lst ys))) y:=fun {ys}=>gy _ ((bq nuw).trans ((aj npu).trans eu8));refine ⟨_,rfl,_,_,rfl,rfl,_,rfl,cN (fun c1=>?_) (fun c1=>?_)⟩
  · refine ⟨_,rfl,.inl ⟨rfl,_,SqL.of e8⟩,_,rfl,p,_,j,j.toNat,.int xs[j.toNat],rfl,rfl,e8,by lia,by lia,by rw [lmap];exact uS j0 jl,by rw [aak,aac jn];rfl,?_⟩;have ee:(xs.map V.int).eraseIdx j.toNat=(xs.eraseIdx j.toNat).map V.int:=qh _ _ _;rw [ee];refine ⟨_,rfl,fin b8 P8 ?_ (bB fun x hx=>b100 x (List.mem_of_mem_eraseIdx hx))⟩;rw [aaa];exact aa1 (List.length_eraseIdx_le _ _) (by lia)
  refine ⟨_,rfl,rfl,_,rfl,cN (fun c2=>?_) (fun c2=>?_)⟩
  · refine ⟨_,rfl,.inl ⟨rfl,_,SqL.of e8⟩,_,rfl,_,rfl,p,_,j,y,rfl,rfl,e8,j0,by rw [lmap];lia,by rw [lmap];lia,?_⟩;refine ⟨_,rfl,fin b8 P8 ?_ fun v hv=>?_⟩
    · rw [aaw,aaC,aaL,abh,lmap];lia
    · rcases aay.mp hv with z|z
      · exact bB b100 v (List.mem_of_mem_take z)
      · rcases aai.mp z with rfl|z
        · exact gy'
        · exact bB b100 v (List.mem_of_mem_drop z)
  refine ⟨_,rfl,rfl,_,rfl,cN (fun c3=>?_) (fun c3=>?_)⟩
  · refine ⟨_,rfl,_,rfl,_,rfl,p,_,j,j.toNat,rfl,rfl,e8,?_,?_⟩
    · rw [lmap];unfold ixN;rw [if_pos j0,if_pos jl]
    refine ⟨_,rfl,fin b8 P8 ?_ fun v hv=>?_⟩
    · rw [List.length_set,lmap];lia
    · rcases List.mem_or_eq_of_mem_set hv with z|z
      · exact bB b100 v z
      · rw [z];exact gy'
  refine ⟨_,rfl,rfl,_,rfl,cN (fun c4=>?_) (fun c4=>?_)⟩
  · refine ⟨_,rfl,_,rfl,rfl,p,_,rfl,SqL.of e8,fun p' np'=>?_⟩;have n':=P8.ne np';refine ⟨_,rfl,q (.ref p') _ (b8.trans (But.of (Same.new np' _))) (P8.keep (Same.new np' _)) (cX (.inr ((bq n').trans ad)) ?_ fun v hv=>?_)⟩
    · rw [List.length_reverse,lmap];lia
    · exact bB b100 v (List.mem_reverse.mp hv)
  refine ⟨_,rfl,p,_,rfl,.inl ⟨SqL.of e8,fun t nt=>?_⟩⟩;have st:=Same.new nt (.tup (xs.map V.int));have et:upd H8 t (.tup (xs.map V.int)) t=_:=ad;have P9:=P8.keep st;have ntw:=P8.ne nt;have e9:=st _ _ e8;have b9:=b8.trans (But.of st);generalize upd H8 t (.tup (xs.map V.int))=H9 at et P9 e9 b9 ⊢;refine ⟨_,rfl,p,rfl,⟨_,SqL.of e9⟩,?_⟩;refine cJ (Trn.list (xs:=xs.map V.int)) (fun i ys H'=>∃ bs:List PrV,ys=bs.map (fun b=>V.ref b.1)∧Same H9 H'∧(∀ b∈bs,mK H' b)∧bs.map (fun b=>((.inl b.2.1:Key),b.2.2))=tr (xs.take i)) ⟨[],rfl,Same.refl _,(fun b hb=>nomatch hb),rfl⟩ (fun i ys H' hi z=>?_) (fun i x ys H0 H' hi hx z Nx nx=>?_) (fun ys HX z p5 n5=>?_)
  · obtain ⟨bs,rfl,S,_,z⟩:=z;have lb:=congrArg abJ z;rw [aaa,cK,aaL] at lb;exact ⟨SqL.of (S _ _ e9),by rw [aaa];exact au (by lia)⟩
  · obtain ⟨bs,rfl,S,hbs,z⟩:=z;obtain ⟨rfl,hx⟩:=hx;rw [aak] at hx;obtain ⟨x1,hx1,rfl⟩:=aaz.mp hx;refine ⟨_,rfl,t2,fun v nv=>nx _ _ ⟨bs++[(v,x1,.bl true)],by rw [aaG];rfl,S.trans (Same.new nv _),fun b hb=>?_,?_⟩⟩
    · rcases aay.mp hb with hb|hb
      · exact (Same.new nv _) _ _ (hbs b hb)
      · rw [aau.mp hb];exact ad
    · rw [aaG,z,aaE,hx1];unfold tr;rw [aaG];rfl
  obtain ⟨bs,rfl,S,hbs,z⟩:=z;rw [lmap,aaT] at z;have lb:=congrArg abJ z;rw [aaa,cK] at lb;have s5:=Same.new n5 (.lst (bs.map fun b=>V.ref b.1));have S5:=S.trans s5;have e5:upd HX p5 (.lst (bs.map fun b=>V.ref b.1)) p5=_:=ad;have hbs5:∀ b∈bs,mK (upd HX p5 (.lst (bs.map fun b=>V.ref b.1))) b:=fun b hb=>s5 _ _ (hbs b hb);have e10:=S5 _ _ e9;have et10:=S5 _ _ et;have P10:=P9.keep S5;have b10:=b9.trans (But.of S5);generalize upd HX p5 (.lst (bs.map fun b=>V.ref b.1))=HA at e5 hbs5 e10 et10 P10 b10 ⊢;refine ⟨p5,bs,rfl,e5,hbs5,by lia,fun dd ndd=>?_⟩;rw [z,show cC [] (tr xs)=tr (xs.foldl ins []) from fN xs []];have sd:=Same.new ndd (.dK (tr (xs.foldl ins [])));have ed:upd HA dd (.dK (tr (xs.foldl ins []))) dd=_:=ad;have ndw:=P10.ne ndd;have e11:=sd _ _ e10;have et11:=sd _ _ et10;have P11:=P10.keep sd;have b11:=b10.trans (But.of sd);generalize upd HA dd (.dK (tr (xs.foldl ins [])))=HB at ed e11 et11 P11 b11 ⊢;refine ⟨_,rfl,p,_,rfl,.inl (SqL.of e11),(by show 4≤sizeLine;decide),fun vl nvl=>?_⟩;have sv:=Same.new nvl (.lst [V.ref t,.ref dd,.non,.int ((xs.map V.int).length:Nat)]);have ev:upd HB vl (.lst [V.ref t,.ref dd,.non,.int ((xs.map V.int).length:Nat)]) vl=_:=ad;have nvw:=P11.ne nvl;have et12:=sv _ _ et11;have ed12:=sv _ _ ed;have P12:=P11.keep sv;have b12:=b11.trans (But.of sv);generalize upd HB vl (.lst [V.ref t,.ref dd,.non,.int ((xs.map V.int).length:Nat)])=HC at ev et12 ed12 P12 b12 ⊢;refine ⟨_,rfl,wl,4,rfl,by decide,by decide,P12,fun r8 HD d0 d1 BD PD=>?_⟩;obtain ⟨v,hv,hm⟩:=gf (xs:=[V.ref t,.ref dd,.non,.int ((xs.map V.int).length:Nat)]) d0 (by show r8 < 4;lia);refine ⟨vl,_,_,_,rfl,rfl,SqL.of (BD _ _ nvw ev),hv,q v HD (b12.trans BD) PD ?_⟩;simp only [aai,aaV,or_false] at hm;rcases hm with rfl|rfl|rfl|rfl
  · exact cX (.inl ((bq ntw).trans (BD _ _ ntw et12))) (by rw [lmap];lia) (bB b100)
  · refine sg ((bq ndw).trans (BD _ _ ndw ed12)) ?_ fun x hx=>?_
    · have : ∀ (ys acc:List Int),(ys.foldl ins acc).length≤acc.length+ys.length:=by
        intro ys
        induction ys with
        | nil=>intro acc;simp
        | cons y ys ih=>intro acc;have:=ih (ins acc y);have:=uc (xs:=acc) (k:=y);simp only [List.foldl_cons,aaC];lia
      have:=this xs [];simp only [abO] at this;lia
    · rcases (dy xs [] x).mp hx with z|z
      · cases z
      · exact b100 x z
  · exact (bL gM).r
  · exact (bL (d_ (by rw [lmap];lia))).r
end
open PySem L2
theorem iX {wl d:Addr} {Hx:Hp} {k:MK} {ks:List Int} {y:V} {ph:HO} (hk:MkIn Hx k y) (e:k=.tup ks) (hb:∀ i∈ks,i.natAbs≤100) (hl:ks.length≤4) (hp:Pot Hx wl) (hd:Hx d=some ph) (hn:∀ xs,ph≠.tup xs):Good (bR wl d Hx) y:=by
  subst e;obtain ⟨b,xs,rfl,h,bl⟩:=hk;have n1:b≠wl:=fun z=>by obtain ⟨_,_,_,e⟩:=hp;rw [z,e] at h;cases h
  have n2:b≠d:=fun z=>by rw [z,hd] at h;injection h with h;exact hn _ h
  have lx:ks.length=xs.length:=aav bl;exact dv (.inl ((ij n1 n2).trans h)) (by lia) (kW (C:=100) (by decide +kernel) (by decide) bl hb)
theorem rM {L:Int × Int→List Int} {G:Hp} {qs:List (Int × Int)} {kI:List (List Int × V)} {kk:List KEn} (h3:Paired (fun (q:Int × Int) (e:List Int × V)=>e.1=[q.1,q.2]∧∃ t,e.2=.ref t∧G t=some (.lst ((L q).map V.int))) qs kI) (r1:rdE kk=kI.map fun p=>(MK.tup p.1,p.2)):∀ e∈kk,∃ q∈qs,e.1=.tup [q.1,q.2]∧∃ t,e.2.2=.ref t∧G t=some (.lst ((L q).map V.int)):=fun e he=>by
  have h1:(e.1,e.2.2)∈rdE kk:=aar.mpr ⟨e,he,rfl⟩;rw [r1] at h1;obtain ⟨p,hp,e1⟩:=aar.mp h1;obtain ⟨i,hi⟩:=List.getElem?_of_mem hp;obtain ⟨q,hq,e2,t,e3,e4⟩:=Paired.at h3 hi;injection e1 with e5 e6
  exact ⟨q,aap hq,by rw [← e5,e2],t,by rw [← e6,e3],e4⟩
def StrIn (G:Hp) (ul:Addr):Prop:=∃ ys:List V,G ul=some (.lst ys)∧ys.length=7∧∀ y∈ys,(∃ k,MkIn G k y)∧Good G y
theorem StrIn.mono {G G':Hp} {ul:Addr} (g:Same G G') (h:StrIn G ul):StrIn G' ul:=by
  obtain ⟨ys,h1,h2,h3⟩:=h;refine ⟨ys,g _ _ h1,h2,fun y hy=>?_⟩;obtain ⟨⟨k,hk⟩,gy⟩:=h3 y hy;exact ⟨⟨k,hk.mono fun b xs e=>g _ _ e⟩,gy.mono g⟩
theorem qv {H:Hp} {d:Addr} {o:HO} (h:H d=some o):upd H d o=H:=by
  funext b;by_cases c:b=d
  · rw [c,ad,h]
  · rw [aj c]
section
variable {P:Program} {w:World} {K:aab} {mg:Str→Option Value} {base:Heap} {f:Addr} {fd:FuncData}
def ke (w:World):Sp:=fun vs H Q _=>∃ (wl a:Addr) (kvs:List (List Key × V)) (L:Int × Int→List Int) (n:Nat) (m:Int),vs=[.ref wl,.int m,.ref a]∧Pot H wl∧H a=some (.dT kvs)∧1≤n∧n≤9∧2≤m∧m≤60∧LlI L (off wl H) (aJ n) kvs∧RsQ m L (aJ n) ∧
  ∀ p d ks H',But wl H H'→Pot H' wl→H p=none→H d=none→H' p=some (.tup [.int m,.ref d])→DmIn w H' d ks→VOkR (bR wl d H') ks→ks.length≤60→Q (.ref p) H'
abbrev eP:Stmt:=top 44
theorem bw:FnScope ["pot","m","lists","found","strange","turn","places","at","way"] ["pot","m","lists"] (ao eP):=⟨rfl,rfl,rfl,by decide +kernel,rfl,by decide +kernel,by decide +kernel⟩
theorem kE (F:Fun K "_law_bent" "_law_bent" eP f fd) (B:Bu K mg) (C__law_take:Cal P w K mg base "_law_take" 2 ["pot","many"] dC) (C__law_bent_list:Cal P w K mg base "_law_bent_list" 3 ["pot","some","m"] kf):FnOk P w K mg base CX0 4 f fd ["pot","m","lists"] (ke w):=by
  refine F.ok bw (fun vs H Q E h=>?_) (fun cdv A outer s H vs Q E hr h=>?_)
  · obtain ⟨wl,a,kvs,L,n,m,rfl,_⟩:=h;rfl
  obtain ⟨wl,a,kvs,L,n,m,rfl,hP,ea,n1,n9,m2,m60,hb,hq,q⟩:=h;refine ⟨_,(@ag _ _ _ _ _ (@aG _ _ (3) _ _ _ _ (bw).nd rfl (Or.inl rfl) (@aT _ _ _ _ _ _ _ _ _ (@nY _ (w) rfl rfl) rfl B.idict abd (@aa _ _ _ _ _ (pv 2) ac (by rfl)) (by decide) (by decide) (by rfl) (by rfl)) (by rfl) (by first|exact .inl rfl|exact .inr rfl|assumption)) (@ag _ _ _ _ _ (@aG _ _ (4) _ _ _ _ (bw).nd rfl (Or.inl rfl) (@aQ _ _ _ _ (@aa _ _ _ _ _ (@aH _ _ _ _ _ (@aa _ _ _ _ _ ae (@aa _ _ _ _ _ ae ac (by rfl)) (by rfl))) (@aa _ _ _ _ _ (@aH _ _ _ _ _ (@aa _ _ _ _ _ (@fV _ _ _ _ _ _ dB ae) (@aa _ _ _ _ _ ae ac (by rfl)) (by rfl))) (@aa _ _ _ _ _ (@aH _ _ _ _ _ (@aa _ _ _ _ _ ae (@aa _ _ _ _ _ ae ac (by rfl)) (by rfl))) (@aa _ _ _ _ _ bK (@aa _ _ _ _ _ (@aH _ _ _ _ _ (@aa _ _ _ _ _ ae ac (by rfl))) (@aa _ _ _ _ _ ae (@aa _ _ _ _ _ bz ac (by rfl)) (by rfl)) (by rfl)) (by rfl)) (by rfl)) (by rfl)) (by rfl))) (by rfl) (by first|exact .inl rfl|exact .inr rfl|assumption)) (@ag _ _ _ _ _ (@a_ _ _ _ _ _ _ _ _ aaJ rfl (@bE _ _ _ _ _ _ rfl B.irange (@aa _ _ _ _ _ (@az _ _ _ _ _ _ _ _ bh ae (@aT _ _ _ _ _ _ _ _ _ gL rfl B.iint abu (@aa _ _ _ _ _ (@bp _ _ _ _ _ _ _ _ bD (@aq _ _ _ _ _ _ _ _ _ _ _ C__law_take hr (by lia) rfl (@aa _ _ _ _ _ (pv 0) (@aa _ _ _ _ _ ae ac (by rfl)) (by rfl)) (by decide) (by rfl) (by rfl)) ae (aC _)) ac (by rfl)) (by decide) (by decide) (by rfl) (by rfl))) ac (by rfl)) (by rfl)) (@ak _ _ (5) _ (bw).nd rfl (Or.inl rfl) (.inl rfl)) (@ag _ _ _ _ _ (@aG _ _ (6) _ _ _ _ (bw).nd rfl (Or.inl rfl) (@aT _ _ _ _ _ _ _ _ _ (@jd _ rfl) rfl B.ilist aaQ (@aa _ _ _ _ _ (pv 2) ac (by rfl)) (by decide) (by decide) (by rfl) (by rfl)) (by rfl) (by first|exact .inl rfl|exact .inr rfl|assumption)) (@ag _ _ _ _ _ (@aG _ _ (7) _ _ _ _ (bw).nd rfl (Or.inl rfl) (@bu _ _ _ _ _ _ _ ix_list (pv 6) (@aq _ _ _ _ _ _ _ _ _ _ _ C__law_take hr (by lia) rfl (@aa _ _ _ _ _ (pv 0) (@aa _ _ _ _ _ (@ai _ _ _ _ _ _ _ _ _ aF rfl B.ilen aaN (@aa _ _ _ _ _ (pv 6) ac (by rfl)) (by decide) (by decide) (by rfl) (by rfl)) ac (by rfl)) (by rfl)) (by decide) (by rfl) (by rfl)) (fun _ _=>rfl)) (by rfl) (by first|exact .inl rfl|exact .inr rfl|assumption)) (@ag _ _ _ _ _ (@aG _ _ (8) _ _ _ _ (bw).nd rfl (Or.inl rfl) (@aq _ _ _ _ _ _ _ _ _ _ _ C__law_take hr (by lia) rfl (@aa _ _ _ _ _ (pv 0) (@aa _ _ _ _ _ ae ac (by rfl)) (by rfl)) (by decide) (by rfl) (by rfl)) (by rfl) (by first|exact .inl rfl|exact .inr rfl|assumption)) (@af _ _ _ (@aI _ _ _ _ _ _ _ _ (@aE _ _ _ _ _ _ _ _ gU (pv 8) ae (aC _)) (@af _ _ _ (@ie _ _ _ _ _ _ _ _ _ (w) rfl (u1 hr.units) (pv 3) (pv 7) (@aq _ _ _ _ _ _ _ _ _ _ _ C__law_bent_list hr (by lia) rfl (@aa _ _ _ _ _ (pv 0) (@aa _ _ _ _ _ (@bH _ _ _ _ _ _ (w) rfl (u1 hr.units) (pv 2) (pv 7) (fun _ _=>rfl)) (@aa _ _ _ _ _ (pv 1) ac (by rfl)) (by rfl)) (by rfl)) (by decide) (by rfl) (by rfl)) rfl)) (@af _ _ _ (@aI _ _ _ _ _ _ _ _ (@aE _ _ _ _ _ _ _ _ bD (pv 8) ae (aC _)) (@af _ _ _ (@bT _ _ _ _ (@lT _ _ _ _ _ _ _ _ _ (w) rfl (u1 hr.units) (pv 3) (pv 7) bz ⟨rfl,rfl,rfl,rfl⟩) (by rfl))) (@af _ _ _ (@aI _ _ _ _ _ _ _ _ (@aE _ _ _ _ _ _ _ _ bD (pv 8) ae (aC _)) (@af _ _ _ (@ie _ _ _ _ _ _ _ _ _ (w) rfl (u1 hr.units) (pv 3) (@bu _ _ _ _ _ _ _ ix_list (pv 4) (@aq _ _ _ _ _ _ _ _ _ _ _ C__law_take hr (by lia) rfl (@aa _ _ _ _ _ (pv 0) (@aa _ _ _ _ _ ae ac (by rfl)) (by rfl)) (by decide) (by rfl) (by rfl)) (fun _ _=>rfl)) (@bH _ _ _ _ _ _ (w) rfl (u1 hr.units) (pv 2) (pv 7) (fun _ _=>rfl)) rfl)) (@af _ _ _ (@aI _ _ _ _ _ _ _ _ (@aE _ _ _ _ _ _ _ _ bD (pv 8) ae (aC _)) (@ag _ _ _ _ _ (@bT _ _ _ _ (@lT _ _ _ _ _ _ _ _ _ (w) rfl (u1 hr.units) (pv 3) (pv 7) bz ⟨rfl,rfl,rfl,rfl⟩) (by rfl)) (@af _ _ _ (@ie _ _ _ _ _ _ _ _ _ (w) rfl (u1 hr.units) (pv 3) (@bu _ _ _ _ _ _ _ ix_list (pv 4) (@aq _ _ _ _ _ _ _ _ _ _ _ C__law_take hr (by lia) rfl (@aa _ _ _ _ _ (pv 0) (@aa _ _ _ _ _ ae ac (by rfl)) (by rfl)) (by decide) (by rfl) (by rfl)) (fun _ _=>rfl)) (@bH _ _ _ _ _ _ (w) rfl (u1 hr.units) (pv 2) (pv 7) (fun _ _=>rfl)) rfl))) (@af _ _ _ (@aI _ _ _ _ _ _ _ _ (@uZ _ _ _ _ _ _ (w) rfl (u1 hr.units) (pv 7) (pv 3) (by with_unfolding_all rfl)) (@ag _ _ _ _ _ (@bT _ _ _ _ (@tU _ _ _ _ _ _ _ (w) rfl (u1 hr.units) (pv 3) (pv 7) ⟨rfl,rfl,rfl,rfl⟩) (by rfl)) (@af _ _ _ (@ie _ _ _ _ _ _ _ _ _ (w) rfl (u1 hr.units) (pv 3) (@aT _ _ _ _ _ _ _ _ _ fo rfl B.ituple abx (@aa _ _ _ _ _ (@cA _ _ _ _ _ _ _ _ (["number"]) ([none]) _ _ _ _ rfl (@qW _ _ _ _ (pv 7)) rfl trivial trivial (fun _ _ _ _=>⟨(@ak _ _ (0) _ (show aa7 (["number"]:List Str) by decide +kernel) rfl (Or.inl rfl) (.inr rfl)),aX,(@bu _ _ _ _ _ _ _ (@rO _ _ rfl) (@aQ _ _ _ _ (@aa _ _ _ _ _ bo (@aa _ _ _ _ _ bo (@aa _ _ _ _ _ (pv 0) ac (by rfl)) (by rfl)) (by rfl))) (@ai _ _ _ _ _ _ _ _ _ (@nX _ rfl) rfl B.imin PyProof.Rows.boot_min (@aa _ _ _ _ _ ae (@aa _ _ _ _ _ (pv 0) ac (by rfl)) (by rfl)) (by decide) (by decide) (by rfl) (by rfl)) (fun _ _=>rfl))⟩) (by rfl) (by rfl) (by rfl) (by rfl) (by intro _;rfl)) ac (by rfl)) (by decide) (by decide) (by rfl) (by rfl)) (@bH _ _ _ _ _ _ (w) rfl (u1 hr.units) (pv 2) (pv 7) (fun _ _=>rfl)) rfl))) aA))))))))))))) (by intro _;rfl)) (@af _ _ _ (@ap _ _ _ _ (@aH _ _ _ _ _ (@aa _ _ _ _ _ (pv 1) (@aa _ _ _ _ _ (pv 3) ac (by rfl)) (by rfl)))))))),?_⟩;have t2:(2:Nat)≤sizeLine:=by decide
  obtain ⟨kI,ek,ek2,ek3⟩:=kK hb;have lk:kI.length=(aJ n).length:=by have:=congrArg abJ ek2;simpa using this
  have l45:=eV n n9;have lpos:1≤(aJ n).length:=ack (iK (n:=n) (q:=(0,0)) (Int.le_refl _) (Int.le_refl _) (by simp only;lia));have hnd:(kI.map fun p=>hM w (.tup p.1)).Nodup:=by
    have e:(kI.map fun p=>hM w (.tup p.1))=(aJ n).map fun q=>hT [q.1,q.2]:=by
      have:=congrArg (List.map hT) ek2;rw [aaM,aaM] at this;exact this
    rw [e];exact pK n9
  have aw:a≠wl:=fun z=>by obtain ⟨_,_,_,e⟩:=hP;rw [← z,ea] at e;cases e
  refine ⟨_,rfl,a,kI,rfl,by rw [ea,ek],(fun z=>by rw [z] at lk;simp at lk;lia),hnd,by lia,fun d ks0 nD dm0 rd0=>?_⟩;have S1:=Same.new nD (dmX w d ks0);generalize hH1:upd H d (dmX w d ks0)=H1 at S1 dm0 ⊢;have hP1:=hP.keep S1;have dw:d≠wl:=hP.ne nD;have daN:a≠d:=ah ea nD;have lst2:∀ {H':Hp} {ks:List KEn} {t:Addr} {xs:List Int},But wl H H'→H' d=some (dmX w d ks)→off wl H t=some (.lst (xs.map V.int))→bR wl d H' t=some (.lst (xs.map V.int)):=fun {H' ks t xs} b hd e=>by
    have e1:=kH b _ _ e;have hc:t≠d:=fun z=>by
      have e':=off_le _ _ e1;rw [z,hd] at e';cases e'
    exact (bq hc).trans e1
  have gq:∀ {H':Hp} {ks:List KEn} {t:Addr} {q0:Int × Int},But wl H H'→H' d=some (dmX w d ks)→q0∈aJ n→off wl H t=some (.lst ((L q0).map V.int))→GoodR (bR wl d H') (.ref t):=fun {H' ks t q0} b hd hq0 e=>by
    obtain ⟨x1,x2⟩:=hq _ hq0;exact cX (.inr (lst2 b hd e)) (by rw [aaa];lia) (bB fun x hx=>by have:=x2 x hx;lia)
  have good0:VOkR (bR wl d H1) ks0:=fun e he=>by
    obtain ⟨q1,hq1,e1,t,e2,e3⟩:=rM ek3 rd0 e he;have qb:=fX n9 hq1;refine ⟨iX (dm0.keys e he) e1 (fun k hk=>by
      simp only [aai,aaV,or_false] at hk;rcases hk with rfl|rfl <;> lia) (by show 2≤4;decide) hP1 dm0.at_ kQ,?_⟩
    rw [e2];exact gq (But.of S1) dm0.at_ hq1 e3
  have bn1:Bn w wl d H H1 ks0:=⟨But.of S1,hP1,dm0,good0⟩
  have l0:ks0.length≤45:=by
    have:=congrArg abJ rd0;unfold rdE at this;rw [aaa,aaa] at this;lia
  have A:Al wl d H1 H1 []:=⟨Same.refl _,let ⟨_,_,_,e⟩:=hP1;⟨_,e⟩,⟨_,dm0.at_⟩,fun x hx=>nomatch hx⟩
  refine ⟨(by show 2≤sizeLine;decide),fun u1 n_u1=>?_⟩
  replace A:=A.new n_u1 (.tup [V.int 0,.int 99])
  generalize upd H1 u1 (.tup [V.int 0,.int 99])=h_u1 at A ⊢;refine ⟨_,rfl,(by show 2≤sizeLine;decide),fun u2 n_u2=>?_⟩
  replace A:=A.new n_u2 (.tup [V.int (-1),.int 0])
  generalize upd h_u1 u2 (.tup [V.int (-1),.int 0])=h_u2 at A ⊢;refine ⟨(by show 2≤sizeLine;decide),fun u3 n_u3=>?_⟩
  replace A:=A.new n_u3 (.tup [V.int 1,.int 0])
  generalize upd h_u2 u3 (.tup [V.int 1,.int 0])=h_u3 at A ⊢;refine ⟨(by show 1≤sizeLine;decide),fun u4 n_u4=>?_⟩
  replace A:=A.new n_u4 (.tup [V.int 0])
  generalize upd h_u3 u4 (.tup [V.int 0])=h_u4 at A ⊢;refine ⟨(by show 7≤sizeLine;decide),fun ul n_ul=>?_⟩
  replace A:=A.new n_ul (.lst [V.ref u1,.ref u2,.ref u3,.str "a",.ref u4,.int 0,.non])
  generalize upd h_u4 ul (.lst [V.ref u1,.ref u2,.ref u3,.str "a",.ref u4,.int 0,.non])=h_ul at A ⊢;have st2:StrIn (bR wl d h_ul) ul:=by
    have small:(100:Nat) < 10 ^ 280:=by decide +kernel
    refine ⟨_,A.at 0 rfl,rfl,fun y hy=>?_⟩;simp only [aai,aaV,or_false] at hy;rcases hy with rfl|rfl|rfl|rfl|rfl|rfl|rfl
    · exact ⟨⟨.tup [0,99],u1,_,rfl,A.at 4 rfl,BiL.ints [0,99]⟩,dv (.inl (A.at 4 rfl)) (by show 2≤4;decide) (kY (bG small (by decide)) (bG small (by decide)))⟩
    · exact ⟨⟨.tup [-1,0],u2,_,rfl,A.at 3 rfl,BiL.ints [-1,0]⟩,dv (.inl (A.at 3 rfl)) (by show 2≤4;decide) (kY (bG small (by decide)) (bG small (by decide)))⟩
    · exact ⟨⟨.tup [1,0],u3,_,rfl,A.at 2 rfl,BiL.ints [1,0]⟩,dv (.inl (A.at 2 rfl)) (by show 2≤4;decide) (kY (bG small (by decide)) (bG small (by decide)))⟩
    · exact ⟨⟨.str "a",rfl⟩,kO (n8 (by decide +kernel))⟩
    · exact ⟨⟨.tup [0],u4,_,rfl,A.at 1 rfl,BiL.ints [0]⟩,dv (.inl (A.at 1 rfl)) (by show 1≤4;decide) (o0 (bG small (by decide)))⟩
    · exact ⟨⟨.int 0,rfl⟩,kO (bG small (by decide))⟩
    · exact ⟨⟨.non,rfl⟩,kO gM⟩
  have bn2:=bn1.same A.same;clear A;refine ⟨_,rfl,wl,3,rfl,by decide,by decide,bn2.pot,fun r0 H2 _ _ B2 hP2=>⟨rfl,.inr ⟨_,rfl,_,_,rfl,rfl,_,rfl,by split <;> decide,by split <;> decide,?_⟩⟩⟩;have turns:(1+(if decide (V.int r0=V.int 0)=true then (1:Int) else 0)).toNat≤2:=by split <;> decide
  have bn3:=bn2.step B2 hP2 dw;have st3:=st2.mono (cI B2);refine br (n:=(1+(if decide (V.int r0=V.int 0)=true then (1:Int) else 0)).toNat) (fun i σ H'=>∃ (ks:List KEn) (c5 c6 c7 c8:Option V),σ=[some (.ref wl),some (.int m),some (.ref a),some (.ref d),some (.ref ul),c5,c6,c7,c8]∧Bn w wl d H H' ks∧StrIn (bR wl d H') ul∧ks.length≤45+i) ⟨ks0,_,_,_,_,rfl,bn3,st3,by lia⟩ ?_ ?_
  · rintro i σ H3 hi ⟨ks,c5,c6,c7,c8,rfl,bn,st,l3⟩;have hi2:i < 2:=by lia
    have ea3:=bn.but _ _ aw ea;refine ⟨_,rfl,a,kI,rfl,by rw [ea3,ek],by lia,fun pl kk npl r1 r2=>?_⟩;have lkk:kk.length=(aJ n).length:=by
      have:=congrArg abJ r1;unfold rdE at this;rw [aaa,aaa] at this;lia
    have ll:(kk.map (·.2.1)).length=kk.length:=aaa _;have ndk:(kk.map (·.1)).Nodup:=by
      have e:kk.map (·.1)=(aJ n).map fun q=>MK.tup [q.1,q.2]:=by
        have h1:=congrArg (List.map (·.1)) r1;unfold rdE at h1;rw [aaM,aaM] at h1;have h2:=congrArg (List.map MK.tup) ek2;rw [aaM,aaM] at h2;exact h1.trans h2
      rw [e];refine acU _ (fun a b hab z=>hab ?_) (dc n n9);injection z with z
      injection z with z1 z
      injection z with z2
      exact Prod.ext z1 z2
    have sl:=Same.new npl (.lst (kk.map (·.2.1)));have epl:upd H3 pl (.lst (kk.map (·.2.1))) pl=_:=ad;have nplw:pl≠wl:=bn.pot.ne npl;have bn4:=bn.same sl;have st4:=st.mono (fe (w:=wl) (z:=d) sl);have r24:∀ e∈kk,MkIn (upd H3 pl (.lst (kk.map (·.2.1)))) e.1 e.2.1:=fun e he=>(r2 e he).mono fun b xs e=>sl _ _ e;generalize upd H3 pl (.lst (kk.map (·.2.1)))=H4 at epl bn4 st4 r24 ⊢;refine ⟨_,rfl,_,rfl,_,rfl,pl,_,rfl,.inl (SqL.of epl),wl,((kk.map (·.2.1)).length:Nat),rfl,by lia,by lia,bn4.pot,fun ra H5 a1 b1 B5 hP5=>?_⟩;rw [ll] at b1;obtain ⟨e1,hk1⟩:∃ e1,kk[ra.toNat]?=some e1:=⟨kk[ra.toNat]'(by lia),aac _⟩
    have at1:atI (kk.map (·.2.1)) ra=some e1.2.1:=by
      have h:atI (kk.map (·.2.1)) ((ra.toNat:Nat):Int)=some e1.2.1:=cV (by rw [aak,hk1];rfl)
      rwa [show ((ra.toNat:Nat):Int)=ra by lia] at h
    have epl5:=B5 _ _ nplw epl;have bn5:=bn4.step B5 hP5 dw;have st5:=st4.mono (cI (z:=d) B5);have m1:=aap hk1;obtain ⟨q1,hq1,ek1,t1,ev1,et1⟩:=rM ek3 r1 e1 m1;have val1:bg (kI.map fun p=>(MK.tup p.1,p.2)) e1.1=some (.ref t1):=by rw [← r1,uW ndk m1,ev1]
    have hk5:MkIn H5 e1.1 e1.2.1:=(r24 e1 m1).mono (bn4.pot.tups B5);refine ⟨pl,_,_,_,rfl,rfl,SqL.of epl5,at1,?_⟩;refine ⟨_,rfl,wl,9,rfl,by decide,by decide,hP5,fun wy H6 wy0 wy9 B6 hP6=>?_⟩;have bn6:=bn5.step B6 hP6 dw;have st6:=st5.mono (cI (z:=d) B6);have hk6:MkIn H6 e1.1 e1.2.1:=hk5.mono (hP5.tups B6);have qb:=fX n9 hq1;have gk:∀ {H':Hp} {ks':List KEn},MkIn H' e1.1 e1.2.1→Bn w wl d H H' ks'→Good (bR wl d H') e1.2.1:=fun {H' ks'} hk b=>iX hk ek1 (fun k hk=>by
      simp only [aai,aaV,or_false] at hk;rcases hk with rfl|rfl <;> lia) (by show 2≤4;decide) b.pot b.dm.at_ kQ
    have get1:∀ {H':Hp} {ks':List KEn},MkIn H' e1.1 e1.2.1→Bn w wl d H H' ks'→lf w H' a e1.2.1 (some (.ref t1)):=fun {H' ks'} hk b=>⟨_,e1.1,.inl ⟨kI,(b.but _ _ aw ea).trans (by rw [ek]),rfl⟩,hk,val1.symm⟩
    have t1w:t1≠wl:=fun z=>by unfold off at et1;rw [if_pos z] at et1;cases et1
    have ea6:=bn6.but _ _ aw ea;refine ⟨_,rfl,_,_,rfl,rfl,_,rfl,cN (fun c1=>?_) (fun c1=>?_)⟩
    · obtain ⟨x1,x2⟩:=hq _ hq1;refine ⟨_,rfl,_,rfl,_,rfl,a,_,rfl,get1 hk6 bn6,_,rfl,wl,t1,L q1,m,rfl,hP6,t1w,(off_le _ _ (kH bn6.but _ _ et1)),x1,x2,m2,m60,fun v H7 B7 P7 gv=>?_⟩;have bn7:=bn6.step B7 P7 dw;have hk7:=hk6.mono (hP6.tups B7);refine ⟨_,rfl,_,rfl,d,ks,e1.1,rfl,bn7.dm,hk7,by lia,?_⟩;exact ⟨_,_,_,_,_,rfl,bn7.put nD dw hk7 (gk hk7 bn7) (gv.two bn7.dm.at_) (by lia),by rw [cn];exact st6.mono (cI B7),aa1 (eR _ _ _ _) (by lia)⟩
    refine ⟨_,rfl,rfl,_,rfl,cN (fun c2=>?_) (fun c2=>?_)⟩
    · refine ⟨_,rfl,d,_,rfl,.inr (.inl ⟨ks,bn6.dm,rfl⟩),_,rfl,ks,e1.1,bn6.dm,hk6,fun v hv=>?_,fun hn=>?_⟩
      · exact ⟨_,_,_,_,_,rfl,bn6.drop nD dw,by rw [cn];exact st6,aa1 (abW _ _) (by lia)⟩
      · exact ⟨_,_,_,_,_,rfl,bn6,st6,by lia⟩
    refine ⟨_,rfl,rfl,_,rfl,cN (fun c3=>?_) (fun c3=>?_)⟩
    · refine ⟨_,rfl,_,rfl,a,_,rfl,get1 hk6 bn6,_,rfl,_,rfl,_,rfl,wl,7,rfl,by decide,by decide,bn6.pot,fun r5 H7 c0 c1 B7 P7=>?_⟩;have bn7:=bn6.step B7 P7 dw;obtain ⟨ys,h1,h2,h3⟩:=st6.mono (cI (z:=d) B7);obtain ⟨y,hy,hmem⟩:=gf (xs:=ys) c0 (by rw [h2];show r5 < 7;lia);obtain ⟨⟨k,hk⟩,gy⟩:=h3 y hmem;have hk7:MkIn H7 k y:=hk.mono fun b xs e=>fZ _ _ e;refine ⟨ul,_,_,_,rfl,rfl,SqL.of (fZ _ _ h1),hy,d,ks,k,rfl,bn7.dm,hk7,by lia,?_⟩;exact ⟨_,_,_,_,_,rfl,bn7.put nD dw hk7 gy (gq bn7.but bn7.dm.at_ hq1 et1) (by lia),by rw [cn];exact ⟨ys,h1,h2,h3⟩,aa1 (eR _ _ _ _) (by lia)⟩
    refine ⟨_,rfl,rfl,_,rfl,cN (fun c4=>?_) (fun c4=>?_)⟩
    · have e0:bg (rdE ks) e1.1=none→upd H6 d (dmX w d (bM ks e1.1))=H6:=fun hn=>by rw [nQ hn];exact qv bn6.dm.at_
      have bnd:=bn6.drop (k:=e1.1) nD dw;have std:StrIn (bR wl d (upd H6 d (dmX w d (bM ks e1.1)))) ul:=by rw [cn];exact st6
      have hkd:MkIn (upd H6 d (dmX w d (bM ks e1.1))) e1.1 e1.2.1:=hk6.mono fun b xs e=>by rw [aj (fun z=>by rw [z,bn6.dm.at_] at e;cases e)];exact e
      have ld:(bM ks e1.1).length≤ks.length:=abW _ _;refine ⟨_,rfl,d,_,rfl,.inr (.inl ⟨ks,bn6.dm,rfl⟩),_,rfl,ks,e1.1,bn6.dm,hk6,?_⟩;refine (fun (tl:(?R:Prop))=>?mn) ?tt
      case mn =>
        refine ⟨fun v hv=>?_,fun hn=>?_⟩
        · dsimp only;exact tl
        · rw [e0 hn] at tl;exact tl
      generalize upd H6 d (dmX w d (bM ks e1.1))=Hd at bnd std hkd ⊢;refine ⟨_,rfl,_,rfl,a,_,rfl,get1 hkd bnd,_,rfl,_,rfl,_,rfl,wl,7,rfl,by decide,by decide,bnd.pot,fun r5 H7 c0 c1 B7 P7=>?_⟩;have bn7:=bnd.step B7 P7 dw;obtain ⟨ys,h1,h2,h3⟩:=std.mono (cI (z:=d) B7);obtain ⟨y,hy,hmem⟩:=gf (xs:=ys) c0 (by rw [h2];show r5 < 7;lia);obtain ⟨⟨k,hk⟩,gy⟩:=h3 y hmem;have hk7:MkIn H7 k y:=hk.mono fun b xs e=>fZ _ _ e;refine ⟨ul,_,_,_,rfl,rfl,SqL.of (fZ _ _ h1),hy,d,bM ks e1.1,k,rfl,bn7.dm,hk7,by lia,?_⟩;exact ⟨_,_,_,_,_,rfl,bn7.put nD dw hk7 gy (gq bn7.but bn7.dm.at_ hq1 et1) (by lia),by rw [cn];exact ⟨ys,h1,h2,h3⟩,aa1 (eR _ _ _ _) (by lia)⟩
    refine ⟨_,rfl,_,rfl,d,_,rfl,⟨_,e1.1,.inr (.inl ⟨ks,bn6.dm,rfl⟩),hk6,rfl⟩,_,rfl,?_⟩;refine cN (fun hs=>?_) (fun hs=>?_)
    · obtain ⟨v,hv⟩:=acE.mp hs;refine ⟨_,rfl,d,_,rfl,.inr (.inl ⟨ks,bn6.dm,rfl⟩),_,rfl,ks,e1.1,v,bn6.dm,hk6,hv,?_⟩;have bnd:=bn6.drop (k:=e1.1) nD dw;have std:StrIn (bR wl d (upd H6 d (dmX w d (bM ks e1.1)))) ul:=by rw [cn];exact st6
      have hkd:MkIn (upd H6 d (dmX w d (bM ks e1.1))) e1.1 e1.2.1:=hk6.mono fun b xs e=>by rw [aj (fun z=>by rw [z,bn6.dm.at_] at e;cases e)];exact e
      have ld:(bM ks e1.1).length≤ks.length:=abW _ _;generalize upd H6 d (dmX w d (bM ks e1.1))=Hd at bnd std hkd ⊢;obtain ⟨b1',xs1,ey,hb1,bl1⟩:∃ b xs,e1.2.1=.ref b∧Hd b=some (.tup xs)∧BiL [q1.1,q1.2] xs:=by
        have:=hkd;rw [ek1] at this;exact this
      have lx1:xs1.length=2:=(aav bl1).symm;refine ⟨_,rfl,_,rfl,a,_,rfl,get1 hkd bnd,?_⟩;rw [ey];refine ⟨_,rfl,_,rfl,b1',rfl,⟨_,SqT.of hb1⟩,?_⟩;refine cJ (Trn.tup (xs:=xs1)) (fun j ys H'=>Same Hd H'∧BiL ([q1.1,q1.2].take j) ys) ⟨Same.refl _,.nil⟩ (fun j ys H' hj p=>⟨SqT.of (p.1 _ _ hb1),abY (show ys.length≤2 by rw [← aav p.2,aaL];exact Nat.min_le_right _ _) (by rw [sizeLine_eq];decide)⟩) (fun j x ys H0 H' hj hx p Nx nx=>?_) (fun ys H' p p5 n5=>?_)
      · obtain ⟨S,bl⟩:=p;obtain ⟨rfl,hx⟩:=hx;obtain ⟨k,hk,bk⟩:=Paired.at bl1 hx;have kr:0≤k∧k≤8:=by
          have:=aap hk;simp only [aai,aaV,or_false] at this;rcases this with rfl|rfl <;> lia
        have stepT:∀ v,BiV k v→BiL ([q1.1,q1.2].take (j+1)) (ys++[v]):=fun v hv=>by
          rw [aaE,hk];exact Paired.app bl (.cons hv .nil)
        refine ⟨_,rfl,(by show 3≤sizeLine;decide),fun pq npq=>?_⟩;have spq:=Same.new npq (.lst [V.bl false,.bl true,x]);refine ⟨_,rfl,_,_,2,k,rfl,.inl rfl,bk,?_⟩;by_cases ck:k < 2
        · rw [if_pos ck];have : k=0∨k=1:=by lia
          rcases this with rfl|rfl
          · exact ⟨pq,_,0,.bl false,rfl,bk,SqL.of ad,rfl,by decide,nx _ _ ⟨S.trans spq,stepT _ (.inr ⟨false,rfl,rfl⟩)⟩⟩
          · exact ⟨pq,_,1,.bl true,rfl,bk,SqL.of ad,rfl,by decide,nx _ _ ⟨S.trans spq,stepT _ (.inr ⟨true,rfl,rfl⟩)⟩⟩
        · rw [if_neg ck];exact ⟨pq,_,2,x,rfl,.inl rfl,SqL.of ad,rfl,by decide,nx _ _ ⟨S.trans spq,stepT _ bk⟩⟩
      · obtain ⟨S,bl⟩:=p;rw [lx1] at bl;have s5:=Same.new n5 (.lst ys);refine ⟨p5,ys,rfl,.inl ⟨SqL.of ad,fun l nl=>?_⟩⟩;have sl':=(S.trans s5).trans (Same.new nl (.tup ys));have el:upd (upd H' p5 (.lst ys)) l (.tup ys) l=some (.tup ys):=ad;have bn10:=bnd.same sl';have st10:=std.mono (fe (w:=wl) (z:=d) sl');generalize upd (upd H' p5 (.lst ys)) l (.tup ys)=H10 at sl' el bn10 st10 ⊢;have hkl:MkIn H10 (.tup [q1.1,q1.2]) (.ref l):=⟨l,ys,rfl,el,bl⟩
        have gkl:Good (bR wl d H10) (.ref l):=iX hkl rfl (fun k hk=>by
          simp only [aai,aaV,or_false] at hk;rcases hk with rfl|rfl <;> lia) (by show 2≤4;decide) bn10.pot bn10.dm.at_ kQ
        refine ⟨d,bM ks e1.1,_,rfl,bn10.dm,hkl,by lia,?_⟩;exact ⟨_,_,_,_,_,rfl,bn10.put nD dw hkl gkl (gq bn10.but bn10.dm.at_ hq1 et1) (by lia),by rw [cn];exact st10,aa1 (eR _ _ _ _) (by lia)⟩
    · exact ⟨_,_,_,_,_,rfl,bn6,st6,by lia⟩
  · rintro σ H3 ⟨ks,c5,c6,c7,c8,rfl,bn,st,l3⟩;refine ⟨_,rfl,_,rfl,t2,fun p np=>?_⟩;have sp:=Same.new np (.tup [.int m,.ref d]);have bn9:=bn.same sp;have npH:H p=none:=by
      cases g:H p with
      | none=>rfl
      | some o =>
        by_cases hw:p=wl
        · obtain ⟨a1,c1,k1,e⟩:=bn.pot;rw [hw,e] at np;cases np
        · have:=bn.but _ _ hw g;rw [np] at this;cases this
    exact q p d ks _ bn9.but bn9.pot npH nD ad bn9.dm bn9.vo (by lia)
end
open PySem L2
theorem wj {ds:List PyData} (h:∀ d∈ds,Sm d):OkXs ds∧szXs ds≤6 * ds.length∧aaF ds≤2:=by
  induction ds with
  | nil=>exact ⟨by simp only [OkXs],by simp [szXs],by simp [aaF]⟩
  | cons d ds ih =>
    obtain ⟨a,b,c⟩:=h d aan;obtain ⟨x,y,z⟩:=ih fun e he=>h e (aaj _ he);refine ⟨by simp only [OkXs];exact ⟨a,x⟩,by simp only [szXs,aaC];lia,by simp only [aaF];lia⟩
theorem tm {a b:Int} (ha:a.natAbs < 10 ^ 280) (hb:b.natAbs < 10 ^ 280):Sm (.tuple [.int a,.int b]):=by
  refine ⟨?_,by simp [szX,szXs],by simp [aa0,aaF]⟩;simp only [OkX,OkXs];exact ⟨ha,hb,trivial⟩
theorem uo {a:Int} (h:a.natAbs≤100):a.natAbs < 10 ^ 280:=abY h (by decide +kernel)
theorem l9 {wl:Addr} {H:Hp} (hp:Pot H wl):Tups H (off wl H):=fun b xs e=>by
  obtain ⟨_,_,_,e'⟩:=hp;rw [bq (fun z=>by rw [z,e'] at e;cases e)];exact e
theorem DmIn.off {w:World} {wl d:Addr} {H:Hp} {ks:List KEn} (h:DmIn w H d ks) (hp:Pot H wl) (n:d≠wl):DmIn w (off wl H) d ks :=
  ⟨(bq n).trans h.at_,fun p hp'=>(h.keys p hp').mono (l9 hp),h.nd,h.len⟩
theorem rN {G:Hp} {k:MK} {ks:List Int} {y:V} (hk:MkIn G k y) (e:k=.tup ks) (hb:∀ i∈ks,i.natAbs≤100) (hl:ks.length≤4):Good G y:=by
  subst e;obtain ⟨b,xs,rfl,h,bl⟩:=hk;have lx:ks.length=xs.length:=aav bl;exact dv (.inl h) (by lia) (kW (C:=100) (by decide +kernel) (by decide) bl hb)
theorem rY {H:Hp}:∀ {ys:List V},(∀ y∈ys,GoodR H y)→∃ ds,Paired (Dat H) ds ys∧∀ d∈ds,SmR d
  | [],_=>⟨[],.nil,fun d hd=>nomatch hd⟩
  | y :: ys,h=>by
    obtain ⟨d,h1,h2⟩:=h y aan;obtain ⟨ds,h3,h4⟩:=rY (ys:=ys) fun x hx=>h x (aaj _ hx);refine ⟨d :: ds,.cons h1 h3,fun x hx=>?_⟩;rcases aai.mp hx with rfl|hx
    · exact h2
    · exact h4 x hx
theorem mZ:∀ {ks ds:List PyData},(∀ d∈ks,Sm d)→(∀ d∈ds,SmR d)→OkKv (ks.zip ds)∧szKv (ks.zip ds)≤136 * ks.length∧ab2 (ks.zip ds)≤2
  | [],_,_,_=>⟨by simp only [List.zip_nil_left,OkKv],by simp [szKv],by simp [ab2]⟩
  | _ :: _,[],_,_=>⟨by simp only [List.zip_nil_right,OkKv],by simp [szKv],by simp [ab2]⟩
  | k :: ks,d :: ds,h1,h2=>by
    obtain ⟨a,b,c⟩:=h1 k aan;obtain ⟨a',b',c'⟩:=h2 d aan;obtain ⟨x,y,z⟩:=mZ (ks:=ks) (ds:=ds) (fun e he=>h1 e (aaj _ he)) (fun e he=>h2 e (aaj _ he));refine ⟨by simp only [acn,OkKv];exact ⟨a,a',x⟩,by simp only [acn,szKv,aaC];lia,by simp only [acn,ab2];lia⟩
def Pap (w:World) (G:Hp) (a:Addr):Prop:=∃ (ps:PPa) (dd:PyData),PaIn w G a ps∧(ps.map (·.1)).Nodup∧(∀ p∈ps,∀ ds,p.2=.list ds→ds.length≤200)∧Dx0 w G dd (.ref a)∧OkX dd∧szX dd≤9000∧dd.depth≤3
def ppL (L:Int × Int→List Int) (qs:List (Int × Int)):PPa:=qs.map fun q=>(.tup [q.1,q.2],.list ((L q).map PyData.int))
theorem uv {w:World} {L:Int × Int→List Int} {G:Hp} {a:Addr} {qs:List (Int × Int)} {kvs:List (List Key × V)} (ha:G a=some (.dT kvs)) (h:LlI L G qs kvs):PaIn w G a (ppL L qs):=by
  obtain ⟨kI,rfl,e2,e3⟩:=kK h;refine ⟨_,.inl ⟨kI,ha,rfl⟩,?_⟩;clear ha h e2;unfold ppL
  induction e3 with
  | nil=>exact .nil
  | cons h t ih =>
    obtain ⟨h1,t',h2,h3⟩:=h;refine .cons ⟨congrArg MK.tup h1.symm,?_⟩ ih;simp only [Dat];exact ⟨t',_,h2,h3,f_ _⟩
theorem qF {xs:List Int} (hl:xs.length≤60) (hx:∀ x∈xs,x.natAbs≤100):SmR (.list (xs.map PyData.int)):=by
  refine ⟨?_,by simp only [szX,om];lia,by simp only [aa0,oS];lia⟩;simp only [OkX];exact oH fun i hi=>by have:=hx i hi;lia
theorem rg {w:World} {L:Int × Int→List Int} {G:Hp} {a:Addr} {n:Nat} {m:Int} {kvs:List (List Key × V)} (n9:n≤9) (m60:m≤60) (ha:G a=some (.dT kvs)) (h:LlI L G (aJ n) kvs) (hq:RsQ m L (aJ n)):Pap w G a:=by
  have hl:=eV n n9;have lk:kvs.length=(aJ n).length:=(aav h).symm;have ek:=h.keys;have hv:Paired (Dat G) ((aJ n).map fun q=>PyData.list ((L q).map PyData.int)) (kvs.map (·.2)):=by
    have h':=h;unfold LlI at h';generalize aJ n=qs at h';clear hl lk ek hq ha h
    induction h' with
    | nil=>exact .nil
    | cons h t ih =>
      obtain ⟨_,t',h2,h3⟩:=h;refine .cons ?_ ih;simp only [Dat];exact ⟨t',_,h2,h3,f_ _⟩
  have sv:∀ q∈aJ n,SmR (.list ((L q).map PyData.int)):=fun q hq'=>by
    obtain ⟨x1,x2⟩:=hq q hq';exact qF x1 fun x hx=>by have:=x2 x hx;lia
  obtain ⟨x,y,z⟩:=mZ (ks:=kvs.map fun p=>PyData.tuple (p.1.map nK)) (ds:=(aJ n).map fun q=>PyData.list ((L q).map PyData.int)) (fun d hd=>by
    obtain ⟨p,hp,rfl⟩:=aar.mp hd;have : p.1∈kvs.map (·.1):=aca hp;rw [ek] at this;obtain ⟨q,hq',e⟩:=aar.mp this;rw [← e];obtain ⟨r1,r2,r3,r4⟩:=fX n9 hq';exact tm (uo (by lia)) (uo (by lia))) (fun d hd=>by
    obtain ⟨q,hq',rfl⟩:=aar.mp hd;exact sv q hq')
  refine ⟨ppL L (aJ n),_,uv ha h,?_,fun p hp ds e=>?_,.inr (.inl ⟨a,kvs,_,rfl,ha,hv,rfl⟩),by simp only [OkX];exact x,?_,?_⟩
  · unfold ppL;rw [aaM];refine acU _ (fun a b hab z=>hab ?_) (dc n n9);have z:MK.tup [a.1,a.2]=MK.tup [b.1,b.2]:=z;injection z with z
    injection z with z1 z
    injection z with z2
    exact Prod.ext z1 z2
  · obtain ⟨q,hq',rfl⟩:=aar.mp hp;injection e with e
    rw [← e,aaa];have:=(hq q hq').1;lia
  · simp only [szX];rw [aaa] at y;lia
  · simp only [aa0];lia
theorem rf {w:World} {G:Hp} {a:Addr} {ks:List KEn} (hd:DmIn w G a ks) (hv:VOkR G ks) (hl:ks.length≤60):Pap w G a:=by
  obtain ⟨kd,k1,k2⟩:=r_ (H:=G) (ys:=ks.map (·.2.1)) (fun y hy=>by
    obtain ⟨e,he,rfl⟩:=aar.mp hy;exact (hv e he).1)
  obtain ⟨vd,v1,v2⟩:=rY (H:=G) (ys:=ks.map (·.2.2)) (fun y hy=>by
    obtain ⟨e,he,rfl⟩:=aar.mp hy;exact (hv e he).2)
  obtain ⟨x,y,z⟩:=mZ k2 v2;have lk:=aav k1;have lv:=aav v1;rw [aaa] at lk lv;refine ⟨(ks.map (·.1)).zip vd,.dict (kd.zip vd),⟨_,.inr (.inl ⟨ks,hd,rfl⟩),?_⟩,?_,fun p hp ds e=>?_,.inr (.inr ⟨a,ks,kd,vd,rfl,hd,k1,v1,rfl⟩),by simp only [OkX];exact x,by simp only [szX];lia,by simp only [aa0];lia⟩
  · clear lk lv x y z k1 k2 v2 hl hd hv
    induction ks generalizing vd with
    | nil=>exact .nil
    | cons e ks ih =>
      cases v1 with
      | cons h t=>exact .cons ⟨rfl,h⟩ (ih _ t)
  · rw [List.map_fst_zip (by rw [aaa];lia)];exact hd.nd
  · obtain ⟨_,s1,_⟩:=v2 _ (List.of_mem_zip hp).2;rw [e] at s1;have:=lh ds;simp only [szX] at s1;lia
def Itm (w:World) (G:Hp) (v:V):Prop:=∃ d,Dx0 w G d v∧OkX d∧szX d≤9000∧d.depth≤3
theorem Pap.itm {w:World} {G:Hp} {a:Addr} (h:Pap w G a):Itm w G (.ref a):=by
  obtain ⟨_,dd,_,_,_,h1,h2,h3,h4⟩:=h;exact ⟨dd,h1,h2,h3,h4⟩
theorem rQ {w:World} {G:Hp} {v:V} (h:At0 v):Itm w G v:=by
  obtain ⟨d,h1,h2,h3,h4⟩:=dj h;exact ⟨d,.inl (h1 G),h2,by lia,by lia⟩
theorem p_ {w:World} {G:Hp} {p:Addr} {ys:List V} (h:G p=some (.lst ys)) (hl:ys.length≤100) (hg:∀ y∈ys,Good G y):Itm w G (.ref p):=by
  obtain ⟨ds,h1,h2⟩:=r_ hg;obtain ⟨x,y,z⟩:=wj h2;have ll:=aav h1;exact ⟨.list ds,.inl (by simp only [Dat];exact ⟨p,ys,rfl,h,kS h1⟩),by simp only [OkX];exact x,by simp only [szX];lia,by simp only [aa0];lia⟩
theorem fb {w:World} {K:aab} {G:Hp} {v:V} {n:String} (ty:TyOf K G v (.type n)) (hk:ach K (.type n) (.type "tuple")=some false) (h:Itm w G v):TR w K G v:=by
  obtain ⟨d,h1,h2,h3,h4⟩:=h;exact ⟨none,d,.inl ⟨n,ty,hk⟩,(fun _ _ e=>nomatch e),.inl h1,h2,by lia,by lia⟩
theorem uj {w:World} {K:aab} {G:Hp} {v:V} (h:At0 v):TR w K G v:=by
  have i:=rQ (w:=w) (G:=G) h;rcases h with rfl|⟨b,rfl⟩|⟨i',rfl,hi⟩|⟨z,rfl,hz⟩
  · exact fb .non rfl i
  · exact fb (.bl b) rfl i
  · exact fb (.int i') rfl i
  · exact fb (.str z) rfl i
theorem vV {w:World} {K:aab} {G:Hp} {p:Addr} (h:G p=some (.dK [])):TR w K G (.ref p) :=
  fb (.dK h) rfl ⟨.dict [],.inl (by simp only [Dat,DatKv];exact ⟨p,[],rfl,h,rfl⟩),by simp only [OkX,OkKv],by simp [szX,szKv],by simp [aa0,ab2]⟩
theorem ux {w:World} {G:Hp} {x:V} (h:Itm w G x):∃ ds,Paired (Dx0 w G) ds [x]∧OkXs ds∧szXs ds≤9000∧aaF ds≤3:=by
  obtain ⟨d,h1,h2,h3,h4⟩:=h;exact ⟨[d],.cons h1 .nil,by simp only [OkXs];exact ⟨h2,trivial⟩,by simp only [szXs];lia,by simp only [aaF];lia⟩
theorem rP {w:World} {G:Hp} {x:V} {xs:List V} {c:Nat} (h:At0 x) (t:∃ ds,Paired (Dx0 w G) ds xs∧OkXs ds∧szXs ds≤c∧aaF ds≤3):∃ ds,Paired (Dx0 w G) ds (x :: xs)∧OkXs ds∧szXs ds≤c+1∧aaF ds≤3:=by
  obtain ⟨d,h1,h2,h3,h4⟩:=dj h;obtain ⟨ds,t1,t2,t3,t4⟩:=t;exact ⟨d :: ds,.cons (.inl (h1 G)) t1,by simp only [OkXs];exact ⟨h2,t2⟩,by simp only [szXs];lia,by simp only [aaF];lia⟩
theorem wH {w:World} {G:Hp} {x:V} {y:V} {c:Nat} (t:∃ ds,Paired (Dx0 w G) ds [y]∧OkXs ds∧szXs ds≤c∧aaF ds≤3) (h:At0 x):∃ ds,Paired (Dx0 w G) ds [y,x]∧OkXs ds∧szXs ds≤c+1∧aaF ds≤3:=by
  obtain ⟨d,h1,h2,h3,h4⟩:=dj h;obtain ⟨ds,t1,t2,t3,t4⟩:=t;cases t1 with
  | @cons e _ es _ a b =>
    cases b;simp only [OkXs] at t2;simp only [szXs] at t3;simp only [aaF] at t4;exact ⟨[e,d],.cons a (.cons (.inl (h1 G)) .nil),by simp only [OkXs];exact ⟨t2.1,h2,trivial⟩,by simp only [szXs];lia,by simp only [aaF];lia⟩
theorem qz {w:World} {K:aab} {G:Hp} {p:Addr} {xs:List V} (h:G p=some (.tup xs)) (hn:xs.length≠2) (t:∃ ds,Paired (Dx0 w G) ds xs∧OkXs ds∧szXs ds≤9002∧aaF ds≤3):TR w K G (.ref p):=by
  obtain ⟨ds,t1,t2,t3,t4⟩:=t;exact ⟨none,.tuple ds,.inr ⟨p,xs,rfl,h,hn⟩,(fun _ _ e=>nomatch e),.inr ⟨p,xs,ds,rfl,t1,.inr ⟨h,rfl⟩⟩,by simp only [OkX];exact t2,by simp only [szX];lia,by simp only [aa0];lia⟩
theorem uG {w:World} {K:aab} {G:Hp} {p:Addr} {xs:List V} (h:G p=some (.lst xs)) (t:∃ ds,Paired (Dx0 w G) ds xs∧OkXs ds∧szXs ds≤9002∧aaF ds≤3):TR w K G (.ref p):=by
  obtain ⟨ds,t1,t2,t3,t4⟩:=t;exact ⟨none,.list ds,.inl ⟨_,.lst h,rfl⟩,(fun _ _ e=>nomatch e),.inr ⟨p,xs,ds,rfl,t1,.inl ⟨h,rfl⟩⟩,by simp only [OkX];exact t2,by simp only [szX];lia,by simp only [aa0];lia⟩
theorem gg {w:World} {K:aab} {G:Hp} {p a:Addr} {x:V} (h:G p=some (.tup [x,.ref a])) (hx:At0 x) (hp:Pap w G a):TR w K G (.ref p):=by
  obtain ⟨dm,h1,h2,h3,h4⟩:=dj hx;obtain ⟨ps,dd,k1,k2,k3,k4,k5,k6,k7⟩:=hp;refine ⟨some (dm,some ps),.tuple [dm,dd],⟨p,x,.ref a,rfl,h,h1 G,a,rfl,k1⟩,fun dm' ps' e=>?_,.inr ⟨p,_,_,rfl,.cons (.inl (h1 G)) (.cons k4 .nil),.inr ⟨h,rfl⟩⟩,by simp only [OkX,OkXs];exact ⟨h2,k5,trivial⟩,by simp only [szX,szXs];lia,by simp only [aa0,aaF];lia⟩;injection e with e
  injection e with e1 e2
  injection e2 with e2
  rw [← e2];exact ⟨k2,k3⟩
theorem qA {w:World} {K:aab} {G:Hp} {p:Addr} {x y:V} {n:String} (h:G p=some (.tup [x,y])) (hx:At0 x) (ty:TyOf K G y (.type n)) (hk:ach K (.type n) (.type "dict")=some false) (hy:Itm w G y):TR w K G (.ref p):=by
  obtain ⟨dm,h1,h2,h3,h4⟩:=dj hx;obtain ⟨dd,k4,k5,k6,k7⟩:=hy;exact ⟨some (dm,none),.tuple [dm,dd],⟨p,x,y,rfl,h,h1 G,n,ty,hk⟩,(fun _ _ e=>by injection e with e;injection e with _ e;cases e),.inr ⟨p,_,_,rfl,.cons (.inl (h1 G)) (.cons k4 .nil),.inr ⟨h,rfl⟩⟩,by simp only [OkX,OkXs];exact ⟨h2,k5,trivial⟩,by simp only [szX,szXs];lia,by simp only [aa0,aaF];lia⟩
open PySem L2
theorem sL (ns:List Int) (lo hi:Option Int):∃ ms:List Int,hW (ns.map V.int) lo hi=ms.map V.int∧ms.length≤ns.length∧ms.length≤HT.sIx ns.length ns.length hi:=by
  refine ⟨(ns.drop (HT.sIx ns.length 0 lo)).take (HT.sIx ns.length ns.length hi - HT.sIx ns.length 0 lo),?_,?_,?_⟩
  · unfold hW;rw [aaa,List.map_take,List.map_drop]
  · rw [aaL,abh];lia
  · rw [aaL,abh];lia
theorem iS:∀ (more kvs:List (List Key × V)),((kvs++more).map (·.1)).Nodup→cq kvs more=kvs++more
  | [],kvs,_=>by rw [acJ];rfl
  | p :: r,kvs,h=>by
    have hp:p.1∉kvs.map (·.1):=fun q=>by
      rw [aaG,aae] at h;exact (List.nodup_append.mp h).2.2 _ q _ aan rfl
    show cq (bt kvs p.1 p.2) r=_;rw [iF hp,iS r (kvs++[(p.1,p.2)]) (by rw [abb];exact h),abb];rfl
theorem But.same {H H1 H2:Hp} {wl:Addr} (s:Same H H1) (n:H wl=none) (b:But wl H1 H2):Same H H2:=fun c o h=>b c o (ah h n) (s c o h)
theorem nk {α β:Type} {R:α→β→Prop} {a c:List α} {b d:List β} (h:Paired R a b) (g:Paired R c d):Paired R (a++c) (b++d):=by
  induction h with
  | nil=>exact g
  | cons h t ih=>exact .cons h ih
theorem uQ:("+-*":Str)=aB [.plus,.minus,.times]∧("+":Str)=aB [.plus]:=by decide +kernel
theorem lj:e_ [.plus,.minus,.times]∧e_ [.plus]:=by unfold e_;decide +kernel
section
variable {X:Cx}
theorem qo:bv X (.type "range") (fun xs H Q=>∃ j:Int,xs=[.int j]∧∀ p,H p=none→Q (.ref p) (upd H p (.rng 0 j))):=by
  intro pins s σ H xs us Q I r h;obtain ⟨j,rfl,q⟩:=h;cases r with
  | cons r rr =>
    cases rr;obtain ⟨t,rfl⟩:=r;refine PySem.call_range_1 ?_;exact ⟨.ref s.heap.objs.size,_,I.laid (t':=s.toks+1+1) (fun b o e=>aad _ e) (aaf _) (show ObjOk X.prog X.w _ _ _ (.rng 0 j) from ⟨s.toks,t,s.toks+1,aao _ rfl⟩),rfl,q _ (I.hok.fresh (aaf _))⟩
end
theorem qQ (m:Int) (h:0≤m) (h2:m≤60):ab9 0 m 1=true∧abi 0 m 1=m.toNat:=by
  obtain ⟨k,rfl⟩:∃ k:Nat,m=(k:Int):=⟨m.toNat,by lia⟩
  have hk:k < 61:=by lia
  have key:∀ k:Nat,k < 61→ab9 0 (k:Int) 1=true∧abi 0 (k:Int) 1=k:=by decide +kernel
  rw [aba];exact key k hk
def Rm (m:Int):List Int:=(aaO m.toNat).map fun (k:Nat)=>(0+(k:Int))
theorem uU {m:Int} {qs:List (Int × Int)} (h2:2≤m) (h60:m≤60):RsQ m (fun _=>Rm m) qs:=fun q _=>by
  unfold Rm;refine ⟨by rw [aaa,abc];lia,fun x hx=>?_⟩;obtain ⟨k,hk,rfl⟩:=aar.mp hx;have:=aaK.mp hk;lia
theorem Pap.mono {w:World} {G G':Hp} {a:Addr} (g:Same G G') (h:Pap w G a):Pap w G' a:=by
  obtain ⟨ps,dd,h1,h2,h3,h4,h5⟩:=h;exact ⟨ps,dd,h1.mono g,h2,h3,h4.mono g,h5⟩
structure St (w:World) (K:aab) (wl pj pl pr:Addr) (kv1 kv2:List (List Key × V)) (Lj Ll:Int × Int→List Int) (rs:List Int) (H0 H G:Hp) (xs:List V):Prop where
  le:Same G H
  nw:G wl=none
  pot:Pot H wl
  old:Same H0 G
  er:G pr=some (.lst (rs.map V.int))
  ej:G pj=some (.dT kv1)
  bj:LlI Lj G (aJ rs.length) kv1
  el:G pl=some (.dT kv2)
  bl:LlI Ll G (aJ rs.length) kv2
  th:∀ x∈xs,TR w K G x
section
variable {w:World} {K:aab} {wl pj pl pr:Addr} {kv1 kv2:List (List Key × V)} {Lj Ll:Int × Int→List Int} {rs:List Int} {H0 H H' G G':Hp} {xs:List V}
theorem St.view (S:St w K wl pj pl pr kv1 kv2 Lj Ll rs H0 H G xs) (s:Same G G') (l:Same G' H') (nw:G' wl=none) (p:Pot H' wl):St w K wl pj pl pr kv1 kv2 Lj Ll rs H0 H' G' xs :=
  ⟨l,nw,p,S.old.trans s,s _ _ S.er,s _ _ S.ej,S.bj.mono s,s _ _ S.el,S.bl.mono s,fun x hx=>(S.th x hx).mono s⟩
theorem St.one (S:St w K wl pj pl pr kv1 kv2 Lj Ll rs H0 H G xs) {p:Addr} (n:H p=none) (o:HO):∃ G',St w K wl pj pl pr kv1 kv2 Lj Ll rs H0 (upd H p o) G' xs∧G' p=some o∧Same G G'∧∀ z,G z=none→z≠p→G' z=none:=by
  have ng:G p=none:=by
    cases e:G p with
    | none=>rfl
    | some o'=>have:=S.le _ _ e;rw [n] at this;cases this
  refine ⟨upd G p o,S.view (Same.new ng o) (fun c ob h=>?_) ?_ (S.pot.keep (Same.new n o)),ad,Same.new ng o,fun z hz hn=>by rw [aj hn];exact hz⟩
  · by_cases e:c=p
    · subst e;rw [ad] at h ⊢;exact h
    · rw [aj e] at h ⊢;exact S.le _ _ h
  · rw [aj (abm (S.pot.ne n))];exact S.nw
theorem St.hid (S:St w K wl pj pl pr kv1 kv2 Lj Ll rs H0 H G xs) {p:Addr} (n:H p=none) (o:HO):St w K wl pj pl pr kv1 kv2 Lj Ll rs H0 (upd H p o) G xs :=
  S.view (Same.refl _) (S.le.trans (Same.new n o)) S.nw (S.pot.keep (Same.new n o))
theorem St.no (S:St w K wl pj pl pr kv1 kv2 Lj Ll rs H0 H G xs) {p:Addr} (n:H p=none):G p=none:=by
  cases e:G p with
  | none=>rfl
  | some o'=>have:=S.le _ _ e;rw [n] at this;cases this
theorem St.put (S:St w K wl pj pl pr kv1 kv2 Lj Ll rs H0 H G xs) {p:Addr} (n:G p=none) (ne:p≠wl) (o:HO):St w K wl pj pl pr kv1 kv2 Lj Ll rs H0 (upd H p o) G xs :=
  S.view (Same.refl _) (fun c ob h=>by rw [aj (ah h n)];exact S.le _ _ h) S.nw (by
    obtain ⟨a,b,c,h⟩:=S.pot;exact ⟨a,b,c,by rw [aj (abm ne)];exact h⟩)
theorem St.but (S:St w K wl pj pl pr kv1 kv2 Lj Ll rs H0 H G xs) (b:But wl H H') (p:Pot H' wl):St w K wl pj pl pr kv1 kv2 Lj Ll rs H0 H' G xs :=
  S.view (Same.refl _) (fun c ob h=>b _ _ (ah h S.nw) (S.le _ _ h)) S.nw p
theorem St.full (S:St w K wl pj pl pr kv1 kv2 Lj Ll rs H0 H G xs):St w K wl pj pl pr kv1 kv2 Lj Ll rs H0 H (off wl H) xs :=
  S.view (fun c ob h=>(bq (ah h S.nw)).trans (S.le _ _ h)) off_le (by unfold off;rw [if_pos rfl]) S.pot
theorem St.app (S:St w K wl pj pl pr kv1 kv2 Lj Ll rs H0 H G xs) {ys:List V} (h:∀ y∈ys,TR w K G y):St w K wl pj pl pr kv1 kv2 Lj Ll rs H0 H G (xs++ys) :=
  { S with th:=fun x hx=>(aay.mp hx).elim (S.th x) (h x) }
theorem St.add (S:St w K wl pj pl pr kv1 kv2 Lj Ll rs H0 H G xs) {y:V} (h:TR w K G y):St w K wl pj pl pr kv1 kv2 Lj Ll rs H0 H G (xs++[y]):=S.app fun x hx=>by rw [aau.mp hx];exact h
theorem St.give (S:St w K wl pj pl pr kv1 kv2 Lj Ll rs H0 H G xs):Same H0 H:=S.old.trans S.le
theorem St.papj (S:St w K wl pj pl pr kv1 kv2 Lj Ll rs H0 H G xs) {m:Int} (n9:rs.length≤9) (m60:m≤60) (hq:RsQ m Lj (aJ rs.length)):Pap w G pj:=rg n9 m60 S.ej S.bj hq
theorem St.papl (S:St w K wl pj pl pr kv1 kv2 Lj Ll rs H0 H G xs) {m:Int} (n9:rs.length≤9) (m60:m≤60) (hq:RsQ m Ll (aJ rs.length)):Pap w G pl:=rg n9 m60 S.el S.bl hq
theorem xu {w:World} {G:Hp}:∃ ds,Paired (Dx0 w G) ds ([]:List V)∧OkXs ds∧szXs ds≤0∧aaF ds≤3:=⟨[],.nil,by simp only [OkXs],by simp [szXs],by simp [aaF]⟩
end
theorem mE {H:Hp}:Dat H (.int 3) (.int 3):=by simp only [Dat]
theorem rF {ms:List Int} {dm:PyData} {qs:List (Int × Int)} (h:ms.length≤900):Lrw (some (dm,some (ppL (fun _=>ms) qs))):=fun dm' ps e p hp ds e2=>by
  injection e with e
  injection e with _ e
  injection e with e
  subst e;obtain ⟨q,_,rfl⟩:=aar.mp hp;injection e2 with e2
  rw [← e2,aaa];exact h
theorem vJ {LL:Int × Int→List Int} {gs:List Sg}:hdR [4] LL gs 3 (0,0)=decide ((1:Int)∈LL (0,0)):=by
  unfold hdR;rw [abl,@decide_eq_true_iff _ (abj _),decide_eq_true_eq];constructor
  · intro h;exact h 1 (by unfold DU;rw [if_pos rfl];decide)
  · intro h x hx;unfold DU at hx;rw [if_pos rfl] at hx;rw [show x=1 from hx.trans (by decide)];exact h
theorem oA {ms:List Int} (h1:prR 1 (some (.int 3,some (ppL (fun _=>ms) (aJ 1))))=true) (h3:LLp (ppL (fun _=>ms) (aJ 1)) (0,0)=ms):sayR [4] [.plus] (some (.int 3,some (ppL (fun _=>ms) (aJ 1))))=if decide ((1:Int)∈ms)=true then some ms else none:=by
  show (if (prR 1 (some (.int 3,some (ppL (fun _=>ms) (aJ 1)))) && (sfl 1 1).all (hdR [4] (LLp (ppL (fun _=>ms) (aJ 1))) [.plus] 3))=true then some (LLp (ppL (fun _=>ms) (aJ 1)) (0,0)) else none)=_;have h2:sfl 1 1=[(0,0)]:=by decide +kernel
  rw [h1,h2,h3,ada,List.all_nil,vJ,h3,Bool.and_true,abS]
theorem qL:sayR [4] [.plus] (some (.int 3,some (ppL (fun _=>[0,1]) (aJ 1))))=some [0,1]∧sayR [4] [.plus] (some (.int 3,some (ppL (fun _=>[0]) (aJ 1))))=none :=
  ⟨(oA (by decide +kernel) (by decide +kernel)).trans rfl,(oA (by decide +kernel) (by decide +kernel)).trans rfl⟩
theorem ut {w:World} {G:Hp} {pe u v:Addr} {ms:List Int} (n:G pe=none) (o:upd G pe (.dT []) u=none) (x:upd (upd G pe (.dT [])) u (.tup [.int 0,.int 0]) v=none) :
    ∃ HF,upd (upd (upd G pe (.dT [])) u (.tup [.int 0,.int 0])) v (.lst (ms.map V.int))=HF∧HF pe=some (.dT [])∧HF u=some (.tup ((ky (0,0)).map kV))∧Same G (upd HF pe (.dT [(ky (0,0),.ref v)]))∧PaIn w (upd HF pe (.dT [(ky (0,0),.ref v)])) pe (ppL (fun _=>ms) (aJ 1)):=by
  have k0:=Same.new n (.dT []);have k1:=Same.new o (.tup [.int 0,.int 0]);have k2:=Same.new x (.lst (ms.map V.int));have ep:=k2 _ _ (k1 _ _ (ad (H:=G) (a:=pe) (o:=.dT [])));have e1:=k2 _ _ (ad (H:=upd G pe (.dT [])) (a:=u) (o:=.tup [.int 0,.int 0]));have f1:upd (upd (upd G pe (.dT [])) u (.tup [.int 0,.int 0])) v (.lst (ms.map V.int)) v=some (.lst (ms.map V.int)):=ad;have K0:=k0.trans (k1.trans k2);refine ⟨_,rfl,ep,e1,?_,?_⟩
  · intro c ob h;rw [aj (ah h n)];exact K0 _ _ h
  · refine uv ad ?_;show LlI _ _ [(0,0)] _;refine .cons ⟨rfl,v,rfl,?_⟩ .nil;rw [aj (abm (ah (k1 _ _ (ad (H:=G) (a:=pe) (o:=.dT []))) x))];exact f1
section
variable {P:Program} {w:World} {K:aab} {mg:Str→Option Value} {base:Heap} {f:Addr} {fd:FuncData}
def oq (K:aab):Sp:=fun vs H Q _=>∃ (a:Addr) (ns:List Int),vs=[.ref a]∧SqL K H a (ns.map V.int)∧ns.length≤63∧∀ H',Q (.bl true) H'
abbrev fR:Stmt:=top 46
theorem bU:FnScope ["script","k","cell","pot","many","m","row","signs","just","loose","some","turn"] ["script"] (ao fR):=⟨rfl,rfl,rfl,by decide +kernel,rfl,by decide +kernel,by decide +kernel⟩
theorem vt (F:Fun K "law" "law" fR f fd) (B:Bu K mg) (C__law_pot:Cal P w K mg base "_law_pot" 1 ["cell"] qD) (C__law_take:Cal P w K mg base "_law_take" 2 ["pot","many"] dC) (C__law_row:Cal P w K mg base "_law_row" 4 ["pot","many"] mU) (C__law_signs:Cal P w K mg base "_law_signs" 3 ["pot"] iq)
    (C__law_lists:Cal P w K mg base "_law_lists" 3 ["row","signs","m"] iy) (C__law_loose:Cal P w K mg base "_law_loose" 3 ["pot","row","signs","m"] iw) (C__law_bent:Cal P w K mg base "_law_bent" 4 ["pot","m","lists"] (ke w)) (C__law_right:Cal P w K mg base "_law_right" 6 ["row","signs","thing"] (ir w K)) (C_rests_say:Cal P w K mg base "rests_say" 5 ["row","signs","thing"] (j5 w K)):FnOk P w K mg base CX0 7 f fd ["script"] (oq K):=by
  refine F.ok bU (fun vs H Q E h=>?_) (fun cdv A outer s H vs Q E hr h=>?_)
  · obtain ⟨a,ns,rfl,_⟩:=h;rfl
  obtain ⟨a,ns,rfl,hS,h63,q⟩:=h;refine ⟨_,(@ag _ _ _ _ _ (@a_ _ _ _ _ _ _ _ _ aaJ rfl (@tR _ _ _ _ _ _ _ _ rfl B.ienumerate (@aa _ _ _ _ _ (@az _ _ _ _ _ _ _ _ ku (@iH _ _ _ _ _ _ _ _ _ _ kh (pv 0) kn (@km _ _ _ ae)) (@aQ _ _ _ _ (@aa _ _ _ _ _ (@ai _ _ _ _ _ _ _ _ _ aF rfl B.ilen aaN (@aa _ _ _ _ _ (pv 0) ac (by rfl)) (by decide) (by decide) (by rfl) (by rfl)) ac (by rfl)))) ac (by rfl)) (by rfl)) (@dS _ _ _ _ _ _ rfl (@aY _ _ _ _ _ (@ak _ _ (1) _ (bU).nd rfl (Or.inl rfl) (.inl rfl)) (@aY _ _ _ _ _ (@ak _ _ (2) _ (bU).nd rfl (Or.inl rfl) (.inl rfl)) cR (by rfl)) (by rfl)) (by rfl) (by rfl)) (@ag _ _ _ _ _ (@aG _ _ (3) _ _ _ _ (bU).nd rfl (Or.inl rfl) (@aq _ _ _ _ _ _ _ _ _ _ _ C__law_pot hr (by lia) rfl (@aa _ _ _ _ _ (pv 2) ac (by rfl)) (by decide) (by rfl) (by rfl)) (by rfl) (by first|exact .inl rfl|exact .inr rfl|assumption)) (@ag _ _ _ _ _ (@aG _ _ (4) _ _ _ _ (bU).nd rfl (Or.inl rfl) (@az _ _ _ _ _ _ _ _ bh ae (@aq _ _ _ _ _ _ _ _ _ _ _ C__law_take hr (by lia) rfl (@aa _ _ _ _ _ (pv 3) (@aa _ _ _ _ _ ae ac (by rfl)) (by rfl)) (by decide) (by rfl) (by rfl))) (by rfl) (by first|exact .inl rfl|exact .inr rfl|assumption)) (@ag _ _ _ _ _ (@aG _ _ (5) _ _ _ _ (bU).nd rfl (Or.inr rfl) (@az _ _ _ _ _ _ _ _ bh ae (@aq _ _ _ _ _ _ _ _ _ _ _ C__law_take hr (by lia) rfl (@aa _ _ _ _ _ (pv 3) (@aa _ _ _ _ _ (@bu _ _ _ _ _ _ _ ix_list (@aQ _ _ _ _ (@aa _ _ _ _ _ ae (@aa _ _ _ _ _ ae (@aa _ _ _ _ _ ae ac (by rfl)) (by rfl)) (by rfl))) (@aq _ _ _ _ _ _ _ _ _ _ _ C__law_take hr (by lia) rfl (@aa _ _ _ _ _ (pv 3) (@aa _ _ _ _ _ ae ac (by rfl)) (by rfl)) (by decide) (by rfl) (by rfl)) (fun _ _=>rfl)) ac (by rfl)) (by rfl)) (by decide) (by rfl) (by rfl))) (by rfl) (by first|exact .inl rfl|exact .inr rfl|assumption)) (@dQ _ _ _ _ _ (@aI _ _ _ _ _ _ _ _ (@PW.pt _ _ _ (@uY _ _ _ _ _ _ _ (@aE _ _ _ _ _ _ _ _ bD (pv 1) ae (aC _)) (@tN _ _ _ _ (@aE _ _ _ _ _ _ _ _ bD (@aq _ _ _ _ _ _ _ _ _ _ _ C__law_take hr (by lia) rfl (@aa _ _ _ _ _ (pv 3) (@aa _ _ _ _ _ ae ac (by rfl)) (by rfl)) (by decide) (by rfl) (by rfl)) ae (aC _))))) (@af _ _ _ (@aG _ _ (4) _ _ _ _ (bU).nd rfl (Or.inl rfl) (@az _ _ _ _ _ _ _ _ bh ae (@aq _ _ _ _ _ _ _ _ _ _ _ C__law_take hr (by lia) rfl (@aa _ _ _ _ _ (pv 3) (@aa _ _ _ _ _ ae ac (by rfl)) (by rfl)) (by decide) (by rfl) (by rfl))) (by rfl) (by first|exact .inl rfl|exact .inr rfl|assumption))) aA) (@ag _ _ _ _ _ (@eS _ _ _ _ _ _ (@aH _ _ _ _ _ (@aa _ _ _ _ _ (@aq _ _ _ _ _ _ _ _ _ _ _ C__law_row hr (by lia) rfl (@aa _ _ _ _ _ (pv 3) (@aa _ _ _ _ _ (pv 4) ac (by rfl)) (by rfl)) (by decide) (by rfl) (by rfl)) (@aa _ _ _ _ _ (@aq _ _ _ _ _ _ _ _ _ _ _ C__law_signs hr (by lia) rfl (@aa _ _ _ _ _ (pv 3) ac (by rfl)) (by decide) (by rfl) (by rfl)) ac (by rfl)) (by rfl))) (@dS _ _ _ _ _ _ rfl (@aY _ _ _ _ _ (@ak _ _ (6) _ (bU).nd rfl (Or.inr rfl) (.inl rfl)) (@aY _ _ _ _ _ (@ak _ _ (7) _ (bU).nd rfl (Or.inr rfl) (.inl rfl)) cR (by rfl)) (by rfl)) (by rfl) (by rfl)) (by rfl) (by rfl) (by rfl)) (@ag _ _ _ _ _ (@aG _ _ (8) _ _ _ _ (bU).nd rfl (Or.inr rfl) (@aq _ _ _ _ _ _ _ _ _ _ _ C__law_lists hr (by lia) rfl (@aa _ _ _ _ _ (pv 6) (@aa _ _ _ _ _ (pv 7) (@aa _ _ _ _ _ (pv 5) ac (by rfl)) (by rfl)) (by rfl)) (by decide) (by rfl) (by rfl)) (by rfl) (by first|exact .inl rfl|exact .inr rfl|assumption)) (@ag _ _ _ _ _ (@aG _ _ (9) _ _ _ _ (bU).nd rfl (Or.inl rfl) (@aq _ _ _ _ _ _ _ _ _ _ _ C__law_loose hr (by lia) rfl (@aa _ _ _ _ _ (pv 3) (@aa _ _ _ _ _ (pv 6) (@aa _ _ _ _ _ (pv 7) (@aa _ _ _ _ _ (pv 5) ac (by rfl)) (by rfl)) (by rfl)) (by rfl)) (by decide) (by rfl) (by rfl)) (by rfl) (by first|exact .inl rfl|exact .inr rfl|assumption)) (@ag _ _ _ _ _ (@aG _ _ (10) _ _ _ _ (bU).nd rfl (Or.inl rfl) (@aQ _ _ _ _ (@aa _ _ _ _ _ (@aH _ _ _ _ _ (@aa _ _ _ _ _ (pv 5) (@aa _ _ _ _ _ (pv 8) ac (by rfl)) (by rfl))) (@aa _ _ _ _ _ (@aH _ _ _ _ _ (@aa _ _ _ _ _ (pv 5) (@aa _ _ _ _ _ (pv 9) ac (by rfl)) (by rfl))) (@aa _ _ _ _ _ (pv 8) (@aa _ _ _ _ _ (@aH _ _ _ _ _ (@aa _ _ _ _ _ (pv 5) (@aa _ _ _ _ _ (pv 8) (@aa _ _ _ _ _ ae ac (by rfl)) (by rfl)) (by rfl))) (@aa _ _ _ _ _ (@aQ _ _ _ _ (@aa _ _ _ _ _ (pv 5) (@aa _ _ _ _ _ (pv 8) ac (by rfl)) (by rfl))) (@aa _ _ _ _ _ (@aH _ _ _ _ _ (@aa _ _ _ _ _ (pv 5) (@aa _ _ _ _ _ bz ac (by rfl)) (by rfl))) (@aa _ _ _ _ _ (@aH _ _ _ _ _ (@aa _ _ _ _ _ (pv 5) (@aa _ _ _ _ _ (@aT _ _ _ _ _ _ _ _ _ (@jd _ rfl) rfl B.ilist aaQ (@aa _ _ _ _ _ (pv 8) ac (by rfl)) (by decide) (by decide) (by rfl) (by rfl)) ac (by rfl)) (by rfl))) (@aa _ _ _ _ _ (@aH _ _ _ _ _ (@aa _ _ _ _ _ (pv 5) ac (by rfl))) (@aa _ _ _ _ _ bz (@aa _ _ _ _ _ ae (@aa _ _ _ _ _ fW ac (by rfl)) (by rfl)) (by rfl)) (by rfl)) (by rfl)) (by rfl)) (by rfl)) (by rfl)) (by rfl)) (by rfl)) (by rfl))) (by rfl) (by first|exact .inl rfl|exact .inr rfl|assumption)) (@ag _ _ _ _ _ (@aG _ _ (10) _ _ _ _ (bU).nd rfl (Or.inl rfl) (@az _ _ _ _ _ _ _ _ ku (pv 10) (@cA _ _ _ _ _ _ _ _ (["other","just"]) ([none,some 8]) _ _ _ _ rfl (@qW _ _ _ _ (@aH _ _ _ _ _ (@aa _ _ _ _ _ ae (@aa _ _ _ _ _ ae (@aa _ _ _ _ _ (@fV _ _ _ _ _ _ dB ae) (@aa _ _ _ _ _ ae (@aa _ _ _ _ _ (@az _ _ _ _ _ _ _ _ bh (pv 5) ae) (@aa _ _ _ _ _ bo (@aa _ _ _ _ _ bz (@aa _ _ _ _ _ bK (@aa _ _ _ _ _ (@az _ _ _ _ _ _ _ _ dW ae ae) ac (by rfl)) (by rfl)) (by rfl)) (by rfl)) (by rfl)) (by rfl)) (by rfl)) (by rfl)) (by rfl)))) rfl ⟨rfl,trivial⟩ ⟨⟨rfl,Or.inl rfl,Or.inl rfl⟩,trivial⟩ (fun _ _ _ _=>⟨(@ak _ _ (0) _ (show aa7 (["other","just"]:List Str) by decide +kernel) rfl (Or.inl rfl) (.inr rfl)),aX,(@aH _ _ _ _ _ (@aa _ _ _ _ _ (pv 0) (@aa _ _ _ _ _ (pv 1) ac (by rfl)) (by rfl)))⟩) (by rfl) (by rfl) (by rfl) (by rfl) (by intro _;rfl))) (by rfl) (by first|exact .inl rfl|exact .inr rfl|assumption)) (@ag _ _ _ _ _ (@bT _ _ _ _ (@iI _ _ _ _ _ _ _ _ _ _ _ _ aby acF acG gF (pv 10) (@aa _ _ _ _ _ (@aH _ _ _ _ _ (@aa _ _ _ _ _ (pv 5) (@aa _ _ _ _ _ (@aT _ _ _ _ _ _ _ _ _ (@nZ _ rfl hr.units) rfl B.idict abd (@aa _ _ _ _ _ (@q_ _ _ _ (@cA _ _ _ _ _ _ _ _ (["at","m"]) ([none,some 5]) _ _ _ _ rfl (@oG _ _ _ _ (pv 8)) rfl ⟨rfl,trivial⟩ ⟨⟨rfl,Or.inl rfl,Or.inl rfl⟩,trivial⟩ (fun _ _ _ _=>⟨(@ak _ _ (0) _ (show aa7 (["at","m"]:List Str) by decide +kernel) rfl (Or.inl rfl) (.inr rfl)),aX,(@aH _ _ _ _ _ (@aa _ _ _ _ _ (pv 0) (@aa _ _ _ _ _ (@aT _ _ _ _ _ _ _ _ _ (@jA _ rfl) rfl B.ilist aaQ (@aa _ _ _ _ _ (@aT _ _ _ _ _ _ _ _ _ qo rfl B.irange PyProof.Rows.boot_range (@aa _ _ _ _ _ (pv 1) ac (by rfl)) (by decide) (by decide) (by rfl) (by rfl)) ac (by rfl)) (by decide) (by decide) (by rfl) (by rfl)) ac (by rfl)) (by rfl)))⟩) (by rfl) (by rfl) (by rfl) (by rfl) (by intro _;rfl))) ac (by rfl)) (by decide) (by decide) (by rfl) (by rfl)) ac (by rfl)) (by rfl))) ac (by rfl)) (by rfl) (by rfl) (by rfl) (by rfl) (by rfl)) (by rfl)) (@ag _ _ _ _ _ (@a_ _ _ _ _ _ _ _ _ aaJ rfl (@bE _ _ _ _ _ _ rfl B.irange (@aa _ _ _ _ _ (@bu _ _ _ _ _ _ _ ix_list (@aQ _ _ _ _ (@aa _ _ _ _ _ ae (@aa _ _ _ _ _ ae ac (by rfl)) (by rfl))) (@aT _ _ _ _ _ _ _ _ _ gL rfl B.iint abu (@aa _ _ _ _ _ (@bp _ _ _ _ _ _ _ _ rm (pv 4) ae (aC _)) ac (by rfl)) (by decide) (by decide) (by rfl) (by rfl)) (fun _ _=>rfl)) ac (by rfl)) (by rfl)) (@ak _ _ (11) _ (bU).nd rfl (Or.inl rfl) (.inl rfl)) (@af _ _ _ (@aG _ _ (10) _ _ _ _ (bU).nd rfl (Or.inl rfl) (@az _ _ _ _ _ _ _ _ ku (pv 10) (@aQ _ _ _ _ (@aa _ _ _ _ _ (@aq _ _ _ _ _ _ _ _ _ _ _ C__law_bent hr (by lia) rfl (@aa _ _ _ _ _ (pv 3) (@aa _ _ _ _ _ (pv 5) (@aa _ _ _ _ _ (pv 8) ac (by rfl)) (by rfl)) (by rfl)) (by decide) (by rfl) (by rfl)) (@aa _ _ _ _ _ (@aq _ _ _ _ _ _ _ _ _ _ _ C__law_bent hr (by lia) rfl (@aa _ _ _ _ _ (pv 3) (@aa _ _ _ _ _ (pv 5) (@aa _ _ _ _ _ (pv 9) ac (by rfl)) (by rfl)) (by rfl)) (by decide) (by rfl) (by rfl)) ac (by rfl)) (by rfl)))) (by rfl) (by first|exact .inl rfl|exact .inr rfl|assumption))) (by intro _;rfl)) (@af _ _ _ (@aI _ _ _ _ _ _ _ _ (@aE _ _ _ _ _ _ _ _ (@rj _ hr.units) (@cA _ _ _ _ _ _ _ _ (["thing","row","signs"]) ([none,some 6,some 7]) _ _ _ _ rfl (@ba _ _ _ _ (pv 10)) rfl ⟨rfl,⟨rfl,trivial⟩⟩ ⟨⟨rfl,Or.inl rfl,Or.inl rfl⟩,⟨⟨rfl,Or.inl rfl,Or.inl rfl⟩,trivial⟩⟩ (fun _ _ _ _=>⟨(@ak _ _ (0) _ (show aa7 (["thing","row","signs"]:List Str) by decide +kernel) rfl (Or.inl rfl) (.inr rfl)),(@fU _ _ _ (@aZ _ _ _ _ (@aU _ _ _ (@aq _ _ _ _ _ _ _ _ _ _ _ C__law_right hr (by lia) rfl (@aa _ _ _ _ _ (pv 1) (@aa _ _ _ _ _ (pv 2) (@aa _ _ _ _ _ (pv 0) ac (by rfl)) (by rfl)) (by rfl)) (by decide) (by rfl) (by rfl)) (by intro _;rfl)))),(pv 0)⟩) (by rfl) (by rfl) (by rfl) (by rfl) (by intro _;rfl)) (@aQ _ _ _ _ ac) (aC _)) (@af _ _ _ (@ap _ _ _ _ bo)) aA))))))))))))) (by intro _;rfl)) (@af _ _ _ (@ap _ _ _ _ (@dU _ _ _ _ _ _ _ (@bp _ _ _ _ _ _ _ _ (@iN _ hr.units) (@aq _ _ _ _ _ _ _ _ _ _ _ C_rests_say hr (by lia) rfl (@aa _ _ _ _ _ (@aQ _ _ _ _ (@aa _ _ _ _ _ ae ac (by rfl))) (@aa _ _ _ _ _ bK (@aa _ _ _ _ _ (@aH _ _ _ _ _ (@aa _ _ _ _ _ ae (@aa _ _ _ _ _ (@lV _ _ _ _ _ (u1 hr.units) (@lQ _ _ _ _ _ _ _ _ _ (@aH _ _ _ _ _ (@aa _ _ _ _ _ ae (@aa _ _ _ _ _ ae ac (by rfl)) (by rfl))) (@aQ _ _ _ _ (@aa _ _ _ _ _ ae (@aa _ _ _ _ _ ae ac (by rfl)) (by rfl))) oE) (by rfl) (by rfl) (by simp) (by decide)) ac (by rfl)) (by rfl))) ac (by rfl)) (by rfl)) (by rfl)) (by decide) (by rfl) (by rfl)) (@aQ _ _ _ _ (@aa _ _ _ _ _ ae (@aa _ _ _ _ _ ae ac (by rfl)) (by rfl))) (aC _)) (@eU _ _ _ _ _ (@bp _ _ _ _ _ _ _ _ rl (@aq _ _ _ _ _ _ _ _ _ _ _ C_rests_say hr (by lia) rfl (@aa _ _ _ _ _ (@aQ _ _ _ _ (@aa _ _ _ _ _ ae ac (by rfl))) (@aa _ _ _ _ _ bK (@aa _ _ _ _ _ (@aH _ _ _ _ _ (@aa _ _ _ _ _ ae (@aa _ _ _ _ _ (@lV _ _ _ _ _ (u1 hr.units) (@lQ _ _ _ _ _ _ _ _ _ (@aH _ _ _ _ _ (@aa _ _ _ _ _ ae (@aa _ _ _ _ _ ae ac (by rfl)) (by rfl))) (@aQ _ _ _ _ (@aa _ _ _ _ _ ae ac (by rfl))) oE) (by rfl) (by rfl) (by simp) (by decide)) ac (by rfl)) (by rfl))) ac (by rfl)) (by rfl)) (by rfl)) (by decide) (by rfl) (by rfl)) bz (aC _))))))),?_⟩;have t2:(2:Nat)≤sizeLine:=by decide
  refine ⟨_,rfl,3,rfl,a,_,rfl,hS,fun p1 n1=>?_⟩;obtain ⟨ms,em,hm,_⟩:=sL ns none (some 3);rw [em];have g1:=Same.new n1 (.lst (ms.map V.int));refine ⟨_,rfl,a,_,rfl,.inl (g1.seq hS),(by show 1≤sizeLine;decide),fun p2 n2=>?_⟩;have g2:=Same.new n2 (.lst [.int ((ns.map V.int).length:Nat)]);refine ⟨p1,p2,_,_,rfl,rfl,g2 _ _ ad,ad,di (by rw [aaa];show ms.length+1≤1000;lia),fun p3 n3=>?_⟩;obtain ⟨c9,hc9⟩:∃ c9:Int,((ns.map V.int).length:Nat)=c9:=⟨_,rfl⟩
  rw [hc9] at n3 g2 ⊢;have e3:upd (upd (upd H p1 (.lst (ms.map V.int))) p2 (.lst [.int c9])) p3 (.lst (ms.map V.int++[.int c9])) p3=_:=ad;have el:ms.map V.int++[V.int c9]=(ms++[c9]).map V.int:=by rw [aaG];rfl
  rw [el] at e3 ⊢;generalize upd (upd (upd H p1 (.lst (ms.map V.int))) p2 (.lst [.int c9])) p3 (.lst ((ms++[c9]).map V.int))=H3 at e3 ⊢;refine ⟨p3,rfl,⟨_,SqL.of e3⟩,ss (xs:=(ms++[c9]).map V.int) (fun i σ H'=>∃ c1 c2 c3 c4 c5 c6 c7 c8 c9 ca cb,σ=[some (.ref a),c1,c2,c3,c4,c5,c6,c7,c8,c9,ca,cb]∧Same H3 H') ⟨_,_,_,_,_,_,_,_,_,_,_,rfl,Same.refl _⟩ ?_ ?_ ?_⟩
  · rintro i σ H' _ ⟨_,_,_,_,_,_,_,_,_,_,_,rfl,S⟩;exact SqL.of (S _ _ e3)
  · rintro i x pp σ H' hx ⟨c1,c2,c3,c4,c5,c6,c7,c8,c9',ca,cb,rfl,S⟩ npp;rw [aak] at hx;obtain ⟨c,_,rfl⟩:=aaz.mp hx;have s4:=Same.new npp (.tup [.int (i:Nat),.int c]);refine ⟨pp,_,rfl,SqT.of ad,rfl,_,_,rfl,_,_,rfl,rfl,?_⟩;generalize upd H' pp (.tup [.int (i:Nat),.int c])=H4 at s4 ⊢;refine ⟨_,rfl,c,rfl,fun wl H5 g5 nw w5=>?_⟩;have nw':H' wl=none:=s4.free nw;have S5:=s4.trans g5;refine ⟨_,rfl,wl,5,rfl,by decide,by decide,w5,fun r1 H6 a1 b1 k6 w6=>⟨_,_,rfl,rfl,?_⟩⟩;refine ⟨_,rfl,(by show 3≤sizeLine;decide),fun tq nq=>?_⟩;have sq:=Same.new nq (.lst [.int 9,.int 9,.int 59]);have eq:upd H6 tq (.lst [.int 9,.int 9,.int 59]) tq=_:=ad;have wq:=w6.keep sq;have npq:=w6.ne nq;generalize upd H6 tq (.lst [.int 9,.int 9,.int 59])=Hq at sq eq wq ⊢;refine ⟨_,rfl,wl,3,rfl,by decide,by decide,wq,fun r2 H7 a2 b2 k7 w7=>?_⟩;obtain ⟨v0,h0,hm0⟩:=gf (xs:=[V.int 9,.int 9,.int 59]) a2 (by show r2 < 3;lia);obtain ⟨q0,rfl,q1,q2⟩:∃ q0:Int,v0=.int q0∧1≤q0∧q0≤59:=by
      rcases aai.mp hm0 with h|h
      · exact ⟨9,h,by decide,by decide⟩
      rcases aai.mp h with h|h
      · exact ⟨9,h,by decide,by decide⟩
      · exact ⟨59,aau.mp h,by decide,by decide⟩
    refine ⟨tq,_,_,_,rfl,rfl,SqL.of (k7 _ _ npq eq),h0,?_⟩;refine ⟨wl,q0,rfl,by lia,by lia,w7,fun r3 H8 a3 b3 k8 w8=>⟨_,_,rfl,rfl,?_⟩⟩;have k68:But wl H5 H8:=(k6.trans (But.of sq)).trans (k7.trans k8);obtain ⟨m,hm⟩:∃ m,2+r3=m:=⟨_,rfl⟩
    have m2:2≤m:=by lia
    have m60:m≤60:=by lia
    clear nq sq eq wq npq k7 w7 k8 h0 hm0 k6 w6;show v_ _ _ _ ([some (.ref a),some (.int (i:Nat)),some (.int c),some (.ref wl),some (.int (1+r1)),some (.int (2+r3)),c6,c7,c8,c9',ca,cb]) _;rw [hm];refine ⟨fun σ H'=>∃ mm:Int,σ=[some (.ref a),some (.int (i:Nat)),some (.int c),some (.ref wl),some (.int mm),some (.int m),c6,c7,c8,c9',ca,cb]∧1≤mm∧mm≤9∧But wl H8 H'∧Pot H' wl,?_,?_⟩
    · refine ⟨_,rfl,rfl,_,rfl,cN (fun z=>?_) (fun z=>?_)⟩
      · refine ⟨_,rfl,wl,3,rfl,by decide,by decide,w8,fun r4 H7 a2 b2 k7 w7=>⟨rfl,_,rfl,cN (fun z=>?_) (fun z=>?_)⟩⟩
        · refine ⟨_,rfl,wl,4,rfl,by decide,by decide,w7,fun r5 H9 a3 b3 k9 w9=>⟨_,_,rfl,rfl,_,rfl,by lia,by lia,k7.trans k9,w9⟩⟩
        · exact ⟨_,rfl,by lia,by lia,k7,w7⟩
      · exact ⟨_,rfl,by lia,by lia,But.refl,w8⟩
    · rintro σ H7 ⟨mm,rfl,mm1,mm9,k7,w7⟩;refine ⟨_,rfl,_,rfl,wl,mm,rfl,mm1,by lia,w7,fun pr rs H9 k9 w9 nr er hlen hsm=>?_⟩;have npr:=w7.ne nr;refine ⟨_,rfl,wl,rfl,w9,fun gs HA g1' g3' sp kA wA=>?_⟩;have erA:=kA _ _ npr er;have SA:Same H' HA:=But.same S5 nw' (((k68.trans k7).trans k9).trans kA);have n1:1≤rs.length:=by lia
      have n9:rs.length≤9:=by lia
      refine ⟨t2,fun tu ntu=>⟨tu,_,rfl,SqT.of ad,rfl,_,_,rfl,_,_,rfl,rfl,?_⟩⟩;have su:=Same.new ntu (.tup [.ref pr,.str (aB gs)]);have wB:=wA.keep su;have erB:=su _ _ erA;have SB:=SA.trans su;generalize upd HA tu (.tup [.ref pr,.str (aB gs)])=HB at su wB erB SB ⊢;refine ⟨_,rfl,_,rfl,_,rfl,pr,rs,gs,m,rfl,erB,n1,n9,g3',m2,m60,fun pj kv1 Lj HC sC nj ej hj1 hq1=>?_⟩;have SC:=SB.trans sC;have wC:=wB.keep sC;have erC:=sC _ _ erB;have npj:=wB.ne nj;refine ⟨_,rfl,_,rfl,_,rfl,_,rfl,wl,pr,rs,gs,m,rfl,wC,npr,erC,n1,n9,g3',m2,m60,fun pl kv2 Ll HD kD wD nl el hl2 hq2=>?_⟩;have npl:=wC.ne nl;have S0:St w K wl pj pl pr kv1 kv2 Lj Ll rs H' HD (off wl HD) []:=by
        have hO:∀ {b:Addr} {o:HO},b≠wl→HD b=some o→off wl HD b=some o:=fun n e=>(bq n).trans e;obtain ⟨_,_,_,epot⟩:=wC;refine ⟨off_le,by unfold off;rw [if_pos rfl],wD,fun c o h=>?_,hO npr (kD _ _ npr erC),hO npj (kD _ _ npj ej),?_,hO npl el,hl2.off epot,fun x hx=>nomatch hx⟩
        · exact hO (ah h nw') (kD _ _ (ah h nw') (SC _ _ h))
        · obtain ⟨_,_,_,epB⟩:=wB;exact LlI.mono (kH kD) (hj1.off epB)
      have am:At0 (.int m):=bG (B:=60) (by decide +kernel) (by lia);have a0:At0 (.int 0):=bG (B:=60) (by decide +kernel) (by decide);refine ⟨_,rfl,_,rfl,t2,fun u1 y1=>?_⟩;obtain ⟨G1,S1,e1,_,_⟩:=S0.one y1 (.tup [.int m,.ref pj])
      replace S1:=S1.add (gg e1 am (S1.papj n9 m60 hq1))
      generalize upd HD u1 (.tup [.int m,.ref pj])=HD1 at S1 ⊢;clear S0;refine ⟨_,rfl,_,rfl,t2,fun u2 y2=>?_⟩;obtain ⟨G2,S2,e2,_,_⟩:=S1.one y2 (.tup [.int m,.ref pl])
      replace S2:=S2.add (gg e2 am (S2.papl n9 m60 hq2))
      generalize upd HD1 u2 (.tup [.int m,.ref pl])=HD2 at S2 ⊢
      replace S2:=S2.add (fb (.dT S2.ej) rfl (S2.papj n9 m60 hq1).itm)
      clear S1;refine ⟨_,rfl,_,rfl,_,rfl,(by show 3≤sizeLine;decide),fun u3 y3=>?_⟩;obtain ⟨G3,S3,e3',_,_⟩:=S2.one y3 (.tup [.int m,.ref pj,.int 0])
      replace S3:=S3.add (qz e3' (fun z=>nomatch z) (by
        obtain ⟨ds,t1,t2,t3,t4⟩:=rP am (wH (ux (S3.papj n9 m60 hq1).itm) a0);exact ⟨ds,t1,t2,by lia,t4⟩))
      generalize upd HD2 u3 (.tup [.int m,.ref pj,.int 0])=HD3 at S3 ⊢;clear S2;refine ⟨_,rfl,_,rfl,t2,fun u4 y4=>?_⟩;obtain ⟨G4,S4,e4,_,_⟩:=S3.one y4 (.lst [.int m,.ref pj])
      replace S4:=S4.add (uG e4 (by
        obtain ⟨ds,t1,t2,t3,t4⟩:=rP am (ux (S4.papj n9 m60 hq1).itm);exact ⟨ds,t1,t2,by lia,t4⟩))
      generalize upd HD3 u4 (.lst [.int m,.ref pj])=HD4 at S4 ⊢;clear S3;refine ⟨_,rfl,t2,fun u5 y5=>?_⟩;obtain ⟨G5,S5,e5,_,_⟩:=S4.one y5 (.tup [.int m,.non])
      replace S5:=S5.add (qA e5 am .non rfl (rQ gM))
      generalize upd HD4 u5 (.tup [.int m,.non])=HD5 at S5 ⊢;clear S4;obtain ⟨kI,hkI,kI1,kI2⟩:=kK S5.bj;have l45:=eV rs.length n9;have lkI:kI.length=(aJ rs.length).length:=by have:=congrArg abJ kI1;simpa using this
      refine ⟨_,rfl,_,rfl,pj,kI,rfl,by rw [S5.le _ _ S5.ej,hkI],by lia,fun u6 kk y6 r1 r2=>⟨t2,fun u7 y7=>?_⟩⟩;have lkk:(kk.map (·.2.1)).length≤100:=by
        have:=congrArg abJ r1;unfold rdE at this;rw [aaa,aaa] at this;rw [aaa];lia
      have T5:=l9 S5.pot;obtain ⟨G6,S6,e6,g6,_⟩:=S5.full.one y6 (.lst (kk.map (·.2.1)));generalize upd HD5 u6 (.lst (kk.map (·.2.1)))=HD6 at S6 y7 ⊢;have gd:∀ G',Same G6 G'→∀ y∈kk.map (·.2.1),Good G' y:=fun G' g y hy=>by
        obtain ⟨e,he,rfl⟩:=aar.mp hy;have h1:(e.1,e.2.2)∈rdE kk:=aar.mpr ⟨e,he,rfl⟩;rw [r1] at h1;obtain ⟨p,hp0,e1⟩:=aar.mp h1;have e1:e.1=MK.tup p.1:=(congrArg Prod.fst e1).symm;obtain ⟨q0,hq0,e2⟩:=aar.mp (kI1 ▸ aca (f:=(·.1)) hp0:p.1∈(aJ rs.length).map fun q=>[q.1,q.2]);obtain ⟨z1,z2,z3,z4⟩:=fX n9 hq0;refine rN ((r2 e he).mono fun b xs e=>(g6.trans g) _ _ (T5 _ _ e)) e1 (fun i hi=>?_) (by rw [← e2];show 2≤4;decide);rw [← e2] at hi;simp only [aai,aaV,or_false] at hi;rcases hi with rfl|rfl <;> lia
      obtain ⟨G7,S7,e7,g7,_⟩:=S6.one y7 (.tup [.int m,.ref u6])
      replace S7:=S7.add (qA e7 am (.lst (g7 _ _ e6)) rfl (p_ (g7 _ _ e6) lkk (gd _ g7)))
      generalize upd HD6 u7 (.tup [.int m,.ref u6])=HD7 at S7 ⊢;clear S6 S5 gd;refine ⟨_,rfl,(by show 1≤sizeLine;decide),fun u8 y8=>?_⟩;obtain ⟨G8,S8,e8,_,_⟩:=S7.one y8 (.tup [.int m])
      replace S8:=S8.add (qz e8 (fun z=>nomatch z) (by
        obtain ⟨ds,t1,t2,t3,t4⟩:=rP am (xu (w:=w) (G:=G8));exact ⟨ds,t1,t2,by lia,t4⟩))
      generalize upd HD7 u8 (.tup [.int m])=HD8 at S8 ⊢;clear S7
      replace S8:=(S8.add (uj gM)).add (uj (bG (B:=60) (by decide +kernel) (by decide):At0 (.int 5)))
      refine fun u9 y9=>?_;obtain ⟨G9,S9,e9,_,_⟩:=S8.one y9 (.dK [])
      replace S9:=S9.add (vV e9)
      generalize upd HD8 u9 (.dK [])=HD9 at S9 ⊢;clear S8;refine ⟨(by show 11≤sizeLine;decide),fun ps nps=>?_⟩;have npsw:=S9.pot.ne nps;have S10:=S9.hid nps (.lst [.ref u1,.ref u2,.ref pj,.ref u3,.ref u4,.ref u5,.ref u7,.ref u8,.non,.int 5,.ref u9]);have ep0:upd HD9 ps (.lst [.ref u1,.ref u2,.ref pj,.ref u3,.ref u4,.ref u5,.ref u7,.ref u8,.non,.int 5,.ref u9]) ps=_:=ad
      change St w K wl pj pl pr kv1 kv2 Lj Ll rs H' (upd HD9 ps (.lst [.ref u1,.ref u2,.ref pj,.ref u3,.ref u4,.ref u5,.ref u7,.ref u8,.non,.int 5,.ref u9])) G9 [.ref u1,.ref u2,.ref pj,.ref u3,.ref u4,.ref u5,.ref u7,.ref u8,.non,.int 5,.ref u9] at S10
      have lx0:[V.ref u1,.ref u2,.ref pj,.ref u3,.ref u4,.ref u5,.ref u7,.ref u8,.non,.int 5,.ref u9].length=11:=rfl;generalize upd HD9 ps (.lst [.ref u1,.ref u2,.ref pj,.ref u3,.ref u4,.ref u5,.ref u7,.ref u8,.non,.int 5,.ref u9])=HE0 at S10 ep0 ⊢;generalize [V.ref u1,.ref u2,.ref pj,.ref u3,.ref u4,.ref u5,.ref u7,.ref u8,.non,.int 5,.ref u9]=xs0 at S10 ep0 lx0 ⊢;clear S9 nps e9 y9;refine ⟨_,rfl,?_⟩;refine ⟨_,rfl,_,rfl,_,_,rfl,rfl,_,_,rfl,rfl,(by unfold vU;decide +kernel),(by show 9≤sizeLine;decide),fun pt npt=>?_⟩;obtain ⟨ots,hots⟩:∃ ots,[V.int 0,.int 1,.int (-2),.int 61,.int (m+1),.bl true,.non,.str "5",.int (10 ^ (39:Int).toNat)]=ots:=⟨_,rfl⟩
      have lot:ots.length=9:=by rw [← hots];rfl
      have aot:∀ x∈ots,At0 x:=by
        rw [← hots];intro x hx;simp only [aai,aaV,or_false] at hx;rcases hx with rfl|rfl|rfl|rfl|rfl|rfl|rfl|rfl|rfl
        · exact a0
        · exact bG (B:=60) (by decide +kernel) (by decide)
        · exact bG (B:=60) (by decide +kernel) (by decide)
        · exact bG (B:=61) (by decide +kernel) (by decide)
        · exact bG (B:=61) (by decide +kernel) (by lia)
        · exact sQ _
        · exact gM
        · exact n8 (by decide +kernel)
        · exact bG (B:=10 ^ 40) (by decide +kernel) (by decide +kernel)
      have hots2:[V.int 0,V.int 1,(fun i=>V.int (-i)) 2,V.int 61,(fun i j=>V.int (i+j)) m 1,V.bl true,V.non,V.str "5",(fun (i j:Int)=>V.int (i ^ j.toNat)) 10 39]=ots:=hots;rw [hots2];have S11:=S10.hid npt (.tup ots);have ept:upd HE0 pt (.tup ots) pt=_:=ad;have ep1:=Same.new npt (.tup ots) _ _ ep0;generalize upd HE0 pt (.tup ots)=HE1 at S11 ept ep1 ⊢;clear S10 npt hots hots2;refine ⟨pt,rfl,⟨_,SqT.of ept⟩,?_⟩;refine cJ (Trn.tup (xs:=ots)) (fun i zs H2=>∃ G2,St w K wl pj pl pr kv1 kv2 Lj Ll rs H' H2 G2 (xs0++zs)∧Same HE1 H2∧zs.length=i) ⟨G9,by rw [acJ];exact S11,Same.refl _,rfl⟩ (fun i zs H2 hi p=>by
        obtain ⟨G2,_,s2,l2⟩:=p;exact ⟨SqT.of (s2 _ _ ept),au (by lia)⟩) (fun i x zs H2 H3' hi hx p Nx nx=>?_) (fun zs H2 p p5 n5=>?_)
      · obtain ⟨G2,S2,s2,l2⟩:=p;obtain ⟨rfl,hx⟩:=hx;refine ⟨_,rfl,_,rfl,t2,fun v1 y1=>nx _ _ ?_⟩;obtain ⟨G3,S3,e3',g3,_⟩:=S2.one y1 (.tup [x,.ref pj]);refine ⟨G3,?_,s2.trans (Same.new y1 _),by rw [aaw];show zs.length+1=i+1;lia⟩;rw [← abb];exact S3.add (gg e3' (aot x (aap hx)) (S3.papj n9 m60 hq1))
      obtain ⟨GA,SA1,sA1,lA⟩:=p;rw [lot] at lA;clear S11;have ep2:=(Same.new n5 (.lst zs)) _ _ (sA1 _ _ ep1);have ez2:upd H2 p5 (.lst zs) p5=_:=ad;have SA2:=SA1.hid n5 (.lst zs);generalize upd H2 p5 (.lst zs)=HE2 at SA2 ep2 ez2 ⊢;clear SA1 sA1 ept ep1 n5;have lz1:(xs0++zs).length=20:=by rw [aaw];lia
      refine ⟨ps,p5,_,_,rfl,rfl,ep2,ez2,di (by lia),fun pn npn=>?_⟩;have npnw:=SA2.pot.ne npn;have hnn:=SA2.no npn;have SA3:=SA2.hid npn (.lst (xs0++zs));have ep3:upd HE2 pn (.lst (xs0++zs)) pn=_:=ad;generalize upd HE2 pn (.lst (xs0++zs))=HE3 at SA3 ep3 ⊢;generalize xs0++zs=xs1 at SA3 ep3 lz1 ⊢;clear SA2 ep2 ez2 npn;have ejE:=SA3.le _ _ SA3.ej;have npj2:pj≠pn:=fun z=>by have:=SA3.ej;rw [z,hnn] at this;cases this
      refine ⟨_,rfl,.inl ⟨rfl,_,SqL.of ep3⟩,_,rfl,pj,kv1,ejE,fun o=>?_⟩;have F3:∀ c ob,c≠pj→HE3 c=some ob→upd HE3 pj (.frz o (.dT kv1)) c=some ob:=fun c ob hc e=>by rw [aj hc];exact e
      have e3':upd HE3 pj (.frz o (.dT kv1)) pj=some (.frz o (.dT kv1)):=ad;obtain ⟨pa,pb,pc,epot⟩:=SA3.pot;have ewF:=F3 _ _ (abm npj) epot;have epF:=F3 _ _ (abm npj2) ep3;generalize upd HE3 pj (.frz o (.dT kv1))=HF at F3 e3' ewF epF ⊢;have hb1E:=SA3.bj;have lkv:kv1.length=(aJ rs.length).length:=(aav hb1E).symm;refine ⟨_,rfl,pj,o,kv1,rfl,e3',?_⟩;refine cJ Trn.keys (fun i zs H'=>∃ bs:List PrT,zs=bs.map (fun b=>V.ref b.1)∧Same HF H'∧(∀ b∈bs,mL H' b)∧Paired (fun (q:Int × Int) (b:PrT)=>b.2.2.1=ky q∧∃ t,b.2.2.2=.ref t∧HF t=none∧H' t=some (.lst ((Rm m).map V.int))) ((aJ rs.length).take i) bs) ⟨[],rfl,Same.refl _,(fun b hb=>nomatch hb),.nil⟩ (fun i zs H' hi p=>by
        obtain ⟨bs,rfl,S,_,p⟩:=p;exact ⟨S _ _ e3',by rw [aaa,← aav p,aaL];exact au (by lia)⟩) (fun i x zs H0 H' hi hx p Nx nx=>?_) (fun zs HX p p5 n5=>?_)
      · obtain ⟨bs,rfl,S,hbs,hp⟩:=p;obtain ⟨cc,rfl,rfl,hc⟩:=hx;have hkv:kv1[i]?=some kv1[i]:=aac hi;have ec:=hc _ hkv;obtain ⟨q0,hq0,ek0,_⟩:=Paired.at hb1E hkv;rw [ek0] at ec;obtain ⟨z1,z2⟩:=qQ m (by lia) m60;refine ⟨_,rfl,_,rfl,m,rfl,fun v0 y0=>⟨v0,0,m,m.toNat,rfl,ad,z1,z2,by lia,fun v1 y1=>⟨t2,fun v2 y2=>nx _ _ ?_⟩⟩⟩;have el1:(aaO m.toNat).map (fun (k:Nat)=>V.int (0+(k:Int)))=(Rm m).map V.int:=by unfold Rm;rw [aaM];rfl
        rw [el1] at y2 ⊢;have j0:=Same.new y0 (.rng 0 m);have j6:=Same.new y1 (.lst ((Rm m).map V.int));have j7:=Same.new y2 (.tup [.ref cc,.ref v1]);have jj:=(j0.trans j6).trans j7;refine ⟨bs++[(v2,cc,ky q0,.ref v1)],by rw [aaG];rfl,S.trans jj,fun b hb=>?_,?_⟩
        · rcases aay.mp hb with hb|hb
          · exact ⟨jj _ _ (hbs b hb).1,jj _ _ (hbs b hb).2⟩
          · rw [aau.mp hb];exact ⟨ad,jj _ _ ec⟩
        · rw [aaE,hq0];exact nk (Paired.mapP hp fun _ _ z=>⟨z.1,by obtain ⟨t,z1,z0,z2⟩:=z.2;exact ⟨t,z1,z0,jj _ _ z2⟩⟩) (.cons ⟨rfl,v1,rfl,(S.trans j0).free y1,j7 _ _ ad⟩ .nil)
      obtain ⟨bs,rfl,SX,hbs,hp⟩:=p;rw [lkv,aaT] at hp;have lbs:=aav hp;have s6:=Same.new n5 (.lst (bs.map fun b=>V.ref b.1));have e6:=s6 _ _ (SX _ _ e3');have el6:upd HX p5 (.lst (bs.map fun b=>V.ref b.1)) p5=_:=ad;have S6:=SX.trans s6;have hbs6:∀ b∈bs,mL (upd HX p5 (.lst (bs.map fun b=>V.ref b.1))) b:=fun b hb=>⟨s6 _ _ (hbs b hb).1,s6 _ _ (hbs b hb).2⟩
      have hp6:=Paired.mapP hp fun (q:Int × Int) (b:PrT) z=>(⟨z.1,by obtain ⟨t,z1,z0,z2⟩:=z.2;exact ⟨t,z1,z0,s6 _ _ z2⟩⟩:b.2.2.1=ky q∧∃ t,b.2.2.2=.ref t∧HF t=none∧upd HX p5 (.lst (bs.map fun b=>V.ref b.1)) t=some (.lst ((Rm m).map V.int)))
      generalize upd HX p5 (.lst (bs.map fun b=>V.ref b.1))=H6' at e6 el6 S6 hbs6 hp6 ⊢;refine ⟨e6,?_⟩;have np5:p5≠pj:=fun z=>by rw [z,e6] at el6;cases el6
      have SG:Same HE3 (upd H6' pj (.dT kv1)):=fun c ob hc=>by
        by_cases h:c=pj
        · subst h;rw [ad];rw [ejE] at hc;exact hc
        · rw [aj h];exact S6 _ _ (F3 c ob h hc)
      have tn:∀ {b:Addr} {xs:List V},H6' b=some (.tup xs)→upd H6' pj (.dT kv1) b=some (.tup xs):=fun {b xs} e=>by rw [aj (fun z=>by rw [z,e6] at e;cases e)];exact e
      have elG:upd H6' pj (.dT kv1) p5=some (.lst (bs.map fun b=>V.ref b.1)):=(aj np5).trans el6;have hbsG:∀ b∈bs,mL (upd H6' pj (.dT kv1)) b:=fun b hb=>⟨tn (hbs6 b hb).1,tn (hbs6 b hb).2⟩
      have hpG:LlI (fun _=>Rm m) (bR wl pn (upd H6' pj (.dT kv1))) (aJ rs.length) (bs.map (·.2.2)):=by
        have go:∀ {qs:List (Int × Int)} {bs:List PrT},Paired (fun (q:Int × Int) (b:PrT)=>b.2.2.1=ky q∧∃ t,b.2.2.2=.ref t∧HF t=none∧H6' t=some (.lst ((Rm m).map V.int))) qs bs→LlI (fun _=>Rm m) (bR wl pn (upd H6' pj (.dT kv1))) qs (bs.map (·.2.2)):=by
          intro qs bs p
          induction p with
          | nil=>exact .nil
          | cons h t ih =>
            obtain ⟨h1,t,h2,h3,h4⟩:=h;refine .cons ⟨h1,t,h2,?_⟩ ih;rw [ij (fun z=>by rw [z,ewF] at h3;cases h3) (fun z=>by rw [z,epF] at h3;cases h3),aj (fun z=>by rw [z,e3'] at h3;cases h3)];exact h4
        exact go hp6
      have em0:cq [] (bs.map (·.2.2))=bs.map (·.2.2):=by
        have:=iS (bs.map (·.2.2)) [] (by
          rw [List.nil_append,hpG.keys];exact acU _ (fun a b hab z=>hab (kL z)) (dc rs.length n9))
        rw [this,List.nil_append]
      have ep4:=SG _ _ ep3;have SA4:St w K wl pj pl pr kv1 kv2 Lj Ll rs H' (upd H6' pj (.dT kv1)) (bR wl pn (upd H6' pj (.dT kv1))) xs1 :=
        SA3.view (fun c ob h=>(ij (ah h SA3.nw) (ah h hnn)).trans (SG _ _ (SA3.le _ _ h))) fZ (by
          rw [bR,bq (abm npnw)];unfold off;rw [if_pos rfl]) (SA3.pot.keep SG)
      generalize upd H6' pj (.dT kv1)=HG at SG elG hbsG hpG SA4 ep4 ⊢;clear SX s6 e6 el6 S6 hbs6 hp6 hbs hp tn F3 ewF epF e3' SA3 ep3 hb1E lkv epot;refine ⟨p5,bs,rfl,elG,hbsG,by lia,fun u6 y8=>?_⟩;rw [em0];have hno:bR wl pn HG pn=none:=by rw [bR];unfold off;rw [if_pos rfl]
      obtain ⟨GB,SA5,eB,gB,fB⟩:=SA4.one y8 (.dT (bs.map (·.2.2)));have nu6:pn≠u6:=fun z=>by rw [z,y8] at ep4;cases ep4
      have hnB:=fB _ hno nu6;have ep5:=Same.new y8 (.dT (bs.map (·.2.2))) _ _ ep4;have papN:Pap w GB u6:=rg n9 m60 eB (hpG.mono gB) (uU m2 m60);generalize upd HG u6 (.dT (bs.map (·.2.2)))=HH at SA5 ep5 ⊢;clear SA4 ep4;refine ⟨t2,fun u10 y10=>?_⟩;obtain ⟨GC,SA6,eC,gC,fC⟩:=SA5.one y10 (.tup [.int m,.ref u6]);have nu10:pn≠u10:=fun z=>by rw [z,y10] at ep5;cases ep5
      have hnC:=fC _ hnB nu10;have ep6:=Same.new y10 (.tup [.int m,.ref u6]) _ _ ep5
      replace SA6:=SA6.add (gg eC am (papN.mono gC))
      generalize upd HH u10 (.tup [.int m,.ref u6])=HI at SA6 ep6 ⊢;clear SA5 ep5;refine ⟨pn,_,_,rfl,rfl,ep6,by have:=di (n:=xs1.length+1) (by lia);lia,?_⟩;have SA7:=SA6.put hnC npnw (.lst (xs1++[.ref u10]));have ep7:upd HI pn (.lst (xs1++[.ref u10])) pn=_:=ad;generalize upd HI pn (.lst (xs1++[.ref u10]))=HJ at SA7 ep7 ⊢;have lz2:(xs1++[V.ref u10]).length=21:=by rw [aaw];show xs1.length+1=21;lia
      generalize xs1++[V.ref u10]=xs2 at SA7 ep7 lz2 ⊢;clear SA6 ep6;refine ⟨(by show 2≤sizeLine;decide),fun tq nq=>?_⟩;have SA8:=(SA7.hid nq (.lst [.int 8,.int 3])).full;have eq8:upd HJ tq (.lst [.int 8,.int 3]) tq=_:=ad;have ep8:=Same.new nq (.lst [.int 8,.int 3]) _ _ ep7;generalize upd HJ tq (.lst [.int 8,.int 3])=HK at SA8 eq8 ep8 ⊢;clear SA7 ep7 nq;obtain ⟨tn,htn,tn0,tn8⟩:∃ tn:Int,atI [V.int 8,.int 3] (if decide (5 < mm)=true then 1 else 0)=some (.int tn)∧0≤tn∧tn≤8:=by
        cases decide (5 < mm) with
        | true=>exact ⟨3,rfl,by decide,by decide⟩
        | false=>exact ⟨8,rfl,by decide,by decide⟩
      refine ⟨_,rfl,_,_,rfl,rfl,.inr ⟨_,rfl,⟨tq,_,_,_,rfl,rfl,SqL.of eq8,htn,tn,rfl,by lia,by lia,?_⟩⟩⟩;refine br (n:=tn.toNat) (fun i' σ Hl=>∃ (cc:Option V) (pn:Addr) (xs:List V),σ=[some (.ref a),some (.int (i:Nat)),some (.int c),some (.ref wl),some (.int mm),some (.int m),some (.ref pr),some (.str (aB gs)),some (.ref pj),some (.ref pl),some (.ref pn),cc]∧St w K wl pj pl pr kv1 kv2 Lj Ll rs H' Hl (off wl Hl) xs∧Hl pn=some (.lst xs)∧xs.length=21+2 * i') ⟨_,pn,xs2,rfl,SA8,ep8,by lia⟩ ?_ ?_
      · rintro i' σ HJ hi' ⟨cc,pn,xs,rfl,SJ,epJ,lJ⟩;refine ⟨_,rfl,_,rfl,_,rfl,_,rfl,wl,pj,kv1,Lj,rs.length,m,rfl,SJ.pot,SJ.le _ _ SJ.ej,n1,n9,m2,m60,SJ.bj,hq1,fun q1 d1 ks1 H1 k1 w1 nq1 nd1 eq1 dm1 vo1 l1=>?_⟩;have npq1:=SJ.pot.ne nq1;have SJ1:=((SJ.but k1 w1).full).add (gg ((bq npq1).trans eq1) am (rf (Put.DmIn.off dm1 w1 (SJ.pot.ne nd1)) (vo1.mono off_le) l1));have epJ1:=k1 _ _ (fun z=>by obtain ⟨_,_,_,e'⟩:=SJ.pot;rw [z,e'] at epJ;cases epJ;have lJ:3=21+2 * i':=lJ;lia) epJ;clear SJ;refine ⟨_,rfl,_,rfl,_,rfl,wl,pl,kv2,Ll,rs.length,m,rfl,SJ1.pot,SJ1.le _ _ SJ1.el,n1,n9,m2,m60,SJ1.bl,hq2,fun q2 d2 ks2 H2 k2 w2 nq2 nd2 eq2 dm2 vo2 l2=>?_⟩;have npq2:=SJ1.pot.ne nq2;have SJ2:=((SJ1.but k2 w2).full).add (gg ((bq npq2).trans eq2) am (rf (Put.DmIn.off dm2 w2 (SJ1.pot.ne nd2)) (vo2.mono off_le) l2));have epJ2:=k2 _ _ (fun z=>by obtain ⟨_,_,_,e'⟩:=SJ1.pot;rw [z,e'] at epJ1;cases epJ1;have lJ:3=21+2 * i':=lJ;lia) epJ1;refine ⟨t2,fun pz npz=>?_⟩;have SJ3:=SJ2.hid npz (.lst [.ref q1,.ref q2]);have epJ3:=Same.new npz (.lst [.ref q1,.ref q2]) _ _ epJ2;have epz:upd H2 pz (.lst [.ref q1,.ref q2]) pz=_:=ad;generalize upd H2 pz (.lst [.ref q1,.ref q2])=H5' at SJ3 epJ3 epz ⊢;refine ⟨pn,pz,_,_,rfl,rfl,epJ3,epz,di (by show xs.length+2≤1000;lia),fun pk npk=>?_⟩;rw [abb] at SJ3;exact ⟨_,pk,_,rfl,(SJ3.hid npk _).full,ad,by rw [aaw];show xs.length+2=_;lia⟩
      rintro σ HJ ⟨cc,pn,xs,rfl,SJ,epJ,lJ⟩;have all:∀ x∈xs,TR w K HJ x:=fun x hx=>(SJ.th x hx).mono off_le;have SL:=SJ.give;have erL:=SJ.le _ _ SJ.er;refine ⟨_,rfl,pn,rfl,⟨_,SqL.of epJ⟩,?_⟩;refine cJ (Trn.list (xs:=xs)) (fun i zs H'=>Same HJ H'∧zs=[]) ⟨Same.refl _,rfl⟩ (fun i zs H' hi p=>by rw [p.2];exact ⟨SqL.of (p.1 _ _ epJ),au (by decide)⟩) (fun i x zs H0 H' hi hx p Nx nx=>?_) (fun zs H' p p5 n5=>?_)
      · obtain ⟨S,rfl⟩:=p;obtain ⟨rfl,hx⟩:=hx;refine ⟨_,rfl,_,rfl,_,rfl,pr,rs,gs,x,rfl,S _ _ erL,n1,n9,g1',g3',sp,hsm,(all x (aap hx)).mono S,fun H4 s4=>?_⟩;exact ⟨true,rfl,aM (nx _ _ ⟨S.trans s4,rfl⟩)⟩
      obtain ⟨SM,rfl⟩:=p;have s6:=Same.new n5 (.lst []);refine ⟨aa4 _,fun p6 n6=>⟨0,p5,p6,[],[],by decide,rfl,rfl,SqL.of ((Same.new n6 _) _ _ ad),SqL.of ad,.inr ⟨fun _=>true,rfl,(fun j x y h=>by simp at h),?_⟩⟩⟩;refine ⟨false,rfl,aM ?_⟩;exact ⟨_,_,_,_,_,_,_,_,_,_,_,rfl,S.trans (SL.trans ((SM.trans s6).trans (Same.new n6 _)))⟩
  · rintro σ H4 ⟨_,_,_,_,_,_,_,_,_,_,_,rfl,S4⟩;rw [uQ.2];refine ⟨by show 1≤sizeLine;decide,fun a1 m1=>?_⟩;have i1:=Same.new m1 (.lst [.int 4]);have e1:upd H4 a1 (.lst [.int 4]) a1=_:=ad;generalize upd H4 a1 (.lst [.int 4])=G1 at i1 e1 ⊢;refine fun pe npe=>⟨t2,fun u1 o1=>⟨t2,fun v1 x1=>?_⟩⟩
    obtain ⟨HF,eF,h1,h2,h3,h4⟩:=ut (w:=w) (ms:=[0,1]) npe o1 x1;show (_:Hp→Prop) (upd (upd (upd G1 pe (.dT [])) u1 (.tup [.int 0,.int 0])) v1 (.lst [.int 0,.int 1]));rw [show (HO.lst [.int 0,.int 1])=.lst (([0,1]:List Int).map V.int) from rfl,eF];refine ⟨h1,[(u1,ky (0,0),.ref v1)],rfl,(fun b hb=>by rw [aau.mp hb];exact h2),(by show 1≤15;decide),?_⟩;have em:cq [] ([(u1,ky (0,0),V.ref v1)].map (·.2))=[(ky (0,0),.ref v1)]:=rfl;rw [em];have e1F:=h3 _ _ e1;generalize upd HF pe (.dT [(ky (0,0),.ref v1)])=HG at h3 h4 e1F ⊢;refine ⟨t2,fun tt ntt=>?_⟩;have sT:=Same.new ntt (.tup [.int 3,.ref pe]);have eT:upd HG tt (.tup [.int 3,.ref pe]) tt=_:=ad;have e1T:=sT _ _ e1F;have h5:=h4.mono sT;generalize upd HG tt (.tup [.int 3,.ref pe])=HT' at sT eT e1T h5 ⊢;refine ⟨a1,[4],[.plus],some (.int 3,some (ppL (fun _=>[0,1]) (aJ 1))),.ref tt,rfl,e1T,by decide,by decide,by decide,by decide,lj.2,⟨tt,_,_,rfl,eT,mE,pe,rfl,h5⟩,rF (by decide),fun HZ sZ=>⟨(fun z=>by rw [qL.1] at z;cases z),fun l p he hnp hp=>?_⟩⟩;rw [qL.1] at he;injection he with he
    subst he;refine ⟨t2,fun t3 n3=>?_⟩;have s3:=Same.new n3 (.lst [.int 0,.int 1]);have f1:=s3 _ _ hp;have f2:upd HZ t3 (.lst [.int 0,.int 1]) t3=some (.lst (([0,1]:List Int).map V.int)):=ad;generalize upd HZ t3 (.lst [.int 0,.int 1])=HY at s3 f1 f2 ⊢;refine mx (SqL.of f1) (SqL.of f2) ?_;rw [decide_eq_true rfl];refine ⟨true,rfl,aR ?_⟩;clear s3 f1 f2;refine ⟨by show 1≤sizeLine;decide,fun a2 m2=>?_⟩;have i2:=Same.new m2 (.lst [.int 4]);have e2:upd HY a2 (.lst [.int 4]) a2=_:=ad;generalize upd HY a2 (.lst [.int 4])=G2 at i2 e2 ⊢;refine fun pe npe=>⟨t2,fun u1 o1=>⟨by decide,fun v1 x1=>?_⟩⟩
    obtain ⟨HF,eF,h1,h2,h3,h4⟩:=ut (w:=w) (ms:=[0]) npe o1 x1;show (_:Hp→Prop) (upd (upd (upd G2 pe (.dT [])) u1 (.tup [.int 0,.int 0])) v1 (.lst [.int 0]));rw [show (HO.lst [.int 0])=.lst (([0]:List Int).map V.int) from rfl,eF];refine ⟨h1,[(u1,ky (0,0),.ref v1)],rfl,(fun b hb=>by rw [aau.mp hb];exact h2),(by show 1≤15;decide),?_⟩;have em:cq [] ([(u1,ky (0,0),V.ref v1)].map (·.2))=[(ky (0,0),.ref v1)]:=rfl;rw [em];have e2F:=h3 _ _ e2;generalize upd HF pe (.dT [(ky (0,0),.ref v1)])=HW at h3 h4 e2F ⊢;refine ⟨t2,fun tt ntt=>?_⟩;have sT:=Same.new ntt (.tup [.int 3,.ref pe]);have eT:upd HW tt (.tup [.int 3,.ref pe]) tt=_:=ad;have e2T:=sT _ _ e2F;have h5:=h4.mono sT;generalize upd HW tt (.tup [.int 3,.ref pe])=HU at sT eT e2T h5 ⊢;refine ⟨a2,[4],[.plus],some (.int 3,some (ppL (fun _=>[0]) (aJ 1))),.ref tt,rfl,e2T,by decide,by decide,by decide,by decide,lj.2,⟨tt,_,_,rfl,eT,mE,pe,rfl,h5⟩,rF (by decide),fun HV sV=>⟨(fun _=>?_),fun l p he _ _=>by rw [qL.2] at he;cases he⟩⟩;refine ⟨rfl,?_⟩;rw [decide_eq_true rfl];exact q _
end
open PySem L2
theorem us0 {us:List Value} (h:us.length=0):us=[]:=aa8.mp h
theorem us1 {us:List Value} (h:us.length=1):∃ a,us=[a]:=by
  cases us with
  | nil=>cases h
  | cons x us=>obtain rfl:=us0 (acr h);exact ⟨x,rfl⟩
theorem us2 {us:List Value} (h:us.length=2):∃ a b,us=[a,b]:=by
  cases us with
  | nil=>cases h
  | cons x us=>obtain ⟨b,rfl⟩:=us1 (acr h);exact ⟨x,b,rfl⟩
theorem us3 {us:List Value} (h:us.length=3):∃ a b c,us=[a,b,c]:=by
  cases us with
  | nil=>cases h
  | cons x us=>obtain ⟨b,c,rfl⟩:=us2 (acr h);exact ⟨x,b,c,rfl⟩
theorem us4 {us:List Value} (h:us.length=4):∃ a b c d,us=[a,b,c,d]:=by
  cases us with
  | nil=>cases h
  | cons x us=>obtain ⟨b,c,d,rfl⟩:=us3 (acr h);exact ⟨x,b,c,d,rfl⟩
theorem us5 {us:List Value} (h:us.length=5):∃ a b c d e,us=[a,b,c,d,e]:=by
  cases us with
  | nil=>cases h
  | cons x us=>obtain ⟨b,c,d,e,rfl⟩:=us4 (acr h);exact ⟨x,b,c,d,e,rfl⟩
theorem us6 {us:List Value} (h:us.length=6):∃ a b c d e f,us=[a,b,c,d,e,f]:=by
  cases us with
  | nil=>cases h
  | cons x us=>obtain ⟨b,c,d,e,f,rfl⟩:=us5 (acr h);exact ⟨x,b,c,d,e,f,rfl⟩
theorem all_mk {l:PySem.W.OpenLaw} {w:World} {K:aab} {h:Heap} {mg:Str→Option Value} {fa:Addr} (X:K.In h) (G:h.Ns mainGlobals mg) (hfa:mg "law" = some (.ref fa))
    {tM3 tP1 tP2 tP3 tP4 tP5 tP6 tP7:Tok} {cP:Addr} {odP:Option Addr} {nP:Nat} {slP:Array (Option Value)}
    {tLm tMm:Tok}
{f0:Addr}
{f1:Addr}
{f2:Addr}
{f3:Addr}
{f4:Addr}
{f5:Addr}
{f6:Addr}
{f7:Addr}
{f8:Addr}
{f9:Addr}
{f10:Addr}
{f11:Addr}
{f12:Addr}
{f13:Addr}
{f14:Addr}
{f15:Addr}
{f16:Addr}
{f17:Addr}
{f18:Addr}
{f19:Addr}
{f20:Addr}
{f21:Addr}
{f22:Addr}
{f23:Addr}
{f24:Addr}
{f25:Addr}
{f26:Addr}
{f27:Addr}
{f28:Addr}
{f29:Addr}
{f30:Addr}
{f31:Addr}
{f32:Addr}
{od33 an33:Option Addr} {sl33:Array (Option Value)} {oc33 kV33 dc33 pm33 cd33 ct33:Value} {f33:Addr}
    (q0:Fq K "is_whole" fz f0)
    (q1:Fq K "is_row" iE f1)
    (q2:Fq K "is_signs" fA f2)
    (q3:Fq K "need_row" fw f3)
    (q4:Fq K "need_signs" dG f4)
    (q5:Fq K "shorter_first" cL f5)
    (q6:Fq K "has_all_stretches" bP f6)
    (q7:Fq K "cuts_of" gu f7)
    (q8:Fq K "put_sign" fu f8)
    (q9:Fq K "rests_say" eK f9)
    (q10:Fq K "is_m" m8 f10)
    (q11:Fq K "is_rest" gr f11)
    (q12:Fq K "is_paper" fD f12)
    (q13:Fq K "is_list_of_rests" bV f13)
    (q14:Fq K "has_due_rests" cM f14)
    (q15:Fq K "due_rests" eL f15)
    (q16:Fq K "_law_mixed" dJ f16)
    (q17:Fq K "_law_pot" fG f17)
    (q18:Fq K "_law_take" eM f18)
    (q19:Fq K "_law_number" dl f19)
    (q20:Fq K "_law_row" fE f20)
    (q21:Fq K "_law_signs" dH f21)
    (q22:Fq K "_law_put" fF f22)
    (q23:Fq K "_law_by" gw f23)
    (q24:Fq K "_law_lists" dN f24)
    (q25:Fq K "_law_alike" dO f25)
    (q26:Fq K "_law_is_list" c_ f26)
    (q27:Fq K "_law_comes_within" bQ f27)
    (q28:Fq K "_law_said" eO f28)
    (q29:Fq K "_law_loose" dL f29)
    (q30:Fq K "_law_bent_list" cB f30)
    (q31:Fq K "_law_bent" eP f31)
    (q32:Fq K "_law_right" dI f32)
    (a33:aaP K mainGlobals "law" = some (some (.ref f33))) (l33:K.lookup f33=some ⟨oc33,od33,.func (abH "law" "law" (cF fR) (cy fR) (ao fR) .none kV33 dc33 pm33 an33 cd33 ct33),sl33⟩) (c33:acg K cd33 "law" = true) (k33:abF K (.ref f33)=true)
    (cA:aaP K mainGlobals "len" = some none)
    (cz : aaP K mainGlobals "isinstance" = some none)
    (cx:aaP K mainGlobals "int" = some none)
    (ct:aaP K mainGlobals "bool" = some none)
    (cN:aaP K mainGlobals "str" = some none)
    (cQ:aaP K mainGlobals "tuple" = some none)
    (cC:aaP K mainGlobals "list" = some none)
    (cK:aaP K mainGlobals "sorted" = some none)
    (cG:aaP K mainGlobals "range" = some none)
    (cH:aaP K mainGlobals "repr" = some none)
    (cw:aaP K mainGlobals "enumerate" = some none)
    (cO:aaP K mainGlobals "sum" = some none)
    (cr:aaP K mainGlobals "all" = some none)
    (cE:aaP K mainGlobals "min" = some none)
    (cD:aaP K mainGlobals "max" = some none)
    (cq:aaP K mainGlobals "abs" = some none)
    (cv:aaP K mainGlobals "divmod" = some none)
    (cu:aaP K mainGlobals "dict" = some none)
    (cJ:aaP K mainGlobals "set" = some none)
    (cI:aaP K mainGlobals "reversed" = some none)
    (cs:aaP K mainGlobals "any" = some none)
    (cR:aaP K mainGlobals "zip" = some none)
    (gM3:aaP K mainGlobals "MOST_NUMBERS" = some (some (.int 9 tM3)))
    (gP:aaP K mainGlobals "SIGNS_TO_PUT" = some (some (.ref cP)))
    (lP:K.lookup cP=some ⟨.type "tuple",odP,.seq #[.str "+" tP1,.str "-" tP2,.str "*" tP3,.str "+-" tP4,.str "+*" tP5,.str "-*" tP6,.str "+-*" tP7] nP,slP⟩)
    (gLm:aaP K mainGlobals "LEAST_M" = some (some (.int 2 tLm)))
    (gMm:aaP K mainGlobals "MOST_M" = some (some (.int 60 tMm))) :
    ∃ fd:FuncData,(∀ (s:Shared) (v:Value),BindsTo s fd ⟨[v],[]⟩ [("script",v)])∧∀ base:Heap,K.In base→base.Ns mainGlobals mg→FnOk l.prog w K mg base CX0 7 fa fd ["script"] (oq K):=by
  have e:=hfa.symm.trans (acQ X G a33);cases e;obtain ⟨_,bb,bK,ck⟩:=q0.use X G (ps:=["thing"]) fun _ _ _ _ _ _ us hl=>by obtain ⟨_,rfl⟩:=us1 hl;rfl
  obtain ⟨_,a9,bI,ci⟩:=q1.use X G (ps:=["thing"]) fun _ _ _ _ _ _ us hl=>by obtain ⟨_,rfl⟩:=us1 hl;rfl
  obtain ⟨_,ba,bJ,cj⟩:=q2.use X G (ps:=["thing"]) fun _ _ _ _ _ _ us hl=>by obtain ⟨_,rfl⟩:=us1 hl;rfl
  obtain ⟨_,bd,bL,cl⟩:=q3.use X G (ps:=["thing"]) fun _ _ _ _ _ _ us hl=>by obtain ⟨_,rfl⟩:=us1 hl;rfl
  obtain ⟨_,be,bM,cm⟩:=q4.use X G (ps:=["thing"]) fun _ _ _ _ _ _ us hl=>by obtain ⟨_,rfl⟩:=us1 hl;rfl
  obtain ⟨_,bh,bR,cp⟩:=q5.use X G (ps:=["many"]) fun _ _ _ _ _ _ us hl=>by obtain ⟨_,rfl⟩:=us1 hl;rfl
  obtain ⟨_,a3,bC,cc⟩:=q6.use X G (ps:=["thing","many"]) fun _ _ _ _ _ _ us hl=>by obtain ⟨_,_,rfl⟩:=us2 hl;rfl
  obtain ⟨_,a1,bA,ca⟩:=q7.use X G (ps:=["stretch"]) fun _ _ _ _ _ _ us hl=>by obtain ⟨_,rfl⟩:=us1 hl;rfl
  obtain ⟨_,bf,bN,cn⟩:=q8.use X G (ps:=["left","sign","right"]) fun _ _ _ _ _ _ us hl=>by obtain ⟨_,_,_,rfl⟩:=us3 hl;rfl
  obtain ⟨_,bg,bO,co⟩:=q9.use X G (ps:=["row","signs","thing"]) fun _ _ _ _ _ _ us hl=>by obtain ⟨_,_,_,rfl⟩:=us3 hl;rfl
  obtain ⟨_,a6,bF,cf⟩:=q10.use X G (ps:=["thing"]) fun _ _ _ _ _ _ us hl=>by obtain ⟨_,rfl⟩:=us1 hl;rfl
  obtain ⟨_,a8,bH,ch⟩:=q11.use X G (ps:=["thing","m"]) fun _ _ _ _ _ _ us hl=>by obtain ⟨_,_,rfl⟩:=us2 hl;rfl
  obtain ⟨_,a7,bG,cg⟩:=q12.use X G (ps:=["thing","many"]) fun _ _ _ _ _ _ us hl=>by obtain ⟨_,_,rfl⟩:=us2 hl;rfl
  obtain ⟨_,a5,bE,ce⟩:=q13.use X G (ps:=["thing","m"]) fun _ _ _ _ _ _ us hl=>by obtain ⟨_,_,rfl⟩:=us2 hl;rfl
  obtain ⟨_,a4,bD,cd⟩:=q14.use X G (ps:=["row","signs","m","lists","stretch"]) fun _ _ _ _ _ _ us hl=>by obtain ⟨_,_,_,_,_,rfl⟩:=us5 hl;rfl
  obtain ⟨_,a2,bB,cb⟩:=q15.use X G (ps:=["row","signs","m","lists","stretch"]) fun _ _ _ _ _ _ us hl=>by obtain ⟨_,_,_,_,_,rfl⟩:=us5 hl;rfl
  obtain ⟨_,aS,bq,b1⟩:=q16.use X G (ps:=["cell","k"]) fun _ _ _ _ _ _ us hl=>by obtain ⟨_,_,rfl⟩:=us2 hl;rfl
  obtain ⟨_,aU,bs,b3⟩:=q17.use X G (ps:=["cell"]) fun _ _ _ _ _ _ us hl=>by obtain ⟨_,rfl⟩:=us1 hl;rfl
  obtain ⟨_,a0,bz,b9⟩:=q18.use X G (ps:=["pot","many"]) fun _ _ _ _ _ _ us hl=>by obtain ⟨_,_,rfl⟩:=us2 hl;rfl
  obtain ⟨_,aT,br,b2⟩:=q19.use X G (ps:=["pot","way"]) fun _ _ _ _ _ _ us hl=>by obtain ⟨_,_,rfl⟩:=us2 hl;rfl
  obtain ⟨_,aX,bv,b6⟩:=q20.use X G (ps:=["pot","many"]) fun _ _ _ _ _ _ us hl=>by obtain ⟨_,_,rfl⟩:=us2 hl;rfl
  obtain ⟨_,aZ,bx,b8⟩:=q21.use X G (ps:=["pot"]) fun _ _ _ _ _ _ us hl=>by obtain ⟨_,rfl⟩:=us1 hl;rfl
  obtain ⟨_,aV,bt,b4⟩:=q22.use X G (ps:=["sign","one","other"]) fun _ _ _ _ _ _ us hl=>by obtain ⟨_,_,_,rfl⟩:=us3 hl;rfl
  obtain ⟨_,aN,bl,bW⟩:=q23.use X G (ps:=["sign","one","other","m"]) fun _ _ _ _ _ _ us hl=>by obtain ⟨_,_,_,_,rfl⟩:=us4 hl;rfl
  obtain ⟨_,aQ,bo,bZ⟩:=q24.use X G (ps:=["row","signs","m"]) fun _ _ _ _ _ _ us hl=>by obtain ⟨_,_,_,rfl⟩:=us3 hl;rfl
  obtain ⟨_,aK,bi,bS⟩:=q25.use X G (ps:=["found","due"]) fun _ _ _ _ _ _ us hl=>by obtain ⟨_,_,rfl⟩:=us2 hl;rfl
  obtain ⟨_,aP,bn,bY⟩:=q26.use X G (ps:=["thing","m"]) fun _ _ _ _ _ _ us hl=>by obtain ⟨_,_,rfl⟩:=us2 hl;rfl
  obtain ⟨_,aO,bm,bX⟩:=q27.use X G (ps:=["row","signs","m","lists","i","j"]) fun _ _ _ _ _ _ us hl=>by obtain ⟨_,_,_,_,_,_,rfl⟩:=us6 hl;rfl
  obtain ⟨_,aY,bw,b7⟩:=q28.use X G (ps:=["row","signs","thing"]) fun _ _ _ _ _ _ us hl=>by obtain ⟨_,_,_,rfl⟩:=us3 hl;rfl
  obtain ⟨_,aR,bp,b0⟩:=q29.use X G (ps:=["pot","row","signs","m"]) fun _ _ _ _ _ _ us hl=>by obtain ⟨_,_,_,_,rfl⟩:=us4 hl;rfl
  obtain ⟨_,aM,bk,bU⟩:=q30.use X G (ps:=["pot","some","m"]) fun _ _ _ _ _ _ us hl=>by obtain ⟨_,_,_,rfl⟩:=us3 hl;rfl
  obtain ⟨_,aL,bj,bT⟩:=q31.use X G (ps:=["pot","m","lists"]) fun _ _ _ _ _ _ us hl=>by obtain ⟨_,_,_,rfl⟩:=us3 hl;rfl
  obtain ⟨_,aW,bu,b5⟩:=q32.use X G (ps:=["row","signs","thing"]) fun _ _ _ _ _ _ us hl=>by obtain ⟨_,_,_,rfl⟩:=us3 hl;rfl
  have bc:=sr (st:=fR) l33 c33 k33;have B:Bu K mg:=⟨aaI X G cA,aaI X G cz,aaI X G cx,aaI X G ct,aaI X G cN,aaI X G cQ,aaI X G cC,aaI X G cK,aaI X G cG,aaI X G cH,aaI X G cw,aaI X G cO,aaI X G cr,aaI X G cE,aaI X G cD,aaI X G cq,aaI X G cv,aaI X G cu,aaI X G cJ,aaI X G cI,aaI X G cs,aaI X G cR⟩
  have B3:Cp K mg tM3 cP:=⟨acQ X G gM3,acQ X G gP,fun H=>.inr ⟨_,_,_,lP,rfl,rfl,by show 7≤sizeLine;decide,.cons ⟨_,rfl⟩ (.cons ⟨_,rfl⟩ (.cons ⟨_,rfl⟩ (.cons ⟨_,rfl⟩ (.cons ⟨_,rfl⟩ (.cons ⟨_,rfl⟩ (.cons ⟨_,rfl⟩ .nil))))))⟩⟩
  have B2:Cy K mg tLm tMm:=⟨acQ X G gLm,acQ X G gMm⟩
  refine ⟨abH "law" "law" (cF fR) (cy fR) (ao fR) .none kV33 dc33 pm33 an33 cd33 ct33,fun s v=>.of_eq rfl,fun base _ _=>?_⟩;have aE:Cal l.prog w K mg base "is_whole" 1 ["thing"] (fO K):=⟨_,_,l6 bb B,bK,bb.kp,ck⟩
  have ai:Cal l.prog w K mg base "_law_mixed" 1 ["cell","k"] j9:=⟨_,_,rn aS,bq,aS.kp,b1⟩
  have ak:Cal l.prog w K mg base "_law_pot" 1 ["cell"] qD:=⟨_,_,vq aU B,bs,aU.kp,b3⟩
  have ar:Cal l.prog w K mg base "_law_take" 2 ["pot","many"] dC:=⟨_,_,tY a0 ai,bz,a0.kp,b9⟩
  have aj:Cal l.prog w K mg base "_law_number" 3 ["pot","way"] iu:=⟨_,_,pL aT ar,br,aT.kp,b2⟩
  have an:Cal l.prog w K mg base "_law_row" 4 ["pot","many"] mU:=⟨_,_,vp aX B ar aj,bv,aX.kp,b6⟩
  have aq:Cal l.prog w K mg base "_law_signs" 3 ["pot"] iq:=⟨_,_,kB aZ ar,bx,aZ.kp,b8⟩
  have aC:Cal l.prog w K mg base "is_row" 2 ["thing"] j_:=⟨_,_,pN a9 B B3 aE,bI,a9.kp,ci⟩
  have aF:Cal l.prog w K mg base "need_row" 3 ["thing"] gi:=⟨_,_,lZ bd aC,bL,bd.kp,cl⟩
  have aJ:Cal l.prog w K mg base "shorter_first" 1 ["many"] tj:=⟨_,_,gA bh B,bR,bh.kp,cp⟩
  have aD:Cal l.prog w K mg base "is_signs" 1 ["thing"] gj:=⟨_,_,l7 ba B B3,bJ,ba.kp,cj⟩
  have aG:Cal l.prog w K mg base "need_signs" 2 ["thing"] eI:=⟨_,_,jq be aD,bM,be.kp,cm⟩
  have au:Cal l.prog w K mg base "cuts_of" 1 ["stretch"] mY:=⟨_,_,nF a1 B,bA,a1.kp,ca⟩
  have aH:Cal l.prog w K mg base "put_sign" 1 ["left","sign","right"] gh:=⟨_,_,lY bf,bN,bf.kp,cn⟩
  have aw:Cal l.prog w K mg base "has_all_stretches" 2 ["thing","many"] (iA w K):=⟨_,_,eW a3 B aJ,bC,a3.kp,cc⟩
  have al:Cal l.prog w K mg base "_law_put" 1 ["sign","one","other"] mV:=⟨_,_,nB aV,bt,aV.kp,b4⟩
  have az:Cal l.prog w K mg base "is_m" 2 ["thing"] mW:=⟨_,_,tZ a6 B2 aE,bF,a6.kp,cf⟩
  have aB:Cal l.prog w K mg base "is_rest" 2 ["thing","m"] gm:=⟨_,_,nC a8 aE,bH,a8.kp,ch⟩
  have ay:Cal l.prog w K mg base "is_list_of_rests" 3 ["thing","m"] kc:=⟨_,_,rp a5 B aB,bE,a5.kp,ce⟩
  have aA:Cal l.prog w K mg base "is_paper" 4 ["thing","many"] (ka w K):=⟨_,_,l8 a7 B az aw ay,bG,a7.kp,cg⟩
  have av:Cal l.prog w K mg base "due_rests" 2 ["row","signs","m","lists","stretch"] (mX w):=⟨_,_,kG a2 B au aH,bB,a2.kp,cb⟩
  have ax:Cal l.prog w K mg base "has_due_rests" 3 ["row","signs","m","lists","stretch"] (iz w):=⟨_,_,nE a4 B av,bD,a4.kp,cd⟩
  have aI:Cal l.prog w K mg base "rests_say" 5 ["row","signs","thing"] (j5 w K):=⟨_,_,kw bg B aF aG aA ax aJ,bO,bg.kp,co⟩
  have af:Cal l.prog w K mg base "_law_is_list" 1 ["thing","m"] qE:=⟨_,_,iO aP B,bn,aP.kp,bY⟩
  have ad:Cal l.prog w K mg base "_law_by" 2 ["sign","one","other","m"] ln:=⟨_,_,pM aN al,bl,aN.kp,bW⟩
  have ae:Cal l.prog w K mg base "_law_comes_within" 3 ["row","signs","m","lists","i","j"] (uO w):=⟨_,_,g_ aO B ad,bm,aO.kp,bX⟩
  have ap:Cal l.prog w K mg base "_law_said" 4 ["row","signs","thing"] (j8 w K):=⟨_,_,l5 aY B af ae,bw,aY.kp,b7⟩
  have aa:Cal l.prog w K mg base "_law_alike" 4 ["found","due"] (h_ 3):=⟨_,_,kF aK bi bS B 3,bi,aK.kp,bS⟩
  have am:Cal l.prog w K mg base "_law_right" 6 ["row","signs","thing"] (ir w K):=⟨_,_,kC aW B ap aI aa,bu,aW.kp,b5⟩
  have ag:Cal l.prog w K mg base "_law_lists" 3 ["row","signs","m"] iy:=⟨_,_,js aQ B ad,bo,aQ.kp,bZ⟩
  have ah:Cal l.prog w K mg base "_law_loose" 3 ["pot","row","signs","m"] iw:=⟨_,_,jr aR B ar ad,bp,aR.kp,b0⟩
  have ac:Cal l.prog w K mg base "_law_bent_list" 3 ["pot","some","m"] kf:=⟨_,_,gD aM B ar,bk,aM.kp,bU⟩
  have ab:Cal l.prog w K mg base "_law_bent" 4 ["pot","m","lists"] (ke w):=⟨_,_,kE aL B ar ac,bj,aL.kp,bT⟩
  exact vt bc B ak ar an aq ag ah ab am aI
theorem walk {l:PySem.W.OpenLaw} {q:Program} {loose:List Str} {XP:(Str→Option Value)→Heap→Prop} {YP:World→Heap→Prop} {d:DefRec} {K:Params→aab} (hn:l.most=some 63) (hdf:d.params.defaults=[]) (hi:PyProof.Rows.importsNone q=true)
    (hY:∀ (w:World) (h:Heap),YP w h→(K w.params).In h)
    (F:∀ (w:World) (mg:Str→Option Value) (fa:Addr) (h:Heap),(K w.params).In h→h.Ns mainGlobals mg→mg d.name=some (.ref fa) →
      ∃ fd:FuncData,(∀ (s:Shared) (u:Value),BindsTo s fd ⟨[u],[]⟩ [("script",u)])∧∀ base:Heap,(K w.params).In base→base.Ns mainGlobals mg→FnOk l.prog w (K w.params) mg base CX0 7 fa fd ["script"] (oq (K w.params))) :
    PySem.W.WalkO q loose XP YP l.row.toRowW d [] (fun f vs=>PySem.call f vs) :=
  L2.walk_of (n:=63) (k:=7) (x:="script") (CX:=fun _=>CX0) (sp:=fun w=>oq (K w.params)) hn (by decide) hdf ⟨rfl,by decide,by decide,rfl⟩ hi hY F (fun _ _ a ns hl _ hS=>⟨a,ns,rfl,hS,hl,fun _=>rfl⟩) fun _ _ _ _ _ z=>z
end Put
namespace PySem.W.Fast
def tw32794992831916311:=0
def tw1669290425205293845:=0
def tw11978499081774775954:=0
def tw12201822746383942428:=0
def tw13796056782989384318:=0
def tw7920543784128280613:=0
def tw6269915992942313866:=0
def tw5862414131085317870:=0
def tw3370902845157326371:=0
def tw8384734448390016235:=0
def tw13015767684512445406:=0
def tw12142366512760443956:=0
def tw5080889543504329596:=0
def tw8270373137943466164:=0
def tw11030850450487201880:=0
def tw6143084156148932758:=0
def tw17754770594947033563:=0
def tw14889194397004148520:=0
def tw9764598720330090774:=0
def tw10818892188550205056:=0
def tw16490391238840368813:=0
def tw2829535043097888324:=0
def tw968300417994681602:=0
def tw14339923841930142868:=0
def tw17175748969397957756:=0
def tw882737374627586243:=0
def tw13970222247722406501:=0
def tw10925665488099357666:=0
def tw7601663668417227806:=0
def tw11299631908564051032:=0
def tw11272683033578313442:=0
def tw5416506184077012515:=0
def tw8862050101865804417:=0
def tw10487727082603835114:=0
def tw12362832122094739205:=0
def tw5520296595289546236:=0
def tw16181347487417343362:=0
def tw13706579453724180660:=0
def tw10661392873091122330:=0
def tw1397381230117534613:=0
def tw7283569932560092564:=0
def tw3217750364173133340:=0
def tw10819489869361961544:=0
def tw14172550466626367845:=0
def tw9026891373859154131:=0
def tw3509011165239818656:=0
def tw6082927091172699341:=0
def tw606954331483847425:=0
def tw5943916602022520391:=0
def tw10753024025555580902:=0
def tw15867699084709707181:=0
def tw6946215171597379669:=0
def tw15870971882693403168:=0
def tw14881878055303098006:=0
def tw10816649698357981312:=0
def tw7769743932070978233:=0
def tw8886756592997940434:=0
def tw1715524215339544592:=0
def tw16590905334563199855:=0
def tw366772688914935130:=0
def tw6477580836758238876:=0
def tw17740717783520653979:=0
def tw5271615992922807711:=0
def tw232512734574408787:=0
def tw16035335400641128135:=0
def tw16541609120685153435:=0
def tw14843589320783970962:=0
def tw17265108348288350338:=0
def tw5265044220200833655:=0
def tw12161129101411655586:=0
def tw859669425863645279:=0
def tw2736357006121018457:=0
def tw10327955903736340227:=0
def tw10636352986469515625:=0
def tw9633435774877338987:=0
def tw11736467431214959336:=0
def tw7543146168925801177:=0
def tw3863034100514052657:=0
def tw4719439037854677347:=0
def tw9148919816895170202:=0
def tw14474168106152528567:=0
def tw12859085975790754645:=0
def tw5009274546480328787:=0
def tw10915469685486861464:=0
def tw2424389501054928431:=0
def tw5695491080816907495:=0
def tw15157443809947115809:=0
def tw10150753430434388735:=0
def tw3751080336999144451:=0
def tw17592688425890617264:=0
def tw10483020524500144385:=0
def tw12902081736029447134:=0
def tw987801454326887962:=0
def tw11430577938168080363:=0
def tw6919890633735701001:=0
def tw16713229410186234287:=0
def tw12100382354837554460:=0
def tw10366280531238743619:=0
def tw12958060837586421919:=0
def tw1312058299268782494:=0
def tw1921449967134303491:=0
def tw14693620879793526322:=0
def tw8913923067529844844:=0
def tw9989362958766950278:=0
def tw1506597278323200346:=0
def tw965200941652402845:=0
def tw13213986501614030550:=0
def tw8996627649354615160:=0
def tw6019724487102910252:=0
def tw11929866362448156700:=0
def tw9887623068527356982:=0
def tw16701126037347731770:=0
def tw7647302590289734101:=0
def tw1202183423953760921:=0
def tw15394556683897249398:=0
def tw9853851164107928116:=0
def tw14160992815191141900:=0
def tw18088178147264281672:=0
def tw17433006655632186710:=0
def tw9869637735523729507:=0
def tw3770347319032170846:=0
def tw13751810843265564565:=0
def tw2662477456966888066:=0
def tw6111488227657020310:=0
def tw5786683543603928388:=0
def tw15868883553908994528:=0
def tw6264822229029805921:=0
def tw1093361278661573004:=0
def tw14254908032075384665:=0
def tw1999932339142861775:=0
def tw11888216328311999906:=0
def tw2697601787607426453:=0
def tw14808929575755926600:=0
def tw3975679315829066338:=0
def tw3355998257980436956:=0
def tw8062093684083400295:=0
def tw610408807690693205:=0
def tw11575030849637808296:=0
def tw15124276521094482012:=0
def tw4963321848311689996:=0
def tw13444225060170628801:=0
def tw9278172658547811178:=0
def tw14508947954294218048:=0
def tw9429006742739985453:=0
def tw15619624784283339072:=0
def tw17740410430070176162:=0
def tw11084798041337977419:=0
def tw14385883800402174800:=0
def tw6990461678576517119:=0
def tw9807828223755104902:=0
def tw3390332013979207067:=0
def tw5920758316218488516:=0
def tw12736404097760527435:=0
def tw13749117442190826463:=0
def tw2927733356383762023:=0
def tw8869490473592652037:=0
def tw2350076068389144898:=0
def tw1820152014114980298:=0
def tw13558839580380588631:=0
def tw4934349591955471314:=0
def tw14273003620649207575:=0
def tw13411159522567253901:=0
def tw3122059570344259146:=0
def tw9057499287409529184:=0
def tw6644716847956989696:=0
def tw5605988429031964108:=0
def tw17523970783636205610:=0
def tw13567238253818538358:=0
def tw17087921650300127911:=0
def tw11360511757020402050:=0
end PySem.W.Fast
open PySem PySem.W PyProof.Rows
set_option maxRecDepth 100000 in
set_option maxHeartbeats 0 in
theorem PySem.Challenge.cw_putsigns_k46_papers_of_rests_looked_at_holds : PySem.Challenge.rw_putsigns_k46_papers_of_rests_looked_at.Holds := by
  w_on;o_law;k_head;(case hw=>w_witness2)
  k_fill
  refine Put.walk (l:=PySem.Challenge.rw_putsigns_k46_papers_of_rests_looked_at) rfl rfl ?hi (fun w h Y=>PySem.W.kIn_of Y) ?F
  case hi=>first|rfl|decide +kernel
  case F =>
    intro w mg fa h KX G hmg;refine' Put.all_mk KX G hmg ?q0 ?q1 ?q2 ?q3 ?q4 ?q5 ?q6 ?q7 ?q8 ?q9 ?q10 ?q11 ?q12 ?q13 ?q14 ?q15 ?q16 ?q17 ?q18 ?q19 ?q20 ?q21 ?q22 ?q23 ?q24 ?q25 ?q26 ?q27 ?q28 ?q29 ?q30 ?q31 ?q32 ?a33 ?l33 ?c33 ?k33 ?z_len ?z_isinstance ?z_int ?z_bool ?z_str ?z_tuple ?z_list ?z_sorted ?z_range ?z_repr ?z_enumerate ?z_sum ?z_all ?z_min ?z_max ?z_abs ?z_divmod ?z_dict ?z_set ?z_reversed ?z_any ?z_zip ?gM3 ?gP ?lP ?gLm ?gMm
    (case q0=>exact L2.Fq.mk4 (by k_is) (by k_is) (by k_is) (by k_is))
    (case q1=>exact L2.Fq.mk4 (by k_is) (by k_is) (by k_is) (by k_is))
    (case q2=>exact L2.Fq.mk4 (by k_is) (by k_is) (by k_is) (by k_is))
    (case q3=>exact L2.Fq.mk4 (by k_is) (by k_is) (by k_is) (by k_is))
    (case q4=>exact L2.Fq.mk4 (by k_is) (by k_is) (by k_is) (by k_is))
    (case q5=>exact L2.Fq.mk4 (by k_is) (by k_is) (by k_is) (by k_is))
    (case q6=>exact L2.Fq.mk4 (by k_is) (by k_is) (by k_is) (by k_is))
    (case q7=>exact L2.Fq.mk4 (by k_is) (by k_is) (by k_is) (by k_is))
    (case q8=>exact L2.Fq.mk4 (by k_is) (by k_is) (by k_is) (by k_is))
    (case q9=>exact L2.Fq.mk4 (by k_is) (by k_is) (by k_is) (by k_is))
    (case q10=>exact L2.Fq.mk4 (by k_is) (by k_is) (by k_is) (by k_is))
    (case q11=>exact L2.Fq.mk4 (by k_is) (by k_is) (by k_is) (by k_is))
    (case q12=>exact L2.Fq.mk4 (by k_is) (by k_is) (by k_is) (by k_is))
    (case q13=>exact L2.Fq.mk4 (by k_is) (by k_is) (by k_is) (by k_is))
    (case q14=>exact L2.Fq.mk4 (by k_is) (by k_is) (by k_is) (by k_is))
    (case q15=>exact L2.Fq.mk4 (by k_is) (by k_is) (by k_is) (by k_is))
    (case q16=>exact L2.Fq.mk4 (by k_is) (by k_is) (by k_is) (by k_is))
    (case q17=>exact L2.Fq.mk4 (by k_is) (by k_is) (by k_is) (by k_is))
    (case q18=>exact L2.Fq.mk4 (by k_is) (by k_is) (by k_is) (by k_is))
    (case q19=>exact L2.Fq.mk4 (by k_is) (by k_is) (by k_is) (by k_is))
    (case q20=>exact L2.Fq.mk4 (by k_is) (by k_is) (by k_is) (by k_is))
    (case q21=>exact L2.Fq.mk4 (by k_is) (by k_is) (by k_is) (by k_is))
    (case q22=>exact L2.Fq.mk4 (by k_is) (by k_is) (by k_is) (by k_is))
    (case q23=>exact L2.Fq.mk4 (by k_is) (by k_is) (by k_is) (by k_is))
    (case q24=>exact L2.Fq.mk4 (by k_is) (by k_is) (by k_is) (by k_is))
    (case q25=>exact L2.Fq.mk4 (by k_is) (by k_is) (by k_is) (by k_is))
    (case q26=>exact L2.Fq.mk4 (by k_is) (by k_is) (by k_is) (by k_is))
    (case q27=>exact L2.Fq.mk4 (by k_is) (by k_is) (by k_is) (by k_is))
    (case q28=>exact L2.Fq.mk4 (by k_is) (by k_is) (by k_is) (by k_is))
    (case q29=>exact L2.Fq.mk4 (by k_is) (by k_is) (by k_is) (by k_is))
    (case q30=>exact L2.Fq.mk4 (by k_is) (by k_is) (by k_is) (by k_is))
    (case q31=>exact L2.Fq.mk4 (by k_is) (by k_is) (by k_is) (by k_is))
    (case q32=>exact L2.Fq.mk4 (by k_is) (by k_is) (by k_is) (by k_is))
    (case a33=>k_is)
    (case l33=>k_is)
    (case c33=>k_is)
    (case k33=>k_is)
    (case z_len=>k_is)
    (case z_isinstance=>k_is)
    (case z_int=>k_is)
    (case z_bool=>k_is)
    (case z_str=>k_is)
    (case z_tuple=>k_is)
    (case z_list=>k_is)
    (case z_sorted=>k_is)
    (case z_range=>k_is)
    (case z_repr=>k_is)
    (case z_enumerate=>k_is)
    (case z_sum=>k_is)
    (case z_all=>k_is)
    (case z_min=>k_is)
    (case z_max=>k_is)
    (case z_abs=>k_is)
    (case z_divmod=>k_is)
    (case z_dict=>k_is)
    (case z_set=>k_is)
    (case z_reversed=>k_is)
    (case z_any=>k_is)
    (case z_zip=>k_is)
    (case gM3=>k_is)
    (case gP=>k_is)
    (case lP=>k_is)
    (case gLm=>k_is)
    (case gMm=>k_is)

